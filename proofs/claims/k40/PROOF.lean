import PyProof.Rows.All
import Wide.All
import OpenK.AllK
import Wide.FinOn
import Lean
import PyProof.EqAt
import PyProof.EqKinds
import PyProof.TupleCall
import KE.IntBitsLaws
import PyProof.NeKinds
import KE.KIsAll
import PyProof.ExcAttrAll.ValueError
import KE.RegKIsAll
import OpenK.KOwn
import PyProof.ZipIter
import PyProof.Rows.ZipGen
import PyProof.Rows.FactsT2
import PyProof.WalkInts
import PyProof.SeqI3
import PyProof.AutoSeq1
import PyProof.WalksEnum
import PyProof.EnumMake
import PyProof.ListRange
import KE.KDictSum
import PyProof.Rows.SortWalk
import PyProof.DictWalks
import KE.KSortTup
import PyProof.Rows.SortRev
import PyProof.Rows.SetFrom
import PyProof.TupleKey
import PyProof.SetRoads
import PyProof.FactsAll.set_1
import PyProof.DictRoadsH
import PyProof.DictItems
import PyProof.EnumFor
import KE.KPairComp
import PyProof.AttrMissHeap
import KE.KDictOf
import PyProof.MaxThree
import PyProof.Rows.SortShellK
import KE.KItemsList
import PyProof.Conv_int_bool
import OpenK.ZGo
import PySem.Challenge.RW_hideworth_k40_standings
set_option Elab.async false
set_option linter.all false
set_option maxRecDepth 100000
namespace L2
open PySem PySem.Spec PyProof.Rows
abbrev Key:=Sum Int Str
def zhZ:Key→Value→Bool
 | .inl k,v=>Value.isInt k v
 | .inr x,v=>Value.isStrOf x v
def keyH (w:World):Key→Int
 | .inl k=>hashInt k
 | .inr x=>hashStr w x
theorem za6:∀ {k:Key} {v:Value},zhZ k v=true→(∃ i t,k=Sum.inl i∧v=Value.int i t)∨(∃ x t,k=Sum.inr x∧v=Value.str x t)
 | .inl i,v,h=>by
  obtain ⟨t,e⟩:=Value.isInt_shape (k:=i) (v:=v) h
  exact .inl ⟨i,t,rfl,e⟩
 | .inr x,v,h=>by
  obtain ⟨t,e⟩:=Value.isStrOf_shape (x:=x) (v:=v) h
  exact .inr ⟨x,t,rfl,e⟩
theorem zis (i:Int) (t:Tok):zhZ (.inl i) (.int i t)=true:=by simp [zhZ,Value.isInt]
theorem zjM (x:Str) (t:Tok):zhZ (.inr x) (.str x t)=true:=by simp [zhZ,Value.isStrOf]
theorem znd (a b:Int):decide ((Sum.inl a:Key)=Sum.inl b)=(a == b):=by
 by_cases e:a=b
 ·subst e;simp
 ·have h:¬ (Sum.inl a:Key)=Sum.inl b:=fun q=>e (Sum.inl.inj q)
  rw [decide_eq_false h]
  exact (beq_eq_false_iff_ne.mpr e).symm
theorem znk (a b:Str):decide ((Sum.inr a:Key)=Sum.inr b)=decide (a=b):=by
 by_cases e:a=b
 ·subst e;simp
 ·have h:¬ (Sum.inr a:Key)=Sum.inr b:=fun q=>e (Sum.inr.inj q)
  rw [decide_eq_false h,decide_eq_false e]
theorem znI (a:Int) (b:Str):decide ((Sum.inl a:Key)=Sum.inr b)=false:=decide_eq_false (fun q=>nomatch q)
theorem zni (a:Str) (b:Int):decide ((Sum.inr a:Key)=Sum.inl b)=false:=decide_eq_false (fun q=>nomatch q)
def zaV (prog:Program) (w:World):PySem.KeyKind prog w Key where
 is:=zhZ
 hash:=keyH w
 inj:=fun v a b ha hb=>by
  rcases za6 ha with ⟨i,t,rfl,rfl⟩ | ⟨x,t,rfl,rfl⟩
  ·rcases za6 hb with ⟨j,u,rfl,e⟩ | ⟨y,u,rfl,e⟩
   ·injection e with e1 _;rw [e1]
   ·exact nomatch e
  ·rcases za6 hb with ⟨j,u,rfl,e⟩ | ⟨y,u,rfl,e⟩
   ·exact nomatch e
   ·injection e with e1 _;rw [e1]
 byValue:=fun k v h=>by
  rcases za6 h with ⟨i,t,rfl,rfl⟩ | ⟨x,t,rfl,rfl⟩ <;> rfl
 pyHash:=fun hv h=>by
  rcases za6 hv with ⟨i,t,rfl,rfl⟩ | ⟨x,t,rfl,rfl⟩
  ·exact wpAny_pyHash_int h
  ·exact wpAny_pyHash_str h
 eqBool:=fun hu hv h=>by
  rcases za6 hu with ⟨i,t,rfl,rfl⟩ | ⟨x,t,rfl,rfl⟩
  ·rcases za6 hv with ⟨j,u,rfl,rfl⟩ | ⟨y,u,rfl,rfl⟩
   ·rw [znd] at h;exact wpAny_eqBool_int h
   ·rw [znI] at h;exact SeqAt.EqAt.int_str i t y u _ _ _ _ h
  ·rcases za6 hv with ⟨j,u,rfl,rfl⟩ | ⟨y,u,rfl,rfl⟩
   ·rw [zni] at h;exact SeqAt.EqAt.str_int x t j u _ _ _ _ h
   ·rw [znk] at h;exact wpAny_eqBool_str h
 «strs»:=fun k x t v h=>by
  rcases za6 h with ⟨i,u,rfl,e⟩ | ⟨y,u,rfl,e⟩
  ·exact nomatch e
  ·injection e with e1 _
   subst e1
   cases v <;> rfl
theorem zgB (prog:Program) (w:World) (i:Int) (t:Tok):(zaV prog w).is (.inl i) (.int i t)=true:=zis i t
theorem zgF (prog:Program) (w:World) (x:Str) (t:Tok):(zaV prog w).is (.inr x) (.str x t)=true:=zjM x t
end L2
namespace L2
open PySem PySem.Spec PyProof.Rows
inductive V where
 | non | bl (b:Bool) | int (i:Int) | str (x:Str) | byt (b:Array UInt8) | flt (b:UInt64) | ref (a:Addr) | ty (n:String)
 deriving DecidableEq
def za9:V→Value→Prop
 | .non,u=>u=Value.none
 | .bl b,u=>u=Value.bool b
 | .int i,u=>∃ t,u=Value.int i t
 | .str x,u=>∃ t,u=Value.str x t
 | .byt b,u=>∃ t,u=Value.bytes b t
 | .flt b,u=>∃ t,u=Value.float b t
 | .ref a,u=>u=Value.ref a
 | .ty n,u=>u=Value.type n
abbrev zbr:List V→List Value→Prop:=Paired za9
theorem zbr.length {xs:List V} {us:List Value} (r:zbr xs us):xs.length=us.length:=Paired.length r
theorem zbr.get:∀ {xs:List V} {us:List Value} {i:Nat} {x:V},zbr xs us→xs[i]?=some x→∃ u,us[i]?=some u∧za9 x u
 | _,_,_,_,.nil,e=>by simp at e
 | _,_,0,_,.cons r _,e=>by simp at e;subst e;exact ⟨_,rfl,r⟩
 | _,_,i+1,x,.cons _ t,e=>by
  obtain ⟨u,h1,h2⟩:=zbr.get (i:=i) (x:=x) t (by simpa using e)
  exact ⟨u,by simpa using h1,h2⟩
theorem zbr.append:∀ {xs ys:List V} {us ws:List Value},zbr xs us→zbr ys ws→zbr (xs++ys) (us++ws)
 | _,_,_,_,.nil,s=>s
 | _,_,_,_,.cons r t,s=>.cons r (zbr.append t s)
def zh9:Option V→Option Value→Prop
 | some v,some u=>za9 v u
 | none,none=>True
 | _,_=>False
def KV {κ:Type}:List (κ×V)→List (κ×Value)→Prop:=Paired fun (p:κ×V) (q:κ×Value)=>p.1=q.1∧za9 p.2 q.2
def kV:Key→V
 | .inl i=>.int i
 | .inr x=>.str x
inductive HO where
  | lst (xs:List V)
  | tup (xs:List V)
  | dK (kvs:List (Key×V)) | dT (kvs:List (List Key×V))
  | set (S:Int→Bool) (n:Nat)
  | ins (C dx:Addr) (fs:List (Str×V))
  | own (x:Addr)
  | xd (fs:List (Str×V))
  | met (f x:Addr)
  | rng (lo hi:Int)
  | frz (o:Obj) (u:HO)
  | tbl (ps:Array Value)
  | ext (φ:Heap→Prop)
abbrev Hp:=Addr→Option HO
def upd (H:Hp) (a:Addr) (o:HO):Hp:=fun b=>if b=a then some o else H b
theorem zad {H:Hp} {a:Addr} {o:HO}:upd H a o a=some o:=by unfold upd;rw [if_pos rfl]
theorem zaj {H:Hp} {a b:Addr} {o:HO} (h:b≠a):upd H a o b=H b:=by unfold upd;rw [if_neg h]
theorem zgz {H:Hp} {a:Addr} {o u:HO}:upd (upd H a o) a u=upd H a u:=by
 funext b;unfold upd;split <;> rfl
theorem zbZ {H:Hp} {a b:Addr} {o u:HO} (h:H a=some o) (h':H b=some u) (d:o≠u):a≠b:=by
 intro e;subst e;rw [h] at h';exact d (Option.some.inj h')
theorem zap {H:Hp} {a b:Addr} {o:HO} (h:H a=some o) (h':H b=none):a≠b:=by
 intro e;subst e;rw [h] at h';cases h'
section
variable (P:Program) (w:World)
def zaP (H:Hp) (h:Heap) (a:Addr):HO→Prop
 | .lst xs=>xs.length≤sizeLine∧∃ (its:List Value) (n:Nat),zbr xs its∧h.get? a=some { cls:=.type "list",data:=.seq its.toArray n }
 | .tup xs=>xs.length≤sizeLine∧∃ its:List Value,zbr xs its∧IsTup h a its.toArray
 | .dK kvs=>kvs.length≤sizeLine∧(a == sysModules)=false∧∃ vs,KV kvs vs∧h.DictOf (zaV P w) a vs
 | .dT kvs=>kvs.length≤sizeLine∧(a == sysModules)=false∧∃ xs:List (List Key×Addr×Value),
   Paired (fun (p:List Key×V) (q:List Key×Addr×Value)=>p.1=q.1∧H q.2.1=some (.tup (p.1.map kV))∧za9 p.2 q.2.2) kvs xs ∧
   ∃ o es ep,h.get? a=some o∧o.ExactDict∧o.data=.dict es ep∧es.toList=xs.map (entryOfKey (tupleKind (zaV P w)))∧(xs.map (·.1)).Nodup
 | .set S n=>h.SetOf (intKind P w) a S n
 | .ins C dx fs=>H dx=some (.own a)∧fs.length≤1000∧dx≠a∧h.get? a=some (PySem.W.instObj C dx) ∧
   ∃ mA,h.Ns1 dx mA∧(∀ f,zh9 (fs.lookup f) (mA f))∧PySem.Within mA (fs.map (·.1))
 | .own _=>∃ o,h.get? a=some o
 | .xd fs=>∃ mA,h.Ns1 a mA∧∀ f,zh9 (fs.lookup f) (mA f)
 | .rng lo hi=>∃ t u v,h.get? a=some { cls:=.type "range",data:=.fields #[.int lo t,.int hi u,.int 1 v] }
 | .frz o u=>h.get? a=some o∧zaP H h a u
 | .tbl ps=>h.get? a=some { cls:=.none,data:=.fields ps }
 | .met f x=>h.get? a=some (PySem.W.methodObj (.ref f) (.ref x))
 | .ext φ=>φ h∧(∃ o,h.get? a=some o)∧∀ h1 h2:Heap,φ h1→(∀ o,h1.get? a=some o→h2.get? a=some o)→φ h2
def HOk (H:Hp) (h:Heap):Prop:=∀ a o,H a=some o→zaP P w H h a o
end
section
variable {P:Program} {w:World} {H H':Hp} {h h':Heap} {a:Addr} {o:HO}
theorem zaP.lt (x:zaP P w H h a o):a<h.objs.size:=by
 cases o with
 | lst xs=>obtain ⟨_,_,_,_,e⟩:=x;exact Heap.lt_size e
 | tup xs=>obtain ⟨_,_,_,p⟩:=x;exact p.lt
 | dK kvs=>obtain ⟨_,_,_,_,o,_,_,e,_⟩:=x;exact Heap.lt_size e
 | dT kvs=>obtain ⟨_,_,_,_,o,_,_,e,_⟩:=x;exact Heap.lt_size e
 | set S n=>obtain ⟨o,_,_,_,e,_⟩:=x;exact Heap.lt_size e
 | ins C dx fs=>obtain ⟨_,_,_,e,_⟩:=x;exact Heap.lt_size e
 | own y=>obtain ⟨_,e⟩:=x;exact Heap.lt_size e
 | xd fs=>obtain ⟨_,⟨_,_,_,e,_⟩,_⟩:=x;exact Heap.lt_size e
 | rng lo hi=>obtain ⟨_,_,_,e⟩:=x;exact Heap.lt_size e
 | frz ob u=>obtain ⟨e,_⟩:=x;exact Heap.lt_size e
 | tbl ps=>exact Heap.lt_size (show h.get? a=some _ from x)
 | met f y=>exact Heap.lt_size (show h.get? a=some _ from x)
 | ext φ=>obtain ⟨_,⟨_,e⟩,_⟩:=x;exact Heap.lt_size e
theorem Paired.mapP {α β:Type} {F G:α→β→Prop}:∀ {l₁:List α} {l₂:List β},Paired F l₁ l₂→(∀ a b,F a b→G a b)→Paired G l₁ l₂
 | _,_,.nil,_=>.nil
 | _,_,.cons r t,f=>.cons (f _ _ r) (Paired.mapP t f)
theorem zaP.stay (x:zaP P w H h a o) (k:∀ b u,(b=a∨H b=some (.own a))→h.get? b=some u→h'.get? b=some u)
  (ho:∀ b,H b=some (.own a)→H' b=some (.own a)) (ht:∀ b xs,H b=some (.tup xs)→H' b=some (.tup xs)):zaP P w H' h' a o:=by
 induction o with
 | lst xs=>obtain ⟨z,its,n,r,e⟩:=x;exact ⟨z,its,n,r,k _ _ (.inl rfl) e⟩
 | tup xs=>obtain ⟨z,its,r,ob,e,c⟩:=x;exact ⟨z,its,r,ob,k _ _ (.inl rfl) e,c⟩
 | dK kvs=>obtain ⟨z,y,vs,r,ob,es,ep,e,c⟩:=x;exact ⟨z,y,vs,r,ob,es,ep,k _ _ (.inl rfl) e,c⟩
 | dT kvs =>
  obtain ⟨z,y,xs,r,ob,es,ep,e,c⟩:=x
  exact ⟨z,y,xs,Paired.mapP r fun p q z=>⟨z.1,ht _ _ z.2.1,z.2.2⟩,ob,es,ep,k _ _ (.inl rfl) e,c⟩
 | set S n=>obtain ⟨ob,es,ep,t,e,c⟩:=x;exact ⟨ob,es,ep,t,k _ _ (.inl rfl) e,c⟩
 | ins C dx fs =>
  obtain ⟨d,z,ne,e,mA,⟨od,es,ep,e2,c⟩,r⟩:=x
  exact ⟨ho _ d,z,ne,k _ _ (.inl rfl) e,mA,⟨od,es,ep,k _ _ (.inr d) e2,c⟩,r⟩
 | own y=>obtain ⟨ob,e⟩:=x;exact ⟨ob,k _ _ (.inl rfl) e⟩
 | xd fs=>obtain ⟨mA,⟨od,es,ep,e,c⟩,r⟩:=x;exact ⟨mA,⟨od,es,ep,k _ _ (.inl rfl) e,c⟩,r⟩
 | rng lo hi=>obtain ⟨t,u,v,e⟩:=x;exact ⟨t,u,v,k _ _ (.inl rfl) e⟩
 | frz ob u ih=>obtain ⟨e,q⟩:=x;exact ⟨k _ _ (.inl rfl) e,ih q⟩
 | tbl ps =>
  have e:h.get? a=some { cls:=.none,data:=.fields ps }:=x
  show h'.get? a=some { cls:=.none,data:=.fields ps }
  exact k a _ (.inl rfl) e
 | met f y =>
  have e:h.get? a=some (PySem.W.methodObj (.ref f) (.ref y)):=x
  show h'.get? a=some (PySem.W.methodObj (.ref f) (.ref y))
  exact k a _ (.inl rfl) e
 | ext φ=>obtain ⟨p,⟨o,e⟩,st⟩:=x;exact ⟨st _ _ p fun o q=>k _ _ (.inl rfl) q,⟨o,k _ _ (.inl rfl) e⟩,st⟩
theorem HOk.lt (x:HOk P w H h) (e:H a=some o):a<h.objs.size:=(x a o e).lt
theorem HOk.fresh (x:HOk P w H h) (e:h.objs.size≤a):H a=none:=by
 cases q:H a with
 | none=>rfl
 | some u=>exact absurd (Nat.lt_of_lt_of_le (x.lt q) e) (Nat.lt_irrefl _)
theorem HOk.kept (x:HOk P w H h) (k:∀ b u,h.get? b=some u→h'.get? b=some u):HOk P w H h':=fun a o e =>
 (x a o e).stay (fun b u _ q=>k b u q) (fun _ q=>q) fun _ _ q=>q
theorem HOk.laid (x:HOk P w H h) (k:∀ b u,h.get? b=some u→h'.get? b=some u) (hp:h.objs.size≤a) (new:zaP P w (upd H a o) h' a o):HOk P w (upd H a o) h':=fun b u e=>by
 have hn:=x.fresh hp
 by_cases hb:b=a
 ·subst hb;rw [zad] at e;cases e;exact new
 ·rw [zaj hb] at e
  exact (x b u e).stay (fun c v _ q=>k c v q) (fun c q=>by rw [zaj (zap q hn)];exact q) fun c xs q=>by rw [zaj (zap q hn)];exact q
end
def Rd (H:Hp) (a:Addr) (u:HO):Prop:=H a=some u∨∃ o,H a=some (.frz o u)
theorem Rd.ok {P:Program} {w:World} {H:Hp} {h:Heap} {a:Addr} {u:HO} (r:Rd H a u) (x:HOk P w H h):zaP P w H h a u:=by
 rcases r with r | ⟨o,r⟩
 ·exact x a u r
 ·obtain ⟨_,q⟩:=x a _ r
  exact q
def Mut:Option HO→Prop
 | some (.lst _)=>True
 | some (.dK _)=>True
 | some (.dT _)=>True
 | some (.set _ _)=>True
 | some (.ins _ _ _)=>True
 | some (.ext _)=>True
 | _=>False
section
variable {P:Program} {w:World} {H:Hp} {h h':Heap} {x e:Addr} {o':HO}
theorem HOk.write (ok:HOk P w H h) (mu:Mut (H x)) (he:e=x∨H e=some (.own x)) (k:∀ b u,b≠e→h.get? b=some u→h'.get? b=some u) (heo:∃ u,h'.get? e=some u)
  (new:zaP P w (upd H x o') h' x o'):HOk P w (upd H x o') h':=fun b u q=>by
 have nown:∀ c y,H c=some (.own y)→c≠x:=fun c y r z=>by subst z;rw [r] at mu;exact mu
 have ntup:∀ c xs,H c=some (.tup xs)→c≠x:=fun c xs r z=>by subst z;rw [r] at mu;exact mu
 by_cases hb:b=x
 ·subst hb;rw [zad] at q;cases q;exact new
 ·rw [zaj hb] at q
  by_cases hbe:b=e
  ·have q':H b=some (.own x):=by
    rcases he with z | z
    ·exact absurd (hbe.trans z) hb
    ·rw [hbe];exact z
   rw [q] at q';cases q'
   obtain ⟨v,hv⟩:=heo
   exact ⟨v,by rw [hbe];exact hv⟩
  ·refine (ok b u q).stay (fun c v hc r=>k c v ?_ r) (fun c r=>by rw [zaj (nown c b r)];exact r) fun c xs r=>by rw [zaj (ntup c xs r)];exact r
   rcases hc with rfl | hc
   ·exact hbe
   ·rintro rfl
    rcases he with z | z
    ·exact nown c b hc z
    ·rw [hc] at z;cases z;exact hb rfl
end
structure Un (fs ex:List Addr) (H H':Hp) (h h':Heap):Prop where
 keep:∀ b o,h.get? b=some o→H b=none→b∉fs→b∉ex→h'.get? b=some o
 slot:∀ b o,h.get? b=some o→H b=none→b∈fs→b∉ex→∃ sl,h'.get? b=some { o with slots:=sl }
 free:∀ b o,h.get? b=some o→H b=none→b∉ex→H' b=none
 there:∀ b o,h.get? b=some o→b∉ex→∃ o',h'.get? b=some o'
 tups:∀ b xs,H b=some (.tup xs)→H' b=some (.tup xs)
 frzs:∀ b o u,H b=some (.frz o u)→H' b=some (.frz o u)
 tbls:∀ b ps,H b=some (.tbl ps)→∃ more,H' b=some (.tbl (ps++more))
section
variable {fs fs' ex ex':List Addr} {H H1 H2:Hp} {h h1 h2 h':Heap} {a x e:Addr} {o:HO}
theorem Un.any (u:Un fs ex H H1 h h1) {b:Addr} {ob:Obj} (q:h.get? b=some ob) (n:H b=none) (hx:b∉ex):∃ sl,h1.get? b=some { ob with slots:=sl }:=by
 by_cases hb:b∈fs
 ·exact u.slot b ob q n hb hx
 ·exact ⟨ob.slots,u.keep b ob q n hb hx⟩
theorem Un.kept (k:∀ b u,h.get? b=some u→h'.get? b=some u):Un fs ex H H h h' :=
 ⟨fun b ob q _ _ _=>k b ob q,fun b ob q _ _ _=>⟨ob.slots,k b ob q⟩,fun _ _ _ n _=>n,fun b ob q _=>⟨ob,k b ob q⟩,fun _ _ q=>q,fun _ _ _ q=>q,fun _ ps q=>⟨#[],by rw [q];simp⟩⟩
theorem Un.refl:Un fs ex H H h h:=Un.kept fun _ _ q=>q
theorem Un.laid (k:∀ b u,h.get? b=some u→h'.get? b=some u) (hp:h.objs.size≤a) (hn:H a=none):Un fs ex H (upd H a o) h h' where
 keep:=fun b u q _ _ _=>k b u q
 slot:=fun b u q _ _ _=>⟨u.slots,k b u q⟩
 free:=fun b u q n _=>by rw [zaj (Nat.ne_of_lt (Nat.lt_of_lt_of_le (Heap.lt_size q) hp))];exact n
 there:=fun b u q _=>⟨u,k b u q⟩
 tups:=fun b xs q=>by rw [zaj (zap q hn)];exact q
 frzs:=fun b u xs q=>by rw [zaj (zap q hn)];exact q
 tbls:=fun b ps q=>⟨#[],by rw [zaj (zap q hn),q];simp⟩
theorem Un.write (mu:Mut (H x)) (he:e=x∨H e=some (.own x)) (k:∀ b u,b≠e→h.get? b=some u→h'.get? b=some u) (heo:∃ u,h'.get? e=some u):Un fs ex H (upd H x o) h h':=by
 have hx:∀ b,H b=none→b≠x:=fun b n z=>by subst z;rw [n] at mu;exact mu
 have hb:∀ b,H b=none→b≠e:=fun b n z=>by
  subst z
  rcases he with r | r
  ·exact hx b n r
  ·rw [n] at r;cases r
 have hm:∀ b u,H b=some u→¬ Mut (some u)→b≠x:=fun b u q nm z=>by subst z;rw [q] at mu;exact nm mu
 refine ⟨fun b u q n _ _=>k b u (hb b n) q,fun b u q n _ _=>⟨u.slots,k b u (hb b n) q⟩,fun b u q n _=>by rw [zaj (hx b n)];exact n,fun b u q _=>?_,
  fun b xs q=>by rw [zaj (hm b _ q fun z=>z)];exact q,fun b u xs q=>by rw [zaj (hm b _ q fun z=>z)];exact q,fun b ps q=>⟨#[],by rw [zaj (hm b _ q fun z=>z),q];simp⟩⟩
 by_cases hbe:b=e
 ·subst hbe;exact heo
 ·exact ⟨u,k b u hbe q⟩
end
def trk (h:Heap) (H:Hp):List Addr:=(List.range h.objs.size).filter fun a=>(H a).isSome
def zkZ (h:Heap) (H:Hp):Heap:=PySem.W.hideAll h (trk h H)
theorem zjB (h:Heap) (H:Hp):(zkZ h H).objs.size=h.objs.size:=PySem.W.hideAll_size _ _
theorem zkf {h:Heap} {H:Hp} {b:Addr} {o:Obj} (e:h.get? b=some o) (n:H b=none):(zkZ h H).get? b=some o :=
 PySem.W.hideAll_get _ e fun hm=>by
  have q:(H b).isSome=true:=(List.mem_filter.mp hm).2
  rw [n] at q;simp at q
theorem zmh {h:Heap} {H:Hp} {b:Addr} {o:Obj} (e:(zkZ h H).get? b=some o):h.get? b=some o∧H b=none:=by
 have e':h.get? b=some o:=PySem.W.of_hideAll (trk h H) e
 refine ⟨e',?_⟩
 cases q:H b with
 | none=>rfl
 | some x =>
  have hm:b∈trk h H:=List.mem_filter.mpr ⟨List.mem_range.mpr (Heap.lt_size e'),by simp [q]⟩
  have z:(zkZ h H).get? b=none:=PySem.W.hideAll_none (trk h H) hm
  rw [z] at e;cases e
def zmK (g h:Heap) (L:Addr):List (Addr×Obj):=(List.range h.objs.size).filterMap fun a=>if a=L∨(g.get? a).isSome=true then none else (h.get? a).map fun o=>(a,o)
def zfK (g h:Heap) (L d:Addr):List (Addr×Obj):=(zmK g h L).filter fun p=>decide (p.1≠d)
end L2
namespace L2
open PySem PySem.Spec PyProof.Rows
structure Mod (K:PySem.W.Frag) (mg:Str→Option Value) (base:Heap):Prop where
 kin:K.In base
 glob:base.Ns mainGlobals mg
 blt:∃ mb,base.Ns builtinsNs mb∧∀ x:Str,x≠"__name__"→mb x=bootBuiltins x
 nolimit:base.NoLimit
structure Cx where
 prog:Program
 w:World
 K:PySem.W.Frag
 mg:Str→Option Value
 base:Heap
 A:Around
 N:List Str
 s₀:Shared
 H₀:Hp
 env:Env
 outer:List Env
 stack:List Env
 ex:List Addr
 fn:Str→Bool
 calm:Bool
 pn:List (Addr×Obj)
 xe:Value→Shared→Prop
def frs (l:List Env):List Addr:=l.filterMap (·.frame)
abbrev Cx.fs (X:Cx):List Addr:=frs X.outer
def Vis (sc:Scope) (x:Str):Prop:=sc.names.lookup x=some .local∨sc.names.lookup x=some .cell∨sc.names.lookup x=some .free
def Loc (sc:Scope) (x:Str):Prop:=sc.names.lookup x=some .local∨sc.names.lookup x=some .cell
def Look (env:Env) (h:Heap) (m:Str→Option Value) (x:Str) (u:Value):Prop :=
 (env.kindOf x=some .local∧m x=some u)∨((env.kindOf x=some .cell∨env.kindOf x=some .free)∧∃ c,env.cells.lookup x=some c∧h.IsCell c (some u))
structure Cx.Ok (X:Cx):Prop where
 mod:Mod X.K X.mg X.base
 kind:X.env.scope.kind=.function
 glob:X.env.globals=mainGlobals
 blt:X.env.builtins=builtinsNs
 above:X.s₀.heap.objs.size≤X.env.locals
 inj:∀ x y c,X.env.cells.lookup x=some c→X.env.cells.lookup y=some c→x=y
 has:∀ x,(X.env.kindOf x=some .cell∨X.env.kindOf x=some .free)→∃ c,X.env.cells.lookup x=some c
 cab:∀ x c,X.fn x=true→X.env.cells.lookup x=some c→X.s₀.heap.objs.size≤c
 hd:X.calm=true→X.A.handled=none
 frames:X.A.frames=some X.stack
 stk:X.stack=X.outer∨(X.stack=X.env::X.outer∧X.env.frame=some X.env.locals)
 exf:∀ b∈X.ex,b≠X.env.locals∧∀ x c,X.env.cells.lookup x=some c→c≠b
 bs:∀ b o,X.base.get? b=some o→X.s₀.heap.get? b=some o∧X.H₀ b=none
 bsz:X.base.objs.size≤X.s₀.heap.objs.size
 noex:∀ b o,X.base.get? b=some o→b∉X.ex
 exfs:∀ b∈X.ex,b∉X.fs
 funs:X.s₀.heap.FunFrames X.base X.outer
 frf:∀ b∈X.fs,X.H₀ b=none
structure Inv (X:Cx) (pins:List (Addr×Obj)) (σ:List (Option V)) (H:Hp) (s:Shared):Prop where
 ok:X.Ok
 os:s.os=X.s₀.os
 bare:AllBare s.gens
 base:Un X.fs X.ex X.H₀ H X.s₀.heap s.heap
 loc:∃ m,s.heap.Ns X.env.locals m∧∀ (i:Nat) (x:Str) (v:V),X.N[i]?=some x→σ[i]?=some (some v)→Vis X.env.scope x→∃ u,za9 v u∧Look X.env s.heap m x u
 cell:∀ x c,X.env.cells.lookup x=some c→∃ v,s.heap.IsCell c v
 free:H X.env.locals=none
 freeC:∀ x c,X.env.cells.lookup x=some c→H c=none
 pin:∀ p∈X.pn++pins,s.heap.get? p.1=some p.2∧H p.1=none∧p.1≠X.env.locals∧p.1∉X.fs∧∀ v,p.2.data≠.cell v
 hok:HOk X.prog X.w H s.heap
 len:σ.length=X.N.length
section
variable {X:Cx} {pins:List (Addr×Obj)} {σ:List (Option V)} {H H':Hp} {s:Shared} {h':Heap}
theorem Cx.Ok.nofr (ok:X.Ok) {b:Addr} {o:Obj} (e:X.base.get? b=some o):b∉X.fs:=fun hb=>by
 have:=(ok.funs.mem hb).1
 rw [e] at this;cases this
theorem Inv.bs (I:Inv X pins σ H s):∀ b o,X.base.get? b=some o→s.heap.get? b=some o∧H b=none:=fun b o e =>
 ⟨I.base.keep b o (I.ok.bs b o e).1 (I.ok.bs b o e).2 (I.ok.nofr e) (I.ok.noex b o e),I.base.free b o (I.ok.bs b o e).1 (I.ok.bs b o e).2 (I.ok.noex b o e)⟩
theorem Inv.bk (I:Inv X pins σ H s):∀ b o,X.base.get? b=some o→s.heap.get? b=some o:=fun b o e=>(I.bs b o e).1
theorem Inv.mod (I:Inv X pins σ H s):Mod X.K X.mg X.base:=I.ok.mod
theorem Inv.kIn (I:Inv X pins σ H s):X.K.In s.heap:=I.ok.mod.kin.keeps I.bk
theorem Inv.lt (I:Inv X pins σ H s):X.env.locals<s.heap.objs.size:=let ⟨_,hn,_⟩:=I.loc;hn.lt
theorem Inv.sz (I:Inv X pins σ H s):X.s₀.heap.objs.size≤s.heap.objs.size:=Nat.le_trans I.ok.above (Nat.le_of_lt I.lt)
theorem Inv.nofs (I:Inv X pins σ H s) {a:Addr} (h:s.heap.objs.size≤a):a∉X.fs:=fun hb=>by
 obtain ⟨_,o,ho,_⟩:=I.ok.funs.mem hb
 exact absurd (Nat.lt_of_lt_of_le (Heap.lt_size ho) (Nat.le_trans I.sz h)) (Nat.lt_irrefl _)
theorem Inv.cne (I:Inv X pins σ H s):∀ x c,X.env.cells.lookup x=some c→c≠X.env.locals:=fun x c e z=>by
 obtain ⟨v,o,ho,hd⟩:=I.cell x c e
 obtain ⟨m,⟨o',es,ep,ho',hd',_⟩,_⟩:=I.loc
 rw [z,ho'] at ho;cases ho;rw [hd'] at hd;cases hd
theorem Inv.funs (I:Inv X pins σ H s):s.heap.FunFrames X.base X.outer:=by
 have all:∀ (l:List Env),(∀ b∈frs l,b∈X.fs)→X.s₀.heap.FunFrames X.base l→s.heap.FunFrames X.base l:=by
  intro l
  induction l with
  | nil=>intro _ _;trivial
  | cons env r ih =>
   intro hs hl
   obtain ⟨hk,⟨L,o,hf,hn,ho,hd⟩,hr⟩:=hl
   have hL:L∈X.fs:=hs L (by unfold frs;rw [List.filterMap_cons,hf];exact List.mem_cons_self)
   obtain ⟨sl,e⟩:=I.base.slot L o ho (I.ok.frf L hL) hL fun z=>I.ok.exfs L z hL
   exact ⟨hk,⟨L,_,hf,hn,e,hd⟩,ih (fun b hb=>hs b (by unfold frs;rw [List.filterMap_cons,hf];exact List.mem_cons_of_mem _ hb)) hr⟩
 exact all X.outer (fun _ hb=>hb) I.ok.funs
theorem Inv.stack (I:Inv X pins σ H s):s.heap.FunFrames X.base X.stack:=by
 rcases I.ok.stk with e | ⟨e,hf⟩
 ·rw [e];exact I.funs
 ·rw [e]
  obtain ⟨m,hn,_⟩:=I.loc
  refine .cons (by rw [I.ok.kind];decide) hf hn ?_ I.funs
  exact Heap.get?_none_of_le (Nat.le_trans I.ok.bsz I.ok.above)
theorem Inv.stkSub (I:Inv X pins σ H s):∀ b∈frs X.stack,b∈X.env.locals::X.fs:=fun b hb=>by
 rcases I.ok.stk with e | ⟨e,hf⟩
 ·rw [e] at hb;exact List.mem_cons_of_mem _ hb
 ·rw [e] at hb
  unfold frs at hb
  rw [List.filterMap_cons,hf] at hb
  exact hb
theorem Inv.stkFree (I:Inv X pins σ H s):∀ b∈frs X.stack,H b=none:=fun b hb=>by
 rcases List.mem_cons.mp (I.stkSub b hb) with e | hb
 ·rw [e];exact I.free
 ·obtain ⟨_,o,ho,_⟩:=I.ok.funs.mem hb
  exact I.base.free b o ho (I.ok.frf b hb) fun z=>I.ok.exfs b z hb
theorem Inv.step {g':Array GenState} {t':Nat} {d':Drawn} {ch:List Addr} (I:Inv X pins σ H s)
  (hch:∀ b∈ch,(b∈X.ex∨X.s₀.heap.objs.size≤b)∧b≠X.env.locals∧(∀ x c,X.env.cells.lookup x=some c→c≠b)∧∀ p∈X.pn++pins,p.1≠b)
  (keep:∀ b o,b≠X.env.locals→b∉X.fs→b∉ch→s.heap.get? b=some o→H b=none→h'.get? b=some o)
  (slot:∀ b o,b≠X.env.locals→b∈X.fs→b∉ch→s.heap.get? b=some o→H b=none→∃ sl,h'.get? b=some { o with slots:=sl }) (free:∀ b o,b∉ch→s.heap.get? b=some o→H b=none→H' b=none)
  (there:∀ b o,b∉ch→s.heap.get? b=some o→∃ o',h'.get? b=some o')
  (tups:∀ b xs,H b=some (.tup xs)→H' b=some (.tup xs)) (frzs:∀ b o u,H b=some (.frz o u)→H' b=some (.frz o u)) (tbls:∀ b ps,H b=some (.tbl ps)→∃ more,H' b=some (.tbl (ps++more)))
  (ns:∀ m,s.heap.Ns X.env.locals m→h'.Ns X.env.locals m) (hok:HOk X.prog X.w H' h') (hg:AllBare g') :
  Inv X pins σ H' { s with heap:=h',gens:=g',drawn:=d',toks:=t' }:=by
 have neL:∀ b o,X.s₀.heap.get? b=some o→b≠X.env.locals:=fun b o e=>Nat.ne_of_lt (Nat.lt_of_lt_of_le (Heap.lt_size e) I.ok.above)
 have neC:∀ b o,X.s₀.heap.get? b=some o→b∉X.ex→b∉ch:=fun b o e hx hb=>by
  rcases (hch b hb).1 with z | z
  ·exact hx z
  ·exact absurd (Nat.lt_of_lt_of_le (Heap.lt_size e) z) (Nat.lt_irrefl _)
 have cellK:∀ x c,X.env.cells.lookup x=some c→∀ v,s.heap.IsCell c v→h'.IsCell c v:=fun x c e v ⟨o,ho,hd⟩=>by
  have nch:c∉ch:=fun z=>(hch c z).2.2.1 x c e rfl
  by_cases hc:c∈X.fs
  ·obtain ⟨sl,q⟩:=slot c o (I.cne x c e) hc nch ho (I.freeC x c e)
   exact ⟨_,q,hd⟩
  ·exact ⟨o,keep c o (I.cne x c e) hc nch ho (I.freeC x c e),hd⟩
 refine ⟨I.ok,I.os,hg,⟨fun b o e n hb hx=>?_,fun b o e n hb hx=>?_,fun b o e n hx=>?_,fun b o e hx=>?_,fun b xs e=>tups b xs (I.base.tups b xs e),fun b o xs e=>frzs b o xs (I.base.frzs b o xs e),fun b ps e=>?_⟩,?_,fun x c e=>?_,?_,fun x c e=>?_,fun p hp=>?_,hok,I.len⟩
 ·exact keep b o (neL b o e) hb (neC b o e hx) (I.base.keep b o e n hb hx) (I.base.free b o e n hx)
 ·obtain ⟨sl,e1⟩:=I.base.slot b o e n hb hx
  obtain ⟨sl',e2⟩:=slot b _ (neL b o e) hb (neC b o e hx) e1 (I.base.free b o e n hx)
  exact ⟨sl',e2⟩
 ·obtain ⟨o',e1⟩:=I.base.there b o e hx
  exact free b o' (neC b o e hx) e1 (I.base.free b o e n hx)
 ·obtain ⟨o',e1⟩:=I.base.there b o e hx
  exact there b o' (neC b o e hx) e1
 ·obtain ⟨m1,e1⟩:=I.base.tbls b ps e
  obtain ⟨m2,e2⟩:=tbls b _ e1
  exact ⟨m1++m2,by rw [e2,Array.append_assoc]⟩
 ·obtain ⟨m,hn,hl⟩:=I.loc
  refine ⟨m,ns m hn,fun i x v e1 e2 e3=>?_⟩
  obtain ⟨u,r,l⟩:=hl i x v e1 e2 e3
  refine ⟨u,r,?_⟩
  rcases l with l | ⟨k,c,e,z⟩
  ·exact .inl l
  ·exact .inr ⟨k,c,e,cellK x c e _ z⟩
 ·obtain ⟨v,z⟩:=I.cell x c e
  exact ⟨v,cellK x c e v z⟩
 ·obtain ⟨m,⟨o,_,_,ho,_⟩,_⟩:=I.loc
  exact free _ o (fun z=>(hch _ z).2.1 rfl) ho I.free
 ·obtain ⟨v,o,ho,hd⟩:=I.cell x c e
  exact free c o (fun z=>(hch c z).2.2.1 x c e rfl) ho (I.freeC x c e)
 ·obtain ⟨e,n,ne,nf,d⟩:=I.pin p hp
  have nch:p.1∉ch:=fun z=>(hch p.1 z).2.2.2 p hp rfl
  exact ⟨keep p.1 p.2 ne nf nch e n,free p.1 p.2 nch e n,ne,nf,d⟩
theorem Inv.un {t':Nat} (I:Inv X pins σ H s) (u:Un X.fs [] H H' s.heap h') (hok:HOk X.prog X.w H' h'):Inv X pins σ H' { s with heap:=h',toks:=t' }:=by
 obtain ⟨m,⟨o,es,ep,ho,r⟩,_⟩:=id I.loc
 obtain ⟨sl,hL⟩:=u.any ho I.free (by simp)
 exact I.step (g':=s.gens) (d':=s.drawn) (ch:=[]) (fun _ z=>nomatch z) (fun b o _ hb _ e n=>u.keep b o e n hb (by simp)) (fun b o _ hb _ e n=>u.slot b o e n hb (by simp)) (fun b o _ e n=>u.free b o e n (by simp)) (fun b o _ e=>u.there b o e (by simp)) u.tups u.frzs u.tbls (fun m' hm=>by
  obtain ⟨o',es',ep',ho',r'⟩:=hm
  rw [ho] at ho';cases ho'
  exact ⟨_,es',ep',hL,r'⟩) hok I.bare
theorem Inv.call {g':Array GenState} {t':Nat} {d':Drawn} {ch:List Addr} (I:Inv X pins σ H s) (u:Un (frs X.stack) ch H H' s.heap h') (hok:HOk X.prog X.w H' h') (hg:AllBare g')
  (hch:∀ b∈ch,(b∈X.ex∨X.s₀.heap.objs.size≤b)∧b≠X.env.locals∧(∀ x c,X.env.cells.lookup x=some c→c≠b)∧∀ p∈X.pn++pins,p.1≠b) :
  Inv X pins σ H' { s with heap:=h',gens:=g',drawn:=d',toks:=t' }:=by
 obtain ⟨m,⟨o,es,ep,ho,r⟩,_⟩:=id I.loc
 obtain ⟨sl,hL⟩:=u.any ho I.free fun z=>(hch _ z).2.1 rfl
 exact I.step (ch:=ch) hch (fun b o hL hb hc e n=>u.keep b o e n (fun z=>(List.mem_cons.mp (I.stkSub b z)).elim hL hb) hc) (fun b o _ _ hc e n=>u.any e n hc) (fun b o hc e n=>u.free b o e n hc) (fun b o hc e=>u.there b o e hc) u.tups u.frzs u.tbls (fun m' hm=>by
  obtain ⟨o',es',ep',ho',r'⟩:=hm
  rw [ho] at ho';cases ho'
  exact ⟨_,es',ep',hL,r'⟩) hok hg
theorem Inv.turned {t':Nat} {it:Addr} (I:Inv X pins σ H s) (k:∀ b o,b≠it→s.heap.get? b=some o→h'.get? b=some o) (hn:H it=none) (hL:it≠X.env.locals)
  (h1:it∈X.ex∨X.s₀.heap.objs.size≤it) (h2:∀ x c,X.env.cells.lookup x=some c→c≠it) (h3:∀ p∈X.pn++pins,p.1≠it):Inv X pins σ H { s with heap:=h',toks:=t' }:=by
 have nit:∀ b u,H b=some u→b≠it:=fun b u e z=>by rw [z,hn] at e;cases e
 refine I.step (g':=s.gens) (d':=s.drawn) (ch:=[it]) (fun b hb=>?_) (fun b o _ _ hc e _=>k b o (fun z=>hc (by simp [z])) e) (fun b o _ _ hc e _=>⟨o.slots,k b o (fun z=>hc (by simp [z])) e⟩) (fun _ _ _ _ n=>n)
  (fun b o hc e=>⟨o,k b o (fun z=>hc (by simp [z])) e⟩) (fun _ _ e=>e) (fun _ _ _ e=>e) (fun b ps e=>⟨#[],by rw [e];simp⟩) (fun m hm=>?_) (fun b u e=>?_) I.bare
 ·have e:b=it:=by simpa using hb
  subst e
  exact ⟨h1,hL,h2,h3⟩
 ·obtain ⟨o,es,ep,ho,r⟩:=hm
  exact ⟨o,es,ep,k _ o (Ne.symm hL) ho,r⟩
 ·refine (I.hok b u e).stay (fun c v hc q=>k c v ?_ q) (fun _ q=>q) fun _ _ q=>q
  rcases hc with z | z
  ·rw [z];exact nit b u e
  ·exact nit c _ z
theorem Inv.tok (I:Inv X pins σ H s) (t:Nat):Inv X pins σ H { s with toks:=t }:=I.un (h':=s.heap) (t':=t) Un.refl I.hok
theorem Inv.kept {t':Nat} (I:Inv X pins σ H s) (k:∀ b u,s.heap.get? b=some u→h'.get? b=some u):Inv X pins σ H { s with heap:=h',toks:=t' }:=I.un (Un.kept k) (I.hok.kept k)
theorem Inv.laid {a:Addr} {o:HO} {t':Nat} (I:Inv X pins σ H s) (k:∀ b u,s.heap.get? b=some u→h'.get? b=some u) (hp:s.heap.objs.size≤a) (new:zaP X.prog X.w (upd H a o) h' a o) :
  Inv X pins σ (upd H a o) { s with heap:=h',toks:=t' }:=I.un (Un.laid k hp (I.hok.fresh hp)) (I.hok.laid k hp new)
theorem Inv.write {x e:Addr} {o:HO} {t':Nat} (I:Inv X pins σ H s) (mu:Mut (H x)) (he:e=x∨H e=some (.own x)) (k:∀ b u,b≠e→s.heap.get? b=some u→h'.get? b=some u) (heo:∃ u,h'.get? e=some u)
  (new:zaP X.prog X.w (upd H x o) h' x o):Inv X pins σ (upd H x o) { s with heap:=h',toks:=t' }:=I.un (Un.write mu he k heo) (I.hok.write mu he k heo new)
theorem Inv.pins_of {pins':List (Addr×Obj)} (I:Inv X pins σ H s) (h:∀ p∈pins',s.heap.get? p.1=some p.2∧H p.1=none∧p.1≠X.env.locals∧p.1∉X.fs∧∀ v,p.2.data≠.cell v):Inv X pins' σ H s :=
 ⟨I.ok,I.os,I.bare,I.base,I.loc,I.cell,I.free,I.freeC,fun p hp=>(List.mem_append.mp hp).elim (fun z=>I.pin p (List.mem_append_left _ z)) (h p),I.hok,I.len⟩
theorem zhc {N:List Str} (hN:N.Nodup) {i j:Nat} {x:Str} (a:N[i]?=some x) (b:N[j]?=some x):i=j:=by
 obtain ⟨h1,e1⟩:=List.getElem?_eq_some_iff.mp a
 obtain ⟨h2,e2⟩:=List.getElem?_eq_some_iff.mp b
 exact (List.getElem_inj hN).mp (e1.trans e2.symm)
theorem zjz {M:Model} {A:Around} {E:Value→Shared→Prop} {i:Nat} {x:Str} {v:V} {u:Value} {Q:Unit→Shared→Prop} (I:Inv X pins σ H s) (hN:X.N.Nodup) (hi:X.N[i]?=some x) (hx:Loc X.env.scope x) (r:za9 v u)
  (h:∀ s',Inv X pins (σ.set i (some v)) H s'→(∃ a,Heap.SameBut a s.heap s'.heap∧(a=X.env.locals∨X.env.cells.lookup x=some a))→Q () s') (hf:X.fn x=true∨X.env.scope.names.lookup x=some .local:=by first | exact .inl rfl | exact .inr rfl | assumption):wpAny M A (storeName X.env x u) Q E s:=by
 obtain ⟨m,hn,hl⟩:=id I.loc
 have hcls:(X.env.scope.kind == .class || (X.env.scope.kind == .module&&X.env.locals != X.env.globals))=false:=by rw [I.ok.kind];rfl
 have hiσ:i<σ.length:=by rw [I.len];exact (List.getElem?_eq_some_iff.mp hi).1
 have cne:=I.cne
 have tracked:∀ {a:Addr} {h':Heap},(∃ o,s.heap.get? a=some o∧H a=none)→Heap.SameBut a s.heap h'→HOk X.prog X.w H h':=fun {a h'} ha hs b ob e=>by
  obtain ⟨_,_,hfree⟩:=ha
  refine (I.hok b ob e).stay (fun c w' hc q=>(hs.2 c ?_).trans q) (fun _ q=>q) fun _ _ q=>q
  rintro rfl
  rcases hc with rfl | hc
  ·rw [hfree] at e;cases e
  ·rw [hfree] at hc;cases hc
 rcases hx with hk | hk
 ·refine wpAny_storeName_local hk hn (fun h' hn' hs=>?_) hcls
  obtain ⟨oL,_,_,hoL,_⟩:=id hn
  refine h _ ⟨I.ok,I.os,I.bare,⟨fun b o e n hb hx=>?_,fun b o e n hb hx=>?_,I.base.free,fun b o e hx=>?_,I.base.tups,I.base.frzs,I.base.tbls⟩,⟨_,hn',fun j y v' e1 e2 e3=>?_⟩,fun y c e=>?_,I.free,I.freeC,fun p hp=>?_,tracked ⟨oL,hoL,I.free⟩ hs,by simpa using I.len⟩ ⟨_,hs,.inl rfl⟩
  ·exact (hs.2 b (Nat.ne_of_lt (Nat.lt_of_lt_of_le (Heap.lt_size e) I.ok.above))).trans (I.base.keep b o e n hb hx)
  ·obtain ⟨sl,e1⟩:=I.base.slot b o e n hb hx
   exact ⟨sl,(hs.2 b (Nat.ne_of_lt (Nat.lt_of_lt_of_le (Heap.lt_size e) I.ok.above))).trans e1⟩
  ·obtain ⟨o',e1⟩:=I.base.there b o e hx
   exact ⟨o',(hs.2 b (Nat.ne_of_lt (Nat.lt_of_lt_of_le (Heap.lt_size e) I.ok.above))).trans e1⟩
  ·by_cases hj:j=i
   ·subst hj
    rw [hi] at e1;cases e1
    rw [List.getElem?_set_self hiσ] at e2
    cases e2
    exact ⟨u,r,.inl ⟨hk,by simp⟩⟩
   ·rw [List.getElem?_set_ne (Ne.symm hj)] at e2
    obtain ⟨u',r',q⟩:=hl j y v' e1 e2 e3
    refine ⟨u',r',?_⟩
    rcases q with ⟨k,e⟩ | ⟨k,c,e,z⟩
    ·refine .inl ⟨k,?_⟩
     have:y≠x:=fun e=>hj (zhc hN e1 (e ▸ hi))
     simp [this,e]
    ·exact .inr ⟨k,c,e,z.sameBut hs (cne y c e)⟩
  ·obtain ⟨w',z⟩:=I.cell y c e
   exact ⟨w',z.sameBut hs (cne y c e)⟩
  ·obtain ⟨e,n,ne,nf,d⟩:=I.pin p hp
   exact ⟨(hs.2 p.1 ne).trans e,n,ne,nf,d⟩
 ·have hfn:X.fn x=true:=by
   rcases hf with z | z
   ·exact z
   ·rw [z] at hk;cases hk
  obtain ⟨c,hc⟩:=I.ok.has x (.inl hk)
  obtain ⟨w',z⟩:=I.cell x c hc
  refine wpAny_storeName_cell I.ok.kind hk hc z (fun h' hc' hs=>?_)
  obtain ⟨oc,hoc,hocd⟩:=id z
  refine h { s with heap:=h' } ⟨I.ok,I.os,I.bare,⟨fun b o e n hb hx=>?_,fun b o e n hb hx=>?_,I.base.free,fun b o e hx=>?_,I.base.tups,I.base.frzs,I.base.tbls⟩,⟨m,hn.sameBut hs (Ne.symm (cne x c hc)),fun j y v' e1 e2 e3=>?_⟩,fun y c' e=>?_,I.free,I.freeC,fun p hp=>?_,tracked ⟨oc,hoc,I.freeC x c hc⟩ hs,by simpa using I.len⟩ ⟨c,hs,.inr hc⟩
  ·exact (hs.2 b (Nat.ne_of_lt (Nat.lt_of_lt_of_le (Heap.lt_size e) (I.ok.cab x c hfn hc)))).trans (I.base.keep b o e n hb hx)
  ·obtain ⟨sl,e1⟩:=I.base.slot b o e n hb hx
   exact ⟨sl,(hs.2 b (Nat.ne_of_lt (Nat.lt_of_lt_of_le (Heap.lt_size e) (I.ok.cab x c hfn hc)))).trans e1⟩
  ·obtain ⟨o',e1⟩:=I.base.there b o e hx
   exact ⟨o',(hs.2 b (Nat.ne_of_lt (Nat.lt_of_lt_of_le (Heap.lt_size e) (I.ok.cab x c hfn hc)))).trans e1⟩
  ·by_cases hj:j=i
   ·subst hj
    rw [hi] at e1;cases e1
    rw [List.getElem?_set_self hiσ] at e2
    cases e2
    exact ⟨u,r,.inr ⟨.inl hk,c,hc,hc'⟩⟩
   ·rw [List.getElem?_set_ne (Ne.symm hj)] at e2
    obtain ⟨u',r',q⟩:=hl j y v' e1 e2 e3
    refine ⟨u',r',?_⟩
    rcases q with q | ⟨k,c',e,z'⟩
    ·exact .inl q
    ·refine .inr ⟨k,c',e,z'.sameBut hs ?_⟩
     rintro rfl
     exact hj (zhc hN e1 (I.ok.inj _ _ _ e hc ▸ hi))
  ·by_cases hcc:c'=c
   ·subst hcc;exact ⟨_,hc'⟩
   ·obtain ⟨w2,z2⟩:=I.cell y c' e
    exact ⟨w2,z2.sameBut hs hcc⟩
  ·obtain ⟨e,n,ne,nf,d⟩:=I.pin p hp
   refine ⟨(hs.2 p.1 ?_).trans e,n,ne,nf,d⟩
   intro q
   rw [q,hoc] at e
   have q':oc=p.2:=Option.some.inj e
   exact d w' (by rw [← q'];exact hocd)
theorem zhy {M:Model} {A:Around} {E:Value→Shared→Prop} {i:Nat} {x:Str} {v:V} {u:Value} {Q:Unit→Shared→Prop} (I:Inv X pins σ H s) (hN:X.N.Nodup) (hi:X.N[i]?=some x) (hx:Loc X.env.scope x) (r:za9 v u)
  (h:∀ s',Inv X pins (σ.set i (some v)) H s'→Q () s') (hf:X.fn x=true∨X.env.scope.names.lookup x=some .local:=by first | exact .inl rfl | exact .inr rfl | assumption):wpAny M A (storeName X.env x u) Q E s :=
 zjz I hN hi hx r (fun s' I' _=>h s' I') hf
theorem Inv.call' {s':Shared} {ch:List Addr} (I:Inv X pins σ H s) (ho:s'.os=s.os) (u:Un (frs X.stack) ch H H' s.heap s'.heap) (hok:HOk X.prog X.w H' s'.heap) (hg:AllBare s'.gens)
  (hch:∀ b∈ch,(b∈X.ex∨X.s₀.heap.objs.size≤b)∧b≠X.env.locals∧(∀ x c,X.env.cells.lookup x=some c→c≠b)∧∀ p∈X.pn++pins,p.1≠b):Inv X pins σ H' s':=by
 obtain ⟨h',g',d',t',o'⟩:=s'
 have e:o'=s.os:=ho
 subst e
 exact I.call (g':=g') (t':=t') (d':=d') u hok hg hch
end
abbrev XK:=Value→Option Addr→Hp→Prop
abbrev St:=List (Option V)
abbrev VK:=V→Hp→Prop
abbrev TE:=St→Hp→VK→Prop
abbrev TT:=St→Hp→(Bool→Hp→Prop)→Prop
abbrev TA:=St→Hp→(List V→Hp→Prop)→Prop
structure zbY where
 nx:St→Hp→Prop
 rt:VK
 bk:St→Hp→Prop:=fun _ _=>False
 ct:St→Hp→Prop:=fun _ _=>False
abbrev TS:=zbY→St→Hp→Prop
def EP (X:Cx) (pins:List (Addr×Obj)) (σ:St) (Q:VK) (u:Value) (s':Shared):Prop:=∃ v H',Inv X pins σ H' s'∧za9 v u∧Q v H'
def TP (X:Cx) (pins:List (Addr×Obj)) (σ:St) (Q:Bool→Hp→Prop) (b:Bool) (s':Shared):Prop:=∃ H',Inv X pins σ H' s'∧Q b H'
def AP (X:Cx) (pins:List (Addr×Obj)) (σ:St) (Q:List V→Hp→Prop) (us:List Value) (s':Shared):Prop:=∃ vs H',Inv X pins σ H' s'∧zbr vs us∧Q vs H'
def SP (X:Cx) (pins:List (Addr×Obj)) (D:zbY) (f:Flow) (s':Shared):Prop :=
 match f with
 | .next=>∃ σ' H',Inv X pins σ' H' s'∧D.nx σ' H'
 | .brk=>∃ σ' H',Inv X pins σ' H' s'∧D.bk σ' H'
 | .cont=>∃ σ' H',Inv X pins σ' H' s'∧D.ct σ' H'
 | .ret u=>∃ v σ' H',Inv X pins σ' H' s'∧za9 v u∧D.rt v H'
def PE (X:Cx) (e:Expr) (t:TE):Prop :=
 ∀ (pins:List (Addr×Obj)) (s:Shared) (σ:St) (H:Hp) (Q:VK),Inv X pins σ H s→t σ H Q→wpAny (model X.prog X.w) X.A (eval e X.env) (EP X pins σ Q) X.xe s
def PT (X:Cx) (e:Expr) (t:TT):Prop :=
 ∀ (pins:List (Addr×Obj)) (s:Shared) (σ:St) (H:Hp) (Q:Bool→Hp→Prop),Inv X pins σ H s→t σ H Q→wpAny (model X.prog X.w) X.A (isTrue e X.env (eval e X.env)) (TP X pins σ Q) X.xe s
def PW (X:Cx) (e:Expr) (t:TT):Prop :=
 ∀ (whole:Sem Value) (pins:List (Addr×Obj)) (s:Shared) (σ:St) (H:Hp) (Q:Bool→Hp→Prop),Inv X pins σ H s→t σ H Q→wpAny (model X.prog X.w) X.A (isTrue e X.env whole) (TP X pins σ Q) X.xe s
theorem PW.pt {X:Cx} {e:Expr} {t:TT} (h:PW X e t):PT X e t:=h _
def PA (X:Cx) (es:List Expr) (t:TA):Prop :=
 ∀ (pos:Pos) (pins:List (Addr×Obj)) (s:Shared) (σ:St) (H:Hp) (Q:List V→Hp→Prop),Inv X pins σ H s→t σ H Q→wpAny (model X.prog X.w) X.A (spliced (backTo pos (starEach es X.env))) (AP X pins σ Q) X.xe s
def PS (X:Cx) (st:Stmt) (t:TS):Prop :=
 ∀ (pins:List (Addr×Obj)) (s:Shared) (σ:St) (H:Hp) (D:zbY),Inv X pins σ H s→t D σ H→wpAny (model X.prog X.w) X.A (exec st X.env) (SP X pins D) X.xe s
def PSs (X:Cx) (st:List Stmt) (t:TS):Prop :=
 ∀ (pins:List (Addr×Obj)) (s:Shared) (σ:St) (H:Hp) (D:zbY),Inv X pins σ H s→t D σ H→wpAny (model X.prog X.w) X.A (execs st X.env) (SP X pins D) X.xe s
theorem thn {α:Type} {t:Sem α} {Q Q':α→Shared→Prop} {M:Model} {A:Around} {E:Value→Shared→Prop} {s:Shared} (h:wpAny M A t Q E s) (hQ:∀ a s,Q a s→Q' a s):wpAny M A t Q' E s:=wpAny_mono h hQ fun _ _ x=>x
end L2
namespace L2
open PySem PySem.Spec PyProof.Rows
section
variable {X:Cx}
def zac (i:Nat):TE:=fun σ H Q=>∃ v,σ[i]?=some (some v)∧Q v H
def tC (v:V):TE:=fun _ H Q=>Q v H
theorem zm2 {i:Nat} {x:Str} {pos:Pos} (hN:X.N[i]?=some x) (hv:Vis X.env.scope x) (hd:(x == ("__debug__":Str))=false:=by decide) (hcd:(x == ("__classdict__":Str))=false:=by decide):PE X (.Name x pos) (zac i):=by
 intro pins s σ H Q I h
 obtain ⟨v,e,h⟩:=h
 obtain ⟨m,hn,hl⟩:=I.loc
 obtain ⟨u,r,l⟩:=hl i x v hN e hv
 have fin:EP X pins σ Q u s:=⟨v,H,I,r,h⟩
 rcases l with ⟨hk,hm⟩ | ⟨hk,c,hc,hcell⟩
 ·exact wpAny_Name (wpAny_loadName_local I.ok.kind hk hn hm fin) hd
 ·rcases hk with hk | hk
  ·exact wpAny_Name (wpAny_loadName_cell I.ok.kind hk hc hcell fin) hd
  ·exact wpAny_Name (wpAny_loadName_free I.ok.kind hk hc hcell fin hcd) hd
theorem zak {i j pos}:PE X (.Constant (.int i) j pos) (tC (.int i)):=fun _ _ _ H _ I h=>wpAny_Constant_int ⟨.int i,H,I.tok _,⟨_,rfl⟩,h⟩
theorem zgU {b j pos}:PE X (.Constant (.bool b) j pos) (tC (.bl b)):=fun _ _ _ H _ I h=>Constant_bool ⟨.bl b,H,I,rfl,h⟩
theorem zev {x j pos}:PE X (.Constant (.str x) j pos) (tC (.str x)):=fun _ _ _ H _ I h=>Calls.Constant_str ⟨.str x,H,I.tok _,⟨_,rfl⟩,h⟩
def Gl (X:Cx) (x:Str):Prop:=X.env.kindOf x=some .globalImplicit
theorem ziL {E:Value→Shared→Prop} {pins:List (Addr×Obj)} {s:Shared} {σ:St} {H:Hp} {x:Str} {u:Value} {pos:Pos} {Q:Value→Shared→Prop} (I:Inv X pins σ H s) (hg:Gl X x) (hm:X.mg x=some u) (h:Q u s)
  (hd:(x == ("__debug__":Str))=false:=by decide):wpAny (model X.prog X.w) X.A (eval (.Name x pos) X.env) Q E s :=
 Calls.Name_function_global I.ok.kind hg (Calls.loadGlobal_global (by rw [I.ok.glob];exact I.mod.glob.keeps I.bk) hm h) hd
theorem zdY {E:Value→Shared→Prop} {pins:List (Addr×Obj)} {s:Shared} {σ:St} {H:Hp} {x:Str} {u:Value} {pos:Pos} {Q:Value→Shared→Prop} (I:Inv X pins σ H s) (hg:Gl X x) (hm:X.mg x=none) (hv:bootBuiltins x=some u) (h:Q u s)
  (hn:x≠"__name__":=by decide) (hd:(x == ("__debug__":Str))=false:=by decide):wpAny (model X.prog X.w) X.A (eval (.Name x pos) X.env) Q E s:=by
 obtain ⟨mb,h1,h2⟩:=I.mod.blt
 exact Calls.Name_function_global I.ok.kind hg (Calls.loadGlobal_builtin (by rw [I.ok.glob];exact I.mod.glob.keeps I.bk) hm (by rw [I.ok.blt];exact h1.keeps I.bk) ((h2 x hn).trans hv) h) hd
theorem zdH {x:Str} {v:V} {u:Value} {pos:Pos} (hg:Gl X x) (hm:X.mg x=some u) (r:za9 v u) (hd:(x == ("__debug__":Str))=false:=by decide):PE X (.Name x pos) (tC v) :=
 fun _ _ _ H _ I h=>ziL I hg hm ⟨v,H,I,r,h⟩ hd
theorem zdI {x:Str} {v:V} {u:Value} {pos:Pos} (hg:Gl X x) (hm:X.mg x=none) (hv:bootBuiltins x=some u) (r:za9 v u) (hn:x≠"__name__":=by decide) (hd:(x == ("__debug__":Str))=false:=by decide):PE X (.Name x pos) (tC v) :=
 fun _ _ _ H _ I h=>zdY I hg hm hv ⟨v,H,I,r,h⟩ hn hd
variable {a b:Expr} {ta tb:TE} {pos:Pos}
def PC (X:Cx) (op:CmpOp) (a b:Expr) (t:TE):Prop :=
 ∀ (pins:List (Addr×Obj)) (s:Shared) (σ:St) (H:Hp) (Q:VK),Inv X pins σ H s→t σ H Q →
  wpAny (model X.prog X.w) X.A (eval a X.env) (fun v s₁=>wpAny (model X.prog X.w) X.A (eval b X.env) (fun u s₂=>wpAny (model X.prog X.w) X.A (compareOp op v u) (EP X pins σ Q) X.xe s₂) X.xe s₁) X.xe s
def tB (t:TE):TT:=fun σ H Q=>t σ H fun x H1=>∃ c,x=.bl c∧Q c H1
theorem ziv {op:CmpOp} {t:TE} (h:PC X op a b t) (h1:behindInMarks op b=false:=by first | exact nobehind _ (by decide) (by decide) | rfl):PT X (.Compare a [op] [b] pos) (tB t):=by
 intro pins s σ H Q I hw
 refine wpAny_isTrue_Compare1 (thn (h pins s σ H _ I hw) fun v s1 h1=>thn h1 fun u s2 h2=>thn h2 fun c s3 hQ'=>?_) h1
 obtain ⟨x,H1,I1,r1,q1⟩:=hQ'
 obtain ⟨d,rfl,q⟩:=q1
 cases r1
 exact wpAny_truthy_bool ⟨H1,I1,q⟩
theorem zem {e:Expr} {t:TE} (h:PE X e t) (he:∀ whole,isTrue e X.env whole=(do let v ← whole;standAt e.pos;holding [v] (truthy v)):=by intro _;rfl):PT X e (tB t):=by
 intro pins s σ H Q I hw
 refine isTrue_plain (thn (h pins s σ H _ I hw) fun v s1 hQ'=>?_) (he _)
 obtain ⟨x,H1,I1,r1,q1⟩:=hQ'
 obtain ⟨d,rfl,q⟩:=q1
 cases r1
 exact wpAny_truthy_bool ⟨H1,I1,q⟩
variable {tA tB':TT} {zfK:List Expr}
def tOr (t u:TT):TT:=fun σ H Q=>t σ H fun c H1=>if c=true then Q true H1 else u σ H1 Q
def zgx (t:TT):TT:=fun σ H Q=>t σ H fun c H1=>Q (!c) H1
theorem zeW (ha:PT X a tA):PW X (.BoolOp .Or [a] pos) tA:=by
 intro wh pins s σ H Q I h
 refine isTrue_or (thn (ha pins s σ H Q I h) fun c s1 e=>?_)
 cases c with
 | false=>exact isTrue_or_nil e
 | true=>exact e
theorem zeR (ha:PT X a tA) (hb:PW X (.BoolOp .Or (b::zfK) pos) tB'):PW X (.BoolOp .Or (a::b::zfK) pos) (tOr tA tB'):=by
 intro wh pins s σ H Q I h
 refine isTrue_or (thn (ha pins s σ H _ I h) fun c s1 hQ'=>?_)
 obtain ⟨H1,I1,q1⟩:=hQ'
 cases c with
 | true=>exact ⟨H1,I1,q1⟩
 | false=>exact hb wh pins s1 σ H1 Q I1 q1
theorem zeC (ha:PT X a tA):PT X (.UnaryOp .Not a pos) (zgx tA):=by
 intro pins s σ H Q I h
 exact isTrue_not (ha pins s σ H (fun c H1=>Q (!c) H1) I h)
def zej (ta tb:TE):TE:=fun σ H Q=>ta σ H fun x H1=>∃ c,x=.bl c∧if c=true then tb σ H1 Q else Q (.bl false) H1
def zms (ta:TE):TE:=fun σ H Q=>ta σ H fun x H1=>∃ c,x=.bl c∧Q (.bl (!c)) H1
theorem zhv {op} {t:TE} (h:PE X a t):PE X (.BoolOp op [a] pos) t:=fun pins s σ H Q I hw=>BoolOp_one (h pins s σ H Q I hw)
theorem zeY (ha:PE X a ta) (hb:PE X (.BoolOp .And (b::zfK) pos) tb):PE X (.BoolOp .And (a::b::zfK) pos) (zej ta tb):=by
 intro pins s σ H Q I h
 refine BoolOp_and (thn (ha pins s σ H _ I h) fun v s1 hQ'=>?_)
 obtain ⟨x,H1,I1,r1,q1⟩:=hQ'
 obtain ⟨c,rfl,q1⟩:=q1
 cases r1
 refine wpAny_truthy_bool ?_
 cases c with
 | true=>exact hb pins s1 σ H1 Q I1 q1
 | false=>exact ⟨.bl false,H1,I1,rfl,q1⟩
theorem zm3 (ha:PE X a ta):PE X (.UnaryOp .Not a pos) (zms ta):=by
 intro pins s σ H Q I h
 refine UnaryOp_ (thn (ha pins s σ H _ I h) fun v s1 hQ'=>?_)
 obtain ⟨x,H1,I1,r1,q1⟩:=hQ'
 obtain ⟨c,rfl,q1⟩:=q1
 cases r1
 exact not_of (wpAny_truthy_bool ⟨.bl (!c),H1,I1,rfl,q1⟩)
def tIf (t:TT) (ta tb:TE):TE:=fun σ H Q=>t σ H fun c H1=>if c=true then ta σ H1 Q else tb σ H1 Q
theorem zhr {c:Expr} (hc:PT X c tA) (ha:PE X a ta) (hb:PE X b tb):PE X (.IfExp c a b pos) (tIf tA ta tb):=by
 intro pins s σ H Q I h
 refine wpAny_IfExp (thn (hc pins s σ H _ I h) fun d s1 hQ'=>?_)
 obtain ⟨H1,I1,q1⟩:=hQ'
 cases d with
 | true=>exact ha pins s1 σ H1 Q I1 q1
 | false=>exact hb pins s1 σ H1 Q I1 q1
end
end L2
namespace L2
open PySem PySem.Spec PyProof.Rows
def SqL (K:PySem.W.Frag) (H:Hp) (a:Addr) (xs:List V):Prop :=
 Rd H a (.lst xs) ∨
  ∃ (o:Obj) (its:Array Value) (n:Nat),K.lookup a=some o∧o.cls=.type "list"∧o.dict=none∧o.data=.seq its n∧its.size≤sizeLine∧zbr xs its.toList
def SqT (K:PySem.W.Frag) (H:Hp) (a:Addr) (xs:List V):Prop :=
 Rd H a (.tup xs) ∨
  ∃ (o:Obj) (its:Array Value) (n:Nat),K.lookup a=some o∧o.cls=.type "tuple"∧o.data=.seq its n∧its.size≤sizeLine∧zbr xs its.toList
def absV:Value→Option V
 | .none=>some .non
 | .bool b=>some (.bl b)
 | .int i _=>some (.int i)
 | .str x _=>some (.str x)
 | .bytes b _=>some (.byt b)
 | .float b _=>some (.flt b)
 | .ref a=>some (.ref a)
 | .type n=>some (.ty n)
 | _=>none
theorem za9.abs {x:V} {u:Value} (r:za9 x u):absV u=some x:=by
 cases x with
 | non=>cases r;rfl
 | bl _=>cases r;rfl
 | int _=>obtain ⟨t,rfl⟩:=r;rfl
 | str _=>obtain ⟨t,rfl⟩:=r;rfl
 | byt _=>obtain ⟨t,rfl⟩:=r;rfl
 | flt _=>obtain ⟨t,rfl⟩:=r;rfl
 | ref _=>cases r;rfl
 | ty _=>cases r;rfl
theorem za9.inj {x y:V} {u:Value} (r:za9 x u) (q:za9 y u):x=y:=Option.some.inj (r.abs.symm.trans q.abs)
theorem zbr.inj:∀ {xs ys:List V} {us:List Value},zbr xs us→zbr ys us→xs=ys
 | _,_,_,.nil,.nil=>rfl
 | _,_,_,.cons r t,.cons r' t'=>by rw [r.inj r',zbr.inj t t']
section
variable {X:Cx} {pins:List (Addr×Obj)} {σ:St} {H:Hp} {s:Shared} {a:Addr} {xs ys:List V}
theorem SqL.of {K:PySem.W.Frag} (h:H a=some (.lst xs)):SqL K H a xs:=.inl (.inl h)
theorem SqT.of {K:PySem.W.Frag} (h:H a=some (.tup xs)):SqT K H a xs:=.inl (.inl h)
theorem Inv.list (I:Inv X pins σ H s) (h:SqL X.K H a xs):∃ its:List Value,zbr xs its∧PlainL s.heap a its.toArray∧xs.length≤sizeLine:=by
 rcases h with h | ⟨o,its,n,hk,hc,hd,hs,hz,r⟩
 ·obtain ⟨z,its,n,r,e⟩:=h.ok I.hok
  exact ⟨its,r,⟨_,n,e,rfl,rfl,rfl⟩,z⟩
 ·refine ⟨its.toList,r,⟨o,n,I.kIn a o hk,hc,hd,by simpa using hs⟩,?_⟩
  have e:=r.length
  simp only [Array.length_toList] at e
  (first|lia|omega)
theorem Inv.tuple (I:Inv X pins σ H s) (h:SqT X.K H a xs):∃ its:List Value,zbr xs its∧IsTup s.heap a its.toArray∧xs.length≤sizeLine:=by
 rcases h with h | ⟨o,its,n,hk,hc,hs,hz,r⟩
 ·obtain ⟨z,its,r,p⟩:=h.ok I.hok
  exact ⟨its,r,p,z⟩
 ·refine ⟨its.toList,r,⟨o,I.kIn a o hk,hc,n,by simpa using hs⟩,?_⟩
  have e:=r.length
  simp only [Array.length_toList] at e
  (first|lia|omega)
theorem Inv.list_inj (I:Inv X pins σ H s) (h:SqL X.K H a xs) (h':SqL X.K H a ys):xs=ys:=by
 obtain ⟨its,r,⟨o,n,e,_,_,d⟩,_⟩:=I.list h
 obtain ⟨its',r',⟨o',n',e',_,_,d'⟩,_⟩:=I.list h'
 rw [e] at e';cases e'
 rw [d] at d'
 injection d' with d1 _
 have:its=its':=by simpa using congrArg Array.toList d1
 subst this
 exact r.inj r'
theorem Inv.tuple_inj (I:Inv X pins σ H s) (h:SqT X.K H a xs) (h':SqT X.K H a ys):xs=ys:=by
 obtain ⟨its,r,⟨o,e,_,n,d⟩,_⟩:=I.tuple h
 obtain ⟨its',r',⟨o',e',_,n',d'⟩,_⟩:=I.tuple h'
 rw [e] at e';cases e'
 rw [d] at d'
 injection d' with d1 _
 have:its=its':=by simpa using congrArg Array.toList d1
 subst this
 exact r.inj r'
end
abbrev Cx.wish (X:Cx) (E:Value→Shared→Prop):Cx:={ X with xe:=E }
abbrev Cx.nox (X:Cx):Cx:=X.wish fun _ _=>False
theorem Cx.Ok.wish {X:Cx} (ok:X.Ok) (E:Value→Shared→Prop):(X.wish E).Ok :=
 ⟨ok.mod,ok.kind,ok.glob,ok.blt,ok.above,ok.inj,ok.has,ok.cab,ok.hd,ok.frames,ok.stk,ok.exf,ok.bs,ok.bsz,ok.noex,ok.exfs,ok.funs,ok.frf⟩
theorem Cx.Ok.unwish {X:Cx} {E:Value→Shared→Prop} (ok:(X.wish E).Ok):X.Ok :=
 ⟨ok.mod,ok.kind,ok.glob,ok.blt,ok.above,ok.inj,ok.has,ok.cab,ok.hd,ok.frames,ok.stk,ok.exf,ok.bs,ok.bsz,ok.noex,ok.exfs,ok.funs,ok.frf⟩
section
variable {X:Cx} {pins:List (Addr×Obj)} {σ:St} {H:Hp} {s:Shared} {E:Value→Shared→Prop}
theorem Inv.wish (I:Inv X pins σ H s) (E:Value→Shared→Prop):Inv (X.wish E) pins σ H s:=⟨I.ok.wish E,I.os,I.bare,I.base,I.loc,I.cell,I.free,I.freeC,I.pin,I.hok,I.len⟩
theorem Inv.unwish (I:Inv (X.wish E) pins σ H s):Inv X pins σ H s:=⟨I.ok.unwish,I.os,I.bare,I.base,I.loc,I.cell,I.free,I.freeC,I.pin,I.hok,I.len⟩
theorem SP.unwish {D:zbY} {f:Flow} {s':Shared} (h:SP (X.wish E) pins D f s'):SP X pins D f s':=by
 cases f with
 | next=>obtain ⟨σ',H',I,q⟩:=h;exact ⟨σ',H',I.unwish,q⟩
 | brk=>obtain ⟨σ',H',I,q⟩:=h;exact ⟨σ',H',I.unwish,q⟩
 | cont=>obtain ⟨σ',H',I,q⟩:=h;exact ⟨σ',H',I.unwish,q⟩
 | ret u=>obtain ⟨v,σ',H',I,r,q⟩:=h;exact ⟨v,σ',H',I.unwish,r,q⟩
theorem PSs.nox {st:List Stmt} {t:TS} (h:PSs X.nox st t):PSs X st t:=fun pins s σ H D I hw =>
 wpAny_mono (h pins s σ H D (I.wish _) hw) (fun _ _ q=>q.unwish) fun _ _ z=>False.elim z
end
section
variable {X:Cx} {st:Stmt} {zfK:List Stmt} {t u:TS} {e:Expr} {te:TE} {pos:Pos}
def zbp:TS:=fun D σ H=>D.nx σ H
def zaK (t u:TS):TS:=fun D σ H=>t { D with nx:=u D } σ H
theorem zbe:PSs X [] zbp:=fun _ _ σ H _ I h=>wpAny_execs_nil ⟨σ,H,I,h⟩
theorem zae (h1:PS X st t) (h2:PSs X zfK u):PSs X (st::zfK) (zaK t u):=by
 intro pins s σ H D I h
 refine wpAny_execs_cons (thn (h1 pins s σ H { D with nx:=u D } I h) fun f s1 q=>?_)
 cases f with
 | next =>
  obtain ⟨σ',H',I',q⟩:=q
  exact h2 pins s1 σ' H' D I' q
 | ret v=>exact q
 | brk=>exact q
 | cont=>exact q
theorem zai (h1:PS X st t):PSs X [st] t:=by
 intro pins s σ H D I h
 refine wpAny_execs_cons (thn (h1 pins s σ H D I h) fun f s1 q=>?_)
 cases f with
 | next=>exact wpAny_execs_nil q
 | ret v=>exact q
 | brk=>exact q
 | cont=>exact q
theorem Inv.quiet {pins:List (Addr×Obj)} {σ:St} {H:Hp} {s:Shared} (I:Inv X pins σ H s):interactive X.env=false:=by simp [interactive,I.ok.kind]
def zbA (te:TE):TS:=fun D σ H=>te σ H fun _ H1=>D.nx σ H1
theorem zbu (he:PE X e te) (hs:swapsWith e none pos.line X.env=pure false:=by rfl):PS X (.Expr e pos) (zbA te):=by
 intro pins s σ H D I h
 exact wpAny_Expr_any (thn (he pins s σ H _ I h) fun v s1 ⟨x,H1,I1,r1,q1⟩=>⟨σ,H1,I1,q1⟩) I.quiet hs
def zdC (te:TE):TS:=fun D σ H=>te σ H D.rt
theorem zbx (he:PE X e te):PS X (.Return (some e) pos) (zdC te):=by
 intro pins s σ H D I h
 exact wpAny_Return_some (thn (he pins s σ H _ I h) fun v s1 ⟨x,H1,I1,r1,q1⟩=>⟨x,σ,H1,I1,r1,q1⟩)
def zcv (c:TT) (t u:TS):TS:=fun D σ H=>c σ H fun b H1=>if b=true then t D σ H1 else u D σ H1
theorem zcr {c:Expr} {a b:List Stmt} {tc:TT} (hc:PT X c tc) (ha:PSs X a t) (hb:PSs X b u):PS X (.If c a b pos) (zcv tc t u):=by
 intro pins s σ H D I h
 refine wpAny_If (thn (hc pins s σ H _ I h) fun d s1 hQ'=>?_)
 obtain ⟨H1,I1,q1⟩:=hQ'
 cases d with
 | true=>exact ha pins s1 σ H1 D I1 q1
 | false=>exact hb pins s1 σ H1 D I1 q1
def zdA:TS:=fun _ _ _=>False
theorem zdq:PS X st zdA:=fun _ _ _ _ _ _ h=>h.elim
end
abbrev TG:=V→St→Hp→(St→Hp→Prop)→Prop
abbrev TGs:=List V→St→Hp→(St→Hp→Prop)→Prop
def PG (X:Cx) (target:Expr) (t:TG):Prop :=
 ∀ (pins:List (Addr×Obj)) (s:Shared) (σ:St) (H:Hp) (v:V) (u:Value) (Q:St→Hp→Prop),Inv X pins σ H s→za9 v u→t v σ H Q →
  wpAny (model X.prog X.w) X.A (assign target X.env u) (fun _ s'=>∃ σ' H',Inv X pins σ' H' s'∧Q σ' H') X.xe s
def PGs (X:Cx) (ts:List Expr) (t:TGs):Prop :=
 ∀ (pins:List (Addr×Obj)) (s:Shared) (σ:St) (H:Hp) (vs:List V) (us:List Value) (Q:St→Hp→Prop),Inv X pins σ H s→zbr vs us→t vs σ H Q →
  wpAny (model X.prog X.w) X.A (assignInOrder ((assignEach ts X.env).map (·.2)) us) (fun _ s'=>∃ σ' H',Inv X pins σ' H' s'∧Q σ' H') X.xe s
section
variable {X:Cx} {pos:Pos}
def zag (i:Nat):TG:=fun v σ H Q=>Q (σ.set i (some v)) H
theorem zan {i:Nat} {x:Str} (hN:X.N.Nodup) (hi:X.N[i]?=some x) (hx:Loc X.env.scope x) (hf:X.fn x=true∨X.env.scope.names.lookup x=some .local:=by first | exact .inl rfl | exact .inr rfl | assumption):PG X (.Name x pos) (zag i):=by
 intro pins s σ H v u Q I r h
 exact wpAny_assign_Name (zhy I hN hi hx r (fun s' I'=>⟨_,H,I',h⟩) hf)
def zdW:TGs:=fun vs σ H Q=>vs=[]∧Q σ H
def zau (t:TG) (u:TGs):TGs:=fun vs σ H Q=>∃ v r,vs=v::r∧t v σ H fun σ' H'=>u r σ' H' Q
theorem zbF:PGs X [] zdW:=by
 intro pins s σ H vs us Q I r h
 obtain ⟨e,h⟩:=h
 subst e
 cases r
 exact assignInOrder_nil ⟨σ,H,I,h⟩
theorem zao {e:Expr} {es:List Expr} {t:TG} {u:TGs} (h1:PG X e t) (h2:PGs X es u)
  (hs:(assignEach (e::es) X.env).map (·.2)=assign e X.env::(assignEach es X.env).map (·.2):=by rfl):PGs X (e::es) (zau t u):=by
 intro pins s σ H vs us Q I r h
 obtain ⟨v,vr,e1,h⟩:=h
 subst e1
 cases r with
 | cons r rr =>
  rw [hs]
  refine assignInOrder_cons (thn (h1 pins s σ H _ _ _ I r h) fun _ s1 hQ'=>?_)
  obtain ⟨σ1,H1,I1,q1⟩:=hQ'
  exact h2 pins s1 σ1 H1 _ _ Q I1 rr q1
def zd4 (K:PySem.W.Frag) (n:Nat) (t:TGs):TG:=fun v σ H Q=>∃ a xs,v=.ref a∧SqT K H a xs∧xs.length=n∧t xs σ H Q
theorem zce {es:List Expr} {k:Nat} {t:TGs} {n:Nat} (hc:X.calm=true) (h:PGs X es t)
  (hn:(assignEach es X.env).length=n:=by rfl) (hst:(assignEach es X.env).findIdx? (·.1)=none:=by rfl):PG X (.Tuple es k pos) (zd4 X.K n t):=by
 intro pins s σ H v u Q I r hw
 obtain ⟨a,xs,e1,hq,hl,hw⟩:=hw
 subst e1
 cases r
 obtain ⟨its,rv,ht,hz⟩:=I.tuple hq
 refine assign_Tuple_tuple (I.ok.hd hc) ht (by simp [hn,← hl,rv.length]) hst fun h' hx=>?_
 have I1:Inv X pins σ H { s with heap:=h' }:=I.kept (t':=s.toks) fun b o e=>hx b o (Nat.ne_of_lt (Heap.lt_size e)) e
 exact h pins _ σ H xs _ Q I1 (by simpa using rv) hw
def zbm (te:TE) (g:TG):TS:=fun D σ H=>te σ H fun x H1=>g x σ H1 D.nx
theorem zhd {tg e:Expr} {te:TE} {g:TG} (he:PE X e te) (hg:PG X tg g) (hs:swapsWithSole [tg] e pos.line X.env=pure false:=by rfl) (hw:swappedStores [tg] e X.env=pure none:=by rfl)
  (h1:(assignEach [tg] X.env).map (·.2)=[assign tg X.env]:=by rfl):PS X (.Assign [tg] e pos) (zbm te g):=by
 intro pins s σ H D I h
 refine wpAny_Assign_stores (thn (he pins s σ H _ I h) fun v s1 hQ'=>?_) hs hw
 obtain ⟨x,H1,I1,r1,q1⟩:=hQ'
 rw [h1]
 exact thn (hg pins s1 σ H1 x v _ I1 r1 q1) fun _ s2 q=>q
theorem zaD {i:Nat} {x:Str} {e:Expr} {te:TE} {pos':Pos} (hN:X.N.Nodup) (hi:X.N[i]?=some x) (hx:Loc X.env.scope x) (he:PE X e te) (hs:swapsWith e (some (.Name x pos')) pos.line X.env=pure false:=by rfl) (hf:X.fn x=true∨X.env.scope.names.lookup x=some .local:=by first | exact .inl rfl | exact .inr rfl | assumption) :
  PS X (.Assign [.Name x pos'] e pos) (zbm te (zag i)):=by
 intro pins s σ H D I h
 refine wpAny_Assign_Name (thn (he pins s σ H _ I h) fun v s1 hQ'=>?_) hs
 obtain ⟨y,H1,I1,r1,q1⟩:=hQ'
 exact zhy I1 hN hi hx r1 (fun s2 I2=>⟨_,H1,I2,q1⟩) hf
end
section
variable {X:Cx} {pos:Pos}
def ze9 (c:TT) (tb:TS):TS:=fun D σ H=>∃ W:Nat→St→Hp→Prop,(∃ m,W m σ H)∧∀ m σ H,W m σ H →
 c σ H fun b H1=>if b=true then ∃ N:St→Hp→Prop,(∀ σ' H',N σ' H'→∃ m',m'<m∧W m' σ' H')∧tb { D with nx:=N,ct:=N,bk:=D.nx } σ H1 else D.nx σ H1
theorem zfx {c:Expr} {body:List Stmt} {tc:TT} {tb:TS} (hp:PassesOwn (model X.prog X.w) X.A X.env X.xe) (hc:PT X c tc) (hb:PSs X body tb):PS X (.While c body [] pos) (ze9 tc tb):=by
 intro pins s σ H D I h
 obtain ⟨W,⟨m0,w0⟩,turn⟩:=h
 refine wpAny_While (codeAny_whileLoop (fun n s'=>∃ σ' H',Inv X pins σ' H' s'∧W n σ' H') ?_ m0 ⟨σ,H,I,w0⟩)
 rintro n s1 ⟨σ1,H1,I1,w1⟩
 refine wpAny_passesOwn hp (thn (hc pins s1 σ1 H1 _ I1 (turn n σ1 H1 w1)) fun b s2 hQ'=>?_)
 obtain ⟨H2,I2,q2⟩:=hQ'
 cases b with
 | true =>
  obtain ⟨N,hN,q2⟩:=q2
  rw [if_pos rfl]
  refine wpAny_passesOwn hp (thn (hb pins s2 σ1 H2 _ I2 q2) fun f s3 q3=>?_)
  cases f with
  | next =>
   obtain ⟨σ3,H3,I3,n3⟩:=q3
   obtain ⟨m',hm,w3⟩:=hN σ3 H3 n3
   exact ⟨m',hm,σ3,H3,I3,w3⟩
  | cont =>
   obtain ⟨σ3,H3,I3,n3⟩:=q3
   obtain ⟨m',hm,w3⟩:=hN σ3 H3 n3
   exact ⟨m',hm,σ3,H3,I3,w3⟩
  | brk=>exact q3
  | ret v=>exact q3
 | false =>
  rw [if_neg Bool.false_ne_true]
  exact wpAny_execs_nil ⟨σ1,H2,I2,q2⟩
end
structure It where
 go:Nat→Hp→Prop
 yld:Nat→Hp→V→Hp→Prop
 stop:Nat→Hp→Prop
def zhN (X:Cx) (pins:List (Addr×Obj)) (H:Hp) (b:Addr):Prop :=
 H b=none∧b≠X.env.locals∧b∉X.fs∧(b∈X.ex∨X.s₀.heap.objs.size≤b)∧(∀ x c,X.env.cells.lookup x=some c→c≠b)∧∀ p∈X.pn++pins,p.1≠b
theorem Inv.fpOk {X:Cx} {pins:List (Addr×Obj)} {σ:St} {H H':Hp} {s:Shared} {b:Addr} (I:Inv X pins σ H s) (hb:s.heap.objs.size≤b) (hn:H' b=none):zhN X pins H' b:=by
 refine ⟨hn,Nat.ne_of_gt (Nat.lt_of_lt_of_le I.lt hb),I.nofs hb,.inr (Nat.le_trans I.sz hb),fun x c e z=>?_,fun p hp z=>?_⟩
 ·obtain ⟨v,q⟩:=I.cell x c e
  exact absurd (Nat.lt_of_lt_of_le q.lt (by rw [z];exact hb)) (Nat.lt_irrefl _)
 ·exact absurd (Nat.lt_of_lt_of_le (Heap.lt_size (I.pin p hp).1) (by rw [z];exact hb)) (Nat.lt_irrefl _)
structure zmQ (P:Program) (w:World) (K:PySem.W.Frag) (tg:Expr) (J:It) (fp:List Addr) (it:Addr) (tn:Nat→Heap→Prop):Prop where
 mem:it∈fp
 obj:∀ i h,tn i h→∀ b∈fp,∃ o,h.get? b=some o∧∀ v,o.data≠.cell v
 keep:∀ i h h',tn i h→(∀ b∈fp,∀ o,h.get? b=some o→h'.get? b=some o)→tn i h'
 item:∀ (X:Cx),X.prog=P→X.w=w→X.K=K→X.calm=true→∀ (i:Nat) (pins:List (Addr×Obj)) (s:Shared) (σ:St) (H:Hp) (E:Value→Shared→Prop),Inv X pins σ H s→(∀ b∈fp,zhN X pins H b)→tn i s.heap→J.go i H →
  wpAny (model P w) X.A (pyNext (.ref it)) (fun r s1=>∃ u,r=some u ∧
   wpAny (model P w) X.A (letOwnedTupleGo tg (.ref it) u) (fun _ s2=>∃ x H',Inv X pins σ H' s2∧za9 x u∧J.yld i H x H'∧tn (i+1) s2.heap∧∀ b∈fp,H' b=none) E s1) E s
 done:∀ (X:Cx),X.prog=P→X.w=w→X.K=K→X.calm=true→∀ (i:Nat) (pins:List (Addr×Obj)) (s:Shared) (σ:St) (H:Hp) (E:Value→Shared→Prop),Inv X pins σ H s→(∀ b∈fp,zhN X pins H b)→tn i s.heap→J.stop i H →
  wpAny (model P w) X.A (pyNext (.ref it)) (fun r s1=>r=none∧Inv X pins σ H s1) E s
 self:∀ (A:Around) (i:Nat) (s:Shared) (Q:Value→Shared→Prop) (E:Value→Shared→Prop),tn i s.heap→Q (.ref it) s→wpAny (model P w) A (pyIter (.ref it)) Q E s
abbrev TI:=St→Hp→(It→Hp→Prop)→Prop
def PIE (X:Cx) (pins:List (Addr×Obj)) (σ:St) (tg:Expr) (R:It→Hp→Prop) (itv:Value) (s2:Shared):Prop :=
 ∃ (it:Addr) (fp:List Addr) (tn:Nat→Heap→Prop) (J:It) (H':Hp),itv=.ref it∧Inv X pins σ H' s2∧zmQ X.prog X.w X.K tg J fp it tn∧tn 0 s2.heap∧(∀ b∈fp,zhN X pins H' b)∧R J H'
def PI (X:Cx) (tg iter:Expr) (wi:TI):Prop :=
 ∀ (pins:List (Addr×Obj)) (s:Shared) (σ:St) (H:Hp) (R:It→Hp→Prop),Inv X pins σ H s→wi σ H R →
  wpAny (model X.prog X.w) X.A (eval iter X.env) (fun v s1=>wpAny (model X.prog X.w) X.A (pyIter v) (PIE X pins σ tg R) X.xe s1) X.xe s
theorem zmo {M:Model} {A:Around} {E:Value→Shared→Prop} {s:Shared} {tg:Expr} {it:Addr} {u:Value} {o:Obj} {n:String} {vs:Array Value} {Q:Unit→Shared→Prop} (ho:s.heap.get? it=some o) (hc:o.cls=.type n) (hd:o.data=.fields vs)
  (hn:["enumerate","zip","dict_itemiterator","dict_reverseitemiterator","odict_iterator","itertools.zip_longest","itertools.pairwise"].contains n=false) (hQ:Q () s):wpAny M A (letOwnedTupleGo tg (.ref it) u) Q E s:=by
 unfold letOwnedTupleGo
 cases tg <;> first
  | exact wpAny_pure hQ
  | (cases u <;> first
    | exact wpAny_pure hQ
    | (refine wpAny_bind (wpAny_load ho ?_)
       rw [hc,hd]
       show wpAny M A (if (["enumerate","zip","dict_itemiterator","dict_reverseitemiterator","odict_iterator","itertools.zip_longest","itertools.pairwise"].contains n&&vs[0]? == some (rawInt _))=true then _ else _) Q E s
       rw [if_neg (by intro h;rw [hn,Bool.false_and] at h;cases h)]
       exact wpAny_pure hQ))
def Itl (K:PySem.W.Frag) (a:Addr):It :=
 ⟨fun i H=>∃ xs x,SqL K H a xs∧xs[i]?=some x,fun i H x H'=>H'=H∧∀ xs,SqL K H a xs→xs[i]?=some x,fun i H=>∃ xs,SqL K H a xs∧xs.length≤i⟩
def Itt (K:PySem.W.Frag) (a:Addr):It :=
 ⟨fun i H=>∃ xs x,SqT K H a xs∧xs[i]?=some x,fun i H x H'=>H'=H∧∀ xs,SqT K H a xs→xs[i]?=some x,fun i H=>∃ xs,SqT K H a xs∧xs.length≤i⟩
def Itr (lo:Int) (n:Nat):It:=⟨fun i _=>i<n,fun i H x H'=>H'=H∧x=.int (lo+i),fun i _=>n≤i⟩
theorem zf1 {P:Program} {w:World} {K:PySem.W.Frag} {tg:Expr} (a it:Addr):zmQ P w K tg (Itl K a) [it] it (fun i h=>h.IsListIter it a i) where
 mem:=by simp
 obj:=fun i h st b hb=>by
  have e:b=it:=by simpa using hb
  subst e
  obtain ⟨o,e,c,d⟩:=st
  exact ⟨o,e,fun v z=>by rw [d] at z;cases z⟩
 keep:=fun i h h' st k=>st.at fun o e=>k it (by simp) o e
 item:=by
  intro X hP hw hK hc i pins s σ H E I hf st hg
  subst hP hw hK
  obtain ⟨xs,x,hq,hx⟩:=hg
  obtain ⟨its,rv,p,hz⟩:=I.list hq
  obtain ⟨u,hu,ru⟩:=rv.get hx
  obtain ⟨f0,f1,f2,f3,f4,f5⟩:=hf it (by simp)
  refine wpAny_pyNext_list_item st p.isList (x:=u) (by simpa using hu) fun h' st' sb=>?_
  have I1:Inv X pins σ H { s with heap:=h' }:=I.turned (t':=s.toks) (fun b o hb e=>(sb.2 b hb).trans e) f0 f1 f3 f4 f5
  obtain ⟨o,e,c,d⟩:=id st'
  exact ⟨u,rfl,zmo (s:={ s with heap:=h' }) e c d (by decide) ⟨x,H,I1,ru,⟨rfl,fun ys hy=>by rw [I.list_inj hy hq];exact hx⟩,st',fun b hb=>(hf b hb).1⟩⟩
 done:=by
  intro X hP hw hK hc i pins s σ H E I hf st hg
  subst hP hw hK
  obtain ⟨xs,hq,hx⟩:=hg
  obtain ⟨its,rv,p,hz⟩:=I.list hq
  obtain ⟨f0,f1,f2,f3,f4,f5⟩:=hf it (by simp)
  have hl:=rv.length
  exact wpAny_pyNext_list_end (I.ok.hd hc) st p.isList (by simp;(first|lia|omega)) fun h' eb=>⟨rfl,I.turned (t':=s.toks) (fun b o hb e=>eb b o hb e) f0 f1 f3 f4 f5⟩
 self:=fun _ _ _ _ _ st h=>wpAny_pyIter_listiter st h
theorem zh4 {P:Program} {w:World} {K:PySem.W.Frag} {tg:Expr} (a it:Addr):zmQ P w K tg (Itt K a) [it] it (fun i h=>h.IsTupleIter it a i) where
 mem:=by simp
 obj:=fun i h st b hb=>by
  have e:b=it:=by simpa using hb
  subst e
  obtain ⟨o,e,c,d⟩:=st
  exact ⟨o,e,fun v z=>by rw [d] at z;cases z⟩
 keep:=fun i h h' st k=>st.at fun o e=>k it (by simp) o e
 item:=by
  intro X hP hw hK hc i pins s σ H E I hf st hg
  subst hP hw hK
  obtain ⟨xs,x,hq,hx⟩:=hg
  obtain ⟨its,rv,p,hz⟩:=I.tuple hq
  obtain ⟨u,hu,ru⟩:=rv.get hx
  obtain ⟨f0,f1,f2,f3,f4,f5⟩:=hf it (by simp)
  refine wpAny_pyNext_tuple_item st (show s.heap.IsTuple a its.toArray from p) (x:=u) (by simpa using hu) fun h' st' sb=>?_
  have I1:Inv X pins σ H { s with heap:=h' }:=I.turned (t':=s.toks) (fun b o hb e=>(sb.2 b hb).trans e) f0 f1 f3 f4 f5
  obtain ⟨o,e,c,d⟩:=id st'
  exact ⟨u,rfl,zmo (s:={ s with heap:=h' }) e c d (by decide) ⟨x,H,I1,ru,⟨rfl,fun ys hy=>by rw [I.tuple_inj hy hq];exact hx⟩,st',fun b hb=>(hf b hb).1⟩⟩
 done:=by
  intro X hP hw hK hc i pins s σ H E I hf st hg
  subst hP hw hK
  obtain ⟨xs,hq,hx⟩:=hg
  obtain ⟨its,rv,p,hz⟩:=I.tuple hq
  obtain ⟨f0,f1,f2,f3,f4,f5⟩:=hf it (by simp)
  have hl:=rv.length
  exact wpAny_pyNext_tuple_end (I.ok.hd hc) st (show s.heap.IsTuple a its.toArray from p) (by simp;(first|lia|omega)) fun h' eb=>⟨rfl,I.turned (t':=s.toks) (fun b o hb e=>eb b o hb e) f0 f1 f3 f4 f5⟩
 self:=fun _ _ _ _ _ st h=>wpAny_pyIter_tupleiter st h
theorem zh2 {P:Program} {w:World} {K:PySem.W.Frag} {tg:Expr} (it:Addr) (lo:Int) (n:Nat):zmQ P w K tg (Itr lo n) [it] it (fun i h=>IsRangeIter h it (lo+(i:Nat)*1) ((n:Int) - (i:Nat)) 1) where
 mem:=by simp
 obj:=fun i h st b hb=>by
  have e:b=it:=by simpa using hb
  subst e
  exact ⟨_,st,fun v z=>by
   have z':Data.fields _=Data.cell v:=z
   cases z'⟩
 keep:=fun i h h' st k=>k it (by simp) _ st
 item:=by
  intro X hP hw hK hc i pins s σ H E I hf st hg
  subst hP hw hK
  obtain ⟨f0,f1,f2,f3,f4,f5⟩:=hf it (by simp)
  have W:=Walks.range (prog:=X.prog) (w:=X.w) (I.ok.hd hc) it lo 1 n
  refine W.item i s _ _ hg st fun v h' tk hv st' kk=>?_
  obtain ⟨t,rfl⟩:=hv
  have I1:Inv X pins σ H { s with heap:=h',toks:=tk }:=I.turned (fun b o hb e=>kk b o (by simpa using hb) e) f0 f1 f3 f4 f5
  refine ⟨_,rfl,zmo (s:={ s with heap:=h',toks:=tk }) (n:="range_iterator") st' rfl rfl (by decide) ⟨.int (lo+i),H,I1,⟨t,?_⟩,⟨rfl,rfl⟩,st',fun b hb=>(hf b hb).1⟩⟩
  rw [Int.mul_one]
 done:=by
  intro X hP hw hK hc i pins s σ H E I hf st hg
  subst hP hw hK
  obtain ⟨f0,f1,f2,f3,f4,f5⟩:=hf it (by simp)
  exact wpAny_pyNext_range_end (I.ok.hd hc) st (by have:n≤i:=hg;(first|lia|omega)) fun h' eb=>⟨rfl,I.turned (t':=s.toks) (fun b o hb e=>eb b o hb e) f0 f1 f3 f4 f5⟩
 self:=fun _ _ _ _ _ st h=>wpAny_pyIter_rangeiter st h
end L2
namespace L2
open PySem PySem.Spec PyProof.Rows
section
variable {X:Cx} {tg:Expr}
def zcd (K:PySem.W.Frag) (tl:TE):TI:=fun σ H R=>tl σ H fun x H1=>∃ a,x=.ref a∧(∃ xs,SqL K H1 a xs)∧R (Itl K a) H1
theorem zb8 {l:Expr} {tl:TE} (hl:PE X l tl):PI X tg l (zcd X.K tl):=by
 intro pins s σ H R I h
 refine thn (hl pins s σ H _ I h) fun v s1 hQ'=>?_
 obtain ⟨x,H1,I1,r1,q1⟩:=hQ'
 obtain ⟨a,e,⟨xs,hq⟩,q⟩:=q1
 subst e
 cases r1
 obtain ⟨its,rv,p,hz⟩:=I1.list hq
 refine wpAny_pyIter_list p.isList ?_
 refine ⟨s1.heap.objs.size,[s1.heap.objs.size],_,_,H1,rfl,I1.kept (t':=s1.toks) fun b o e=>Heap.get?_push_of_some _ e,zf1 a _,⟨_,Heap.get?_push_size _ rfl,rfl,rfl⟩,fun b hb=>?_,q⟩
 have e:b=s1.heap.objs.size:=by simpa using hb
 subst e
 exact I1.fpOk (Nat.le_refl _) (I1.hok.fresh (Nat.le_refl _))
theorem zg8 {pins:List (Addr×Obj)} {σ:St} {H:Hp} {s:Shared} {R:It→Hp→Prop} {E:Value→Shared→Prop} {lo hi:Int} {t u v:Tok} {tk:Nat} (I:Inv X pins σ H s) (h1:-(2 ^ 62)≤lo) (h2:lo<2 ^ 62) (h3:-(2 ^ 62)≤hi) (h4:hi<2 ^ 62)
  (q:R (Itr lo (hi - lo).toNat) H):wpAny (model X.prog X.w) X.A (pyIter (.ref s.heap.objs.size)) (PIE X pins σ tg R) E { s with heap:=s.heap.push { cls:=.type "range",data:=.fields #[.int lo t,.int hi u,.int 1 v] },toks:=tk }:=by
 refine wpAny_pyIter_range (IsRange.new ..) (small_one h1 h2 h3 h4) ?_
 have I1:Inv X pins σ H { s with heap:=s.heap.push { cls:=.type "range",data:=.fields #[.int lo t,.int hi u,.int 1 v] },toks:=tk }:=I.kept fun b o e=>Heap.get?_push_of_some _ e
 refine ⟨(s.heap.push { cls:=.type "range",data:=.fields #[.int lo t,.int hi u,.int 1 v] }).objs.size,[(s.heap.push { cls:=.type "range",data:=.fields #[.int lo t,.int hi u,.int 1 v] }).objs.size],_,_,H,rfl,
  I1.kept (t':=tk) fun b o e=>Heap.get?_push_of_some _ e,zh2 _ lo (hi - lo).toNat,?_,fun b hb=>?_,q⟩
 ·have e1:lo+((0:Nat):Int)*1=lo:=by simp
  have e2:(((hi - lo).toNat:Nat):Int) - ((0:Nat):Int)=Builtin.Range.rangeSize lo hi 1:=by rw [rangeSize_one];split <;> (first|lia|omega)
  show IsRangeIter _ _ (lo+((0:Nat):Int)*1) ((((hi - lo).toNat:Nat):Int) - ((0:Nat):Int)) 1
  rw [e1,e2]
  exact Heap.get?_push_size _ rfl
 ·have e:b=(s.heap.push { cls:=.type "range",data:=.fields #[.int lo t,.int hi u,.int 1 v] }).objs.size:=by simpa using hb
  subst e
  exact I1.fpOk (Nat.le_refl _) (I1.hok.fresh (Nat.le_refl _))
def zg4 (ta:TA):TI:=fun σ H R=>ta σ H fun vs H1=>∃ j:Int,vs=[.int j]∧-(2 ^ 62)≤j∧j<2 ^ 62∧R (Itr 0 j.toNat) H1
def zjP (ta:TA):TI:=fun σ H R=>ta σ H fun vs H1=>∃ i j:Int,vs=[.int i,.int j]∧(-(2 ^ 62)≤i∧i<2 ^ 62∧-(2 ^ 62)≤j∧j<2 ^ 62)∧R (Itr i (j - i).toNat) H1
theorem zeH {a:Expr} {ta:TA} {p pos:Pos} (hg:Gl X "range") (hm:X.mg "range"=none) (ha:PA X [a] ta) (hs:starEach [a] X.env=[(false,eval a X.env)]:=by rfl):PI X tg (.Call (.Name "range" p) [a] [] pos) (zg4 ta):=by
 intro pins s σ H R I h
 refine Call_ (zdY I hg hm boot_range (PyProof.Rows.callWith_type1 (thn (ha pos pins s σ H _ I h) fun us s1 hQ'=>?_) hs rfl))
 obtain ⟨vs,H1,I1,r1,q1⟩:=hQ'
 obtain ⟨j,e,q1,q2,q⟩:=q1
 subst e
 cases r1 with
 | cons r rr =>
  cases rr
  obtain ⟨t,rfl⟩:=r
  exact call_range_1 (zg8 I1 (by (first|lia|omega)) (by (first|lia|omega)) q1 q2 (by simpa using q))
theorem zfL {a b:Expr} {ta:TA} {p pos:Pos} (hg:Gl X "range") (hm:X.mg "range"=none) (ha:PA X [a,b] ta) (hs:starEach [a,b] X.env=[(false,eval a X.env),(false,eval b X.env)]:=by rfl) (hs2:starEach [b] X.env=[(false,eval b X.env)]:=by rfl) :
  PI X tg (.Call (.Name "range" p) [a,b] [] pos) (zjP ta):=by
 intro pins s σ H R I h
 refine Call_ (zdY I hg hm boot_range (PyProof.Rows.callWith_type1 (thn (ha pos pins s σ H _ I h) fun us s1 hQ'=>?_) (by rw [hs,hs2]) (by rw [hs2];rfl)))
 obtain ⟨vs,H1,I1,r1,q1⟩:=hQ'
 obtain ⟨i,j,e,⟨q1,q2,q3,q4⟩,q⟩:=q1
 subst e
 cases r1 with
 | cons r rr =>
  cases rr with
  | cons r' rr =>
   cases rr
   obtain ⟨t,rfl⟩:=r
   obtain ⟨t',rfl⟩:=r'
   exact call_range_2 (zg8 I1 q1 q2 q3 q4 q)
def zdB (wi:TI) (g:TG) (tb:TS):TS:=fun D σ H=>wi σ H fun J H1=>∃ W:Nat→Nat→St→Hp→Prop,(∃ m,W 0 m σ H1)∧∀ i m σ H,W i m σ H →
 (J.stop i H∧D.nx σ H)∨(J.go i H∧∃ N:St→Hp→Prop,(∀ σ' H',N σ' H'→∃ m',m'<m∧W (i+1) m' σ' H')∧∀ x H',J.yld i H x H'→g x σ H' fun σ2 H2=>tb { D with nx:=N,ct:=N,bk:=D.nx } σ2 H2)
def zf9 (fp:List Addr) (h:Heap):List (Addr×Obj):=fp.filterMap fun b=>(h.get? b).map fun o=>(b,o)
theorem zcR {fp:List Addr} {h:Heap} {b:Addr} {o:Obj} (hb:b∈fp) (e:h.get? b=some o):(b,o)∈zf9 fp h:=List.mem_filterMap.mpr ⟨b,hb,by rw [e];rfl⟩
theorem zjC {fp:List Addr} {h:Heap} {p:Addr×Obj} (hp:p∈zf9 fp h):p.1∈fp∧h.get? p.1=some p.2:=by
 obtain ⟨b,hb,e⟩:=List.mem_filterMap.mp hp
 cases q:h.get? b with
 | none=>rw [q] at e;cases e
 | some o =>
  rw [q] at e
  have e':(b,o)=p:=Option.some.inj e
  subst e'
  exact ⟨hb,q⟩
theorem Inv.pinned {pins:List (Addr×Obj)} {σ:St} {H:Hp} {s:Shared} {fp:List Addr} (I:Inv X pins σ H s) (hf:∀ b∈fp,zhN X pins H b) (ho:∀ b∈fp,∃ o,s.heap.get? b=some o∧∀ v,o.data≠.cell v):Inv X (pins++zf9 fp s.heap) σ H s :=
 I.pins_of fun p hp=>(List.mem_append.mp hp).elim (fun z=>I.pin p (List.mem_append_right _ z)) fun z=>by
  obtain ⟨hb,e⟩:=zjC z
  obtain ⟨f0,f1,f2,_⟩:=hf p.1 hb
  obtain ⟨o,e',d⟩:=ho p.1 hb
  rw [e] at e';cases e'
  exact ⟨e,f0,f1,f2,d⟩
theorem Inv.unpinned {pins pl:List (Addr×Obj)} {σ:St} {H:Hp} {s:Shared} (I:Inv X (pins++pl) σ H s):Inv X pins σ H s:=I.pins_of fun p hp=>I.pin p (List.mem_append_right _ (List.mem_append_left _ hp))
theorem zbU {iter:Expr} {body:List Stmt} {wi:TI} {g:TG} {tb:TS} {pos:Pos} (hp:PassesOwn (model X.prog X.w) X.A X.env X.xe) (hc:X.calm=true) (hi:PI X tg iter wi) (hg:PG X tg g) (hb:PSs X body tb)
  (hs:∀ x,foldedSetIterable iter X.env x=pure x:=by intro _;rfl):PS X (.For tg iter body [] pos) (zdB wi g tb):=by
 intro pins s σ H D I h
 refine wpAny_For (thn (hi pins s σ H _ I h) fun v s1 h1=>thn h1 fun itv s2 h2=>?_) hs
 obtain ⟨it,fp,tn,J,H2,e,I2,T,st2,f2,W,⟨m0,w0⟩,turn⟩:=h2
 subst e
 have stat:∀ {H':Hp},(∀ b∈fp,H' b=none)→∀ b∈fp,zhN X pins H' b:=fun hn b hb=>⟨hn b hb,(f2 b hb).2⟩
 refine codeAny_forLoop_any (fun n s'=>∃ i σ' H',Inv X pins σ' H' s'∧tn i s'.heap∧(∀ b∈fp,H' b=none)∧W i n σ' H') ?_ m0 ⟨0,σ,H2,I2,st2,fun b hb=>(f2 b hb).1,w0⟩
 rintro n s3 ⟨i,σ3,H3,I3,st3,fr3,w3⟩
 rcases turn i n σ3 H3 w3 with ⟨stop,qn⟩ | ⟨go,N,hN,step⟩
 ·refine wpAny_passesOwn hp (thn (T.done X rfl rfl rfl hc i pins s3 σ3 H3 X.xe I3 (stat fr3) st3 stop) fun r s4 hQ'=>?_)
  obtain ⟨hr,I4⟩:=hQ'
  subst hr
  exact wpAny_execs_nil ⟨σ3,H3,I4,qn⟩
 ·refine wpAny_passesOwn hp (thn (T.item X rfl rfl rfl hc i pins s3 σ3 H3 X.xe I3 (stat fr3) st3 go) fun r s4 hQ'=>?_)
  obtain ⟨u,hr,h4⟩:=hQ'
  subst hr
  refine wpAny_passesOwn hp (thn h4 fun _ s5 hQ'=>?_)
  obtain ⟨x,H5,I5,r5,y5,st5,fr5⟩:=hQ'
  have I5':=I5.pinned (stat fr5) (T.obj _ _ st5)
  refine wpAny_passesOwn hp (thn (hg _ s5 σ3 H5 x u _ I5' r5 (step x H5 y5)) fun _ s6 hQ'=>?_)
  obtain ⟨σ6,H6,I6,q6⟩:=hQ'
  refine wpAny_passesOwn hp (thn (hb _ s6 σ6 H6 _ I6 q6) fun f s7 q7=>?_)
  have again:∀ {σ7:St} {H7:Hp},Inv X (pins++zf9 fp s5.heap) σ7 H7 s7→N σ7 H7→∃ m,m<n∧∃ i σ' H',Inv X pins σ' H' s7∧tn i s7.heap∧(∀ b∈fp,H' b=none)∧W i m σ' H':=fun {σ7 H7} I7 n7=>by
   obtain ⟨m',hm,w7⟩:=hN σ7 H7 n7
   refine ⟨m',hm,i+1,σ7,H7,I7.unpinned,T.keep _ _ _ st5 fun b hb o e=>(I7.pin (b,o) (List.mem_append_right _ (List.mem_append_right _ (zcR hb e)))).1,fun b hb=>?_,w7⟩
   obtain ⟨o,e,d⟩:=T.obj _ _ st5 b hb
   exact (I7.pin (b,o) (List.mem_append_right _ (List.mem_append_right _ (zcR hb e)))).2.1
  cases f with
  | next=>obtain ⟨σ7,H7,I7,n7⟩:=q7;exact again I7 n7
  | cont=>obtain ⟨σ7,H7,I7,n7⟩:=q7;exact again I7 n7
  | brk=>obtain ⟨σ7,H7,I7,q7⟩:=q7;exact ⟨σ7,H7,I7.unpinned,q7⟩
  | ret v=>obtain ⟨x7,σ7,H7,I7,r7,q7⟩:=q7;exact ⟨x7,σ7,H7,I7.unpinned,r7,q7⟩
end
theorem zkW {K:PySem.W.Frag} {a:Addr} {xs:List V} {g:TG} {tb:TS} {D:zbY} {σ:St} {H:Hp} (Pv:Nat→St→Hp→Prop) (h0:Pv 0 σ H) (hl:∀ i σ H,i≤xs.length→Pv i σ H→SqL K H a xs)
  (hs:∀ i x σ H,xs[i]?=some x→Pv i σ H→g x σ H fun σ2 H2=>tb { D with nx:=Pv (i+1),ct:=Pv (i+1),bk:=D.nx } σ2 H2) (hd:∀ σ H,Pv xs.length σ H→D.nx σ H) :
  ∃ W:Nat→Nat→St→Hp→Prop,(∃ m,W 0 m σ H)∧∀ i m σ H,W i m σ H →
   ((Itl K a).stop i H∧D.nx σ H)∨((Itl K a).go i H∧∃ N:St→Hp→Prop,(∀ σ' H',N σ' H'→∃ m',m'<m∧W (i+1) m' σ' H')∧∀ x H',(Itl K a).yld i H x H'→g x σ H' fun σ2 H2=>tb { D with nx:=N,ct:=N,bk:=D.nx } σ2 H2):=by
 refine ⟨fun i m σ H=>m=xs.length - i∧i≤xs.length∧Pv i σ H,⟨xs.length,by simp,Nat.zero_le _,h0⟩,?_⟩
 rintro i m σ H ⟨rfl,hi,p⟩
 have q:=hl i σ H hi p
 by_cases hlt:i<xs.length
 ·refine .inr ⟨⟨xs,xs[i],q,by simp [hlt]⟩,Pv (i+1),fun σ' H' p'=>⟨xs.length - (i+1),by (first|lia|omega),rfl,hlt,p'⟩,fun x H' y=>?_⟩
  obtain ⟨e,y⟩:=y
  subst e
  exact hs i x σ _ (y xs q) p
 ·have e:i=xs.length:=by (first|lia|omega)
  subst e
  exact .inl ⟨⟨xs,q,Nat.le_refl _⟩,hd σ H p⟩
theorem zmy {K:PySem.W.Frag} {a:Addr} {xs:List V} {g:TG} {tb:TS} {D:zbY} {σ:St} {H:Hp} (Pv:Nat→St→Hp→Prop) (h0:Pv 0 σ H) (hl:∀ i σ H,i≤xs.length→Pv i σ H→SqT K H a xs)
  (hs:∀ i x σ H,xs[i]?=some x→Pv i σ H→g x σ H fun σ2 H2=>tb { D with nx:=Pv (i+1),ct:=Pv (i+1),bk:=D.nx } σ2 H2) (hd:∀ σ H,Pv xs.length σ H→D.nx σ H) :
  ∃ W:Nat→Nat→St→Hp→Prop,(∃ m,W 0 m σ H)∧∀ i m σ H,W i m σ H →
   ((Itt K a).stop i H∧D.nx σ H)∨((Itt K a).go i H∧∃ N:St→Hp→Prop,(∀ σ' H',N σ' H'→∃ m',m'<m∧W (i+1) m' σ' H')∧∀ x H',(Itt K a).yld i H x H'→g x σ H' fun σ2 H2=>tb { D with nx:=N,ct:=N,bk:=D.nx } σ2 H2):=by
 refine ⟨fun i m σ H=>m=xs.length - i∧i≤xs.length∧Pv i σ H,⟨xs.length,by simp,Nat.zero_le _,h0⟩,?_⟩
 rintro i m σ H ⟨rfl,hi,p⟩
 have q:=hl i σ H hi p
 by_cases hlt:i<xs.length
 ·refine .inr ⟨⟨xs,xs[i],q,by simp [hlt]⟩,Pv (i+1),fun σ' H' p'=>⟨xs.length - (i+1),by (first|lia|omega),rfl,hlt,p'⟩,fun x H' y=>?_⟩
  obtain ⟨e,y⟩:=y
  subst e
  exact hs i x σ _ (y xs q) p
 ·have e:i=xs.length:=by (first|lia|omega)
  subst e
  exact .inl ⟨⟨xs,q,Nat.le_refl _⟩,hd σ H p⟩
theorem zi4 {lo:Int} {n:Nat} {g:TG} {tb:TS} {D:zbY} {σ:St} {H:Hp} (Pv:Nat→St→Hp→Prop) (h0:Pv 0 σ H)
  (hs:∀ i σ H,i<n→Pv i σ H→g (.int (lo+i)) σ H fun σ2 H2=>tb { D with nx:=Pv (i+1),ct:=Pv (i+1),bk:=D.nx } σ2 H2) (hd:∀ σ H,Pv n σ H→D.nx σ H) :
  ∃ W:Nat→Nat→St→Hp→Prop,(∃ m,W 0 m σ H)∧∀ i m σ H,W i m σ H →
   ((Itr lo n).stop i H∧D.nx σ H)∨((Itr lo n).go i H∧∃ N:St→Hp→Prop,(∀ σ' H',N σ' H'→∃ m',m'<m∧W (i+1) m' σ' H')∧∀ x H',(Itr lo n).yld i H x H'→g x σ H' fun σ2 H2=>tb { D with nx:=N,ct:=N,bk:=D.nx } σ2 H2):=by
 refine ⟨fun i m σ H=>m=n - i∧i≤n∧Pv i σ H,⟨n,by simp,Nat.zero_le _,h0⟩,?_⟩
 rintro i m σ H ⟨rfl,hi,p⟩
 by_cases hlt:i<n
 ·refine .inr ⟨hlt,Pv (i+1),fun σ' H' p'=>⟨n - (i+1),by (first|lia|omega),rfl,hlt,p'⟩,fun x H' y=>?_⟩
  obtain ⟨e,y⟩:=y
  subst e y
  exact hs i σ _ hlt p
 ·have e:i=n:=by (first|lia|omega)
  subst e
  exact .inl ⟨Nat.le_refl _,hd σ H p⟩
end L2
namespace L2
open PySem PySem.Spec PyProof.Rows
abbrev R2:=V→V→Hp→VK→Prop
def OpR (X:Cx) (f:Value→Value→Sem Value) (r:R2):Prop :=
 ∀ (pins:List (Addr×Obj)) (s:Shared) (σ:St) (H:Hp) (x y:V) (v u:Value) (Q:VK),Inv X pins σ H s→za9 x v→za9 y u→r x y H Q →
  wpAny (model X.prog X.w) X.A (f v u) (EP X pins σ Q) X.xe s
def zdv (X:Cx) (f:Value) (r:List V→Hp→VK→Prop):Prop :=
 ∀ (pins:List (Addr×Obj)) (s:Shared) (σ:St) (H:Hp) (xs:List V) (us:List Value) (Q:VK),Inv X pins σ H s→zbr xs us→r xs H Q →
  wpAny (model X.prog X.w) X.A (call f us) (EP X pins σ Q) X.xe s
def TruR (X:Cx) (r:V→Hp→(Bool→Hp→Prop)→Prop):Prop :=
 ∀ (pins:List (Addr×Obj)) (s:Shared) (σ:St) (H:Hp) (x:V) (v:Value) (Q:Bool→Hp→Prop),Inv X pins σ H s→za9 x v→r x H Q →
  wpAny (model X.prog X.w) X.A (truthy v) (TP X pins σ Q) X.xe s
def tOp (r:R2) (ta tb:TE):TE:=fun σ H Q=>ta σ H fun x H1=>tb σ H1 fun y H2=>r x y H2 Q
def rI (C:Int→Int→Prop) (g:Int→Int→V):R2:=fun x y H Q=>∃ i j,x=.int i∧y=.int j∧C i j∧Q (g i j) H
def rI0 (g:Int→Int→V):R2:=fun x y H Q=>∃ i j,x=.int i∧y=.int j∧Q (g i j) H
section
variable {X:Cx} {a b c:Expr} {ta tb tc:TE} {pos:Pos}
theorem binT (ha:PE X a ta) (hb:PE X b tb) {pins:List (Addr×Obj)} {s:Shared} {σ:St} {H:Hp} {R:V→V→Hp→Prop} (I:Inv X pins σ H s)
  (h:ta σ H fun x H1=>tb σ H1 fun y H2=>R x y H2) {Q:Value→Shared→Prop} {f:Value→Value→Sem Value}
  (hf:∀ v u s2 x y H2,Inv X pins σ H2 s2→za9 x v→za9 y u→R x y H2→wpAny (model X.prog X.w) X.A (f v u) Q X.xe s2) :
  wpAny (model X.prog X.w) X.A (eval a X.env) (fun v s₁=>wpAny (model X.prog X.w) X.A (eval b X.env) (fun u s₂=>wpAny (model X.prog X.w) X.A (f v u) Q X.xe s₂) X.xe s₁) X.xe s:=by
 refine thn (ha pins s σ H _ I h) fun v s1 hQ'=>?_
 obtain ⟨x,H1,I1,r1,q1⟩:=hQ'
 refine thn (hb pins s1 σ H1 _ I1 q1) fun u s2 hQ'=>?_
 obtain ⟨y,H2,I2,r2,q2⟩:=hQ'
 exact hf v u s2 x y H2 I2 r1 r2 q2
theorem zav {op:Operator} {r:R2} (ho:OpR X (binaryOp op) r) (ha:PE X a ta) (hb:PE X b tb):PE X (.BinOp a op b pos) (tOp r ta tb):=by
 intro pins s σ H Q I h
 exact wpAny_BinOp (binT ha hb I h fun v u s2 x y H2 I2 rx ry q=>ho pins s2 σ H2 x y v u Q I2 rx ry q)
theorem opI {f:Value→Value→Sem Value} {C:Int→Int→Prop} {g:Int→Int→Int}
  (rule:∀ (i j:Int) (t u:Tok) (s:Shared) (Q:Value→Shared→Prop) (E:Value→Shared→Prop),C i j→Q (.int (g i j) s.toks) { s with toks:=s.toks+1 }→wpAny (model X.prog X.w) X.A (f (.int i t) (.int j u)) Q E s) :
  OpR X f (rI C fun i j=>.int (g i j)):=by
 intro pins s σ H x y v u Q I rx ry h
 obtain ⟨i,j,rfl,rfl,hc,q⟩:=h
 obtain ⟨t,rfl⟩:=rx
 obtain ⟨t',rfl⟩:=ry
 exact rule i j t t' s _ _ hc ⟨.int (g i j),H,I.tok _,⟨_,rfl⟩,q⟩
theorem opI0 {f:Value→Value→Sem Value} {g:Int→Int→Int}
  (rule:∀ (i j:Int) (t u:Tok) (s:Shared) (Q:Value→Shared→Prop) (E:Value→Shared→Prop),Q (.int (g i j) s.toks) { s with toks:=s.toks+1 }→wpAny (model X.prog X.w) X.A (f (.int i t) (.int j u)) Q E s) :
  OpR X f (rI0 fun i j=>.int (g i j)):=by
 intro pins s σ H x y v u Q I rx ry h
 obtain ⟨i,j,rfl,rfl,q⟩:=h
 obtain ⟨t,rfl⟩:=rx
 obtain ⟨t',rfl⟩:=ry
 exact rule i j t t' s _ _ ⟨.int (g i j),H,I.tok _,⟨_,rfl⟩,q⟩
theorem opB0 {f:Value→Value→Sem Value} {g:Int→Int→Bool}
  (rule:∀ (i j:Int) (t u:Tok) (s:Shared) (Q:Value→Shared→Prop) (E:Value→Shared→Prop),Q (.bool (g i j)) s→wpAny (model X.prog X.w) X.A (f (.int i t) (.int j u)) Q E s) :
  OpR X f (rI0 fun i j=>.bl (g i j)):=by
 intro pins s σ H x y v u Q I rx ry h
 obtain ⟨i,j,rfl,rfl,q⟩:=h
 obtain ⟨t,rfl⟩:=rx
 obtain ⟨t',rfl⟩:=ry
 exact rule i j t t' s _ _ ⟨.bl (g i j),H,I,rfl,q⟩
def zmX (i j:Int):Prop:=0≤j∧j≤1000000∧i.natAbs<2 ^ 64
theorem zbg:OpR X (binaryOp .Add) (rI0 fun i j=>.int (i+j)):=opI0 fun _ _ _ _ _ _ _ q=>add_int q
theorem zly:OpR X (binaryOp .Sub) (rI0 fun i j=>.int (i - j)):=opI0 fun _ _ _ _ _ _ _ q=>sub_int q
theorem zdk:OpR X (binaryOp .Mod) (rI (fun _ j=>0<j) fun i j=>.int (i % j)):=opI fun i j _ _ _ _ _ hc q=>by
 have h1:(0:Int)<j:=hc
 exact mod_int' (by (first|lia|omega)) (by rw [Int.fmod_eq_emod_of_nonneg i (by (first|lia|omega))];exact q)
theorem zl5:OpR X (binaryOp .Mod) (rI (fun _ j=>j≠0) fun i j=>.int (i.fmod j)):=opI fun _ _ _ _ _ _ _ hc q=>mod_int' hc q
theorem zll:OpR X (binaryOp .Pow) (rI zmX fun i j=>.int (i ^ j.toNat)):=opI fun _ _ _ _ _ _ _ hc q=>pow_int_small hc.1 hc.2.1 hc.2.2 q
end
def scal:V→V→Bool
 | .non,.non=>true | .non,.int _=>true | .int _,.non=>true | .non,.bl _=>true | .bl _,.non=>true | .non,.str _=>true | .str _,.non=>true
 | .int _,.int _=>true | .bl _,.bl _=>true | .str _,.str _=>true | .byt _,.byt _=>true
 | .int _,.str _=>true | .str _,.int _=>true | .bl _,.str _=>true | .str _,.bl _=>true
 | _,_=>false
def rEq:R2:=fun x y H Q=>scal x y=true∧Q (.bl (decide (x=y))) H
def rNe:R2:=fun x y H Q=>scal x y=true∧Q (.bl (!decide (x=y))) H
theorem zjj {i j:Int}:decide (V.int i=V.int j)=(i == j):=by
 rw [Bool.eq_iff_iff]
 simp
theorem zlk {i j:Bool}:decide (V.bl i=V.bl j)=(i == j):=by
 rw [Bool.eq_iff_iff]
 simp
theorem zjI {i j:Str}:decide (V.str i=V.str j)=(i == j):=by
 rw [Bool.eq_iff_iff]
 simp
theorem zjy {i j:Array UInt8}:decide (V.byt i=V.byt j)=(i.toList == j.toList):=by
 rw [Bool.eq_iff_iff]
 cases i
 cases j
 simp
section
variable {X:Cx} {a b c:Expr} {ta tb tc:TE} {pos:Pos}
theorem zaO {pins:List (Addr×Obj)} {σ:St} {H:Hp} {s:Shared} {Q:VK} {k k':Bool} (I:Inv X pins σ H s) (q:Q (.bl k) H) (e:k=k'):EP X pins σ Q (.bool k') s:=by
 subst e
 exact ⟨.bl k,H,I,rfl,q⟩
theorem zgD:OpR X (compareOp .Eq) rEq:=by
 intro pins s σ H x y v u Q I rx ry h
 obtain ⟨hs,q⟩:=h
 cases x with
 | non =>
  cases rx
  cases y with
  | non=>cases ry;exact PySem.EqNone.eq_none_none (zaO I q (by simp))
  | bl j=>cases ry;exact PySem.EqNone.eq_none_bool (zaO I q (by simp))
  | int j=>obtain ⟨t',rfl⟩:=ry;exact PySem.EqNone.eq_none_int (zaO I q (by simp))
  | str j=>obtain ⟨t',rfl⟩:=ry;exact PySem.EqNone.eq_none_str (zaO I q (by simp))
  | _=>exact absurd (show false=true from hs) Bool.false_ne_true
 | bl i =>
  cases rx
  cases y with
  | non=>cases ry;exact PySem.EqNone.eq_bool_none (zaO I q (by simp))
  | bl j=>cases ry;exact eq_bool (zaO I q zlk)
  | str j=>obtain ⟨t',rfl⟩:=ry;exact PySem.EqMixed.eq_bool_str (zaO I q (by simp))
  | _=>exact absurd (show false=true from hs) Bool.false_ne_true
 | int i =>
  obtain ⟨t,rfl⟩:=rx
  cases y with
  | non=>cases ry;exact PySem.EqNone.eq_int_none (zaO I q (by simp))
  | int j=>obtain ⟨t',rfl⟩:=ry;exact eq_int (zaO I q zjj)
  | str j=>obtain ⟨t',rfl⟩:=ry;exact PySem.EqMixed.eq_int_str (zaO I q (by simp))
  | _=>exact absurd (show false=true from hs) Bool.false_ne_true
 | str i =>
  obtain ⟨t,rfl⟩:=rx
  cases y with
  | non=>cases ry;exact PySem.EqNone.eq_str_none (zaO I q (by simp))
  | bl j=>cases ry;exact PySem.EqMixed.eq_str_bool (zaO I q (by simp))
  | int j=>obtain ⟨t',rfl⟩:=ry;exact PySem.EqMixed.eq_str_int (zaO I q (by simp))
  | str j=>obtain ⟨t',rfl⟩:=ry;exact eq_str (zaO I q zjI)
  | _=>exact absurd (show false=true from hs) Bool.false_ne_true
 | byt i =>
  obtain ⟨t,rfl⟩:=rx
  cases y with
  | byt j=>obtain ⟨t',rfl⟩:=ry;exact PySem.W.eq_bytes (zaO I q zjy)
  | _=>exact absurd (show false=true from hs) Bool.false_ne_true
 | _=>cases y <;> exact absurd (show false=true from hs) Bool.false_ne_true
theorem zkA:OpR X (compareOp .NotEq) rNe:=by
 intro pins s σ H x y v u Q I rx ry h
 obtain ⟨hs,q⟩:=h
 cases x with
 | non =>
  cases rx
  cases y with
  | non=>cases ry;exact PySem.EqNone.ne_none_none (zaO I q (by simp))
  | bl j=>cases ry;exact PySem.EqNone.ne_none_bool (zaO I q (by simp))
  | int j=>obtain ⟨t',rfl⟩:=ry;exact PySem.EqNone.ne_none_int (zaO I q (by simp))
  | str j=>obtain ⟨t',rfl⟩:=ry;exact PySem.EqNone.ne_none_str (zaO I q (by simp))
  | _=>exact absurd (show false=true from hs) Bool.false_ne_true
 | bl i =>
  cases rx
  cases y with
  | non=>cases ry;exact PySem.EqNone.ne_bool_none (zaO I q (by simp))
  | bl j=>cases ry;exact ne_bool (zaO I q (congrArg not zlk))
  | str j=>obtain ⟨t',rfl⟩:=ry;exact PySem.EqMixed.ne_bool_str (zaO I q (by simp))
  | _=>exact absurd (show false=true from hs) Bool.false_ne_true
 | int i =>
  obtain ⟨t,rfl⟩:=rx
  cases y with
  | non=>cases ry;exact PySem.EqNone.ne_int_none (zaO I q (by simp))
  | int j=>obtain ⟨t',rfl⟩:=ry;exact ne_int (zaO I q (congrArg not zjj))
  | str j=>obtain ⟨t',rfl⟩:=ry;exact PySem.EqMixed.ne_int_str (zaO I q (by simp))
  | _=>exact absurd (show false=true from hs) Bool.false_ne_true
 | str i =>
  obtain ⟨t,rfl⟩:=rx
  cases y with
  | non=>cases ry;exact PySem.EqNone.ne_str_none (zaO I q (by simp))
  | bl j=>cases ry;exact PySem.EqMixed.ne_str_bool (zaO I q (by simp))
  | int j=>obtain ⟨t',rfl⟩:=ry;exact PySem.EqMixed.ne_str_int (zaO I q (by simp))
  | str j=>obtain ⟨t',rfl⟩:=ry;exact ne_str (zaO I q (congrArg not zjI))
  | _=>exact absurd (show false=true from hs) Bool.false_ne_true
 | byt i =>
  obtain ⟨t,rfl⟩:=rx
  cases y with
  | byt j=>obtain ⟨t',rfl⟩:=ry;exact PySem.W.ne_bytes (zaO I q (congrArg not zjy))
  | _=>exact absurd (show false=true from hs) Bool.false_ne_true
 | _=>cases y <;> exact absurd (show false=true from hs) Bool.false_ne_true
theorem zmx:OpR X (compareOp .Lt) (rI0 fun i j=>.bl (decide (i<j))):=opB0 fun _ _ _ _ _ _ _ q=>lt_int q
theorem zkG:OpR X (compareOp .LtE) (rI0 fun i j=>.bl (decide (i≤j))):=opB0 fun _ _ _ _ _ _ _ q=>le_int q
theorem zlO:OpR X (compareOp .Gt) (rI0 fun i j=>.bl (decide (j<i))):=opB0 fun _ _ _ _ _ _ _ q=>gt_int q
theorem op_ge:OpR X (compareOp .GtE) (rI0 fun i j=>.bl (decide (j≤i))):=opB0 fun _ _ _ _ _ _ _ q=>ge_int q
theorem zbq (b:Expr) {op:CmpOp} (h:op≠.In:=by decide) (h2:op≠.NotIn:=by decide):behindInMarks op b=false:=by
 have e1:(op == CmpOp.In)=false:=by cases op <;> first | rfl | exact absurd rfl h
 have e2:(op == CmpOp.NotIn)=false:=by cases op <;> first | rfl | exact absurd rfl h2
 cases b <;> simp [behindInMarks,e1,e2]
theorem zel {op:CmpOp} {r:R2} (ho:OpR X (compareOp op) r) (ha:PE X a ta) (hb:PE X b tb) (hm:behindInMarks op b=false):PE X (.Compare a [op] [b] pos) (tOp r ta tb):=by
 intro pins s σ H Q I h
 exact wpAny_Compare1 (binT ha hb I h fun v u s2 x y H2 I2 rx ry q=>ho pins s2 σ H2 x y v u Q I2 rx ry q) hm
def za2 (t:TE):TT:=fun σ H Q=>t σ H fun x H'=>∃ k,x=.bl k∧Q k H'
theorem zaS {op:CmpOp} {r:R2} (ho:OpR X (compareOp op) r) (ha:PE X a ta) (hb:PE X b tb) (hm:behindInMarks op b=false):PT X (.Compare a [op] [b] pos) (za2 (tOp r ta tb)):=by
 intro pins s σ H Q I h
 refine wpAny_isTrue_Compare1 (thn (ha pins s σ H _ I h) fun v s1 ⟨x,H1,I1,r1,q1⟩=>thn (hb pins s1 σ H1 _ I1 q1) fun u s2 ⟨y,H2,I2,r2,q2⟩ =>
  thn (ho pins s2 σ H2 x y v u _ I2 r1 r2 q2) fun c s3 ⟨z,H3,I3,r3,k,e,q3⟩=>?_) hm
 subst e
 cases r3
 exact wpAny_truthy_bool ⟨H3,I3,q3⟩
def zeT (r r':R2) (ta tb tc:TE):TE:=fun σ H Q=>ta σ H fun x H1=>tb σ H1 fun y H2=>r x y H2 fun z H3=>∃ k,z=.bl k ∧
 (if k=true then tc σ H3 fun w' H4=>r' y w' H4 Q else Q (.bl false) H3)
theorem zkg {op op':CmpOp} {r r':R2} (ho:OpR X (compareOp op) r) (ho':OpR X (compareOp op') r') (ha:PE X a ta) (hb:PE X b tb) (hc:PE X c tc)
  (hm:lastMarks [op,op'] [b,c]=false:=by with_unfolding_all rfl):PE X (.Compare a [op,op'] [b,c] pos) (zeT r r' ta tb tc):=by
 intro pins s σ H Q I h
 refine Compare_chain (thn (ha pins s σ H _ I h) fun v s1 ⟨x,H1,I1,r1,q1⟩=>chain_link (thn (hb pins s1 σ H1 _ I1 q1) fun u s2 ⟨y,H2,I2,r2,q2⟩ =>
  thn (ho pins s2 σ H2 x y v u _ I2 r1 r2 q2) fun d s3 ⟨z,H3,I3,r3,k,e,q3⟩=>?_)) hm
 subst e
 cases r3
 refine wpAny_truthy_bool ?_
 cases k with
 | false=>exact ite_ff ⟨.bl false,H3,I3,rfl,q3⟩
 | true=>exact ite_tt (chain_last (thn (hc pins s3 σ H3 _ I3 q3) fun w' s4 ⟨z',H4,I4,r4,q4⟩=>ho' pins s4 σ H4 y z' u w' Q I4 r2 r4 q4))
theorem zkO {op op':CmpOp} {r r':R2} (ho:OpR X (compareOp op) r) (ho':OpR X (compareOp op') r') (ha:PE X a ta) (hb:PE X b tb) (hc:PE X c tc)
  (hm:lastMarks [op,op'] [b,c]=false:=by with_unfolding_all rfl):PT X (.Compare a [op,op'] [b,c] pos) (za2 (zeT r r' ta tb tc)):=by
 intro pins s σ H Q I h
 refine isTrue_chain (thn (ha pins s σ H _ I h) fun v s1 ⟨x,H1,I1,r1,q1⟩=>test_link (thn (hb pins s1 σ H1 _ I1 q1) fun u s2 ⟨y,H2,I2,r2,q2⟩ =>
  thn (ho pins s2 σ H2 x y v u _ I2 r1 r2 q2) fun d s3 ⟨z,H3,I3,r3,k,e,q3⟩=>?_)) hm
 subst e
 cases r3
 refine wpAny_truthy_bool ?_
 cases k with
 | false =>
  obtain ⟨k',e',q'⟩:=q3
  cases e'
  exact ite_ff ⟨H3,I3,q'⟩
 | true =>
  refine ite_tt (test_last (thn (hc pins s3 σ H3 _ I3 q3) fun w' s4 ⟨z',H4,I4,r4,q4⟩=>thn (ho' pins s4 σ H4 y z' u w' _ I4 r2 r4 q4) fun d' s5 hQ'=>?_))
  obtain ⟨z2,H5,I5,r5,k2,e2,q5⟩:=hQ'
  subst e2
  cases r5
  exact wpAny_truthy_bool ⟨H5,I5,q5⟩
def znH (K:PySem.W.Frag) (x:V) (H:Hp) (k:Bool):Prop :=
 match x with
 | .non=>k=false
 | .bl b=>k=b
 | .int i=>k=(i != 0)
 | .str y=>y.length≤sizeLine∧k=((y.length:Int) != 0)
 | .byt y=>y.size≤sizeLine∧k=((y.size:Int) != 0)
 | .ref p=>(∃ xs,SqL K H p xs∧k=!xs.isEmpty)∨(∃ xs,SqT K H p xs∧k=!xs.isEmpty)∨∃ kvs,H p=some (.dK kvs)∧k=!kvs.isEmpty
 | _=>False
theorem zh8 {κ:Type} {kvs:List (κ×V)} {vs:List (κ×Value)} (r:KV kvs vs):(!vs.isEmpty)=!kvs.isEmpty:=by
 cases r <;> rfl
theorem ze2 {xs:List V} {its:List Value} (r:zbr xs its):(!its.toArray.isEmpty)=!xs.isEmpty:=by
 cases r <;> simp
theorem zhp:(sizeLine:Nat)<2 ^ 63:=by rw [sizeLine_eq];decide
theorem zm6:TruR X (fun x H Q=>∃ k,znH X.K x H k∧Q k H):=by
 intro pins s σ H x v Q I rx h
 obtain ⟨k,e,q⟩:=h
 have hl:=zhp
 have hs:sizeLine=16777216:=sizeLine_eq
 cases x with
 | non =>
  cases rx
  have e':k=false:=e
  subst e'
  exact truthy_none ⟨H,I,q⟩
 | bl b =>
  cases rx
  have e':k=b:=e
  subst e'
  exact wpAny_truthy_bool ⟨H,I,q⟩
 | int i =>
  obtain ⟨t,rfl⟩:=rx
  have e':k=(i != 0):=e
  subst e'
  exact PySem.P.truthy_int ⟨H,I,q⟩
 | str y =>
  obtain ⟨t,rfl⟩:=rx
  obtain ⟨hy,e'⟩:y.length≤sizeLine∧k=((y.length:Int) != 0):=e
  subst e'
  exact PySem.P.truthy_str (by (first|lia|omega)) ⟨H,I.tok _,q⟩
 | byt y =>
  obtain ⟨t,rfl⟩:=rx
  obtain ⟨hy,e'⟩:y.size≤sizeLine∧k=((y.size:Int) != 0):=e
  subst e'
  exact PySem.W.truthy_bytes (by (first|lia|omega)) ⟨H,I.tok _,q⟩
 | ref p =>
  cases rx
  have e':(∃ xs,SqL X.K H p xs∧k=!xs.isEmpty)∨(∃ xs,SqT X.K H p xs∧k=!xs.isEmpty)∨∃ kvs,H p=some (.dK kvs)∧k=!kvs.isEmpty:=e
  rcases e' with ⟨xs,hx,e'⟩ | ⟨xs,hx,e'⟩ | ⟨kvs,hx,e'⟩
  ·subst e'
   obtain ⟨its,r,pl,hz⟩:=I.list hx
   have hlen:=r.length
   exact wpAny_truthy_list pl.isList (by simp only [List.size_toArray];(first|lia|omega)) ⟨H,I.tok _,by rw [ze2 r];exact q⟩
  ·subst e'
   obtain ⟨its,r,pl,hz⟩:=I.tuple hx
   have hlen:=r.length
   exact truthy_tuple pl (by simp only [List.size_toArray];(first|lia|omega)) ⟨H,I.tok _,by rw [ze2 r];exact q⟩
  ·subst e'
   obtain ⟨hz,hS,vs,r,m⟩:kvs.length≤sizeLine∧(p == sysModules)=false∧∃ vs,KV kvs vs∧s.heap.DictOf (zaV X.prog X.w) p vs:=I.hok p _ hx
   have hlen:kvs.length=vs.length:=Paired.length r
   exact wpAny_truthy_dict hS m (by (first|lia|omega)) ⟨H,I.tok _,by rw [zh8 r];exact q⟩
 | _=>exact (show False from e).elim
theorem zkQ (ha:PE X a ta) (he:∀ whole,isTrue a X.env whole=(do let v ← whole;standAt a.pos;holding [v] (truthy v))) :
  PT X a (fun σ H Q=>ta σ H fun x H'=>∃ k,znH X.K x H' k∧Q k H'):=by
 intro pins s σ H Q I h
 exact isTrue_plain (thn (ha pins s σ H _ I h) fun v s1 ⟨x,H1,I1,r1,q1⟩=>zm6 pins s1 σ H1 x v Q I1 r1 q1) (he _)
theorem zeK {x:V} {us:List Value} (r:zbr [x] us):∃ u,us=[u]∧za9 x u:=by
 cases r with
 | cons r1 r2=>cases r2;exact ⟨_,rfl,r1⟩
theorem zmg {x y:V} {us:List Value} (r:zbr [x,y] us):∃ u w',us=[u,w']∧za9 x u∧za9 y w':=by
 cases r with
 | cons r1 r2 =>
  cases r2 with
  | cons r3 r4=>cases r4;exact ⟨_,_,rfl,r1,r3⟩
theorem zen (hc:X.calm=true):zdv X (.builtin "min") (fun xs H Q=>∃ i j,xs=[.int i,.int j]∧Q (.int (if j<i then j else i)) H):=by
 intro pins s σ H xs us Q I r h
 obtain ⟨i,j,rfl,q⟩:=h
 obtain ⟨u,w',rfl,⟨t,rfl⟩,⟨t',rfl⟩⟩:=zmg r
 refine min_two_ints (I.ok.hd hc) fun h' tk k=>⟨_,H,I.kept k,?_,q⟩
 by_cases hj:j<i
 ·rw [if_pos hj,if_pos hj];exact ⟨_,rfl⟩
 ·rw [if_neg hj,if_neg hj];exact ⟨_,rfl⟩
end
end L2
namespace L2
open PySem PySem.Spec PyProof.Rows
structure ObjM (h:Heap) (x dx C:Addr) (mA:Str→Option Value):Prop where
 obj:h.get? x=some (PySem.W.instObj C dx)
 ns:h.Ns1 dx mA
 ne:dx≠x
theorem zii {h:Heap} {dx:Addr} {mA:Str→Option Value} (n:h.Ns1 dx mA):∃ od,h.get? dx=some od∧∀ name,PySem.W.lookIn name od=some (mA name):=by
 obtain ⟨o,es,ep,ho,hd,hk,_,hm⟩:=n
 refine ⟨o,ho,fun name=>?_⟩
 have e:=hm name
 unfold nsFind findBy at e
 rw [← Array.find?_toList] at e
 unfold PySem.W.lookIn
 rw [hd]
 dsimp only
 split
 ·rename_i y q
  rw [q] at e
  exact congrArg some e
 ·rename_i q
  rw [q] at e
  have a:es.toList.any (·.refKey)=false:=by
   rw [List.any_eq_false]
   intro y hy
   obtain ⟨z,t,hkey⟩:=hk y (Array.mem_toList_iff.mp hy)
   simp [DictEntry.refKey,hkey]
  have a':¬ es.toList.any (·.refKey)=true:=by rw [a];exact Bool.false_ne_true
  rw [if_neg a']
  exact congrArg some e
theorem ObjM.look {h:Heap} {x dx C:Addr} {mA:Str→Option Value} (I:ObjM h x dx C mA):∃ od,PySem.W.InstAt h x (PySem.W.instObj C dx) C (some od)∧∀ name,PySem.W.lookIn name od=some (mA name) :=
 let ⟨od,ho,hl⟩:=zii I.ns
 ⟨od,⟨I.obj,rfl,rfl,ho⟩,hl⟩
section
variable {prog:Program} {w:World} {A:Around} {E:Value→Shared→Prop} {s:Shared} {K:PySem.W.Frag} {x dx C f:Addr} {mA:Str→Option Value} {name:Str} {v:Value}
end
theorem zh9.some_of {v:V} {o:Option Value} (r:zh9 (some v) o):∃ u,o=some u∧za9 v u:=by
 cases o with
 | none=>exact (show False from r).elim
 | some u=>exact ⟨u,rfl,r⟩
section
variable {P:Program} {w:World} {H H':Hp} {h h':Heap} {a C dx:Addr} {fs fs':List (Str×V)}
theorem zmt (hok:HOk P w H h) (e:H a=some (.ins C dx fs)):∃ mA,ObjM h a dx C mA∧(∀ f,zh9 (fs.lookup f) (mA f))∧PySem.Within mA (fs.map (·.1))∧fs.length≤1000∧H dx=some (.own a):=by
 obtain ⟨d,z,ne,ob,mA,n,r,q⟩:=(show zaP P w H h a (.ins C dx fs) from hok a _ e)
 exact ⟨mA,⟨ob,n,ne⟩,r,q,z,d⟩
end
structure Cls (K:PySem.W.Frag) (C:Addr):Prop where
 pg:PySem.W.plainGet K C Str.empty=true
 hd:PySem.W.hasDictIn K C=true
 po:PySem.W.plainOver K C=true
 sa:PySem.W.findIn K (.ref C) "__setattr__"=some (some (.builtin "object.__setattr__"))
theorem Cls.get {K:PySem.W.Frag} {C:Addr} (c:Cls K C) (f:Str):PySem.W.plainGet K C f=true:=c.pg
section
variable {X:Cx} {pins:List (Addr×Obj)} {σ:St} {H:Hp} {s:Shared} {a C dx:Addr} {fs:List (Str×V)} {f:Str} {v:V} {A:Around} {E:Value→Shared→Prop}
end
section
variable {X:Cx} {o e value:Expr} {f:Str} {pos pos' tpos:Pos} {ta tv:TE}
end
section
variable {X:Cx} {pins:List (Addr×Obj)} {σ:St} {H:Hp} {s:Shared} {A:Around} {E:Value→Shared→Prop} {Q:Value→Shared→Prop} {c:Value} {b:Bool}
inductive zic (K:PySem.W.Frag) (H:Hp):V→Value→Prop where
 | non:zic K H .non (.type "NoneType")
 | bl (x:Bool):zic K H (.bl x) (.type "bool")
 | int (i:Int):zic K H (.int i) (.type "int")
 | str (x:Str):zic K H (.str x) (.type "str")
 | flt (x:UInt64):zic K H (.flt x) (.type "float")
 | lst {a:Addr} {xs:List V} (e:H a=some (.lst xs)):zic K H (.ref a) (.type "list")
 | frz {a:Addr} {o:Obj} {xs:List V} (e:H a=some (.frz o (.lst xs))):zic K H (.ref a) (.type "list")
 | tup {a:Addr} {xs:List V} (e:H a=some (.tup xs)):zic K H (.ref a) (.type "tuple")
 | dK {a:Addr} {kvs:List (Key×V)} (e:H a=some (.dK kvs)):zic K H (.ref a) (.type "dict")
 | dT {a:Addr} {kvs:List (List Key×V)} (e:H a=some (.dT kvs)):zic K H (.ref a) (.type "dict")
 | ins {a C dx:Addr} {fs:List (Str×V)} (e:H a=some (.ins C dx fs)) (cl:Cls K C) (ha:PySem.W.findIn K (.ref C) "__class__"=some (some (.builtin "object.__class__")))
   (hn:PySem.W.specialIn K (.builtin "object.__class__") "__get__"=some (some (.builtin "getset_descriptor.__get__"))) (htk:PySem.W.takesIn K (.builtin "object.__class__")=some true)
   (hm:PySem.W.mroIn K C (.type "object")=some true):zic K H (.ref a) (.ref C)
theorem zjm {x:V} {u t:Value} (I:Inv X pins σ H s) (rx:za9 x u) (ty:zic X.K H x t) (e:PySem.W.kitOne X.K t c=some b) (h:∀ tk,Q (.bool b) { s with toks:=tk }) :
  wpAny (model X.prog X.w) A (call (.builtin "isinstance") [u,c]) Q E s:=by
 cases ty with
 | non=>cases (show u=Value.none from rx);exact PySem.W.kia_one PySem.W.kitx_none I.kIn True.intro e (fun z=>nomatch z) h
 | bl y=>cases (show u=Value.bool y from rx);exact PySem.W.kia_one PySem.W.kitx_bool I.kIn True.intro e (fun z=>nomatch z) h
 | int i=>obtain ⟨t,q⟩:=(show ∃ t,u=Value.int i t from rx);cases q;exact PySem.W.kia_one PySem.W.kitx_int I.kIn True.intro e (fun z=>nomatch z) h
 | str y=>obtain ⟨t,q⟩:=(show ∃ t,u=Value.str y t from rx);cases q;exact PySem.W.kia_one PySem.W.kitx_str I.kIn True.intro e (fun z=>nomatch z) h
 | flt y=>obtain ⟨t,q⟩:=(show ∃ t,u=Value.float y t from rx);cases q;exact PySem.W.kia_one PySem.W.kitx_float I.kIn True.intro e (fun z=>nomatch z) h
 | @lst a xs ea =>
  cases (show u=Value.ref a from rx)
  obtain ⟨_,_,n,_,h1⟩:=(show zaP X.prog X.w H s.heap a (.lst xs) from I.hok a _ ea)
  exact PySem.W.kia_one PySem.W.kitx_list I.kIn ⟨_,h1,rfl⟩ e (fun z=>nomatch z) h
 | @frz a ob xs ea =>
  cases (show u=Value.ref a from rx)
  obtain ⟨_,_,_,n,_,h1⟩:=(show zaP X.prog X.w H s.heap a (.frz ob (.lst xs)) from I.hok a _ ea)
  exact PySem.W.kia_one PySem.W.kitx_list I.kIn ⟨_,h1,rfl⟩ e (fun z=>nomatch z) h
 | @tup a xs ea =>
  cases (show u=Value.ref a from rx)
  obtain ⟨_,_,_,p⟩:=(show zaP X.prog X.w H s.heap a (.tup xs) from I.hok a _ ea)
  obtain ⟨o,h1,h2,_⟩:=p
  exact PySem.W.kia_one PySem.W.kitx_tuple I.kIn ⟨o,h1,h2⟩ e (fun z=>nomatch z) h
 | @dK a kvs ea =>
  cases (show u=Value.ref a from rx)
  obtain ⟨_,_,vs,_,p⟩:=(show zaP X.prog X.w H s.heap a (.dK kvs) from I.hok a _ ea)
  obtain ⟨o,es,ep,h1,h2,_⟩:=p
  exact PySem.W.kia_one PySem.W.kitx_dict I.kIn ⟨o,h1,h2.1⟩ e (fun z=>nomatch z) h
 | @dT a kvs ea =>
  cases (show u=Value.ref a from rx)
  obtain ⟨_,_,xs,_,o,es,ep,h1,h2,_⟩:=(show zaP X.prog X.w H s.heap a (.dT kvs) from I.hok a _ ea)
  exact PySem.W.kia_one PySem.W.kitx_dict I.kIn ⟨o,h1,h2.1⟩ e (fun z=>nomatch z) h
 | @ins a C dx fs ea cl ha hn htk hm =>
  cases (show u=Value.ref a from rx)
  obtain ⟨mA,O,_⟩:=zmt I.hok ea
  obtain ⟨od,J,_⟩:=O.look
  exact PySem.W.kia_one (PySem.W.kitx_own (cl.get _) cl.hd ha hn htk hm) I.kIn J e (fun z=>nomatch z) h
end
end L2
namespace L2
open PySem PySem.Spec PyProof.Rows
structure zfJ (k:Nat) (A:Around):Prop where
 hd:A.handled=none
 dp:A.depth+3*k+5<recursionLimit
 un:A.units+16*k+200<cLine
theorem zfJ.mono {j k:Nat} {A:Around} (r:zfJ k A) (h:j≤k):zfJ j A:=⟨r.hd,by have:=r.dp;(first|lia|omega),by have:=r.un;(first|lia|omega)⟩
theorem zfJ.deeper {k:Nat} {A:Around} (r:zfJ (k+1) A) (env:Env):zfJ k (A.deeper env) :=
 ⟨r.hd,by have:=r.dp;show A.depth+1+3*k+5<_;(first|lia|omega),by have:=r.un;show A.units+3+16*k+200<_;(first|lia|omega)⟩
theorem zfJ.depth {k:Nat} {A:Around} (r:zfJ k A):A.depth<recursionLimit:=by have:=r.dp;(first|lia|omega)
theorem zfJ.units {k:Nat} {A:Around} (r:zfJ k A):A.units+64<cLine:=by have:=r.un;(first|lia|omega)
def zam:TA:=fun _ H Q=>Q [] H
def zab (ta:TE) (tr:TA):TA:=fun σ H Q=>ta σ H fun x H1=>tr σ H1 fun xs H2=>Q (x::xs) H2
section
variable {X:Cx} {e:Expr} {es:List Expr} {te:TE} {t:TA} {pos:Pos}
theorem zaf:PA X [] zam:=fun _ _ _ _ H Q I h=>Calls.spliced_nil ⟨[],H,I,.nil,h⟩
theorem zaa (ha:PE X e te) (hr:PA X es t) (hs:starEach (e::es) X.env=(false,eval e X.env)::starEach es X.env:=by rfl):PA X (e::es) (zab te t):=by
 intro pos pins s σ H Q I h
 rw [hs]
 show wpAny _ _ (spliced ((false,eval e X.env)::backTo pos (starEach es X.env))) _ _ s
 refine Calls.spliced_cons (thn (ha pins s σ H _ I h) fun u s1 hQ'=>?_)
 obtain ⟨x,H1,I1,r1,q1⟩:=hQ'
 exact thn (hr pos pins s1 σ H1 _ I1 q1) fun us s2 ⟨xs,H2,I2,r2,q2⟩=>⟨x::xs,H2,I2,.cons r1 r2,q2⟩
def zcj (t:TA):TE:=fun σ H Q=>t σ H fun xs H1=>xs.length≤sizeLine∧∀ p,H1 p=none→Q (.ref p) (upd H1 p (.tup xs))
def zes (t:TA):TE:=fun σ H Q=>t σ H fun xs H1=>xs.length≤sizeLine∧∀ p,H1 p=none→Q (.ref p) (upd H1 p (.lst xs))
theorem zby {x1} (h:PA X es t):PE X (.Tuple es x1 pos) (zcj t):=by
 intro pins s σ H Q I hq
 refine wpAny_Tuple_spliced (thn (h pos pins s σ H _ I hq) fun us s1 ⟨xs,H1,I1,r,z,q⟩=>⟨by rw [← r.length];exact z,?_⟩)
 have hf:H1 s1.heap.objs.size=none:=I1.hok.fresh (Nat.le_refl _)
 refine ⟨.ref s1.heap.objs.size,upd H1 s1.heap.objs.size (.tup xs),I1.laid (t':=s1.toks) (fun b u e=>Heap.get?_push_of_some _ e) (Nat.le_refl _) ?_,rfl,q _ hf⟩
 exact ⟨z,us,r,⟨_,Heap.get?_push_size _ rfl,rfl,_,rfl⟩⟩
theorem zb2 (h:PA X es t):PE X (.List es pos) (zes t):=by
 intro pins s σ H Q I hq
 refine wpAny_List_spliced (thn (h pos pins s σ H _ I hq) fun us s1 ⟨xs,H1,I1,r,z,q⟩=>⟨by rw [← r.length];exact z,?_⟩)
 have hf:H1 s1.heap.objs.size=none:=I1.hok.fresh (Nat.le_refl _)
 refine ⟨.ref s1.heap.objs.size,upd H1 s1.heap.objs.size (.lst xs),I1.laid (t':=s1.toks) (fun b u e=>Heap.get?_push_of_some _ e) (Nat.le_refl _) ?_,rfl,q _ hf⟩
 exact ⟨z,us,0,r,Heap.get?_push_size _ rfl⟩
end
abbrev Sp:=List V→Hp→VK→XK→Prop
abbrev CXT:=List Env→Hp→Shared→XK→Value→Shared→Prop
structure Env0 (P:Program) (w:World) (K:PySem.W.Frag) (mg:Str→Option Value) (base:Heap) (A:Around) (outer:List Env) (s:Shared) (H:Hp):Prop where
 frames:A.frames=some outer
 mod:Mod K mg base
 bs:∀ b o,base.get? b=some o→s.heap.get? b=some o∧H b=none
 bsz:base.objs.size≤s.heap.objs.size
 funs:s.heap.FunFrames base outer
 frf:∀ b∈frs outer,H b=none
 hok:HOk P w H s.heap
 bare:AllBare s.gens
def CE (outer:List Env) (P:Program) (w:World) (H:Hp) (s:Shared) (Q:VK) (u:Value) (s':Shared):Prop :=
 ∃ v H',s'.os=s.os∧AllBare s'.gens∧Un (frs outer) [] H H' s.heap s'.heap∧HOk P w H' s'.heap∧za9 v u∧Q v H'
def CR (CX:CXT) (outer:List Env) (P:Program) (w:World) (H:Hp) (s:Shared) (Q:VK) (E:XK) (r:Result) (s':Shared):Prop :=
 match r with
 | .ok (.ret u)=>CE outer P w H s Q u s'
 | .ok _=>False
 | .error e=>CX outer H s E e s'
structure zd2 (P:Program) (w:World) (K:PySem.W.Frag) (mg:Str→Option Value) (base:Heap) (CX:CXT) (k:Nat) (f:Addr) (fd:FuncData) (ps:List Str) (sp:Sp):Prop where
 len:∀ vs H Q E,sp vs H Q E→vs.length=ps.length
 run:∀ (A:Around) (outer:List Env) (s:Shared) (H:Hp) (args:Args) (us:List Value) (vs:List V) (Q:VK) (E:XK),zfJ k A→Env0 P w K mg base A outer s H→BindsTo s fd args (ps.zip us)→zbr vs us→sp vs H Q E →
  codeAny (model P w) A (.call (.ref f) args) (CR CX outer P w H s Q E) s
section
variable {X:Cx} {pins:List (Addr×Obj)} {σ:St} {H:Hp} {s s':Shared}
theorem Inv.env0 (I:Inv X pins σ H s):Env0 X.prog X.w X.K X.mg X.base X.A X.stack s H :=
 ⟨I.ok.frames,I.ok.mod,I.bs,Nat.le_trans I.ok.bsz I.sz,I.stack,I.stkFree,I.hok,I.bare⟩
theorem Inv.after {Q:VK} {u:Value} (I:Inv X pins σ H s) (h:CE X.stack X.prog X.w H s Q u s'):EP X pins σ Q u s':=by
 obtain ⟨v,H',os,bare,un,hok,r,q⟩:=h
 obtain ⟨hh,g,d,t,os'⟩:=s'
 obtain rfl:os'=s.os:=os
 exact ⟨v,H',I.call (h':=hh) (g':=g) (d':=d) (t':=t) (ch:=[]) un hok bare (fun b z=>absurd z (by simp)),r,q⟩
end
def za8 (sp:Sp) (dvs:List V) (E:XK) (t:TA):TE:=fun σ H Q=>t σ H fun vs H1=>sp (vs++dvs) H1 Q E
def zb0 (K:PySem.W.Frag) (fd:FuncData) (ps:List Str) (ds:List Value):Prop :=
 ∀ (s:Shared) (us:List Value),K.In s.heap→(us++ds).length=ps.length→BindsTo s fd ⟨us,[]⟩ (ps.zip (us++ds))
theorem zb0.all {K:PySem.W.Frag} {fd:FuncData} {ps:List Str} (h:∀ us:List Value,us.length=ps.length→bindArgs fd ⟨us,[]⟩=pure (ps.zip us)):zb0 K fd ps []:=fun s us _ hl=>by
 rw [List.append_nil] at hl ⊢
 exact .of_eq (h us hl)
def zi6 (CX:CXT) (X:Cx) (E:XK):Prop:=∀ (pins:List (Addr×Obj)) (σ:St) (H:Hp) (s:Shared) (e:Value) (s':Shared),Inv X pins σ H s→CX X.stack H s E e s'→X.xe e s'
section
variable {X:Cx} {CX:CXT} {k:Nat} {f C:Addr} {fd:FuncData} {ps:List Str} {sp:Sp} {dvs:List V} {ds:List Value} {E:XK} {x m:Str} {p pos apos:Pos} {e o:Expr} {es:List Expr} {ta:TE} {t:TA}
theorem znx {pins:List (Addr×Obj)} {σ:St} {H:Hp} {s:Shared} {Q:VK} {us:List Value} {vs:List V} (F:zd2 X.prog X.w X.K X.mg X.base CX k f fd ps sp) (hr:zfJ k X.A) (hb:zb0 X.K fd ps ds) (hd:zbr dvs ds) (hx:zi6 CX X E)
  (I:Inv X pins σ H s) (r:zbr vs us) (h:sp (vs++dvs) H Q E):wpAny (model X.prog X.w) X.A (call (.ref f) us) (EP X pins σ Q) X.xe s:=by
 have r2:zbr (vs++dvs) (us++ds):=r.append hd
 have hl:(us++ds).length=ps.length:=by rw [← r2.length];exact F.len _ _ _ _ h
 refine wpAny_call (codeAny_mono (F.run X.A X.stack s H ⟨us,[]⟩ (us++ds) (vs++dvs) Q E hr I.env0 (hb s us I.kIn hl) r2 h) fun r s' hq=>?_)
 cases r with
 | error e=>exact hx pins σ H s e s' I hq
 | ok fl =>
  cases fl with
  | ret u=>exact I.after hq
  | next=>exact False.elim hq
  | brk=>exact False.elim hq
  | cont=>exact False.elim hq
theorem zaT (F:zd2 X.prog X.w X.K X.mg X.base CX k f fd ps sp) (hr:zfJ k X.A) (hg:Gl X x) (hm:X.mg x=some (.ref f)) (hk:PySem.W.keepIn X.K (.ref f)=true) (hb:zb0 X.K fd ps ds) (hd:zbr dvs ds) (hx:zi6 CX X E)
  (ha:PA X (e::es) t) (hdb:(x == ("__debug__":Str))=false:=by decide) (he:starEach (e::es) X.env=(false,eval e X.env)::starEach es X.env:=by rfl) (hpl:(backTo pos (starEach es X.env)).any (·.1)=false:=by rfl) :
  PE X (.Call (.Name x p) (e::es) [] pos) (za8 sp dvs E t):=by
 intro pins s σ H Q I h
 refine wpAny_Call_Name_kw (ziL I hg hm ?_ hdb)
 refine PySem.W.callWith_K (h₀:=X.base) I.ok.mod.kin hk (thn (ha pos pins s σ H _ I h) fun us s1 ⟨vs,H1,I1,r,q⟩=>⟨I1.kIn,?_⟩) he hpl
 exact znx F hr hb hd hx I1 r q
end
section
variable {X:Cx} {CX:CXT} {k:Nat} {f C:Addr} {fd:FuncData} {ps ks:List Str} {sp:Sp} {E:XK} {x m:Str} {p pos apos kpos:Pos} {e o:Expr} {es:List Expr} {kws:List Keyword} {te ta:TE} {t tk:TA} {nm:Option Str}
variable {g:List Value→List Value→List Value} {gV:List V→List V→List V}
end
structure zaW (N P:List Str) (sc:Scope):Prop where
 kind:sc.kind=.function
 co:sc.isCoroutine=false
 gen:sc.isGenerator=false
 nd:N.Nodup
 pre:N.take P.length=P
 par:∀ x∈P,sc.names.lookup x=some .local∨sc.names.lookup x=some .cell
 nofree:∀ y∈sc.names,y.2≠.free
theorem zgb {kindOf:Str→Option NameKind} {x:Str}:∀ {binds:List (Str×Value)} {m:Str→Option Value},(∀ v,(x,v)∉binds)→bindL kindOf binds m x=m x
 | [],_,_=>rfl
 | (n,v)::r,m,h=>by
  unfold bindL
  rw [zgb fun w hw=>h w (List.mem_cons_of_mem _ hw)]
  split
  ·have:x≠n:=by rintro rfl;exact h v List.mem_cons_self
   simp [this]
  ·rfl
theorem zf2 {kindOf:Str→Option NameKind} {x:Str}:∀ {binds:List (Str×Value)} {m:Str→Option Value},(∀ v,(x,v)∉binds)→bindC kindOf binds m x=m x
 | [],_,_=>rfl
 | (n,v)::r,m,h=>by
  unfold bindC
  rw [zf2 fun w hw=>h w (List.mem_cons_of_mem _ hw)]
  split
  ·rfl
  ·have:x≠n:=by rintro rfl;exact h v List.mem_cons_self
   simp [this]
theorem zgd {kindOf:Str→Option NameKind} {x:Str} {v:Value}:∀ {P:List Str} {vs:List Value} {i:Nat} {m:Str→Option Value},P.Nodup→P[i]?=some x→vs[i]?=some v→kindOf x=some .local →
  bindL kindOf (P.zip vs) m x=some v
 | [],_,_,_,_,h,_,_=>by simp at h
 | _::_,[],_,_,_,_,h,_=>by simp at h
 | p::P,w::vs,0,m,nd,h1,h2,hk=>by
  simp at h1 h2;subst h1;subst h2
  show bindL kindOf ((p,w)::P.zip vs) m p=_
  unfold bindL
  rw [zgb fun v hv=>(List.nodup_cons.mp nd).1 (List.of_mem_zip hv).1,if_pos hk]
  simp
 | p::P,w::vs,i+1,m,nd,h1,h2,hk=>by
  show bindL kindOf ((p,w)::P.zip vs) m x=_
  unfold bindL
  exact zgd (i:=i) (List.nodup_cons.mp nd).2 (by simpa using h1) (by simpa using h2) hk
theorem zf6 {kindOf:Str→Option NameKind} {x:Str} {v:Value}:∀ {P:List Str} {vs:List Value} {i:Nat} {m:Str→Option Value},P.Nodup→P[i]?=some x→vs[i]?=some v→kindOf x≠some .local →
  bindC kindOf (P.zip vs) m x=some v
 | [],_,_,_,_,h,_,_=>by simp at h
 | _::_,[],_,_,_,_,h,_=>by simp at h
 | p::P,w::vs,0,m,nd,h1,h2,hk=>by
  simp at h1 h2;subst h1;subst h2
  show bindC kindOf ((p,w)::P.zip vs) m p=_
  unfold bindC
  rw [zf2 fun v hv=>(List.nodup_cons.mp nd).1 (List.of_mem_zip hv).1,if_neg hk]
  simp
 | p::P,w::vs,i+1,m,nd,h1,h2,hk=>by
  show bindC kindOf ((p,w)::P.zip vs) m x=_
  unfold bindC
  exact zf6 (i:=i) (List.nodup_cons.mp nd).2 (by simpa using h1) (by simpa using h2) hk
def zbE (N:List Str) (vs:List V):St:=vs.map some++List.replicate (N.length - vs.length) none
def zmV (CX:CXT) (P:Program) (w:World) (K:PySem.W.Frag) (mg:Str→Option Value) (base:Heap) (N:List Str) (qual:Str) (scope:Scope) (f:Addr) (cd:Value) (A:Around) (outer:List Env) (s:Shared) (H:Hp) (E:XK):Cx where
 prog:=P
 w:=w
 K:=K
 mg:=mg
 base:=base
 A:=A.deeper (envOfC qual scope s.heap.objs.size f cd)
 N:=N
 s₀:=s
 H₀:=H
 env:=envOfC qual scope s.heap.objs.size f cd
 outer:=outer
 stack:=envOfC qual scope s.heap.objs.size f cd::outer
 ex:=[]
 calm:=true
 fn:=fun _=>true
 pn:=[]
 xe:=fun e s'=>wpAny (model P w) (A.deeper (envOfC qual scope s.heap.objs.size f cd)) (leaving (envOfC qual scope s.heap.objs.size f cd) e) (fun _ s''=>CX outer H s E e s'') (fun e' s''=>CX outer H s E e' s'') s'
theorem zg9 {sc:Scope} {n:Nat} {x:Str} (h:sc.names.lookup x=some .cell):∃ c,(cellsFrom n sc.names []).lookup x=some c:=by
 have q:=PySem.W.cellsFrom_some sc.names n [] (.inl h)
 exact Option.isSome_iff_exists.mp q
theorem zjT {CX:CXT} {P:Program} {w:World} {K:PySem.W.Frag} {mg:Str→Option Value} {base:Heap} {N ps:List Str} {qual:Str} {scope:Scope} {f:Addr} {cd:Value} {A:Around} {outer:List Env} {s s1:Shared} {H:Hp} {E:XK} {us:List Value} {vs:List V}
  (S:zaW N ps scope) (hd:A.handled=none) (e0:Env0 P w K mg base A outer s H) (hl:vs.length=ps.length) (r:zbr vs us)
  (x:InCallC s s.heap.objs.size (bindL (envOfC qual scope s.heap.objs.size f cd).kindOf (ps.zip us) fun _=>none) (cellsFrom (s.heap.objs.size+1) scope.names []) (bindC (envOfC qual scope s.heap.objs.size f cd).kindOf (ps.zip us) fun _=>none) s1) :
  Inv (zmV CX P w K mg base N qual scope f cd A outer s H E) [] (zbE N vs) H s1:=by
 have hpl:ps.length≤N.length:=by have:=congrArg List.length S.pre;rw [List.length_take] at this;(first|lia|omega)
 obtain ⟨h1,tk,rfl,hk⟩:=x.done
 have noA:∀ b:Addr,b∉(zmV CX P w K mg base N qual scope f cd A outer s H E).ex:=fun b z=>absurd (show b∈([]:List Addr) from z) (by simp)
 refine ⟨⟨e0.mod,S.kind,rfl,rfl,Nat.le_refl _,fun y z c h1 h2=>?_,fun y hy=>?_,fun y c _ h=>?_,fun _=>hd,Around.frames_deeper e0.frames,.inr ⟨rfl,rfl⟩,fun b z=>absurd z (noA b),e0.bs,e0.bsz,fun b _ _=>noA b,fun b z=>absurd z (noA b),e0.funs,e0.frf⟩,
  rfl,e0.bare,Un.kept hk,⟨_,x.toInCall.ns,fun i y v h1 h2 h3=>?_⟩,fun y c h=>⟨_,x.cell y c h⟩,e0.hok.fresh (Nat.le_refl _),fun y c h=>?_,fun p hp=>absurd (show p∈([]:List (Addr×Obj)) from hp) (by simp),e0.hok.kept hk,?_⟩
 ·exact name_of_addr x.apart (PySem.mem_of_lookup h1) (PySem.mem_of_lookup h2)
 ·have hy:scope.names.lookup y=some .cell∨scope.names.lookup y=some .free:=hy
  rcases hy with hy | hy
  ·exact zg9 hy
  ·exact absurd rfl (S.nofree _ (PySem.mem_of_lookup hy))
 ·exact Nat.le_of_lt (x.above y c (PySem.mem_of_lookup h))
 ·have hi:i<vs.length:=by
   unfold zbE at h2
   by_cases hi:i<vs.length
   ·exact hi
   ·rw [List.getElem?_append_right (by simpa using hi)] at h2
    rw [List.getElem?_replicate] at h2
    split at h2 <;> cases h2
  have ha:vs[i]?=some v:=by
   unfold zbE at h2
   rw [List.getElem?_append_left (by simpa using hi),List.getElem?_map] at h2
   cases e:vs[i]? with
   | none=>rw [e] at h2;cases h2
   | some a=>rw [e] at h2;cases h2;rfl
  obtain ⟨u,hu,rv⟩:=r.get ha
  have hp:ps[i]?=some y:=by
   rw [← S.pre,List.getElem?_take_of_lt (by (first|lia|omega))];exact h1
  have ndP:ps.Nodup:=by rw [← S.pre];exact S.nd.sublist (List.take_sublist _ _)
  refine ⟨u,rv,?_⟩
  rcases S.par y (List.mem_of_getElem? hp) with k | k
  ·exact .inl ⟨k,zgd ndP hp hu k⟩
  ·obtain ⟨c,e⟩:=zg9 (n:=s.heap.objs.size+1) k
   refine .inr ⟨.inl k,c,e,?_⟩
   have q:=x.cell y c e
   rw [zf6 ndP hp hu (by show scope.names.lookup y≠_;rw [k];decide)] at q
   exact q
 ·exact e0.hok.fresh (Nat.le_of_lt (x.above y c (PySem.mem_of_lookup h)))
 ·unfold zbE
  show _=N.length
  rw [List.length_append,List.length_map,List.length_replicate]
  (first|lia|omega)
theorem fn_of {CX:CXT} {P:Program} {w:World} {K:PySem.W.Frag} {mg:Str→Option Value} {base:Heap} {k:Nat} {f:Addr} {name qual:Str} {params:Arguments} {body:List Stmt} {scope:Scope} {dV kV doc pm cdv ct oc:Value} {an od:Option Addr}
  {osl:Array (Option Value)} {N ps:List Str} {sp:Sp} (lk:K.lookup f=some ⟨oc,od,.func (PySem.W.fnOf name qual params body scope dV kV doc pm an cdv ct),osl⟩) (hcd:PySem.W.codeIn K cdv qual=true) (S:zaW N ps scope)
  (len:∀ vs H Q E,sp vs H Q E→vs.length=ps.length)
  (hbody:∀ (A:Around) (outer:List Env) (s:Shared) (H:Hp) (vs:List V) (Q:VK) (E:XK),zfJ k (A.deeper (envOfC qual scope s.heap.objs.size f cdv))→sp vs H Q E →
   ∃ t,PSs (zmV CX P w K mg base N qual scope f cdv A outer s H E) body t∧t { nx:=fun _ H'=>Q .non H',rt:=Q } (zbE N vs) H) :
  zd2 P w K mg base CX (k+1) f (PySem.W.fnOf name qual params body scope dV kV doc pm an cdv ct) ps sp:=by
 refine ⟨len,fun A outer s H args us vs Q E hr e0 hb r hsp=>?_⟩
 have hl:=len _ _ _ _ hsp
 have KX:K.In s.heap:=e0.mod.kin.keeps fun b o e=>(e0.bs b o e).1
 have lim:s.heap.NoLimit:=e0.mod.nolimit.keeps fun b o e=>(e0.bs b o e).1
 have hkind:∀ y∈ps.zip us,scope.names.lookup y.1=some .local∨(scope.names.lookup y.1=some .cell∧((cellsFrom (s.heap.objs.size+1) scope.names []).lookup y.1).isSome=true):=fun ⟨n,v⟩ hy=>by
  rcases S.par n (List.of_mem_zip hy).1 with q | q
  ·exact .inl q
  ·exact .inr ⟨q,PySem.W.cellsFrom_some _ _ _ (.inl q)⟩
 refine codeAny_call_function hr.depth (KX _ _ lk) rfl S.co S.gen rfl (PySem.W.codeRec_of KX hcd) (hb _ _ _ _ ?_)
 refine wpAny_newFunctionEnv_cells S.kind hkind fun env he s1 x=>?_
 subst he
 refine ⟨lim.keeps x.toInCall.keep,codeAny_func ?_⟩
 obtain ⟨t,ht,hq⟩:=hbody A outer s H vs Q E (hr.deeper _) hsp
 have I:Inv (zmV CX P w K mg base N qual scope f cdv A outer s H E) [] (zbE N vs) H s1:=zjT S hr.hd e0 hl r x
 refine wpAny_mono (ht [] s1 (zbE N vs) H _ I hq) (fun fl s' hs=>?_) fun e s' hs=>hs
 have fin:∀ {σ':St} {H':Hp} {v:V} {u:Value},Inv (zmV CX P w K mg base N qual scope f cdv A outer s H E) [] σ' H' s'→za9 v u→Q v H'→CE outer P w H s Q u s' :=
  fun {σ' H' v u} J rv q=>⟨v,H',J.os,J.bare,J.base,J.hok,rv,q⟩
 cases fl with
 | ret u =>
  obtain ⟨v,σ',H',J,rv,q⟩:=hs
  exact fin J rv q
 | next =>
  obtain ⟨σ',H',J,q⟩:=hs
  exact fin (v:=V.non) (u:=Value.none) J rfl q
 | brk =>
  obtain ⟨_,_,_,q⟩:=hs
  exact False.elim q
 | cont =>
  obtain ⟨_,_,_,q⟩:=hs
  exact False.elim q
end L2
namespace L2
open PySem PySem.Spec PyProof.Rows
section
variable {X:Cx} {x:Str} {p pos:Pos} {e:Expr} {es:List Expr} {t:TA} {id T:String} {r:List V→Hp→VK→Prop}
def tCB (r:List V→Hp→VK→Prop) (t:TA):TE:=fun σ H Q=>t σ H fun vs H1=>r vs H1 Q
theorem zat (hc:zdv X (.builtin id) r) (hg:Gl X x) (hm:X.mg x=none) (hv:bootBuiltins x=some (.builtin id)) (ha:PA X (e::es) t) (hn:x≠"__name__":=by decide) (hdb:(x == ("__debug__":Str))=false:=by decide)
  (he:starEach (e::es) X.env=(false,eval e X.env)::starEach es X.env:=by rfl) (hpl:(backTo pos (starEach es X.env)).any (·.1)=false:=by rfl):PE X (.Call (.Name x p) (e::es) [] pos) (tCB r t):=by
 intro pins s σ H Q I h
 refine wpAny_Call_Name_kw (zdY I hg hm hv ?_ hn hdb)
 exact PyProof.Rows.callWith_builtin1 (thn (ha pos pins s σ H _ I h) fun us s1 ⟨vs,H1,I1,r1,q1⟩=>hc pins s1 σ H1 vs us Q I1 r1 q1) he hpl
theorem zcb (hc:zdv X (.type T) r) (hg:Gl X x) (hm:X.mg x=none) (hv:bootBuiltins x=some (.type T)) (ha:PA X (e::es) t) (hn:x≠"__name__":=by decide) (hdb:(x == ("__debug__":Str))=false:=by decide)
  (he:starEach (e::es) X.env=(false,eval e X.env)::starEach es X.env:=by rfl) (hpl:(backTo pos (starEach es X.env)).any (·.1)=false:=by rfl):PE X (.Call (.Name x p) (e::es) [] pos) (tCB r t):=by
 intro pins s σ H Q I h
 refine wpAny_Call_Name_kw (zdY I hg hm hv ?_ hn hdb)
 exact PyProof.Rows.callWith_type1 (thn (ha pos pins s σ H _ I h) fun us s1 ⟨vs,H1,I1,r1,q1⟩=>hc pins s1 σ H1 vs us Q I1 r1 q1) he hpl
end
end L2
namespace HT
open PySem PyProof.Rows
section
open PySem.SeqAt
open PySem.AutoSeq1 (wpAny_loadPart')
open PySem.MeetsSeq PySem.MeetsSeq2 PySem.MeetsSeq3
end
section
variable {prog:Program} {w:World} {A:Around} {E:Value→Shared→Prop} {s:Shared}
theorem cat_tup {t b:Addr} {vs ws:List Value} {Q:Value→Shared→Prop} (ht:IsTup s.heap t vs.toArray) (hb:IsTup s.heap b ws.toArray) (hv:vs≠[])
  (h1:ws=[]→Q (.ref t) s) (h2:ws≠[]→Q (.ref s.heap.objs.size) { s with heap:=s.heap.push { cls:=.type "tuple",data:=.seq (vs++ws).toArray } })
  (hsz:vs.length+ws.length≤sizeLine):wpAny (model prog w) A (binaryOp .Add (.ref t) (.ref b)) Q E s:=by
 obtain ⟨⟨cls,dd,data,sl⟩,ho,hc,n,hd⟩:=id ht
 obtain ⟨⟨cls2,dd2,data2,sl2⟩,ho2,hc2,n2,hd2⟩:=id hb
 simp only at hc hd hc2 hd2
 subst hc hd hc2 hd2
 have e:vs.toArray++ws.toArray=(vs++ws).toArray:=by simp
 by_cases hw:ws=[]
 ·exact concat_meets ⟨_,ho,rfl⟩ ⟨_,ho2,rfl⟩ noFill_tuple_add seq_tuple_add PySem.F.slot_tuple_add PySem.F.entry_tuple_add (PySem.F.args_tuple_add_2 _ _)
   (tuple_addW1 t b vs.toArray ws.toArray n n2 dd dd2 sl sl2 (by simpa using hv) (by simp [hw])) ⟨ho,ho2,h1 hw⟩
 ·refine concat_meets ⟨_,ho,rfl⟩ ⟨_,ho2,rfl⟩ noFill_tuple_add seq_tuple_add PySem.F.slot_tuple_add PySem.F.entry_tuple_add (PySem.F.args_tuple_add_2 _ _)
   (tuple_addW2 t b vs.toArray ws.toArray n n2 dd dd2 sl sl2 (by simpa using hv) (by simpa using hw) (by rw [List.size_toArray,List.size_toArray];exact hsz)) ⟨ho,ho2,?_⟩
  rw [e]
  exact h2 hw
end
end HT
namespace L2
open PySem PySem.Spec PyProof.Rows
abbrev TO:=St→Hp→(Option Int→Hp→Prop)→Prop
section
variable {X:Cx} {e:Expr} {te:TE} {lo hi:Option Expr} {tl th:TO} {pos p2:Pos}
def zio (K:PySem.W.Frag):R2:=fun x y H Q=>∃ a b xs ys,x=.ref a∧y=.ref b∧SqT K H a xs∧SqT K H b ys∧xs≠[]∧xs.length+ys.length≤sizeLine ∧
 (ys=[]→Q (.ref a) H)∧(ys≠[]→∀ p,H p=none→Q (.ref p) (upd H p (.tup (xs++ys))))
theorem zbr.nil_iff {xs:List V} {us:List Value} (r:zbr xs us):us=[]↔xs=[]:=by
 cases r with
 | nil=>simp
 | cons _ _=>simp
theorem zjF:OpR X (binaryOp .Add) (zio X.K):=by
 intro pins s σ H x y v u Q I rx ry h
 obtain ⟨a,b,xs,ys,rfl,rfl,ha,hb,hx,hz,q1,q2⟩:=h
 cases rx
 cases ry
 obtain ⟨its,r1,p1,_⟩:=I.tuple ha
 obtain ⟨its2,r2,p2,_⟩:=I.tuple hb
 refine HT.cat_tup p1 p2 (fun z=>hx (r1.nil_iff.mp z)) (fun z=>⟨.ref a,H,I,rfl,q1 (r2.nil_iff.mp z)⟩) (fun z=>?_) (by rw [← r1.length,← r2.length];exact hz)
 refine ⟨.ref s.heap.objs.size,_,I.laid (t':=s.toks) (o:=.tup (xs++ys)) (fun b ob q=>Heap.get?_push_of_some _ q) (Nat.le_refl _) ?_,rfl,q2 (fun w=>z (r2.nil_iff.mpr w)) _ (I.hok.fresh (Nat.le_refl _))⟩
 exact ⟨by rw [List.length_append];exact hz,_,r1.append r2,IsTup.new _ _⟩
end
end L2
namespace L2
open PySem PySem.Spec PyProof.Rows
def ixN (n:Nat) (i:Int):Option Nat:=if 0≤i then (if i<n then some i.toNat else none) else if -(n:Int)≤i then some (i+n).toNat else none
def atI {α:Type} (xs:List α) (i:Int):Option α:=(ixN xs.length i).bind fun j=>xs[j]?
theorem zmc {n:Nat} {i:Int} {j:Nat} (h:ixN n i=some j):seqIndex? i n=some j∧j<n∧-(n:Int)≤i∧i<n:=by
 unfold ixN at h
 by_cases h0:0≤i
 ·rw [if_pos h0] at h
  by_cases h1:i<n
  ·rw [if_pos h1] at h
   have e:i.toNat=j:=Option.some.inj h
   exact ⟨by rw [seqIndex_of h0 h1,e],by (first|lia|omega),by (first|lia|omega),h1⟩
  ·rw [if_neg h1] at h;cases h
 ·rw [if_neg h0] at h
  by_cases h1:-(n:Int)≤i
  ·rw [if_pos h1] at h
   have e:(i+n).toNat=j:=Option.some.inj h
   exact ⟨by rw [seqIndex_neg (by (first|lia|omega)) h1,e],by (first|lia|omega),h1,by (first|lia|omega)⟩
  ·rw [if_neg h1] at h;cases h
theorem zjX {α:Type} {xs:List α} {i:Int} {v:α} (h:atI xs i=some v):∃ j,seqIndex? i xs.length=some j∧xs[j]?=some v∧j<xs.length∧-(xs.length:Int)≤i∧i<xs.length:=by
 unfold atI at h
 cases e:ixN xs.length i with
 | none=>rw [e] at h;cases h
 | some j =>
  rw [e] at h
  obtain ⟨h1,h2,h3,h4⟩:=zmc e
  exact ⟨j,h1,h,h2,h3,h4⟩
theorem ziM {α:Type} {xs:List α} {j:Nat} {v:α} (h:xs[j]?=some v):atI xs (j:Int)=some v:=by
 have hj:j<xs.length:=(List.getElem?_eq_some_iff.mp h).1
 have e:ixN xs.length (j:Int)=some j:=by
  unfold ixN
  rw [if_pos (by (first|lia|omega)),if_pos (by (first|lia|omega))];simp
 unfold atI;rw [e];exact h
def zl1 (b:Expr):Prop:=∀ o i,subscripted b false o i=operate [o,i] (getItem o i)
def IxR (X:Cx) (r:R2):Prop :=
 ∀ (value slice:Expr) (pins:List (Addr×Obj)) (s:Shared) (σ:St) (H:Hp) (x y:V) (v u:Value) (Q:VK),Inv X pins σ H s→za9 x v→za9 y u→r x y H Q →
  subscripted slice false v u=operate [v,u] (getItem v u)→wpAny (model X.prog X.w) X.A (subscriptTail value slice v u) (EP X pins σ Q) X.xe s
def MtR (X:Cx) (id:String) (r:V→List V→Hp→VK→Prop):Prop :=
 ∀ (pins:List (Addr×Obj)) (s:Shared) (σ:St) (H:Hp) (x:V) (xs:List V) (v:Value) (us:List Value) (Q:VK),Inv X pins σ H s→za9 x v→zbr xs us→r x xs H Q →
  wpAny (model X.prog X.w) X.A (call (.builtin id) (v::us)) (EP X pins σ Q) X.xe s
section
variable {X:Cx} {a b:Expr} {ta tb:TE} {pos:Pos}
theorem zbG {r:R2} (hr:IxR X r) (ha:PE X a ta) (hb:PE X b tb) (hs:zl1 b):PE X (.Subscript a b pos) (tOp r ta tb):=by
 intro pins s σ H Q I h
 exact Subscript_ (binT ha hb I h fun v u s2 x y H2 I2 rx ry q=>hr a b pins s2 σ H2 x y v u Q I2 rx ry q (hs _ _))
def zcs (K:PySem.W.Frag):R2:=fun x y H Q=>∃ p xs i v,x=.ref p∧y=.int i∧SqL K H p xs∧atI xs i=some v∧Q v H
def ze1 (K:PySem.W.Frag):R2:=fun x y H Q=>∃ p xs i v,x=.ref p∧y=.int i∧SqT K H p xs∧atI xs i=some v∧Q v H
theorem zbi:IxR X (zcs X.K):=by
 intro value slice pins s σ H x y v u Q I rx ry h hs
 obtain ⟨p,xs,i,z,rfl,rfl,hq,he,q⟩:=h
 cases rx
 obtain ⟨t,rfl⟩:=ry
 obtain ⟨its,r,pl,hz⟩:=I.list hq
 obtain ⟨j,h1,h2,h3,h4,h5⟩:=zjX he
 obtain ⟨w,ew,rw'⟩:=r.get h2
 have hl:=r.length
 have hn:=zhp
 have fin:EP X pins σ Q w s:=⟨z,H,I,rw',q⟩
 by_cases h0:0≤i
 ·have hj:i.toNat=j:=by
   rw [seqIndex_of h0 h5] at h1
   exact Option.some.inj h1
  exact item_listR pl.isList h0 (by (first|lia|omega)) (by rw [hj];simpa using ew) fin hs
 ·have hj:(i+(its.toArray.size:Int)).toNat=j:=by
   rw [seqIndex_neg (by (first|lia|omega)) h4] at h1
   rw [List.size_toArray,← hl]
   exact Option.some.inj h1
  exact subscriptTail_builtinR (x:=w) pl.isList.typeIs slot_list_getitem.lookup
   (wpAny_getItem_list_neg (Q:=fun r s'=>r=w∧EP X pins σ Q r s') pl.isList (by (first|lia|omega)) (by rw [List.size_toArray] <;> (first|lia|omega)) (by (first|lia|omega)) (by rw [hj];simpa using ew) ⟨rfl,fin⟩) hs
theorem zc4:IxR X (ze1 X.K):=by
 intro value slice pins s σ H x y v u Q I rx ry h hs
 obtain ⟨p,xs,i,z,rfl,rfl,hq,he,q⟩:=h
 cases rx
 obtain ⟨t,rfl⟩:=ry
 obtain ⟨its,r,pl,hz⟩:=I.tuple hq
 obtain ⟨j,h1,h2,h3,h4,h5⟩:=zjX he
 obtain ⟨w,ew,rw'⟩:=r.get h2
 have hl:=r.length
 have hn:=zhp
 have fin:EP X pins σ Q w s:=⟨z,H,I,rw',q⟩
 exact subscriptTail_builtinR (x:=w) pl.typeIs slot_tuple_getitem.lookup
  (getItem_tuple (j:=j) (Q:=fun r s'=>r=w∧EP X pins σ Q r s') pl (by (first|lia|omega)) (by (first|lia|omega)) (by rw [List.size_toArray,← hl];exact h1) (by simpa using ew) ⟨rfl,fin⟩) hs
def zft:V→Bool
 | .non=>true
 | .bl _=>true
 | .int _=>true
 | .str _=>true
 | _=>false
def eqV:V→V→Bool
 | .non,.non=>true
 | .bl a,.bl b=>a == b
 | .bl a,.int b=>(if a then 1 else 0) == b
 | .int a,.bl b=>a == (if b then 1 else 0)
 | .int a,.int b=>a == b
 | .str a,.str b=>a == b
 | _,_=>false
theorem znP {A:Around} {s:Shared} {y x:V} {u v:Value} (ry:za9 y u) (rx:za9 x v) (fy:zft y=true) (fx:zft x=true):SeqAt.EqAt A s u v (eqV y x):=by
 cases y with
 | non =>
  cases ry
  cases x with
  | non=>cases rx;exact SeqAt.EqAt.same _
  | bl b=>cases rx;exact SeqAt.EqAt.none_bool b
  | int b=>obtain ⟨t,rfl⟩:=rx;exact SeqAt.EqAt.none_int b t
  | str b=>obtain ⟨t,rfl⟩:=rx;exact SeqAt.EqAt.none_str b t
  | _=>exact absurd (show false=true from fx) Bool.false_ne_true
 | bl a =>
  cases ry
  cases x with
  | non=>cases rx;exact SeqAt.EqAt.bool_none a
  | bl b=>cases rx;exact SeqAt.EqAt.bool_bool a b
  | int b=>obtain ⟨t,rfl⟩:=rx;exact SeqAt.EqAt.bool_int a b t
  | str b=>obtain ⟨t,rfl⟩:=rx;exact SeqAt.EqAt.bool_str a b t
  | _=>exact absurd (show false=true from fx) Bool.false_ne_true
 | int a =>
  obtain ⟨t',rfl⟩:=ry
  cases x with
  | non=>cases rx;exact SeqAt.EqAt.int_none a t'
  | bl b=>cases rx;exact SeqAt.EqAt.int_bool a t' b
  | int b=>obtain ⟨t,rfl⟩:=rx;exact SeqAt.EqAt.int_int a t' b t
  | str b=>obtain ⟨t,rfl⟩:=rx;exact SeqAt.EqAt.int_str a t' b t
  | _=>exact absurd (show false=true from fx) Bool.false_ne_true
 | str a =>
  obtain ⟨t',rfl⟩:=ry
  cases x with
  | non=>cases rx;exact SeqAt.EqAt.str_none a t'
  | bl b=>cases rx;exact SeqAt.EqAt.str_bool a t' b
  | int b=>obtain ⟨t,rfl⟩:=rx;exact SeqAt.EqAt.str_int a t' b t
  | str b=>obtain ⟨t,rfl⟩:=rx;exact SeqAt.EqAt.str_str a t' b t
  | _=>exact absurd (show false=true from fx) Bool.false_ne_true
 | _=>exact absurd (show false=true from fy) Bool.false_ne_true
def eqU (x:V) (u:Value):Bool:=match u with
 | .none=>eqV .non x
 | .bool b=>eqV (.bl b) x
 | .int i _=>eqV (.int i) x
 | .str z _=>eqV (.str z) x
 | _=>false
theorem zlo {x y:V} {u:Value} (r:za9 y u) (f:zft y=true):eqU x u=eqV y x:=by
 cases y with
 | non=>cases r;rfl
 | bl b=>cases r;rfl
 | int i=>obtain ⟨t,rfl⟩:=r;rfl
 | str z=>obtain ⟨t,rfl⟩:=r;rfl
 | _=>exact absurd (show false=true from f) Bool.false_ne_true
theorem zeo {x:V}:∀ {xs:List V} {us:List Value},zbr xs us→xs.all zft=true→us.any (eqU x)=xs.any fun y=>eqV y x
 | _,_,.nil,_=>rfl
 | y::xs,u::us,.cons r t,f=>by
  rw [List.all_cons,Bool.and_eq_true] at f
  rw [List.any_cons,List.any_cons,zlo r f.1,zeo t f.2]
theorem zdx {A:Around} {s:Shared} {x:V} {v:Value} (rx:za9 x v) (fx:zft x=true):∀ {xs:List V} {us:List Value},zbr xs us→xs.all zft=true→∀ u∈us,SeqAt.EqAt A s u v (eqU x u)
 | _,_,.nil,_=>fun u hu=>by cases hu
 | y::xs,u::us,.cons r t,f=>fun u' hu=>by
  rw [List.all_cons,Bool.and_eq_true] at f
  rcases List.mem_cons.mp hu with rfl | hu
  ·rw [zlo r f.1];exact znP r rx f.1 fx
  ·exact zdx rx fx t f.2 u' hu
def inV (x:V) (xs:List V):Bool:=xs.any fun y=>eqV y x
def rIn (K:PySem.W.Frag) (neg:Bool):R2:=fun x y H Q=>∃ p xs,y=.ref p∧(SqL K H p xs∨SqT K H p xs)∧zft x=true∧xs.all zft=true∧Q (.bl (if neg then !inV x xs else inV x xs)) H
theorem zjU:OpR X (compareOp .In) (rIn X.K false):=by
 intro pins s σ H x y v u Q I rx ry h
 obtain ⟨p,xs,rfl,hq,fx,fs,q⟩:=h
 cases ry
 rcases hq with hq | hq
 ·obtain ⟨its,r,pl,hz⟩:=I.list hq
  refine SeqAt.in_listAt (eqU x) pl.isList (fun w hw=>zdx rx fx r fs w (by simpa using hw)) ⟨.bl _,H,I,rfl,?_⟩
  rw [show its.toArray.any (eqU x)=its.any (eqU x) by simp,zeo r fs]
  exact q
 ·obtain ⟨its,r,pl,hz⟩:=I.tuple hq
  refine SeqAt.in_tupleAt (eqU x) pl (fun w hw=>zdx rx fx r fs w (by simpa using hw)) ⟨.bl _,H,I,rfl,?_⟩
  rw [show its.toArray.any (eqU x)=its.any (eqU x) by simp,zeo r fs]
  exact q
theorem zcB:OpR X (compareOp .NotIn) (rIn X.K true):=by
 intro pins s σ H x y v u Q I rx ry h
 obtain ⟨p,xs,rfl,hq,fx,fs,q⟩:=h
 cases ry
 rcases hq with hq | hq
 ·obtain ⟨its,r,pl,hz⟩:=I.list hq
  refine SeqAt.notIn_listAt (eqU x) pl.isList (fun w hw=>zdx rx fx r fs w (by simpa using hw)) ⟨.bl _,H,I,rfl,?_⟩
  rw [show its.toArray.any (eqU x)=its.any (eqU x) by simp,zeo r fs]
  exact q
 ·obtain ⟨its,r,pl,hz⟩:=I.tuple hq
  refine SeqAt.notIn_tupleAt (eqU x) pl (fun w hw=>zdx rx fx r fs w (by simpa using hw)) ⟨.bl _,H,I,rfl,?_⟩
  rw [show its.toArray.any (eqU x)=its.any (eqU x) by simp,zeo r fs]
  exact q
theorem zaQ:zdv X (.builtin "len") (fun xs H Q=>∃ p ys,xs=[.ref p]∧(SqL X.K H p ys∨SqT X.K H p ys)∧Q (.int ys.length) H):=by
 intro pins s σ H xs us Q I r h
 obtain ⟨p,ys,rfl,hq,q⟩:=h
 obtain ⟨u,rfl,rx⟩:=zeK r
 cases rx
 have hn:=zhp
 rcases hq with hq | hq
 ·obtain ⟨its,r',pl,hz⟩:=I.list hq
  have hlen:=r'.length
  exact Calls.call_len_list pl.isList (by simp only [List.size_toArray] <;> (first|lia|omega)) ⟨.int ys.length,H,I.tok _,⟨s.toks+1,by rw [List.size_toArray,hlen]⟩,q⟩
 ·obtain ⟨its,r',pl,hz⟩:=I.tuple hq
  have hlen:=r'.length
  exact len_tuple pl (by simp only [List.size_toArray] <;> (first|lia|omega)) ⟨.int ys.length,H,I.tok _,⟨s.toks+1,by rw [List.size_toArray,hlen]⟩,q⟩
theorem zgr:zdv X (.type "list") (fun xs H Q=>∃ p ys,xs=[.ref p]∧(SqL X.K H p ys∨SqT X.K H p ys)∧∀ l,H l=none→Q (.ref l) (upd H l (.lst ys))):=by
 intro pins s σ H xs us Q I r h
 obtain ⟨p,ys,rfl,hq,q⟩:=h
 obtain ⟨u,rfl,rx⟩:=zeK r
 cases rx
 have fin:∀ (its:List Value),zbr ys its→ys.length≤sizeLine→∀ (h':Heap) (c':Nat),(∀ b o',s.heap.get? b=some o'→h'.get? b=some o') →
   h'.get? s.heap.objs.size=some { cls:=.type "list",dict:=none,data:=.seq its.toArray c',slots:=#[] }→EP X pins σ Q (.ref s.heap.objs.size) { s with heap:=h' }:=fun its r' hz h' c' kp e =>
  ⟨.ref s.heap.objs.size,_,I.laid (t':=s.toks) kp (Nat.le_refl _) (show zaP X.prog X.w _ h' _ (.lst ys) from ⟨hz,its,c',r',e⟩),rfl,q _ (I.hok.fresh (Nat.le_refl _))⟩
 rcases hq with hq | hq
 ·obtain ⟨its,r',pl,hz⟩:=I.list hq
  have hlen:=r'.length
  obtain ⟨o,ho,hc,n,hd⟩:=pl.isList
  exact call_list_seq p (.inl rfl) ho hc hd (fun h' c' kp e=>fin its r' hz h' c' kp e) (by simp only [List.size_toArray] <;> (first|lia|omega))
 ·obtain ⟨its,r',pl,hz⟩:=I.tuple hq
  have hlen:=r'.length
  obtain ⟨o,ho,hc,n,hd⟩:=pl
  exact call_list_seq p (.inr rfl) ho hc hd (fun h' c' kp e=>fin its r' hz h' c' kp e) (by simp only [List.size_toArray] <;> (first|lia|omega))
theorem zdj:zdv X (.type "tuple") (fun xs H Q=>∃ p ys,xs=[.ref p]∧((SqL X.K H p ys∧∀ l,H l=none→Q (.ref l) (upd H l (.tup ys)))∨(SqT X.K H p ys∧Q (.ref p) H))):=by
 intro pins s σ H xs us Q I r h
 obtain ⟨p,ys,rfl,h⟩:=h
 obtain ⟨u,rfl,rx⟩:=zeK r
 cases rx
 rcases h with ⟨hq,q⟩ | ⟨hq,q⟩
 ·obtain ⟨its,r',pl,hz⟩:=I.list hq
  have hlen:=r'.length
  refine call_tuple_list pl.isList (fun h' kp=>?_) (by simp only [List.size_toArray] <;> (first|lia|omega))
  have I1:Inv X pins σ H { s with heap:=h' }:=I.kept (t':=s.toks) kp
  have I2:Inv X pins σ (upd H h'.objs.size (.tup ys)) { s with heap:=h'.push { cls:=.type "tuple",data:=.seq its.toArray } } :=
   I1.laid (t':=s.toks) (fun b o e=>Heap.get?_push_of_some _ e) (Nat.le_refl _) (show zaP X.prog X.w _ _ _ (.tup ys) from ⟨hz,its,r',IsTup.new _ _⟩)
  exact ⟨.ref h'.objs.size,_,I2,rfl,q _ (I1.hok.fresh (Nat.le_refl _))⟩
 ·obtain ⟨its,r',pl,hz⟩:=I.tuple hq
  exact call_tuple_same pl ⟨.ref p,H,I,rfl,q⟩
def tyV (K:PySem.W.Frag) (T:String) (x:V) (H:Hp):Prop:=match x with
 | .str _=>T="str"
 | .int _=>T="int"
 | .ref p=>(T="list"∧∃ xs,SqL K H p xs)∨(T="tuple"∧∃ o,K.lookup p=some o∧o.cls=.type "tuple"∧o.dict=none) ∨
   (T="dict"∧((∃ kvs,H p=some (.dK kvs))∨∃ kvs,H p=some (.dT kvs)))∨(T="set"∧∃ S n,H p=some (.set S n))
 | _=>False
theorem zlC {pins:List (Addr×Obj)} {σ:St} {H:Hp} {s:Shared} {T:String} {x:V} {v:Value} (I:Inv X pins σ H s) (r:za9 x v) (ty:tyV X.K T x H) :
  s.TypeIs v T∧∀ a,v=.ref a→∃ ob,s.heap.get? a=some ob∧ob.dict=none:=by
 cases x with
 | str z =>
  obtain ⟨t,rfl⟩:=r
  cases (show T="str" from ty)
  exact ⟨typeIs_str s z t,fun _ e=>nomatch e⟩
 | int i =>
  obtain ⟨t,rfl⟩:=r
  cases (show T="int" from ty)
  exact ⟨typeIs_int s i t,fun _ e=>nomatch e⟩
 | ref p =>
  cases r
  rcases ty with ⟨rfl,xs,hq⟩ | ⟨rfl,o,hk,hc,hd⟩ | ⟨rfl,hk⟩ | ⟨rfl,S,n,hk⟩
  ·obtain ⟨its,_,pl,_⟩:=I.list hq
   refine ⟨pl.isList.typeIs,fun a e=>?_⟩
   cases e
   obtain ⟨o,n,e,c,hd,_⟩:=pl
   exact ⟨o,e,hd⟩
  ·refine ⟨⟨o,I.kIn p o hk,hc⟩,fun a e=>?_⟩
   cases e
   exact ⟨o,I.kIn _ o hk,hd⟩
  ·have z:∃ o,s.heap.get? p=some o∧o.ExactDict:=by
    rcases hk with ⟨kvs,hk⟩ | ⟨kvs,hk⟩
    ·obtain ⟨_,_,_,_,o,_,_,e,ex,_⟩:=I.hok p _ hk
     exact ⟨o,e,ex⟩
    ·obtain ⟨_,_,_,_,o,_,_,e,ex,_⟩:=I.hok p _ hk
     exact ⟨o,e,ex⟩
   obtain ⟨o,e,ex⟩:=z
   refine ⟨⟨o,e,ex.1⟩,fun a e2=>?_⟩
   cases e2
   exact ⟨o,e,ex.2.1⟩
  ·obtain ⟨o,_,_,_,e,ex,_⟩:=I.hok p _ hk
   refine ⟨⟨o,e,ex.1⟩,fun a e2=>?_⟩
   cases e2
   exact ⟨o,e,ex.2.1⟩
 | _=>exact False.elim ty
def zlu (K:PySem.W.Frag) (T:String) (r:V→List V→Hp→VK→Prop) (to:TE):TE:=fun σ H Q=>to σ H fun x H1=>tyV K T x H1∧r x [] H1 Q
def tBM (K:PySem.W.Frag) (T:String) (r:V→List V→Hp→VK→Prop) (to:TE) (t:TA):TE:=fun σ H Q=>to σ H fun x H1=>tyV K T x H1∧t σ H1 fun xs H2=>r x xs H2 Q
variable {o e:Expr} {es:List Expr} {to:TE} {t:TA} {name:Str} {apos cpos:Pos} {T id:String} {r:V→List V→Hp→VK→Prop}
theorem zhE (pa:PlainAttrs T) (slot:Slot T name id) (hty:typeOf (.builtin id)=pure (.type "method_descriptor")) (hm:MtR X id r) (ho:PE X o to)
  (hbase:attributeBase o name X.env (eval o X.env)=eval o X.env:=by rfl) (hline:(apos.endLine == cpos.line)=true:=by rfl):PE X (.Call (.Attribute o name apos) [] [] cpos) (zlu X.K T r to):=by
 intro pins s σ H Q I h
 refine wpAny_Call_method0_late hbase hline (thn (ho pins s σ H _ I h) fun v s1 hQ'=>?_)
 obtain ⟨x,H1,I1,r1,ty,q1⟩:=hQ'
 obtain ⟨h1,h2⟩:=zlC I1 r1 ty
 exact ⟨T,id,pa,slot,hty,h1,h2,Calls.callWith_builtin rfl (PySem.evalArgs_none (hm pins s1 σ H1 x [] v [] Q I1 r1 .nil q1))⟩
theorem zeO (pa:PlainAttrs T) (slot:Slot T name id) (hty:typeOf (.builtin id)=pure (.type "method_descriptor")) (hm:MtR X id r) (ho:PE X o to) (ha:PA X (e::es) t)
  (hbase:attributeBase o name X.env (eval o X.env)=eval o X.env:=by rfl)
  (hfew:((backTo cpos (starEach (e::es) X.env)).all (fun x=>!x.1)&&(backToKw cpos (keywordEach [] X.env)).all (fun x=>x.1.isSome)
   && decide ((e::es).length+([]:List Keyword).length+(if ([]:List Keyword).isEmpty then 0 else 1)<30))=true:=by rfl)
  (hline:(apos.endLine == cpos.line)=true:=by rfl) (hs:starEach (e::es) X.env=(false,eval e X.env)::starEach es X.env:=by rfl) (hplain:(backTo cpos (starEach es X.env)).any (·.1)=false:=by rfl) :
  PE X (.Call (.Attribute o name apos) (e::es) [] cpos) (tBM X.K T r to t):=by
 intro pins s σ H Q I h
 refine wpAny_Call_method_late hbase hfew hline rfl (thn (ho pins s σ H _ I h) fun v s1 hQ'=>?_)
 obtain ⟨x,H1,I1,r1,ty,q1⟩:=hQ'
 obtain ⟨h1,h2⟩:=zlC I1 r1 ty
 refine ⟨T,id,pa,slot,hty,h1,h2,?_⟩
 have hA:=ha cpos pins s1 σ H1 _ I1 q1
 rw [hs] at hA ⊢
 refine Calls.callWith_builtin (by show (false || (backTo cpos (starEach es X.env)).any (·.1))=false;rw [hplain] <;> rfl) (Calls.evalArgs_plain ?_)
 exact thn hA fun us s2 ⟨vs,H2,I2,r2,q2⟩=>hm pins s2 σ H2 x vs v us Q I2 r1 r2 q2
end
end L2
namespace L2
open PySem PySem.Spec PyProof.Rows
def MtM (X:Cx) (id:String) (r:V→List V→Hp→VK→Prop):Prop :=
 ∀ (pins:List (Addr×Obj)) (s:Shared) (σ:St) (H:Hp) (x:V) (xs:List V) (v:Value) (us:List Value) (Q:VK),Inv X pins σ H s→za9 x v→zbr xs us→r x xs H Q →
  wpAny (model X.prog X.w) X.A (call (.builtin id) (v::us)) (EP X pins σ Q) X.xe s
theorem zbr.one:∀ {x:V} {us:List Value},zbr [x] us→∃ u,us=[u]∧za9 x u
 | _,_,.cons r .nil=>⟨_,rfl,r⟩
theorem zbr.zero:∀ {us:List Value},zbr [] us→us=[]
 | _,.nil=>rfl
theorem zbr.dropLast {xs:List V} {us:List Value} (h:zbr xs us):zbr xs.dropLast us.dropLast:=by
 induction h with
 | nil=>exact .nil
 | cons r t ih =>
  cases t with
  | nil=>exact .nil
  | cons q t'=>exact .cons r ih
theorem zig {α:Type} (l:List α):l.eraseIdx (l.length - 1)=l.dropLast:=by
 induction l with
 | nil=>rfl
 | cons a r ih =>
  cases r with
  | nil=>rfl
  | cons b r =>
   have e:(a::b::r).length - 1=((b::r).length - 1)+1:=by
    have h1:(a::b::r).length=r.length+2:=rfl
    have h2:(b::r).length=r.length+1:=rfl
    (first|lia|omega)
   rw [e,List.eraseIdx_cons_succ,ih]
   all_goals rfl
section
variable {X:Cx} {pins:List (Addr×Obj)} {σ:St} {H:Hp} {s:Shared} {l b:Addr} {xs ys zs:List V}
theorem Inv.lset {its its':List Value} {n:Nat} {f:Array Value→Array Value} {t':Nat} (I:Inv X pins σ H s) (hH:H l=some (.lst xs))
  (e:s.heap.get? l=some { cls:=.type "list",data:=.seq its.toArray n }) (hf:f its.toArray=its'.toArray) (hv:zbr ys its') (hz:ys.length≤sizeLine) :
  Inv X pins σ (upd H l (.lst ys)) { s with heap:=s.heap.update l (Obj.mapSeq f),toks:=t' }:=by
 have q:=PySem.IsL.update e f
 rw [hf] at q
 refine I.write (x:=l) (e:=l) (by rw [hH];exact trivial) (.inl rfl) (fun b' u hb hu=>(Heap.get?_update_other s.heap (Obj.mapSeq f) (Ne.symm hb)).trans hu) ⟨_,q⟩ ?_
 exact ⟨hz,its',_,hv,q⟩
theorem Inv.lnew {its:List Value} {t':Nat} (I:Inv X pins σ H s) (hv:zbr ys its) (hz:ys.length≤sizeLine) :
  Inv X pins σ (upd H s.heap.objs.size (.lst ys)) { s with heap:=s.heap.push { cls:=.type "list",data:=.seq its.toArray },toks:=t' } :=
 I.laid (fun _ _ q=>Heap.get?_push_of_some _ q) (Nat.le_refl _) ⟨hz,its,0,hv,Heap.get?_push_size _ rfl⟩
theorem Inv.fresh (I:Inv X pins σ H s):H s.heap.objs.size=none:=I.hok.fresh (Nat.le_refl _)
theorem Inv.lstM (I:Inv X pins σ H s) (hH:H l=some (.lst xs)):xs.length≤sizeLine∧∃ (its:List Value) (n:Nat),zbr xs its∧xs.length=its.length∧s.heap.get? l=some { cls:=.type "list",data:=.seq its.toArray n }:=by
 obtain ⟨z,its,n,r,e⟩:=I.hok l _ hH
 exact ⟨z,its,n,r,r.length,e⟩
theorem zkw {n:Nat} (h:n≤sizeLine):Builtin.List.listTooLong n=false:=by
 unfold Builtin.List.listTooLong
 exact decide_eq_false (by (first|lia|omega))
end
section
variable {X:Cx}
def zaU:V→List V→Hp→VK→Prop:=fun x vs H Q=>∃ l xs y,x=.ref l∧vs=[y]∧H l=some (.lst xs)∧xs.length<sizeLine∧Q .non (upd H l (.lst (xs++[y])))
theorem zbN:MtM X "list.append" zaU:=by
 intro pins s σ H x vs v us Q I rx rv h
 obtain ⟨l,xs,y,rfl,rfl,hH,hz,q⟩:=h
 cases rx
 obtain ⟨u,rfl,ru⟩:=rv.one
 obtain ⟨z,its,n,r,hl,e⟩:=I.lstM hH
 refine call_meets F.slot_list_append ⟨_,e,rfl⟩ F.entry_list_append (F.args_list_append_2 _ _) (PySem.list_append l its.toArray n u (by rw [List.size_toArray];(first|lia|omega))) ⟨e,?_⟩
 refine ⟨.non,_,I.lset (its':=its++[u]) hH e (by simp) (r.append (.cons ru .nil)) ?_,rfl,q⟩
 rw [List.length_append,List.length_singleton]
 (first|lia|omega)
def zfk:V→List V→Hp→VK→Prop:=fun x vs H Q=>∃ l b xs zs,x=.ref l∧vs=[.ref b]∧H l=some (.lst xs)∧H b=some (.lst zs)∧xs.length+zs.length≤sizeLine∧Q .non (upd H l (.lst (xs++zs)))
theorem zim:MtM X "list.extend" zfk:=by
 intro pins s σ H x vs v us Q I rx rv h
 obtain ⟨l,b,xs,zs,rfl,rfl,hH,hB,hz,q⟩:=h
 cases rx
 obtain ⟨u,rfl,ru⟩:=rv.one
 cases ru
 obtain ⟨z,its,n,r,hl,e⟩:=I.lstM hH
 obtain ⟨z2,its2,n2,r2,hl2,e2⟩:=I.lstM hB
 have hsz:its.toArray.size+its2.toArray.size≤sizeLine:=by rw [List.size_toArray,List.size_toArray];(first|lia|omega)
 have hlong:¬ (!its.toArray.isEmpty&&Builtin.List.listTooLong (its.toArray.size+its2.toArray.size))=true:=by
  rw [zkw hsz,Bool.and_false]
  exact Bool.false_ne_true
 refine call_meets F.slot_list_extend ⟨_,e,rfl⟩ F.entry_list_extend (F.args_list_extend_2 _ _)
  (AutoSeq1.list_extend_list_list_0 l its.toArray n b its2.toArray n2 hlong (by rw [List.size_toArray];(first|lia|omega)) (by (first|lia|omega))) ⟨e,e2,?_⟩
 refine ⟨.non,_,I.lset (its':=its++its2) hH e (by simp) (r.append r2) ?_,rfl,q⟩
 rw [List.length_append]
 (first|lia|omega)
def rPop:V→List V→Hp→VK→Prop:=fun x vs H Q=>∃ l xs y,x=.ref l∧vs=[]∧H l=some (.lst xs)∧xs[xs.length - 1]?=some y∧Q y (upd H l (.lst xs.dropLast))
theorem zns:MtM X "list.pop" rPop:=by
 intro pins s σ H x vs v us Q I rx rv h
 obtain ⟨l,xs,y,rfl,rfl,hH,hy,q⟩:=h
 cases rx
 have hus:=rv.zero
 subst hus
 obtain ⟨z,its,n,r,hl,e⟩:=I.lstM hH
 obtain ⟨u,hu,ru⟩:=r.get hy
 have hy':its.toArray[its.toArray.size - 1]?=some u:=by
  show its.toArray[its.length - 1]?=some u
  rw [← Array.getElem?_toList,← hl]
  exact hu
 refine call_meets F.slot_list_pop ⟨_,e,rfl⟩ F.entry_list_pop (F.args_list_pop_1 _) (MeetsSeq.list_pop_last l its.toArray n u hy' (by rw [List.size_toArray];(first|lia|omega))) ⟨e,?_⟩
 refine ⟨y,_,I.lset (its':=its.dropLast) hH e ?_ r.dropLast ?_,ru,q⟩
 ·show its.toArray.eraseIdxIfInBounds (its.toArray.size - 1)=its.dropLast.toArray
  rw [List.size_toArray,List.eraseIdxIfInBounds_toArray,zig]
 ·rw [List.length_dropLast]
  (first|lia|omega)
def zhe:V→List V→Hp→VK→Prop:=fun x vs H Q=>∃ l xs,x=.ref l∧vs=[]∧H l=some (.lst xs)∧Q .non (upd H l (.lst []))
theorem zkl:MtM X "list.clear" zhe:=by
 intro pins s σ H x vs v us Q I rx rv h
 obtain ⟨l,xs,rfl,rfl,hH,q⟩:=h
 cases rx
 have hus:=rv.zero
 subst hus
 obtain ⟨z,its,n,r,hl,e⟩:=I.lstM hH
 refine call_meets F.slot_list_clear ⟨_,e,rfl⟩ F.entry_list_clear (F.args_list_clear_1 _) (AutoSeq1.list_clear_list_0 l its.toArray n (by rw [List.size_toArray];(first|lia|omega))) ⟨e,?_⟩
 exact ⟨.non,_,I.lset (its':=[]) (ys:=[]) hH e rfl .nil (Nat.zero_le _),rfl,q⟩
def rCat:R2:=fun x y H Q=>∃ l b xs zs,x=.ref l∧y=.ref b∧H l=some (.lst xs)∧H b=some (.lst zs)∧xs.length+zs.length≤sizeLine∧∀ p,H p=none→Q (.ref p) (upd H p (.lst (xs++zs)))
theorem znO:OpR X (binaryOp .Add) rCat:=by
 intro pins s σ H x y v u Q I rx ry h
 obtain ⟨l,b,xs,zs,rfl,rfl,hH,hB,hz,q⟩:=h
 cases rx
 cases ry
 obtain ⟨z,its,n,r,hl,e⟩:=I.lstM hH
 obtain ⟨z2,its2,n2,r2,hl2,e2⟩:=I.lstM hB
 refine PySem.P.add_list e e2 ?_ (by rw [List.size_toArray,List.size_toArray];(first|lia|omega))
 have ea:its.toArray++its2.toArray=(its++its2).toArray:=by simp
 rw [ea]
 exact ⟨.ref _,_,I.lnew (t':=s.toks) (r.append r2) (by rw [List.length_append];(first|lia|omega)),rfl,q _ I.fresh⟩
end
section
variable {prog:Program} {w:World} {A:Around} {E:Value→Shared→Prop} {s:Shared}
end
section
variable {X:Cx}
end
end L2
namespace Att
open PySem PySem.W PySem.Calls PyProof.Rows
theorem zep {P:Params} {h:Heap}:∀ (ns:List Int) (vs:List Value),WellAll P h vs (ns.map WData.int)→IntsAre vs ns:=by
 intro ns
 induction ns with
 | nil =>
  intro vs w
  rw [List.map_nil] at w
  cases w
  exact .nil
 | cons n ns ih =>
  intro vs w
  rw [List.map_cons] at w
  cases w with
  | cons a b =>
   cases a
   exact .cons _ _ (ih _ b)
theorem zjc {l:OpenLaw} {n:Nat} (hn:l.most=some n) {P:Params} {h:Heap} {args:List WData} {vals:List Value}
  (hpre:l.row.toRowW.claim.pre args=true) (hwl:WellAll P h vals args) :
  ∃ a vs ns,vals=[Value.ref a]∧args=[WData.list (ns.map WData.int)]∧h.get? a=some { cls:=.type "list",data:=.seq vs.toArray }∧IntsAre vs ns∧ns.length≤n:=by
 have hsh:WShape.hasAll [] args [.list .int]=true:=(pre_splitW hpre).1
 have hc:l.pre.holds [] { args:=args }=true:=(pre_splitW hpre).2
 obtain ⟨d,r,rfl,h1,h2⟩:=hasAllW_cons hsh
 obtain rfl:=hasAllW_nil h2
 obtain ⟨xs,rfl,h3⟩:=hasW_list h1
 obtain ⟨ns,rfl⟩:=items_int h3
 have hlen:ns.length≤n:=by
  unfold OpenLaw.pre at hc
  have h4:(WTm.not (.lt (.lit (.int (n:Int))) (.len (.arg 0)))).holds [] { args:=[.list (ns.map .int)] }=true:=by
   have h4:=(holds_andW hc).1
   rw [hn] at h4
   exact h4
  have h5:=condW_of h4 (w_not (w_lt w_lit (w_len_list (w_arg rfl))))
  rw [List.length_map] at h5
  refine Nat.le_of_not_lt fun q=>?_
  have q':(n:Int)<((ns.length:Nat):Int):=by (first|lia|omega)
  first
   | (rw [decide_eq_true q'] at h5;exact absurd h5 (by decide))
   | (simp at h5;(first|lia|omega))
 cases hwl with
 | cons w1 w2 =>
  cases w2
  cases w1 with
  | list ho hall=>exact ⟨_,_,ns,rfl,rfl,ho,zep ns _ hall,hlen⟩
theorem zi0 (l:OpenLaw) (args:List WData):l.row.toRowW.claim.post args (.bool true) args=true :=
 postW_of (r:=l.row.toRowW) (X:=(true == true))
  (show WShape.has [] (.bool true) .bool=true by first | rfl | decide | simp [WShape.has,WShape.arms,WShape.armsAll])
  (show (WTm.eq .res (.lit (.bool true))).value [] { args:=args,res:=some (.bool true),after:=args }=some (.bool (true == true)) from w_eq_bool (w_res rfl) w_lit) rfl
theorem attach_call {l:OpenLaw} {n:Nat} {q:Program} {loose:List Str} {XP:(Str→Option Value)→Heap→Prop} {YP:World→Heap→Prop} {d:DefRec}
  (hn:l.most=some n) (hdf:d.params.defaults=[])
  (call:∀ (w:World) (s₀ s₁:Shared) (mg mb:Str→Option Value) (fa:Addr) (o:Obj) (pm cd doc:Value) (a:Addr) (vs:List Value) (ns:List Int),
   Ground q loose [] XP w s₀ mg mb s₁.heap→YP w s₁.heap →
   s₁.heap.get? fa=some o→o.data=.func (docDef d.name d.params d.body d.scope pm cd doc)→s₁.heap.CodeRec cd d.name→mg d.name=some (.ref fa) →
   s₁.heap.get? a=some { cls:=.type "list",data:=.seq vs.toArray }→IntsAre vs ns→ns.length≤n→s₁.gens=#[] →
   codeAny (model l.prog w) callerA (.call (.ref fa) ⟨[.ref a],[]⟩) (fun r s'=>r=.ok (.ret (.bool true))∧OldK s₁.heap s'.heap∧s'.os=s₁.os∧AllBare s'.gens) s₁) :
  WalkO q loose XP YP l.row.toRowW d [] (fun f vs=>PySem.call f vs):=by
 intro w s₀ s₁ mg mb G Y fa o pm cd doc dV kV ho hd hcd hD hmg hg args vals as hpre hlay hrd hwl hlo
 obtain rfl:dV=.none:=Dflts.none hD hdf
 obtain rfl:kV=.none:=Dflts.noKw hD
 obtain ⟨a,vs,ns,rfl,rfl,hobj,hints,hlen⟩:=zjc hn hpre hwl
 refine enter_call (codeAny_mono (call w s₀ s₁ mg mb fa o pm cd doc a vs ns G Y ho (fd_plain hd) hcd hmg hobj hints hlen hg) fun r s' hq=>?_)
 obtain ⟨rfl,h2,h3,h4⟩:=hq
 exact ⟨.inl ⟨.bool true,.bool true,[],rfl,fun _=>rfl,.bool true,zi0 l _,fun _=>⟨List.Pairwise.nil,fun _ hm=>(nomatch hm)⟩⟩,h2,h3,h4⟩
section
variable {prog:Program} {w:World} {A:Around} {E:Value→Shared→Prop} {s:Shared} {K:Frag}
end
end Att
namespace L2
open PySem PySem.Spec PyProof.Rows
theorem zgv:∀ {vs:List Value} {ns:List Int},IntsAre vs ns→zbr (ns.map V.int) vs
 | _,_,.nil=>.nil
 | _,_,.cons n t h=>.cons ⟨t,rfl⟩ (zgv h)
def Only (H:Hp):Prop:=∀ b,H b=none∨∃ o xs,H b=some (.frz o (.lst xs))
theorem zkq {P:Program} {w:World} {K:PySem.W.Frag} {mg mb:Str→Option Value} {CX:CXT} {k:Nat} {fa a:Addr} {fd:FuncData} {x:Str} {sp:Sp} {s₁:Shared} {vs:List Value} {ns:List Int}
  (KX:K.In s₁.heap) (hns:s₁.heap.Ns mainGlobals mg) (hb:s₁.heap.Ns builtinsNs mb) (hbb:∀ x:Str,x≠"__name__"→mb x=bootBuiltins x) (hlim:s₁.heap.NoLimit) (hg:s₁.gens=#[])
  (ha:s₁.heap.get? a=some { cls:=.type "list",data:=.seq vs.toArray }) (hi:IntsAre vs ns) (hl:ns.length≤sizeLine) (hr:zfJ k callerA)
  (F:∀ base:Heap,K.In base→base.Ns mainGlobals mg→zd2 P w K mg base CX k fa fd [x] sp) (hbind:∀ (s:Shared) (u:Value),BindsTo s fd ⟨[u],[]⟩ [(x,u)])
  (hsp:∀ H:Hp,Only H→SqL K H a (ns.map V.int)→sp [.ref a] H (fun v _=>v=.bl true) fun _ _ _=>False)
  (hCX:∀ H e s',CX [] H s₁ (fun _ _ _=>False) e s'→False) :
  codeAny (model P w) callerA (.call (.ref fa) ⟨[.ref a],[]⟩) (fun r s'=>r=.ok (.ret (.bool true))∧OldK s₁.heap s'.heap∧s'.os=s₁.os∧AllBare s'.gens) s₁:=by
 have rv:=zgv hi
 have lenV:=hi.length
 have core:∀ H:Hp,Only H→SqL K H a (ns.map V.int)→HOk P w H s₁.heap→(∀ b,H b≠none→b=a)→(H a≠none→K.lookup a=none) →
   codeAny (model P w) callerA (.call (.ref fa) ⟨[.ref a],[]⟩) (fun r s'=>r=.ok (.ret (.bool true))∧OldK s₁.heap s'.heap∧s'.os=s₁.os∧AllBare s'.gens) s₁:=by
  intro H hO hS hok hA hK
  have base_of:∀ {b:Addr} {o:Obj},s₁.heap.get? b=some o→H b=none→(zkZ s₁.heap H).get? b=some o:=fun e n=>zkf e n
  have noA:∀ {b:Addr} {o:Obj} {es:Array DictEntry} {ep:Nat},s₁.heap.get? b=some o→o.data=.dict es ep→H b=none:=fun {b o es ep} e d=>by
   cases q:H b with
   | none=>rfl
   | some u =>
    have e':b=a:=hA b (by rw [q];simp)
    subst e'
    rw [ha] at e;cases e
    have d':Data.seq vs.toArray _=Data.dict es ep:=d
    cases d'
  have nsK:∀ {b:Addr} {m:Str→Option Value},s₁.heap.Ns b m→(zkZ s₁.heap H).Ns b m:=fun {b m} ⟨o,es,ep,e,d,r⟩=>⟨o,es,ep,base_of e (noA e d),d,r⟩
  have hKb:K.In (zkZ s₁.heap H):=fun b o e=>base_of (KX b o e) (by
   cases q:H b with
   | none=>rfl
   | some u =>
    have e':b=a:=hA b (by rw [q];simp)
    subst e'
    rw [hK (by rw [q];simp)] at e;cases e)
  have hM:Mod K mg (zkZ s₁.heap H):=⟨hKb,nsK hns,⟨mb,nsK hb,hbb⟩,let ⟨mc,h1,h2⟩:=hlim;⟨mc,nsK h1,h2⟩⟩
  have e0:Env0 P w K mg (zkZ s₁.heap H) callerA [] s₁ H:=⟨rfl,hM,fun b o e=>zmh e,Nat.le_of_eq (zjB _ _),trivial,fun b hb=>absurd (show b∈([]:List Addr) from hb) (by simp),hok,.of_eq hg⟩
  refine codeAny_mono ((F _ hKb (nsK hns)).run callerA [] s₁ H ⟨[.ref a],[]⟩ [.ref a] [.ref a] _ _ hr e0 (hbind s₁ (.ref a)) (.cons rfl .nil) (hsp H hO hS)) fun r s' h=>?_
  cases r with
  | error e=>exact (hCX H e s' h).elim
  | ok fl =>
   cases fl with
   | next=>exact False.elim h
   | brk=>exact False.elim h
   | cont=>exact False.elim h
   | ret u =>
    obtain ⟨v,H',os,bare,un,hok',r',q⟩:=h
    have q':v=.bl true:=q
    subst q'
    obtain rfl:u=Value.bool true:=r'
    refine ⟨rfl,OldK.of_keep fun b o e=>?_,os,bare⟩
    cases q:H b with
    | none=>exact un.keep b o e q (by intro z;exact absurd (show b∈([]:List Addr) from z) (by simp)) (by simp)
    | some u =>
     rcases hO b with z | ⟨ob,xs,z⟩
     ·rw [q] at z;cases z
     ·have z2:=un.frzs b ob _ z
      obtain ⟨e1,_⟩:=hok b _ z
      obtain ⟨e2,_⟩:=hok' b _ z2
      rw [e] at e1;cases e1
      exact e2
 cases hk:K.lookup a with
 | some o =>
  have e:=KX a o hk
  rw [ha] at e
  cases e
  refine core (fun _=>none) (fun _=>.inl rfl) (.inr ⟨_,vs.toArray,_,hk,rfl,rfl,rfl,by rw [List.size_toArray,lenV];exact hl,by simpa using rv⟩) (fun b u z=>by have z':(none:Option HO)=some u:=z;cases z') (fun b z=>absurd rfl z) fun z=>absurd rfl z
 | none =>
  refine core (fun b=>if b=a then some (.frz { cls:=.type "list",data:=.seq vs.toArray } (.lst (ns.map V.int))) else none) (fun b=>?_) (.inl (.inr ⟨{ cls:=.type "list",data:=.seq vs.toArray },if_pos rfl⟩)) (fun b u z=>?_) (fun b z=>?_) fun _=>hk
  ·by_cases hb:b=a
   ·exact .inr ⟨_,_,if_pos hb⟩
   ·exact .inl (if_neg hb)
  ·by_cases hb:b=a
   ·have z':=(if_pos hb).symm.trans z
    cases z'
    subst hb
    exact ⟨ha,by rw [List.length_map];exact hl,vs,_,rv,ha⟩
   ·have z':=(if_neg hb).symm.trans z
    cases z'
  ·by_cases hb:b=a
   ·exact hb
   ·exact absurd (if_neg hb) z
end L2
namespace L2
open PySem PySem.Spec PyProof.Rows
theorem zmC {l:PySem.W.OpenLaw} {n k:Nat} {q:Program} {loose:List Str} {XP:(Str→Option Value)→Heap→Prop} {YP:World→Heap→Prop} {d:DefRec} {K:Params→PySem.W.Frag} {CX:World→CXT} {sp:World→Sp} {x:Str}
  (hn:l.most=some n) (hn2:n≤sizeLine) (hdf:d.params.defaults=[]) (hr:zfJ k callerA)
  (hY:∀ (w:World) (h:Heap),YP w h→(K w.params).In h)
  (F:∀ (w:World) (mg:Str→Option Value) (fa:Addr) (h:Heap),(K w.params).In h→h.Ns mainGlobals mg→mg d.name=some (.ref fa) →
   ∃ fd:FuncData,(∀ (s:Shared) (u:Value),BindsTo s fd ⟨[u],[]⟩ [(x,u)]) ∧
    ∀ base:Heap,(K w.params).In base→base.Ns mainGlobals mg→zd2 l.prog w (K w.params) mg base (CX w) k fa fd [x] (sp w))
  (hsp:∀ (w:World) (H:Hp) (a:Addr) (ns:List Int),ns.length≤n→Only H→SqL (K w.params) H a (ns.map V.int)→sp w [.ref a] H (fun v _=>v=.bl true) fun _ _ _=>False)
  (hCX:∀ (w:World) (H:Hp) (s:Shared) (e:Value) (s':Shared),CX w [] H s (fun _ _ _=>False) e s'→False) :
  PySem.W.WalkO q loose XP YP l.row.toRowW d [] (fun f vs=>PySem.call f vs):=by
 refine Att.attach_call hn hdf fun w s₀ s₁ mg mb fa o pm cd doc a vs ns G Y ho hd hcd hmg hobj hints hlen hg=>?_
 have KX:=hY w _ Y
 obtain ⟨fd,hb,hF⟩:=F w mg fa _ KX G.T.g hmg
 exact zkq KX G.T.g G.T.b G.T.builtins G.T.nolimit hg hobj hints (Nat.le_trans hlen hn2) hr hF hb (fun H hO hS=>hsp w H a ns hlen hO hS) fun H e s'=>hCX w H s₁ e s'
end L2
namespace L2
open PySem PySem.Spec PyProof.Rows
def zfh (s:Stmt):Arguments:=match s with
 | .FunctionDef _ a _ _ _ _ _ _ _ _=>a
 | _=>{ posonlyargs:=[],args:=[],vararg:=none,kwonlyargs:=[],kw_defaults:=[],kwarg:=none,defaults:=[] }
def zeG (s:Stmt):List Stmt:=match s with
 | .FunctionDef _ _ b _ _ _ _ _ _ _=>b
 | _=>[]
def zas (s:Stmt):Scope:=match s with
 | .FunctionDef _ _ _ _ _ _ sc _ _ _=>sc
 | _=>{ kind:=.function,names:=[],isGenerator:=false,isCoroutine:=false }
abbrev CX0:CXT:=fun _ _ _ _ _ _=>False
abbrev E0:XK:=fun _ _ _=>False
theorem zb7 {X:Cx}:zi6 CX0 X E0:=fun _ _ _ _ _ _ _ h=>h.elim
structure Fun (K:PySem.W.Frag) (x qual:Str) (st:Stmt) (f:Addr) (fd:FuncData):Prop where
 ex:∃ (oc:Value) (od:Option Addr) (kV doc pm:Value) (an:Option Addr) (cdv ct:Value) (osl:Array (Option Value)),
  fd=PySem.W.fnOf x qual (zfh st) (zeG st) (zas st) .none kV doc pm an cdv ct∧K.lookup f=some ⟨oc,od,.func fd,osl⟩∧PySem.W.codeIn K cdv qual=true
 kp:PySem.W.keepIn K (.ref f)=true
section
variable {P:Program} {w:World} {K:PySem.W.Frag} {mg:Str→Option Value} {base:Heap}
theorem Fun.ok {x qual:Str} {st:Stmt} {f:Addr} {fd:FuncData} {N ps:List Str} {k:Nat} {sp:Sp} (F:Fun K x qual st f fd) (S:zaW N ps (zas st)) (len:∀ vs H Q E,sp vs H Q E→vs.length=ps.length)
  (hbody:∀ (cdv:Value) (A:Around) (outer:List Env) (s:Shared) (H:Hp) (vs:List V) (Q:VK) (E:XK),zfJ k (A.deeper (envOfC qual (zas st) s.heap.objs.size f cdv))→sp vs H Q E →
   ∃ t,PSs (zmV CX0 P w K mg base N qual (zas st) f cdv A outer s H E).nox (zeG st) t∧t { nx:=fun _ H'=>Q .non H',rt:=Q } (zbE N vs) H):zd2 P w K mg base CX0 (k+1) f fd ps sp:=by
 obtain ⟨oc,od,kV,doc,pm,an,cdv,ct,osl,rfl,lk,hcd⟩:=F.ex
 refine fn_of lk hcd S len fun A outer s H vs Q E hr hsp=>?_
 obtain ⟨t,h,q⟩:=hbody cdv A outer s H vs Q E hr hsp
 exact ⟨t,h.nox,q⟩
theorem Fun.binds {x qual:Str} {st:Stmt} {f:Addr} {fd:FuncData} {ps:List Str} (F:Fun K x qual st f fd)
  (h:∀ (kV doc pm:Value) (an:Option Addr) (cdv ct:Value) (us:List Value),us.length=ps.length→bindArgs (PySem.W.fnOf x qual (zfh st) (zeG st) (zas st) .none kV doc pm an cdv ct) ⟨us,[]⟩=pure (ps.zip us)):zb0 K fd ps []:=by
 obtain ⟨oc,od,kV,doc,pm,an,cdv,ct,osl,rfl,lk,hcd⟩:=F.ex
 exact .all (h kV doc pm an cdv ct)
theorem zbz {x qual:Str} {st:Stmt} {f:Addr} {oc:Value} {od an:Option Addr} {osl:Array (Option Value)} {kV doc pm cdv ct:Value} (l:K.lookup f=some ⟨oc,od,.func (PySem.W.fnOf x qual (zfh st) (zeG st) (zas st) .none kV doc pm an cdv ct),osl⟩)
  (c:PySem.W.codeIn K cdv qual=true) (k:PySem.W.keepIn K (.ref f)=true):Fun K x qual st f (PySem.W.fnOf x qual (zfh st) (zeG st) (zas st) .none kV doc pm an cdv ct):=⟨⟨oc,od,kV,doc,pm,an,cdv,ct,osl,rfl,l,c⟩,k⟩
end
theorem zfd {A:Around} {k:Nat} (hr:zfJ k A):A.units+1<cLine:=Nat.lt_of_le_of_lt (Nat.add_le_add_left (by decide:1≤64) _) hr.units
theorem zcc {n:Nat} (h:n≤1000):n<sizeLine:=Nat.lt_of_le_of_lt h (by decide)
section
variable {X:Cx}
theorem pv (i:Nat) {x:Str} {pos:Pos} (hN:X.N[i]?=some x:=by rfl) (hv:Vis X.env.scope x:=by first | exact Or.inl rfl | exact Or.inr (Or.inl rfl) | exact Or.inr (Or.inr rfl)) (hd:(x == ("__debug__":Str))=false:=by decide)
  (hcd:(x == ("__classdict__":Str))=false:=by decide):PE X (.Name x pos) (zac i):=zm2 hN hv hd hcd
end
theorem iteT {A B:Prop} (h:A):if true=true then A else B:=by
 rw [if_pos rfl]
 exact h
theorem zci {c A B:Prop} [Decidable c] (h1:c→A) (h2:¬ c→B):if c then A else B:=by
 by_cases h:c
 ·rw [if_pos h]
  exact h1 h
 ·rw [if_neg h]
  exact h2 h
def zba (H H':Hp):Prop:=∀ b o,H b=some o→H' b=some o
theorem zba.refl (H:Hp):zba H H:=fun _ _ h=>h
theorem zba.trans {H H1 H2:Hp} (a:zba H H1) (b:zba H1 H2):zba H H2:=fun c o h=>b c o (a c o h)
theorem zba.free {H H':Hp} (e:zba H H') {l:Addr} (h:H' l=Option.none):H l=Option.none:=by
 cases q:H l with
 | none=>rfl
 | some o =>
  rw [e l o q] at h
  cases h
theorem zba.seq {K:PySem.W.Frag} {H H':Hp} {a:Addr} {xs:List V} (e:zba H H') (h:SqL K H a xs):SqL K H' a xs:=by
 rcases h with (h | ⟨o,h⟩) | h
 ·exact .inl (.inl (e _ _ h))
 ·exact .inl (.inr ⟨o,e _ _ h⟩)
 ·exact .inr h
end L2
namespace L2
open PySem PySem.Spec PyProof.Rows
section
variable {X:Cx}
theorem zcp:OpR X (binaryOp .FloorDiv) (rI (fun _ j=>0<j∧j.natAbs.log2<9000) fun i j=>.int (i / j)):=opI fun i j _ _ _ _ _ hc q=>by
 have h1:(0:Int)<j:=hc.1
 exact floordiv_int (by (first|lia|omega)) (by rw [Int.fdiv_eq_ediv_of_nonneg i (by (first|lia|omega))];exact q) (.inl (PyProof.noPylong_of_log2 hc.2))
theorem zht:OpR X (binaryOp .FloorDiv) (rI (fun _ j=>j≠0∧j.natAbs.log2<9000) fun i j=>.int (i.fdiv j)):=opI fun _ _ _ _ _ _ _ hc q=>floordiv_int hc.1 q (.inl (PyProof.noPylong_of_log2 hc.2))
theorem zc9:OpR X (binaryOp .Mod) (rI (fun _ j=>j≠0) fun i j=>.int (i.fmod j)):=zl5
theorem zfm:OpR X (binaryOp .Mult) (rI IntMulOk fun i j=>.int (i*j)):=opI fun _ _ _ _ _ _ _ hc q=>mul_int q hc
theorem mulR {i j:Int} (h1:-(2 ^ 64)<j) (h2:j<2 ^ 64):IntMulOk i j:=.of_right (intBits_le_64 h1 h2)
theorem zlm {j:Int} (m:Nat) (h0:j≠0) (h:j.natAbs<2 ^ m) (hm:m≤9000:=by decide):j.natAbs.log2<9000 :=
 Nat.lt_of_lt_of_le ((Nat.log2_lt (by (first|lia|omega))).mpr h) hm
theorem zhK:bootBuiltins "int"=some (.type "int"):=by decide +kernel
theorem ziR:bootBuiltins "bool"=some (.type "bool"):=by decide +kernel
theorem zdz:bootBuiltins "list"=some (.type "list"):=by decide +kernel
theorem zcV:bootBuiltins "tuple"=some (.type "tuple"):=by decide +kernel
theorem zgp (K:PySem.W.Frag):PySem.W.kitOne K (.type "int") (.type "bool")=some false:=by first | rfl | kernel_rfl
def zm7 (a:Addr) (c:Value) (h:Heap):Prop:=∃ oe vs,h.get? a=some oe∧oe.cls=c∧oe.data=.fields vs
def excO (a:Addr) (c:Value):HO:=.ext (zm7 a c)
structure znr (K:PySem.W.Frag) (c:Value):Prop where
 kit:∀ a:Addr,PySem.W.KitX K (.ref a) c (zm7 a c)
inductive TyX (K:PySem.W.Frag) (H:Hp):V→Value→Prop where
 | of {x:V} {t:Value} (h:zic K H x t):TyX K H x t
 | exc {a:Addr} {c:Value} (h:H a=some (excO a c)) (k:znr K c):TyX K H (.ref a) c
def clsV:V→Option Value
 | .ty n=>some (.type n)
 | .ref c=>some (.ref c)
 | _=>none
def zgY (K:PySem.W.Frag):List V→Hp→VK→Prop:=fun xs H Q=>∃ x c t cv b,xs=[x,c]∧clsV c=some cv∧TyX K H x t∧PySem.W.kitOne K t cv=some b∧Q (.bl b) H
theorem zgH {K:PySem.W.Frag} {H:Hp} {Q:VK} {i:Int} (q:Q (.bl true) H):zgY K [.int i,.ty "int"] H Q:=⟨_,_,_,_,true,rfl,rfl,.of (.int i),rfl,q⟩
theorem zge {K:PySem.W.Frag} {H:Hp} {Q:VK} {i:Int} (q:Q (.bl false) H):zgY K [.int i,.ty "bool"] H Q:=⟨_,_,_,_,false,rfl,rfl,.of (.int i),zgp K,q⟩
theorem zeJ {K:PySem.W.Frag} {H:Hp} {Q:VK} {r:Addr} {xs:List V} (h:H r=some (.tup xs)) (q:Q (.bl true) H):zgY K [.ref r,.ty "tuple"] H Q:=⟨_,_,_,_,true,rfl,rfl,.of (.tup h),rfl,q⟩
theorem zle {c:V} {u cv:Value} (r:za9 c u) (h:clsV c=some cv):u=cv:=by
 cases c with
 | ty n=>cases r;exact Option.some.inj h
 | ref a=>cases r;exact Option.some.inj h
 | _=>cases h
theorem zbC:zdv X (.builtin "isinstance") (zgY X.K):=by
 intro pins s σ H xs us Q I r h
 obtain ⟨x,c,t,cv,b,rfl,hc,ty,e,q⟩:=h
 obtain ⟨u,w',rfl,rx,rw'⟩:=zmg r
 obtain rfl:=zle rw' hc
 cases ty with
 | of ty=>exact zjm I rx ty e fun tk=>⟨.bl b,H,I.tok tk,rfl,q⟩
 | @exc a c h k =>
  cases (show u=Value.ref a from rx)
  obtain ⟨p,_,_⟩:=(show zaP X.prog X.w H s.heap a (excO a t) from I.hok a _ h)
  exact PySem.W.kia_one (k.kit a) I.kIn p e (fun z=>nomatch z) fun tk=>⟨.bl b,H,I.tok tk,rfl,q⟩
def tTru (K:PySem.W.Frag) (ta:TE):TT:=fun σ H Q=>ta σ H fun x H'=>∃ k,znH K x H' k∧Q k H'
def zlt (t:TS):TS:=fun D σ H=>∃ R:St→Hp→Prop,t { D with nx:=R } σ H∧∀ σ' H',R σ' H'→D.nx σ' H'
theorem ze0 {st:Stmt} {t:TS} (h:PS X st t):PS X st (zlt t):=by
 intro pins s σ H D I hw
 obtain ⟨R,hw,hR⟩:=hw
 refine thn (h pins s σ H _ I hw) fun f s' q=>?_
 cases f with
 | next=>obtain ⟨σ',H',I',q⟩:=q;exact ⟨σ',H',I',hR _ _ q⟩
 | brk=>exact q
 | cont=>exact q
 | ret u=>exact q
end
theorem zah {H:Hp} {p:Addr} (h:H p=none) (o:HO):zba H (upd H p o):=fun b u q=>by rw [zaj (zap q h)];exact q
theorem zba.add {H0 H:Hp} {p:Addr} {o:HO} (s:zba H0 H) (h:H p=none):zba H0 (upd H p o):=s.trans (zah h o)
theorem zba.put {H0 H:Hp} {p:Addr} {o:HO} (s:zba H0 H) (h:H0 p=none):zba H0 (upd H p o):=fun b u q=>by rw [zaj (zap q h)];exact s _ _ q
theorem zj7 {K:PySem.W.Frag} {i:Int} {H:Hp} {k:Bool}:znH K (.int i) H k=(k=(i != 0)):=rfl
theorem zmF {K:PySem.W.Frag} {i:Bool} {H:Hp} {k:Bool}:znH K (.bl i) H k=(k=i):=rfl
theorem zkH (a b:Int):scal (.int a) (.int b)=true:=rfl
theorem zlX (a b:Bool):scal (.bl a) (.bl b)=true:=rfl
theorem zba.tup {K:PySem.W.Frag} {H H':Hp} {a:Addr} {xs:List V} (e:zba H H') (h:SqT K H a xs):SqT K H' a xs:=by
 rcases h with (h | ⟨o,h⟩) | h
 ·exact .inl (.inl (e _ _ h))
 ·exact .inl (.inr ⟨o,e _ _ h⟩)
 ·exact .inr h
theorem zhg {ns:List Int} {k:Int} (h0:0≤k) (h:k<(ns.length:Int)):∃ v:Int,atI (ns.map V.int) k=some (.int v)∧ns[k.toNat]?=some v:=by
 have hk:k.toNat<ns.length:=by (first|lia|omega)
 have ek:k=((k.toNat:Nat):Int):=by (first|lia|omega)
 have q:atI (ns.map V.int) ((k.toNat:Nat):Int)=some (.int ns[k.toNat]):=ziM (by rw [List.getElem?_map,List.getElem?_eq_getElem hk] <;> rfl)
 rw [← ek] at q
 exact ⟨ns[k.toNat],q,List.getElem?_eq_getElem hk⟩
def zh0 (J:It) (g:TG) (tb:TS):TS:=fun D σ H=>∃ W:Nat→Nat→St→Hp→Prop,(∃ m,W 0 m σ H)∧∀ i m σ H,W i m σ H →
 (J.stop i H∧D.nx σ H)∨(J.go i H∧∃ N:St→Hp→Prop,(∀ σ' H',N σ' H'→∃ m',m'<m∧W (i+1) m' σ' H')∧∀ x H',J.yld i H x H'→g x σ H' fun σ2 H2=>tb { D with nx:=N,ct:=N,bk:=D.nx } σ2 H2)
theorem zlG {wi:TI} {g:TG} {tb:TS} {D:zbY} {σ:St} {H:Hp}:zdB wi g tb D σ H=wi σ H fun J H1=>zh0 J g tb D σ H1:=rfl
theorem zb9 {lo:Int} {n:Nat} {g:TG} {tb:TS} {D:zbY} {σ:St} {H:Hp} (Pv:Nat→St→Hp→Prop) (h0:Pv 0 σ H)
  (hs:∀ i σ H,i<n→Pv i σ H→g (.int (lo+i)) σ H fun σ2 H2=>tb { D with nx:=Pv (i+1),ct:=Pv (i+1),bk:=D.nx } σ2 H2) (hd:∀ σ H,Pv n σ H→D.nx σ H):zh0 (Itr lo n) g tb D σ H:=zi4 Pv h0 hs hd
theorem zbw {K:PySem.W.Frag} {a:Addr} {xs:List V} {g:TG} {tb:TS} {D:zbY} {σ:St} {H:Hp} (Pv:Nat→St→Hp→Prop) (h0:Pv 0 σ H) (hl:∀ i σ H,i≤xs.length→Pv i σ H→SqL K H a xs)
  (hs:∀ i x σ H,xs[i]?=some x→Pv i σ H→g x σ H fun σ2 H2=>tb { D with nx:=Pv (i+1),ct:=Pv (i+1),bk:=D.nx } σ2 H2) (hd:∀ σ H,Pv xs.length σ H→D.nx σ H):zh0 (Itl K a) g tb D σ H:=zkW Pv h0 hl hs hd
theorem zkN {K:PySem.W.Frag} {a:Addr} {xs:List V} {g:TG} {tb:TS} {D:zbY} {σ:St} {H:Hp} (Pv:Nat→St→Hp→Prop) (h0:Pv 0 σ H) (hl:∀ i σ H,i≤xs.length→Pv i σ H→SqT K H a xs)
  (hs:∀ i x σ H,xs[i]?=some x→Pv i σ H→g x σ H fun σ2 H2=>tb { D with nx:=Pv (i+1),ct:=Pv (i+1),bk:=D.nx } σ2 H2) (hd:∀ σ H,Pv xs.length σ H→D.nx σ H):zh0 (Itt K a) g tb D σ H:=zmy Pv h0 hl hs hd
end L2
namespace L2
open PySem PySem.Spec PyProof.Rows
section
variable {P:Program} {w:World}
end
section
variable {P:Program} {w:World} {K:PySem.W.Frag} {mg:Str→Option Value} {base:Heap} {N:List Str} {qual:Str} {scope:Scope} {f:Addr} {cd:Value} {A:Around} {outer:List Env} {s₀:Shared} {H₀:Hp} {E:XK}
end
section
variable {P:Program} {w:World} {K:PySem.W.Frag} {mg:Str→Option Value} {base:Heap} {N:List Str} {qual:Str} {scope:Scope} {f:Addr} {cd:Value} {A:Around} {outer:List Env} {s₀:Shared} {H₀:Hp} {E:XK}
end
section
variable {X:Cx} {CX:CXT} {k:Nat} {f:Addr} {fd:FuncData} {ps:List Str} {sp:Sp} {dvs:List V} {ds:List Value} {E:St→XK} {x:Str} {p pos:Pos} {e:Expr} {es:List Expr} {t:TA}
end
theorem Inv.track {X:Cx} {pins:List (Addr×Obj)} {σ:St} {H:Hp} {s:Shared} {a:Addr} {o:HO} (I:Inv X pins σ H s) (hn:H a=none) (h0:X.s₀.heap.get? a=none) (hL:a≠X.env.locals) (hc:∀ x c,X.env.cells.lookup x=some c→c≠a)
  (hp:∀ p∈X.pn++pins,p.1≠a) (new:zaP X.prog X.w (upd H a o) s.heap a o):Inv X pins σ (upd H a o) s:=by
 refine ⟨I.ok,I.os,I.bare,⟨I.base.keep,I.base.slot,fun b u q n hx=>?_,I.base.there,fun b xs q=>?_,fun b u xs q=>?_,fun b ps q=>?_⟩,I.loc,I.cell,?_,fun x c e=>?_,fun p q=>?_,fun b u e=>?_,I.len⟩
 ·have nb:b≠a:=fun z=>by rw [z,h0] at q;cases q
  rw [zaj nb]
  exact I.base.free b u q n hx
 ·have q2:=I.base.tups b xs q
  rw [zaj (zap q2 hn)]
  exact q2
 ·have q2:=I.base.frzs b u xs q
  rw [zaj (zap q2 hn)]
  exact q2
 ·obtain ⟨m,q2⟩:=I.base.tbls b ps q
  exact ⟨m,by rw [zaj (zap q2 hn)];exact q2⟩
 ·rw [zaj hL.symm]
  exact I.free
 ·rw [zaj (hc x c e)]
  exact I.freeC x c e
 ·obtain ⟨e,n,r⟩:=I.pin p q
  exact ⟨e,by rw [zaj (hp p q)];exact n,r⟩
 ·by_cases hb:b=a
  ·subst hb
   rw [zad] at e
   cases e
   exact new
  ·rw [zaj hb] at e
   exact (I.hok b u e).stay (fun c v _ q=>q) (fun c q=>by rw [zaj (zap q hn)];exact q) fun c xs q=>by rw [zaj (zap q hn)];exact q
section
open Builtin Builtin.ObjectAttr Builtin.Getset_descriptor PySem.W
variable {K:PySem.W.Frag} {prog:Program} {w:World} {A:Around} {E:Value→Shared→Prop} {h:Heap} {g:Array GenState} {d:Drawn} {t:Nat} {os:OsState} {a C:Addr} {o:Obj}
end
end L2
namespace L2
open PySem PySem.Spec PyProof.Rows
theorem zjg {env:Env} {x:Str} {c:Addr} (h:env.cells.lookup x=some c):cellOf env x=pure c:=by
 unfold cellOf
 rw [h]
theorem zdG {env:Env}:∀ (l:List (Str×NameKind)) (cs:List (Str×Addr)),(∀ y∈l,y.2=.free→∃ c,env.cells.lookup y.1=some c)→(∀ x c,cs.lookup x=some c→env.cells.lookup x=some c) →
  ∃ cl,(forIn l cs fun (y:Str×NameKind) r=>(if (y.2 == .free)=true then do let c ← cellOf env y.1;pure (ForInStep.yield ((y.1,c)::r)) else pure (ForInStep.yield r):Sem (ForInStep (List (Str×Addr)))))=pure cl ∧
   (∀ x c,cl.lookup x=some c→env.cells.lookup x=some c)∧(∀ y∈l,y.2=.free→∃ c,cl.lookup y.1=some c)∧∀ x,(∃ c,cs.lookup x=some c)→∃ c,cl.lookup x=some c
 | [],cs,_,hc=>⟨cs,by simp,hc,by simp,fun _ h=>h⟩
 | y::l,cs,hf,hc=>by
  have hf':∀ z∈l,z.2=.free→∃ c,env.cells.lookup z.1=some c:=fun z hz=>hf z (List.mem_cons_of_mem _ hz)
  by_cases hy:y.2=.free
  ·obtain ⟨c,e⟩:=hf y List.mem_cons_self hy
   have hc':∀ x d,List.lookup x ((y.1,c)::cs)=some d→env.cells.lookup x=some d:=fun x d q=>by
    rw [List.lookup_cons] at q
    split at q
    ·rename_i b
     cases q
     rw [beq_iff_eq.mp b,e]
    ·exact hc x d q
   obtain ⟨cl,e1,e2,e3,e4⟩:=zdG l ((y.1,c)::cs) hf' hc'
   refine ⟨cl,?_,e2,fun z hz q=>?_,fun x ⟨d,q⟩=>e4 x ?_⟩
   ·rw [List.forIn_cons,if_pos (by rw [hy];rfl),zjg e]
    simpa using e1
   ·rcases List.mem_cons.mp hz with r | r
    ·exact e4 z.1 ⟨c,by rw [r,List.lookup_cons];simp⟩
    ·exact e3 z r q
   ·rw [List.lookup_cons]
    split
    ·exact ⟨_,rfl⟩
    ·exact ⟨d,q⟩
  ·obtain ⟨cl,e1,e2,e3,e4⟩:=zdG l cs hf' hc
   refine ⟨cl,?_,e2,fun z hz q=>?_,e4⟩
   ·rw [List.forIn_cons,if_neg (by simpa using hy)]
    simpa using e1
   ·rcases List.mem_cons.mp hz with r | r
    ·rw [r] at q;exact absurd q hy
    ·exact e3 z r q
theorem zhT {scope:Scope} {env:Env} (h:∀ y∈scope.names,y.2=.free→∃ c,env.cells.lookup y.1=some c) :
  ∃ cl,closureFor scope env=pure cl∧(∀ x c,cl.lookup x=some c→env.cells.lookup x=some c)∧∀ y∈scope.names,y.2=.free→∃ c,cl.lookup y.1=some c:=by
 obtain ⟨cl,e1,e2,e3,_⟩:=zdG scope.names [] h (by simp)
 refine ⟨cl,?_,e2,e3⟩
 unfold closureFor
 simp only [bind_pure]
 exact e1
theorem zfY {P:Program} {w:World} {A:Around} {R:Result→Shared→Prop} {s:Shared} {elt target iter:Expr} {ifs:List Expr} {scope:Scope} {pos:Pos} {it acc:Value} {env:Env} {Z:Value→Shared→Prop} (J:Nat→Shared→Prop)
  (hZ:Z=notedBy (model P w) A env fun e s'=>R (.error e) s')
  (turn:∀ n s,J n s→wpAny (model P w) A (pyNext it) (fun r s1=>match r with
   | none=>R (.ok .next) s1
   | some v=>wpAny (model P w) A (letOwnedTupleGo target it v) (fun _ s2=>wpAny (model P w) A (assign target env v) (fun _ s3 =>
     wpAny (model P w) A (forIn ifs true fun c r=>if r=true then do let ok ← isTrue c env (eval c env);pure (ForInStep.yield ok) else pure (ForInStep.yield r)) (fun ok s4 =>
      if ok=true then wpAny (model P w) A (eval elt env) (fun x s5=>wpAny (model P w) A (call (.builtin "list.append") [acc,x]) (fun _ s6=>∃ m,m<n∧J m s6) Z s5) Z s4
      else ∃ m,m<n∧J m s4) Z s3) Z s2) Z s1) Z s)
  (n:Nat) (h:J n s):codeAny (model P w) A (.compLoop (.ListComp elt [⟨target,iter,ifs,0⟩] scope pos) 0 it acc env) R s:=by
 subst hZ
 refine codeAny_loop rfl J (fun n s hJ=>?_) n h
 show wpAny _ _ (Sem.onRaise (compTurn (.ListComp elt [⟨target,iter,ifs,0⟩] scope pos) 0 it acc env) fun x=>do noteFrame x env;theTreesLotGoes x) _ _ s
 refine wpAny_noted ?_
 rw [compTurn_list]
 refine wpAny_bind (wpAny_standAt (wpAny_bind (thn (turn n s hJ) fun r s1 h1=>?_)))
 cases r with
 | none=>exact wpAny_pure h1
 | some v =>
  refine wpAny_bind (thn h1 fun _ s2 h2=>wpAny_bind (thn h2 fun _ s3 h3=>wpAny_bind (thn h3 fun ok s4 h4=>?_)))
  cases ok with
  | false=>exact wpAny_pure ⟨rfl,h4⟩
  | true=>exact wpAny_bind (wpAny_bind (thn h4 fun x s5 h5=>wpAny_bind (thn h5 fun _ s6 h6=>wpAny_pure (wpAny_pure ⟨rfl,h6⟩))))
def PTs (X:Cx) (ifs:List Expr) (t:TT):Prop:=∀ (pins:List (Addr×Obj)) (s:Shared) (σ:St) (H:Hp) (Q:Bool→Hp→Prop),Inv X pins σ H s→t σ H Q →
 wpAny (model X.prog X.w) X.A (forIn ifs true fun c r=>if r=true then do let ok ← isTrue c X.env (eval c X.env);pure (ForInStep.yield ok) else pure (ForInStep.yield r)) (TP X pins σ Q) X.xe s
def zcL:TT:=fun _ H Q=>Q true H
theorem zjt {X:Cx}:PTs X [] zcL:=fun _ _ _ H _ I h=>wpAny_tests_nil ⟨H,I,h⟩
def zmP (cap:List (Option Nat)) (σ:St):St:=cap.map fun o=>o.bind fun j=>(σ[j]?).join
def zgW (wi:TI) (g:TG) (tt:TT) (te:TE) (cap:List (Option Nat)):TE:=fun σ H Q=>wi σ H fun J H1=>∀ D,H1 D=none→∃ W:Nat→Nat→St→Hp→Prop,(∃ m,W 0 m (zmP cap σ) (upd H1 D (.lst [])))∧∀ i m σc Hc,W i m σc Hc →
 (J.stop i Hc∧Q (.ref D) Hc)∨(J.go i Hc∧∃ N:St→Hp→Prop,(∀ σ' H',N σ' H'→∃ m',m'<m∧W (i+1) m' σ' H')∧∀ x H',J.yld i Hc x H'→g x σc H' fun σ2 H2=>tt σ2 H2 fun b H3=>if b=true then te σ2 H3 fun y H4=>zaU (.ref D) [y] H4 fun _ H5=>N σ2 H5 else N σ2 H3)
def Cx.blk (X:Cx) (Nc:List Str) (scope:Scope) (cl:List (Str×Addr)) (s:Shared) (H:Hp) (fp:List Addr):Cx:={ X with
 N:=Nc,s₀:=s,H₀:=H,env:=compEnvC scope cl s.heap.objs.size X.env,outer:=X.stack,stack:=X.stack,ex:=fp,fn:=fun _=>false,pn:=[],xe:=fun _ _=>False }
structure ziD (sc:Scope) (N Nc:List Str) (cap:List (Option Nat)) (scope:Scope):Prop where
 kind:scope.kind=.function
 nocell:∀ y∈scope.names,y.2≠.cell
 free:∀ y∈scope.names,y.2=.free→sc.names.lookup y.1=some .cell∨sc.names.lookup y.1=some .free
 once:∀ y∈scope.names,scope.names.lookup y.1=some y.2
 nd:Nc.Nodup
 len:cap.length=Nc.length
 cap:∀ (i:Nat) (y:Str) (j:Nat),Nc[i]?=some y→cap[i]?=some (some j)→N[j]?=some y∧scope.names.lookup y=some .free
def zlE (sc:Scope) (N Nc:List Str) (cap:List (Option Nat)) (scope:Scope):Bool :=
 scope.kind == .function&&scope.names.all (fun y=>y.2 != .cell&&scope.names.lookup y.1 == some y.2&&(y.2 != .free || sc.names.lookup y.1 == some .cell || sc.names.lookup y.1 == some .free))&&decide Nc.Nodup&&cap.length == Nc.length
  && (Nc.zip cap).all fun p=>p.2.all fun j=>N[j]? == some p.1&&scope.names.lookup p.1 == some .free
theorem ziD.of {sc:Scope} {N Nc:List Str} {cap:List (Option Nat)} {scope:Scope} (h:zlE sc N Nc cap scope=true):ziD sc N Nc cap scope:=by
 unfold zlE at h
 simp only [Bool.and_eq_true,beq_iff_eq,List.all_eq_true,bne_iff_ne,ne_eq,Bool.or_eq_true,decide_eq_true_eq] at h
 obtain ⟨⟨⟨⟨h1,h2⟩,h3⟩,h4⟩,h5⟩:=h
 refine ⟨h1,fun y hy=>(h2 y hy).1.1,fun y hy hf=>?_,fun y hy=>(h2 y hy).1.2,h3,h4,fun i y j e1 e2=>?_⟩
 ·rcases (h2 y hy).2 with (q | q) | q
  ·exact absurd hf q
  ·exact .inl q
  ·exact .inr q
 ·have m:(y,some j)∈Nc.zip cap:=by
   refine List.mem_of_getElem? (i:=i) ?_
   rw [List.getElem?_zip_eq_some]
   exact ⟨e1,e2⟩
  have z:=h5 _ m
  simpa using z
theorem zb6 {env:Env} {x:Str}:∀ {names:List (Str×NameKind)} {k:NameKind},((names.map fun (n,k)=>if (k == NameKind.free&&env.scope.kind == .function&&env.kindOf n == some .cell) then (n,NameKind.cell) else (n,k)).lookup x=some k)→k≠.cell∧names.lookup x=some k∨(k=.cell∧(names.lookup x=some .cell∨names.lookup x=some .free))
 | [],_,h=>by simp at h
 | (n,q)::r,k,h=>by
  have ih:=@zb6 env x r k
  rw [List.map_cons] at h
  dsimp only at h
  by_cases hx:(x == n)=true
  ·by_cases hc:(q == NameKind.free&&env.scope.kind == .function&&env.kindOf n == some .cell)=true
   ·rw [if_pos hc,List.lookup_cons,hx] at h
    cases h
    rw [Bool.and_eq_true,Bool.and_eq_true] at hc
    refine .inr ⟨rfl,.inr ?_⟩
    rw [List.lookup_cons,hx]
    exact congrArg some (beq_iff_eq.mp hc.1.1)
   ·rw [if_neg hc,List.lookup_cons,hx] at h
    cases h
    rw [List.lookup_cons,hx]
    by_cases z:q=.cell
    ·exact .inr ⟨z,.inl (congrArg some z)⟩
    ·exact .inl ⟨z,rfl⟩
  ·have hx':(x == n)=false:=by simpa using hx
   rw [List.lookup_cons,hx']
   refine ih ?_
   by_cases hc:(q == NameKind.free&&env.scope.kind == .function&&env.kindOf n == some .cell)=true
   ·rw [if_pos hc,List.lookup_cons,hx'] at h
    exact h
   ·rw [if_neg hc,List.lookup_cons,hx'] at h
    exact h
section
variable {X:Cx} {pins:List (Addr×Obj)} {σ:St} {H:Hp} {s:Shared}
theorem zl0 {Nc:List Str} {cap:List (Option Nat)} {scope:Scope} {cl:List (Str×Addr)} {fp:List Addr} {h1:Heap} {tk:Nat} {m1:Str→Option Value} (I:Inv X pins σ H s) (B:ziD X.env.scope X.N Nc cap scope)
  (hsub:∀ x c,cl.lookup x=some c→X.env.cells.lookup x=some c) (hfr:∀ y∈scope.names,y.2=.free→∃ c,cl.lookup y.1=some c) (hf:∀ b∈fp,zhN X pins H b) (hin:∀ b∈fp,b<s.heap.objs.size)
  (hk:∀ b o,s.heap.get? b=some o→h1.get? b=some o) (hn:h1.Ns s.heap.objs.size m1):Inv (X.blk Nc scope cl s H fp) [] (zmP cap σ) H { s with heap:=h1,toks:=tk }:=by
 have ok:=I.ok
 have bsz:X.base.objs.size≤s.heap.objs.size:=Nat.le_trans ok.bsz I.sz
 refine ⟨⟨ok.mod,B.kind,ok.glob,ok.blt,Nat.le_refl _,fun x y c h1 h2=>ok.inj x y c (hsub x c h1) (hsub y c h2),fun x hx=>?_,(by intro x c z;cases z),ok.hd,ok.frames,.inl rfl,fun b hb=>⟨Nat.ne_of_lt (hin b hb),fun x c e=>(hf b hb).2.2.2.2.1 x c (hsub x c e)⟩,
  I.bs,bsz,fun b o e hb=>?_,fun b hb z=>?_,I.stack,I.stkFree⟩,rfl,I.bare,Un.kept hk,⟨m1,hn,fun i y v e1 e2 e3=>?_⟩,fun x c e=>?_,I.hok.fresh (Nat.le_refl _),fun x c e=>I.freeC x c (hsub x c e),(by intro p hp;cases hp),I.hok.kept hk,?_⟩
 ·have look:∀ k,(relabel scope X.env).names.lookup x=some k→k=.cell∨k=.free→∃ c,cl.lookup x=some c:=fun k q hk=>by
   rcases zb6 q with ⟨n1,n2⟩ | ⟨_,n2 | n2⟩
   ·rcases hk with r | r
    ·exact absurd r n1
    ·exact hfr (x,k) (PySem.mem_of_lookup n2) r
   ·exact absurd rfl (B.nocell _ (PySem.mem_of_lookup n2))
   ·exact hfr (x,.free) (PySem.mem_of_lookup n2) rfl
  rcases hx with q | q
  ·exact look _ q (.inl rfl)
  ·exact look _ q (.inr rfl)
 ·rcases (hf b hb).2.2.2.1 with q | q
  ·exact ok.noex b o e q
  ·exact absurd (Nat.lt_of_lt_of_le (Heap.lt_size e) (Nat.le_trans ok.bsz q)) (Nat.lt_irrefl _)
 ·rcases List.mem_cons.mp (I.stkSub b z) with q | q
  ·exact (hf b hb).2.1 q
  ·exact (hf b hb).2.2.1 q
 ·have e2':(cap[i]?).map (fun o=>o.bind fun j=>(σ[j]?).join)=some (some v):=by rw [← List.getElem?_map];exact e2
  obtain ⟨o,ho,eo⟩:=Option.map_eq_some_iff.mp e2'
  obtain ⟨j,rfl,ej⟩:=Option.bind_eq_some_iff.mp eo
  have ej':σ[j]?=some (some v):=by
   cases q:σ[j]? with
   | none=>rw [q] at ej;cases ej
   | some z=>rw [q] at ej;cases ej;rfl
  obtain ⟨c1,c2⟩:=B.cap i y j e1 ho
  have vis:=B.free (y,.free) (PySem.mem_of_lookup c2) rfl
  obtain ⟨m,_,hl⟩:=I.loc
  obtain ⟨u,r,lk⟩:=hl j y v c1 ej' (.inr vis)
  obtain ⟨c',ec⟩:=hfr (y,.free) (PySem.mem_of_lookup c2) rfl
  have ec2:=hsub _ _ ec
  rcases lk with ⟨kl,_⟩ | ⟨_,c,e,z⟩
  ·have kl':X.env.scope.names.lookup y=some .local:=kl
   rcases vis with q | q
   ·have q':X.env.scope.names.lookup y=some .cell:=q
    rw [kl'] at q';cases q'
   ·have q':X.env.scope.names.lookup y=some .free:=q
    rw [kl'] at q';cases q'
  ·have ecc:X.env.cells.lookup y=some c':=ec2
   rw [e] at ecc
   cases ecc
   refine ⟨u,r,.inr ⟨?_,_,ec,?_⟩⟩
   ·rcases e3 with q | q | q
    ·rcases zb6 q with ⟨_,n2⟩ | ⟨n1,_⟩
     ·rw [c2] at n2;cases n2
     ·cases n1
    ·exact .inl q
    ·exact .inr q
   ·obtain ⟨o,ho,hd⟩:=z
    exact ⟨o,hk _ _ ho,hd⟩
 ·obtain ⟨v,o,ho,hd⟩:=I.cell x c (hsub x c e)
  exact ⟨v,o,hk _ _ ho,hd⟩
 ·show (zmP cap σ).length=Nc.length
  rw [zmP,List.length_map,B.len]
theorem zmq {Nc:List Str} {scope:Scope} {cl:List (Str×Addr)} {fp:List Addr} {σc:St} {Hc:Hp} {s':Shared} {h':Heap} (I:Inv X pins σ H s) (hf:∀ b∈fp,zhN X pins H b) (J:Inv (X.blk Nc scope cl s H fp) [] σc Hc s')
  (hs:Heap.SameBut s.heap.objs.size s'.heap h'):Inv X pins σ Hc { s' with heap:=h' }:=by
 have ne:∀ b o,s.heap.get? b=some o→b≠s.heap.objs.size:=fun b o e=>Nat.ne_of_lt (Heap.lt_size e)
 have u:=J.base
 refine I.call' (ch:=fp) J.os ⟨fun b o e n hb hx=>(hs.2 b (ne b o e)).trans (u.keep b o e n hb hx),fun b o e n hb hx=>?_,u.free,fun b o e hx=>?_,u.tups,u.frzs,u.tbls⟩ (fun b ob e=>?_) J.bare fun b hb=>⟨(hf b hb).2.2.2.1,(hf b hb).2.1,(hf b hb).2.2.2.2.1,(hf b hb).2.2.2.2.2⟩
 ·obtain ⟨sl,q⟩:=u.slot b o e n hb hx
  exact ⟨sl,(hs.2 b (ne b o e)).trans q⟩
 ·obtain ⟨o',q⟩:=u.there b o e hx
  exact ⟨o',(hs.2 b (ne b o e)).trans q⟩
 ·have hC:Hc s.heap.objs.size=none:=J.free
  refine (J.hok b ob e).stay (fun c w' hc q=>(hs.2 c ?_).trans q) (fun _ q=>q) fun _ _ q=>q
  rintro rfl
  rcases hc with z | hc
  ·rw [← z,hC] at e;cases e
  ·rw [hC] at hc;cases hc
end
theorem Inv.turns {X:Cx} {pins:List (Addr×Obj)} {σ:St} {H:Hp} {s:Shared} {h':Heap} {t':Nat} {ch:List Addr} (I:Inv X pins σ H s) (k:∀ b o,b∉ch→s.heap.get? b=some o→h'.get? b=some o) (hf:∀ b∈ch,zhN X pins H b):Inv X pins σ H { s with heap:=h',toks:=t' }:=by
 refine I.call (g':=s.gens) (d':=s.drawn) (ch:=ch) ⟨fun b o e _ _ hx=>k b o hx e,fun b o e _ _ hx=>⟨o.slots,k b o hx e⟩,fun _ _ _ n _=>n,fun b o e hx=>⟨o,k b o hx e⟩,fun _ _ q=>q,fun _ _ _ q=>q,fun _ ps q=>⟨#[],by rw [q];simp⟩⟩ (fun b u e=>?_) I.bare
  fun b hb=>⟨(hf b hb).2.2.2.1,(hf b hb).2.1,(hf b hb).2.2.2.2.1,(hf b hb).2.2.2.2.2⟩
 refine (I.hok b u e).stay (fun c v hc q=>k c v (fun z=>?_) q) (fun _ q=>q) fun _ _ q=>q
 have n:=(hf c z).1
 rcases hc with r | r
 ·rw [r,e] at n;cases n
 ·rw [r] at n;cases n
theorem ziP {X:Cx} {pins:List (Addr×Obj)} {s:Shared} {σ:St} {H:Hp} {Q:VK} {sc:Scope} {N Nc:List Str} {cap:List (Option Nat)} {elt tg iter:Expr} {ifs:List Expr} {scope:Scope} {pos pos':Pos} {wi:TI} {g:TG} {tt:TT} {te:TE} {use:Option (Value→Sem Unit)} {QQ:Value→Shared→Prop}
  (hc:X.calm=true) (hsc:X.env.scope=sc) (hN:X.N=N) (B:ziD sc N Nc cap scope) (hi:PI X tg iter wi)
  (hg:∀ cl s H fp,PG (X.blk Nc scope cl s H fp) tg g) (ht:∀ cl s H fp,PTs (X.blk Nc scope cl s H fp) ifs tt) (he:∀ cl s H fp,PE (X.blk Nc scope cl s H fp) elt te)
  (hs:∀ x,foldedSetIterable iter X.env x=pure x) (I:Inv X pins σ H s) (h:zgW wi g tt te cap σ H Q)
  (fin:∀ (s3:Shared) (H3:Hp) (cl:List (Str×Addr)) (fp:List Addr) (D:Addr) (σc:St) (Hc:Hp) (s6:Shared),Inv X pins σ H3 s3→(∀ b∈fp,zhN X pins H3 b)→Inv (X.blk Nc scope cl s3 H3 fp) [] σc Hc s6→Q (.ref D) Hc→compPost (model X.prog X.w) X.A X.xe use QQ (.ref D) s3.heap.objs.size (.ok .next) s6) :
  wpAny (model X.prog X.w) X.A (comprehension (.ListComp elt [⟨tg,iter,ifs,0⟩] scope pos) scope X.env pos' (newList []) false (eval iter X.env) use) QQ X.xe s:=by
 subst hsc hN
 obtain ⟨cl,hclos,hsub,hfr⟩:=zhT (scope:=scope) (env:=X.env) fun y hy hf=>I.ok.has y.1 (B.free y hy hf)
 refine wpAny_comprehension_free (use:=use) rfl hs hclos B.kind (fun y hy hl=>by rw [B.once y hy,hl]) (thn (hi pins s σ H _ I h) fun v s1 h1=>thn h1 fun itv s2 h2=>?_)
 obtain ⟨it,fp,tn,J,H2,rfl,I2,T,st2,f2,hw⟩:=h2
 refine wpAny_newObj_type ?_
 have hfree:H2 s2.heap.objs.size=none:=I2.hok.fresh (Nat.le_refl _)
 have I3:=I2.laid (t':=s2.toks) (o:=.lst []) (fun b u e=>Heap.get?_push_of_some { cls:=.type "list",dict:=none,data:=.seq ([]:List Value).toArray } e) (Nat.le_refl _) ⟨by decide,[],0,.nil,Heap.get?_push_size _ rfl⟩
 obtain ⟨W,⟨m0,w0⟩,turn⟩:=hw _ hfree
 have keep23:∀ b o,s2.heap.get? b=some o→(s2.heap.push { cls:=.type "list",dict:=none,data:=.seq ([]:List Value).toArray }).get? b=some o:=fun b o e=>Heap.get?_push_of_some _ e
 have hin:∀ b∈fp,b<s2.heap.objs.size:=fun b hb=>let ⟨o,e,_⟩:=T.obj 0 _ st2 b hb;Heap.lt_size e
 have f3:∀ b∈fp,zhN X pins (upd H2 s2.heap.objs.size (.lst [])) b:=fun b hb=>⟨by rw [zaj (Nat.ne_of_lt (hin b hb))];exact (f2 b hb).1,(f2 b hb).2⟩
 have st3:=T.keep 0 _ _ st2 fun b _ o e=>keep23 b o e
 have hin3:∀ b∈fp,b<(s2.heap.push { cls:=.type "list",dict:=none,data:=.seq ([]:List Value).toArray }).objs.size:=fun b hb=>let ⟨o,e,_⟩:=T.obj 0 _ st3 b hb;Heap.lt_size e
 clear keep23 hin
 generalize s2.heap.push { cls:=.type "list",dict:=none,data:=.seq ([]:List Value).toArray }=h3 at I3 st3 hin3 ⊢
 generalize upd H2 s2.heap.objs.size (.lst [])=H3 at I3 f3 w0
 generalize s2.heap.objs.size=D at hfree w0 turn ⊢
 refine wpAny_newFunctionEnv B.nocell (by intro y hy;cases hy) (fun h1 hns hsb=>?_) B.kind
 have keep:∀ b o,h3.get? b=some o→h1.get? b=some o:=fun b o e=>(hsb.2 b (Nat.ne_of_lt (Heap.lt_size e))).trans (Heap.get?_push_of_some _ e)
 have I4:=zl0 (tk:=s2.toks+([]:List (Str×Value)).length) I3 B hsub hfr f3 hin3 keep hns
 have st4:=T.keep 0 _ _ st3 fun b _ o e=>keep b o e
 have stat:∀ {H':Hp},(∀ b∈fp,H' b=none)→∀ b∈fp,zhN (X.blk Nc scope cl { s2 with heap:=h3,toks:=s2.toks } H3 fp) [] H' b:=fun hn b hb =>
  ⟨hn b hb,Nat.ne_of_lt (hin3 b hb),fun z=>by
   rcases List.mem_cons.mp (I3.stkSub b z) with q | q
   ·exact (f3 b hb).2.1 q
   ·exact (f3 b hb).2.2.1 q,.inl hb,fun x c e=>(f3 b hb).2.2.2.2.1 x c (hsub x c e),by intro p hp;cases hp⟩
 have hcb:(X.blk Nc scope cl { s2 with heap:=h3,toks:=s2.toks } H3 fp).calm=true:=hc
 have loop:codeAny (model X.prog X.w) X.A (.compLoop (.ListComp elt [⟨tg,iter,ifs,0⟩] scope pos) 0 (.ref it) (.ref D) (compEnvC scope cl h3.objs.size X.env)) (compPost (model X.prog X.w) X.A X.xe use QQ (.ref D) h3.objs.size) { s2 with heap:=h1,toks:=s2.toks+([]:List (Str×Value)).length }:=by
  refine zfY (fun n s'=>∃ i σ' H',Inv (X.blk Nc scope cl { s2 with heap:=h3,toks:=s2.toks } H3 fp) [] σ' H' s'∧tn i s'.heap∧(∀ b∈fp,H' b=none)∧W i n σ' H') rfl ?_ m0 ⟨0,_,H3,I4,st4,fun b hb=>(f3 b hb).1,w0⟩
  rintro n s5 ⟨i,σ5,H5,I5,st5,fr5,w5⟩
  rcases turn i n σ5 H5 w5 with ⟨stop,qn⟩ | ⟨go,N',hN',step⟩
  ·refine thn (T.done (X.blk Nc scope cl { s2 with heap:=h3,toks:=s2.toks } H3 fp) rfl rfl rfl hcb i [] s5 σ5 H5 _ I5 (stat fr5) st5 stop) fun r s6 hQ'=>?_
   obtain ⟨hr,I6⟩:=hQ'
   subst hr
   exact fin { s2 with heap:=h3,toks:=s2.toks } H3 cl fp D σ5 H5 s6 I3 f3 I6 qn
  ·refine thn (T.item (X.blk Nc scope cl { s2 with heap:=h3,toks:=s2.toks } H3 fp) rfl rfl rfl hcb i [] s5 σ5 H5 _ I5 (stat fr5) st5 go) fun r s6 hQ'=>?_
   obtain ⟨u,hr,h6⟩:=hQ'
   subst hr
   refine thn h6 fun _ s7 hQ'=>?_
   obtain ⟨x,H7,I7,r7,y7,st7,fr7⟩:=hQ'
   have I7':=I7.pinned (stat fr7) (T.obj _ _ st7)
   refine wpAny_mono (hg cl _ H3 fp _ s7 σ5 H7 x u _ I7' r7 (step x H7 y7)) (fun _ s8 hQ'=>?_) fun _ _ z=>z.elim
   obtain ⟨σ8,H8,I8,q8⟩:=hQ'
   have again:∀ {H9:Hp} {s9:Shared} {m:Nat},Inv (X.blk Nc scope cl { s2 with heap:=h3,toks:=s2.toks } H3 fp) ([]++zf9 fp s7.heap) σ8 H9 s9→m<n→W (i+1) m σ8 H9→∃ m,m<n∧∃ i σ' H',Inv (X.blk Nc scope cl { s2 with heap:=h3,toks:=s2.toks } H3 fp) [] σ' H' s9∧tn i s9.heap∧(∀ b∈fp,H' b=none)∧W i m σ' H':=fun {H9 s9 m} I9 hm w9=>by
    refine ⟨m,hm,i+1,σ8,H9,I9.unpinned,T.keep _ _ _ st7 fun b hb o e=>(I9.pin (b,o) (List.mem_append_right _ (List.mem_append_right _ (zcR hb e)))).1,fun b hb=>?_,w9⟩
    obtain ⟨o,e,d⟩:=T.obj _ _ st7 b hb
    exact (I9.pin (b,o) (List.mem_append_right _ (List.mem_append_right _ (zcR hb e)))).2.1
   refine wpAny_mono (ht cl _ H3 fp _ s8 σ8 H8 _ I8 q8) (fun b s9 hQ'=>?_) fun _ _ z=>z.elim
   obtain ⟨H9,I9,q9⟩:=hQ'
   cases b with
   | false =>
    rw [if_neg (by decide)] at q9
    obtain ⟨m',hm,w9⟩:=hN' _ _ q9
    exact again I9 hm w9
   | true =>
    rw [if_pos rfl] at q9
    refine wpAny_mono (he cl _ H3 fp _ s9 σ8 H9 _ I9 q9) (fun u s10 hQ'=>?_) fun _ _ z=>z.elim
    obtain ⟨y,H10,I10,r10,q10⟩:=hQ'
    refine wpAny_mono (zbN (X:=X.blk Nc scope cl { s2 with heap:=h3,toks:=s2.toks } H3 fp) _ s10 σ8 H10 (.ref D) [y] (.ref D) [u] _ I10 rfl (.cons r10 .nil) q10) (fun _ s11 hQ'=>?_) fun _ _ z=>z.elim
    obtain ⟨_,H11,I11,_,q11⟩:=hQ'
    obtain ⟨m',hm,w11⟩:=hN' _ _ q11
    exact again I11 hm w11
 exact codeAny_compStart_list loop (T.self _ 0 _ _ _ st4 loop)
theorem zjS {X:Cx} {sc:Scope} {N Nc:List Str} {cap:List (Option Nat)} {elt tg iter:Expr} {ifs:List Expr} {scope:Scope} {pos:Pos} {wi:TI} {g:TG} {tt:TT} {te:TE} (hc:X.calm=true) (hsc:X.env.scope=sc) (hN:X.N=N) (B:ziD sc N Nc cap scope) (hi:PI X tg iter wi)
  (hg:∀ cl s H fp,PG (X.blk Nc scope cl s H fp) tg g) (ht:∀ cl s H fp,PTs (X.blk Nc scope cl s H fp) ifs tt) (he:∀ cl s H fp,PE (X.blk Nc scope cl s H fp) elt te)
  (hs:∀ x,foldedSetIterable iter X.env x=pure x:=by intro _;rfl):PE X (.ListComp elt [⟨tg,iter,ifs,0⟩] scope pos) (zgW wi g tt te cap):=by
 intro pins s σ H Q I h
 rw [eval_ListComp]
 refine ziP hc hsc hN B hi hg ht he hs I h fun s3 H3 cl fp D σc Hc s6 I3 f3 I6 q=>?_
 obtain ⟨m,hn,_⟩:=id I6.loc
 exact ⟨m,hn,fun h' hs'=>⟨.ref D,Hc,zmq I3 f3 I6 hs',rfl,q⟩⟩
theorem zjK {K:PySem.W.Frag} {a:Addr} {xs:List V} {g:TG} {tt:TT} {te:TE} {σ:St} {H:Hp} {D:Addr} {Q:VK} (Pv:Nat→List V→St→Hp→Prop) (h0:Pv 0 [] σ (upd H D (.lst []))) (hl:∀ i ys σ H,i≤xs.length→Pv i ys σ H→SqL K H a xs)
  (hs:∀ i x ys σ H,xs[i]?=some x→H D=some (.lst ys)→Pv i ys σ H→g x σ H fun σ2 H2=>tt σ2 H2 fun b H3=>if b=true then te σ2 H3 fun y H4=>zaU (.ref D) [y] H4 fun _ H5=>∃ ys,H5 D=some (.lst ys)∧Pv (i+1) ys σ2 H5 else ∃ ys,H3 D=some (.lst ys)∧Pv (i+1) ys σ2 H3)
  (hd:∀ ys σ H,H D=some (.lst ys)→Pv xs.length ys σ H→Q (.ref D) H) :
  ∃ W:Nat→Nat→St→Hp→Prop,(∃ m,W 0 m σ (upd H D (.lst [])))∧∀ i m σc Hc,W i m σc Hc →
   ((Itl K a).stop i Hc∧Q (.ref D) Hc)∨((Itl K a).go i Hc∧∃ N:St→Hp→Prop,(∀ σ' H',N σ' H'→∃ m',m'<m∧W (i+1) m' σ' H')∧∀ x H',(Itl K a).yld i Hc x H'→g x σc H' fun σ2 H2=>tt σ2 H2 fun b H3=>if b=true then te σ2 H3 fun y H4=>zaU (.ref D) [y] H4 fun _ H5=>N σ2 H5 else N σ2 H3):=by
 refine ⟨fun i m σ H=>m=xs.length - i∧i≤xs.length∧∃ ys,H D=some (.lst ys)∧Pv i ys σ H,⟨_,rfl,Nat.zero_le _,[],zad,h0⟩,?_⟩
 rintro i m σ H ⟨rfl,hi,ys,hD,pv⟩
 have q:=hl i ys σ H hi pv
 by_cases hlt:i<xs.length
 ·refine .inr ⟨⟨xs,xs[i],q,by simp [hlt]⟩,fun σ H=>∃ ys,H D=some (.lst ys)∧Pv (i+1) ys σ H,fun σ' H' p'=>⟨_,by (first|lia|omega),rfl,hlt,p'⟩,fun x H' yl=>?_⟩
  obtain ⟨e,yl⟩:=yl
  subst e
  exact hs i x ys σ _ (yl xs q) hD pv
 ·have e:i=xs.length:=by (first|lia|omega)
  subst e
  exact .inl ⟨⟨xs,q,Nat.le_refl _⟩,hd ys σ H hD pv⟩
end L2
namespace L2
open PySem PySem.Spec PyProof.Rows
theorem zdr {o:Obj} {vs:Array Value} (h:o.data=.fields vs):∀ v,o.data≠.cell v:=fun v z=>by rw [h] at z;cases z
end L2
namespace L2
open PySem PySem.Spec PyProof.Rows
inductive Tr where
 | int (i:Int)
 | bl (b:Bool)
 | str (x:Str)
 | non
 | lst (l:List Tr)
 | tup (l:List Tr)
inductive zcq (K:PySem.W.Frag) (H:Hp):Nat→Tr→V→Prop where
 | int {n:Nat} (i:Int):zcq K H n (.int i) (.int i)
 | bl {n:Nat} (b:Bool):zcq K H n (.bl b) (.bl b)
 | str {n:Nat} (x:Str):zcq K H n (.str x) (.str x)
 | non {n:Nat}:zcq K H n .non .non
 | lst {n:Nat} {p:Addr} {xs:List V} {ts:List Tr} (h:SqL K H p xs) (l:xs.length=ts.length) (e:∀ (i:Nat) x t,xs[i]?=some x→ts[i]?=some t→zcq K H n t x):zcq K H (n+1) (.lst ts) (.ref p)
 | tup {n:Nat} {p:Addr} {xs:List V} {ts:List Tr} (h:SqT K H p xs) (l:xs.length=ts.length) (e:∀ (i:Nat) x t,xs[i]?=some x→ts[i]?=some t→zcq K H n t x):zcq K H (n+1) (.tup ts) (.ref p)
section
variable {X:Cx} {pins:List (Addr×Obj)} {σ:St} {H:Hp} {s:Shared}
theorem zd7 {A:Around} {n:Nat} {xs ys:List V} {ts:List Tr} {us vs:List Value} (lx:xs.length=ts.length) (ly:ys.length=ts.length) (r1:zbr xs us) (r2:zbr ys vs)
  (ih:∀ (i:Nat) x t,xs[i]?=some x→ts[i]?=some t→∀ y,zcq X.K H n t y→∀ (u v:Value) (A:Around),za9 x u→za9 y v→A.units+n<cLine→SeqAt.EqAt A s u v true)
  (ey:∀ (i:Nat) y t,ys[i]?=some y→ts[i]?=some t→zcq X.K H n t y) (hu:A.units+(n+1)<cLine) :
  ∀ j (h1:j<us.toArray.size) (h2:j<vs.toArray.size),SeqAt.EqAt A.in1 s us.toArray[j] vs.toArray[j] true:=by
 intro j h1 h2
 have k1:j<xs.length:=by rw [r1.length];simpa using h1
 have k2:j<ys.length:=by rw [r2.length];simpa using h2
 have k3:j<ts.length:=by (first|lia|omega)
 obtain ⟨u,e1,ru⟩:=r1.get (List.getElem?_eq_getElem k1)
 obtain ⟨v,e2,rv⟩:=r2.get (List.getElem?_eq_getElem k2)
 have q1:us.toArray[j]=u:=by
  have:=(List.getElem?_eq_some_iff.mp e1).2
  simpa using this
 have q2:vs.toArray[j]=v:=by
  have:=(List.getElem?_eq_some_iff.mp e2).2
  simpa using this
 rw [q1,q2]
 exact ih j _ _ (List.getElem?_eq_getElem k1) (List.getElem?_eq_getElem k3) _ (ey j _ _ (List.getElem?_eq_getElem k2) (List.getElem?_eq_getElem k3)) u v A.in1 ru rv (by show A.units+1+n<cLine;(first|lia|omega))
theorem zea (n:Nat):(List.range n).all (fun _=>true)=true:=by simp
theorem zi3 (I:Inv X pins σ H s) {n:Nat} {t:Tr} {x:V} (hx:zcq X.K H n t x):∀ y,zcq X.K H n t y→∀ (u v:Value) (A:Around),za9 x u→za9 y v→A.units+n<cLine→SeqAt.EqAt A s u v true:=by
 induction hx with
 | int i =>
  intro y hy u v A ru rv hu
  cases hy
  obtain ⟨a,rfl⟩:=ru
  obtain ⟨b,rfl⟩:=rv
  have:=SeqAt.EqAt.int_int (A:=A) (s:=s) i a i b
  rw [beq_self_eq_true] at this
  exact this
 | bl b =>
  intro y hy u v A ru rv hu
  cases hy
  cases ru
  cases rv
  exact SeqAt.EqAt.same _
 | str x =>
  intro y hy u v A ru rv hu
  cases hy
  obtain ⟨a,rfl⟩:=ru
  obtain ⟨b,rfl⟩:=rv
  have:=SeqAt.EqAt.str_str (A:=A) (s:=s) x a x b
  rw [beq_self_eq_true] at this
  exact this
 | non =>
  intro y hy u v A ru rv hu
  cases hy
  cases ru
  cases rv
  exact SeqAt.EqAt.same _
 | @lst n p xs ts h l e ih =>
  intro y hy u v A ru rv hu
  cases hy with
  | @lst _ q ys _ h2 l2 e2 =>
   cases ru
   cases rv
   by_cases hpq:p=q
   ·subst hpq
    exact SeqAt.EqAt.same _
   ·obtain ⟨us,r1,p1,_⟩:=I.list h
    obtain ⟨vs,r2,p2,_⟩:=I.list h2
    have z:=SeqAt.RcAt.lists (A:=A) p1.isList p2.isList (by rw [List.size_toArray,List.size_toArray,← r1.length,← r2.length,l,l2]) (by (first|lia|omega)) (e:=fun _=>true) (zd7 l l2 r1 r2 ih e2 hu)
    rw [zea] at z
    exact SeqAt.EqAt.of_refs hpq z
 | @tup n p xs ts h l e ih =>
  intro y hy u v A ru rv hu
  cases hy with
  | @tup _ q ys _ h2 l2 e2 =>
   cases ru
   cases rv
   by_cases hpq:p=q
   ·subst hpq
    exact SeqAt.EqAt.same _
   ·obtain ⟨us,r1,p1,_⟩:=I.tuple h
    obtain ⟨vs,r2,p2,_⟩:=I.tuple h2
    have z:=SeqAt.RcAt.tuples (A:=A) p1 p2 (by (first|lia|omega)) (e:=fun _=>true) (zd7 l l2 r1 r2 ih e2 hu)
    rw [zea,List.size_toArray,List.size_toArray,← r1.length,← r2.length,l,l2,beq_self_eq_true,Bool.and_self] at z
    exact SeqAt.EqAt.of_refs hpq z
def zlD (K:PySem.W.Frag):R2:=fun x y H Q=>∃ n ts,n≤60∧(zcq K H (n+1) (.lst ts) x∧zcq K H (n+1) (.lst ts) y∨zcq K H (n+1) (.tup ts) x∧zcq K H (n+1) (.tup ts) y)∧Q (.bl false) H
theorem zik (hu:X.A.units+64<cLine):OpR X (compareOp .NotEq) (zlD X.K):=by
 intro pins s σ H x y v u Q I rx ry h
 obtain ⟨n,ts,hn,h,q⟩:=h
 have hu':X.A.units+(n+1)<cLine:=by (first|lia|omega)
 rcases h with ⟨h1,h2⟩ | ⟨h1,h2⟩
 ·cases h1 with
  | @lst _ p xs _ a1 a2 a3 =>
   cases h2 with
   | @lst _ p' ys _ b1 b2 b3 =>
    cases rx
    cases ry
    obtain ⟨us,r1,p1,_⟩:=I.list a1
    obtain ⟨vs,r2,p2,_⟩:=I.list b1
    have z:=SeqAt.RcNeAt.lists (A:=X.A) p1.isList p2.isList (by rw [List.size_toArray,List.size_toArray,← r1.length,← r2.length,a2,b2]) (by (first|lia|omega)) (e:=fun _=>true) (zd7 a2 b2 r1 r2 (fun i x t e1 e2=>zi3 I (a3 i x t e1 e2)) b3 hu')
    rw [zea] at z
    exact z X.prog X.w X.xe _ ⟨.bl false,H,I,rfl,q⟩
 ·cases h1 with
  | @tup _ p xs _ a1 a2 a3 =>
   cases h2 with
   | @tup _ p' ys _ b1 b2 b3 =>
    cases rx
    cases ry
    obtain ⟨us,r1,p1,_⟩:=I.tuple a1
    obtain ⟨vs,r2,p2,_⟩:=I.tuple b1
    have z:=SeqAt.RcNeAt.tuples (A:=X.A) p1 p2 (by (first|lia|omega)) (e:=fun _=>true) (zd7 a2 b2 r1 r2 (fun i x t e1 e2=>zi3 I (a3 i x t e1 e2)) b3 hu')
    rw [zea,List.size_toArray,List.size_toArray,← r1.length,← r2.length,a2,b2,beq_self_eq_true,Bool.and_self] at z
    exact z X.prog X.w X.xe _ ⟨.bl false,H,I,rfl,q⟩
end
end L2
namespace L2
open PySem PySem.Spec PyProof.Rows
section
variable {X:Cx}
end
def zho (J:It) (g:TG) (tt:TT) (te:TE) (D:Addr) (Q:VK) (σ:St) (H:Hp):Prop:=∃ W:Nat→Nat→St→Hp→Prop,(∃ m,W 0 m σ H)∧∀ i m σc Hc,W i m σc Hc →
 (J.stop i Hc∧Q (.ref D) Hc)∨(J.go i Hc∧∃ N:St→Hp→Prop,(∀ σ' H',N σ' H'→∃ m',m'<m∧W (i+1) m' σ' H')∧∀ x H',J.yld i Hc x H'→g x σc H' fun σ2 H2=>tt σ2 H2 fun b H3=>if b=true then te σ2 H3 fun y H4=>zaU (.ref D) [y] H4 fun _ H5=>N σ2 H5 else N σ2 H3)
theorem zla {wi:TI} {g:TG} {tt:TT} {te:TE} {cap:List (Option Nat)} {σ:St} {H:Hp} {Q:VK}:zgW wi g tt te cap σ H Q=wi σ H fun J H1=>∀ D,H1 D=none→zho J g tt te D Q (zmP cap σ) (upd H1 D (.lst [])):=rfl
theorem ze7 {K:PySem.W.Frag} {a:Addr} {xs:List V} {g:TG} {tt:TT} {te:TE} {σ:St} {H:Hp} {D:Addr} {Q:VK} (Pv:Nat→List V→St→Hp→Prop) (h0:Pv 0 [] σ (upd H D (.lst []))) (hl:∀ i ys σ H,i≤xs.length→Pv i ys σ H→SqL K H a xs)
  (hs:∀ i x ys σ H,xs[i]?=some x→H D=some (.lst ys)→Pv i ys σ H→g x σ H fun σ2 H2=>tt σ2 H2 fun b H3=>if b=true then te σ2 H3 fun y H4=>zaU (.ref D) [y] H4 fun _ H5=>∃ ys,H5 D=some (.lst ys)∧Pv (i+1) ys σ2 H5 else ∃ ys,H3 D=some (.lst ys)∧Pv (i+1) ys σ2 H3)
  (hd:∀ ys σ H,H D=some (.lst ys)→Pv xs.length ys σ H→Q (.ref D) H):zho (Itl K a) g tt te D Q σ (upd H D (.lst [])):=zjK Pv h0 hl hs hd
end L2
namespace L2
open PySem PySem.Spec PyProof.Rows
section
variable {X:Cx}
def zdQ:V→List V→Hp→VK→Prop:=fun x vs H Q=>∃ l xs k y,x=.ref l∧vs=[.int k,y]∧H l=some (.lst xs)∧0≤k∧k≤(xs.length:Int)∧xs.length<1000000∧Q .non (upd H l (.lst (xs.take k.toNat++y::xs.drop k.toNat)))
theorem zf0 {xs:List V} {us:List Value} (r:zbr xs us):∀ n:Nat,zbr (xs.take n) (us.take n)∧zbr (xs.drop n) (us.drop n):=by
 induction r with
 | nil=>intro n;rw [List.take_nil,List.take_nil,List.drop_nil,List.drop_nil];exact ⟨.nil,.nil⟩
 | cons h t ih =>
  intro n
  cases n with
  | zero=>exact ⟨.nil,.cons h t⟩
  | succ n=>exact ⟨.cons h (ih n).1,(ih n).2⟩
theorem zgc:MtM X "list.insert" zdQ:=by
 intro pins s σ H x vs v us Q I rx rv h
 obtain ⟨l,xs,k,y,rfl,rfl,hH,k0,k1,hz,q⟩:=h
 cases rx
 obtain ⟨u,w,rfl,ru,rw'⟩:=zmg rv
 obtain ⟨tk,rfl⟩:=ru
 obtain ⟨z,its,n,r,hl,e⟩:=I.lstM hH
 have lr:=r.length
 have fit:¬(!Builtin.List.listFitsIndex k)=true:=by
  have:Builtin.List.listFitsIndex k=true:=by
   unfold Builtin.List.listFitsIndex
   simp only [Bool.and_eq_true,decide_eq_true_eq]
   (first|lia|omega)
  rw [this]
  decide
 refine call_meets F.slot_list_insert ⟨_,e,rfl⟩ F.entry_list_insert (F.args_list_insert_3 _ _ _) (AutoSeq1.list_insert_list_int_val_1 l its.toArray n k tk w fit (by rw [List.size_toArray];(first|lia|omega))) ⟨e,?_⟩
 refine ⟨.non,_,I.lset (its':=its.take k.toNat++w::its.drop k.toNat) hH e ?_ ((zf0 r _).1.append (.cons rw' (zf0 r _).2)) ?_,rfl,q⟩
 ·have e1:(if k<0 then (k+(its.toArray.size:Int)).toNat else min k.toNat its.toArray.size)=k.toNat:=by
   rw [if_neg (by (first|lia|omega)),List.size_toArray,← lr]
   (first|lia|omega)
  simp only [e1]
  apply Array.toList_inj.mp
  simp
  exact List.take_of_length_le (by rw [List.length_drop];exact Nat.le_refl _)
 ·rw [List.length_append,List.length_cons,List.length_take,List.length_drop]
  have:(1000000:Nat)≤sizeLine:=by decide
  (first|lia|omega)
end
end L2
namespace L2
open PySem PySem.Spec PyProof.Rows
theorem zld:bootBuiltins "enumerate"=some (.type "enumerate"):=by decide +kernel
def Ite (K:PySem.W.Frag) (p:Addr):It where
 go:=fun i H=>∃ xs a,SqL K H p xs∧xs[i]?=some a
 yld:=fun i H x H'=>∃ t a,x=.ref t∧H t=none∧H'=upd H t (.tup [.int (i:Int),a])∧∀ xs,SqL K H p xs→xs[i]?=some a
 stop:=fun i H=>∃ xs,SqL K H p xs∧i=xs.length
def tnE (e it p:Addr) (i:Nat) (h:Heap):Prop:=(∃ old,IsEnum h e it i old)∧h.IsListIter it p i
theorem zfX {e it p:Addr} {i:Nat} {h:Heap} (st:tnE e it p i h):∀ b∈[e,it],∃ o,h.get? b=some o∧∀ v,o.data≠.cell v:=fun b hb=>by
 obtain ⟨⟨old,a1⟩,⟨o2,a2,_,d2⟩⟩:=st
 simp only [List.mem_cons,List.not_mem_nil,or_false] at hb
 rcases hb with rfl | rfl
 ·exact ⟨_,a1,zdr rfl⟩
 ·exact ⟨_,a2,zdr d2⟩
theorem zjn {P:Program} {w:World} {K:PySem.W.Frag} {elts:List Expr} {k:Nat} {pos:Pos} {e it p:Addr} (d1:e≠it) (d2:p≠e) (d3:p≠it):zmQ P w K (.Tuple elts k pos) (Ite K p) [e,it] e (tnE e it p) where
 mem:=by simp
 obj:=fun i h st=>zfX st
 keep:=fun i h h' st kk=>by
  obtain ⟨⟨old,a1⟩,a2⟩:=st
  exact ⟨⟨old,kk e (by simp) _ a1⟩,a2.at fun o x=>kk it (by simp) o x⟩
 item:=by
  intro X hP hw hK hc i pins s σ H E I hf st hg
  subst hP hw hK
  obtain ⟨xs,a,hx,ea⟩:=hg
  obtain ⟨its,r1,pl1,z1⟩:=I.list hx
  obtain ⟨ua,eua,rua⟩:=r1.get ea
  have there:=zfX st
  obtain ⟨s1,s2⟩:=st
  have W:=WalksT.enumerate (prog:=X.prog) (w:=X.w) (A:=X.A) (I.ok.hd hc) e it p d1 d2 d3 its.toArray
  have hi:i<its.toArray.size:=by
   have h1:=(List.getElem?_eq_some_iff.mp eua).1
   rw [List.size_toArray]
   exact h1
  refine W.item i s _ _ hi ⟨s1,s2,pl1.isList⟩ fun T vals h' tk hp hT hTup mid kk=>⟨_,rfl,?_⟩
  obtain ⟨t,u,e1,rfl⟩:=hp
  have e1':u=ua:=by
   have:its[i]?=some u:=by simpa using e1
   rw [eua] at this;cases this;rfl
  subst e1'
  refine W.go elts k pos i T { s with heap:=h',toks:=tk } _ _ mid fun h2 st2 kk2=>?_
  obtain ⟨t1,t2,_⟩:=st2
  have I1:Inv X pins σ H { s with heap:=h2,toks:=tk }:=I.turns (ch:=[e,it]) (fun b o hb q=>kk2 b o hb (kk b o hb q)) fun b hb=>hf b hb
  have nT:H T=none:=I.hok.fresh hT
  have I2:=I1.track (a:=T) (o:=.tup [.int (i:Int),a]) nT (Heap.get?_none_of_le (Nat.le_trans I.sz hT)) (Nat.ne_of_gt (Nat.lt_of_lt_of_le I.lt hT)) (fun x c q=>by
   obtain ⟨v,z⟩:=I.cell x c q
   exact Nat.ne_of_lt (Nat.lt_of_lt_of_le z.lt hT)) (fun y hy=>Nat.ne_of_lt (Nat.lt_of_lt_of_le (Heap.lt_size (I.pin y hy).1) hT)) (by
   refine ⟨by show 2≤sizeLine;decide,[.int i t,u],.cons ⟨t,rfl⟩ (.cons rua .nil),?_⟩
   obtain ⟨o,ho,hcl,hd⟩:=hTup
   exact ⟨o,kk2 T o (W.apart i T h' mid) ho,hcl,hd⟩)
  refine ⟨.ref T,_,I2,rfl,⟨T,a,rfl,nT,rfl,fun xs' h'=>?_⟩,⟨t1,t2⟩,fun b hb=>?_⟩
  ·rw [I.list_inj h' hx];exact ea
  ·obtain ⟨o,q,_⟩:=there b hb
   rw [zaj (Nat.ne_of_lt (Nat.lt_of_lt_of_le (Heap.lt_size q) hT))]
   exact (hf b hb).1
 done:=by
  intro X hP hw hK hc i pins s σ H E I hf st hg
  subst hP hw hK
  obtain ⟨xs,hx,rfl⟩:=hg
  obtain ⟨its,r1,pl1,z1⟩:=I.list hx
  obtain ⟨s1,s2⟩:=st
  have W:=WalksT.enumerate (prog:=X.prog) (w:=X.w) (A:=X.A) (I.ok.hd hc) e it p d1 d2 d3 its.toArray
  refine W.done s _ _ ?_ fun h' tk kk=>⟨rfl,I.turns (ch:=[e,it]) (fun b o hb q=>kk b o hb q) fun b hb=>hf b hb⟩
  rw [List.size_toArray,← r1.length]
  exact ⟨s1,s2,pl1.isList⟩
 self:=fun A i s Q E st h=>by
  obtain ⟨⟨old,a1⟩,_⟩:=st
  exact wpAny_pyIter_enum a1 h
def zkn (K:PySem.W.Frag) (ta:TA):TI:=fun σ H R=>ta σ H fun vs H1=>∃ p,vs=[.ref p]∧(∃ xs,SqL K H1 p xs)∧R (Ite K p) H1
theorem zlK {X:Cx} {a:Expr} {elts:List Expr} {k:Nat} {tp p pos:Pos} {ta:TA} (hg:Gl X "enumerate") (hm:X.mg "enumerate"=none) (ha:PA X [a] ta) (hs:starEach [a] X.env=[(false,eval a X.env)]:=by rfl) :
  PI X (.Tuple elts k tp) (.Call (.Name "enumerate" p) [a] [] pos) (zkn X.K ta):=by
 intro pins s σ H R I h
 refine Call_ (zdY I hg hm zld (PyProof.Rows.callWith_type1 (thn (ha pos pins s σ H _ I h) fun us s1 hQ'=>?_) (by rw [hs];rfl) rfl))
 obtain ⟨vs,H1,I1,r1,q1⟩:=hQ'
 obtain ⟨p1,rfl,⟨xs,hx⟩,q⟩:=q1
 obtain ⟨u,rfl,ru⟩:=r1.one
 cases ru
 obtain ⟨its,_,pl1,_⟩:=I1.list hx
 have a1:p1<s1.heap.objs.size:=by obtain ⟨_,e,_⟩:=pl1.isList;exact Heap.lt_size e
 refine call_enumerate_list pl1.isList fun h' he hi hsz hk=>?_
 refine wpAny_pyIter_enum he ?_
 refine ⟨_,_,_,_,H1,rfl,I1.kept (t':=s1.toks) hk,zjn (Nat.succ_ne_self _) (Nat.ne_of_lt (Nat.lt_succ_of_lt a1)) (Nat.ne_of_lt a1),⟨⟨_,he⟩,hi⟩,fun b hb=>?_,q⟩
 have hb':s1.heap.objs.size≤b:=by
  simp only [List.mem_cons,List.not_mem_nil,or_false] at hb
  rcases hb with h | h <;> rw [h] <;> first | exact Nat.le_refl _ | exact Nat.le_add_right _ _
 exact I1.fpOk hb' (I1.hok.fresh hb')
theorem zjE {K:PySem.W.Frag} {p:Addr} {xs:List V} {g:TG} {tb:TS} {D:zbY} {σ:St} {H:Hp} (Pv:Nat→St→Hp→Prop) (h0:Pv 0 σ H) (hl:∀ i σ H,i≤xs.length→Pv i σ H→SqL K H p xs)
  (hs:∀ i x t σ H,xs[i]?=some x→Pv i σ H→H t=none→g (.ref t) σ (upd H t (.tup [.int (i:Int),x])) fun σ2 H2=>tb { D with nx:=Pv (i+1),ct:=Pv (i+1),bk:=D.nx } σ2 H2) (hd:∀ σ H,Pv xs.length σ H→D.nx σ H):zh0 (Ite K p) g tb D σ H:=by
 refine ⟨fun i m σ H=>m=xs.length - i∧i≤xs.length∧Pv i σ H,⟨_,rfl,Nat.zero_le _,h0⟩,?_⟩
 rintro i m σ H ⟨rfl,hi,pv⟩
 have hx:=hl i σ H hi pv
 by_cases hlt:i<xs.length
 ·refine .inr ⟨⟨xs,xs[i],hx,by simp [hlt]⟩,Pv (i+1),fun σ' H' p'=>⟨_,by (first|lia|omega),rfl,hlt,p'⟩,fun x H' yl=>?_⟩
  obtain ⟨t,a,rfl,ht,rfl,e1⟩:=yl
  exact hs i a t σ H (e1 xs hx) pv ht
 ·have e:i=xs.length:=by (first|lia|omega)
  subst e
  exact .inl ⟨⟨xs,hx,rfl⟩,hd σ H pv⟩
end L2
namespace L2
open PySem PySem.Spec PyProof.Rows
section
variable {κ:Type} [DecidableEq κ]
def zbM (kvs:List (κ×V)) (k:κ):Option V:=(kvs.find? fun kv=>decide (kv.1=k)).map (·.2)
def zcT (kvs:List (κ×V)) (k:κ) (v:V):List (κ×V) :=
 if (kvs.any fun kv=>decide (kv.1=k))=true then kvs.map (fun kv=>if kv.1=k then (kv.1,v) else kv) else kvs++[(k,v)]
theorem zaY {p:κ×V} {r:List (κ×V)} {k:κ} (e:p.1=k):zbM (p::r) k=some p.2:=by simp [zbM,List.find?_cons,e]
theorem zaR {p:κ×V} {r:List (κ×V)} {k:κ} (e:¬ p.1=k):zbM (p::r) k=zbM r k:=by simp [zbM,List.find?_cons,e]
theorem zck (k:κ):∀ kvs:List (κ×V),(kvs.any fun kv=>decide (kv.1=k))=(zbM kvs k).isSome
 | []=>rfl
 | p::r=>by
  rw [List.any_cons]
  by_cases e:p.1=k
  ·simp only [zaY e,decide_eq_true e,Bool.true_or,Option.isSome_some]
  ·rw [zaR e,decide_eq_false e,Bool.false_or];exact zck k r
theorem zhz (k j:κ) (y:V):∀ kvs:List (κ×V),zbM (kvs.map fun kv=>if kv.1=k then (kv.1,y) else kv) j=(zbM kvs j).map fun x=>if j=k then y else x
 | []=>rfl
 | p::r=>by
  have ih:=zhz k j y r
  rw [List.map_cons]
  by_cases h:p.1=k
  ·rw [if_pos h]
   by_cases e:p.1=j
   ·rw [zaY (p:=(p.1,y)) e,zaY e,Option.map_some,if_pos (e.symm.trans h)]
   ·rw [zaR (p:=(p.1,y)) e,zaR e,ih]
  ·rw [if_neg h]
   by_cases e:p.1=j
   ·rw [zaY (p:=p) e,zaY e,Option.map_some,if_neg (fun z=>h (e.trans z))]
   ·rw [zaR (p:=p) e,zaR e,ih]
theorem zf8 (k j:κ) (y:V):∀ kvs:List (κ×V),zbM kvs k=none→zbM (kvs++[(k,y)]) j=if j=k then some y else zbM kvs j
 | [],_=>by
  by_cases e:k=j
  ·rw [if_pos e.symm];exact zaY (p:=(k,y)) e
  ·rw [if_neg (fun z=>e z.symm)];exact zaR (p:=(k,y)) e
 | p::r,hn=>by
  rw [List.cons_append]
  have hk:¬ p.1=k:=fun z=>by rw [zaY z] at hn;cases hn
  rw [zaR hk] at hn
  have ih:=zf8 k j y r hn
  by_cases e:p.1=j
  ·rw [zaY e,zaY e,if_neg (fun z=>hk (e.trans z))]
  ·rw [zaR e,zaR e,ih]
theorem zfl (kvs:List (κ×V)) (k j:κ) (y:V):zbM (zcT kvs k y) j=if j=k then some y else zbM kvs j:=by
 unfold zcT
 by_cases a:(kvs.any fun kv=>decide (kv.1=k))=true
 ·rw [if_pos a,zhz]
  rw [zck] at a
  by_cases e:j=k
  ·obtain ⟨x,hx⟩:=Option.isSome_iff_exists.mp a
   rw [if_pos e,e,hx,Option.map_some,if_pos rfl]
  ·rw [if_neg e]
   cases zbM kvs j with
   | none=>rfl
   | some x=>rw [Option.map_some,if_neg e]
 ·rw [if_neg a]
  refine zf8 k j y kvs ?_
  rw [zck] at a
  cases q:zbM kvs k with
  | none=>rfl
  | some x=>rw [q] at a;exact (a rfl).elim
theorem zbB (kvs:List (κ×V)) (k:κ) (v:V):(zcT kvs k v).length≤kvs.length+1:=by
 unfold zcT
 split
 ·rw [List.length_map];(first|lia|omega)
 ·rw [List.length_append,List.length_cons,List.length_nil];(first|lia|omega)
theorem zkT {kvs:List (κ×V)} {k:κ} (v:V) (h:zbM kvs k=none):zcT kvs k v=kvs++[(k,v)]:=by
 unfold zcT
 rw [zck,h]
 exact if_neg (by decide)
theorem zh9.isSome_eq {o:Option V} {u:Option Value} (r:zh9 o u):o.isSome=u.isSome:=by
 cases o with
 | none=>cases u with
  | none=>rfl
  | some _=>exact (show False from r).elim
 | some _=>cases u with
  | none=>exact (show False from r).elim
  | some _=>rfl
theorem zh9.getD {o:Option V} {u:Option Value} {d:V} {d':Value} (r:zh9 o u) (rd:za9 d d'):za9 (o.getD d) (u.getD d'):=by
 cases o with
 | none=>cases u with
  | none=>exact rd
  | some _=>exact (show False from r).elim
 | some _=>cases u with
  | none=>exact (show False from r).elim
  | some _=>exact r
theorem KV.val {kvs:List (κ×V)} {vs:List (κ×Value)} (r:KV kvs vs) (k:κ):zh9 (zbM kvs k) (valueAt vs k):=by
 unfold KV at r
 induction r with
 | nil=>exact True.intro
 | @cons p q ps qs h t ih =>
  obtain ⟨h1,h2⟩:=h
  by_cases e:p.1=k
  ·have e':q.1=k:=h1.symm.trans e
   have b:valueAt (q::qs) k=some q.2:=by simp [valueAt,List.find?_cons,e']
   rw [zaY e,b];exact h2
  ·have e':¬ q.1=k:=fun z=>e (h1.trans z)
   have b:valueAt (q::qs) k=valueAt qs k:=by simp [valueAt,List.find?_cons,e']
   rw [zaR e,b];exact ih
theorem KV.any {kvs:List (κ×V)} {vs:List (κ×Value)} (r:KV kvs vs) (k:κ):(kvs.any fun kv=>decide (kv.1=k))=vs.any fun kv=>decide (kv.1=k):=by
 unfold KV at r
 induction r with
 | nil=>rfl
 | cons h t ih=>rw [List.any_cons,List.any_cons,ih,h.1]
theorem KV.repl {kvs:List (κ×V)} {vs:List (κ×Value)} (r:KV kvs vs) (k:κ) {y:V} {u:Value} (ry:za9 y u) :
  KV (kvs.map fun kv=>if kv.1=k then (kv.1,y) else kv) (vs.map fun kv=>if kv.1=k then (kv.1,u) else kv):=by
 unfold KV at r ⊢
 induction r with
 | nil=>exact .nil
 | @cons p q ps qs h t ih =>
  rw [List.map_cons,List.map_cons]
  refine .cons ?_ ih
  obtain ⟨h1,h2⟩:=h
  by_cases e:p.1=k
  ·rw [if_pos e,if_pos (h1.symm.trans e)];exact ⟨h1,ry⟩
  ·rw [if_neg e,if_neg (fun z=>e (h1.trans z))];exact ⟨h1,h2⟩
theorem KV.put {kvs:List (κ×V)} {vs:List (κ×Value)} (r:KV kvs vs) (k:κ) {y:V} {u:Value} (ry:za9 y u):KV (zcT kvs k y) (stored vs k u):=by
 unfold zcT stored
 rw [r.any k]
 by_cases e:(vs.any fun kv=>decide (kv.1=k))=true
 ·rw [if_pos e,if_pos e];exact r.repl k ry
 ·rw [if_neg e,if_neg e];exact Paired.snoc r ⟨rfl,ry⟩
theorem KV.length {kvs:List (κ×V)} {vs:List (κ×Value)} (r:KV kvs vs):kvs.length=vs.length:=Paired.length r
end
theorem ziF {P:Program} {w:World} {k:Key} {u:Value} (r:za9 (kV k) u):(zaV P w).is k u=true:=by
 cases k with
 | inl i=>obtain ⟨t,e⟩:=(show ∃ t,u=Value.int i t from r);subst e;exact zgB P w i t
 | inr x=>obtain ⟨t,e⟩:=(show ∃ t,u=Value.str x t from r);subst e;exact zgF P w x t
theorem zfN {P:Program} {w:World}:∀ {ks:List Key} {us:List Value},zbr (ks.map kV) us→ItemsAre (zaV P w) ks us
 | [],_,r=>by rw [List.map_nil] at r;cases r;exact .nil
 | k::ks,_,r=>by
  rw [List.map_cons] at r
  cases r with
  | cons h t=>exact .cons (ziF h) (zfN t)
abbrev KT (H:Hp):List (List Key×V)→List (List Key×Addr×Value)→Prop:=Paired fun p q=>p.1=q.1∧H q.2.1=some (.tup (p.1.map kV))∧za9 p.2 q.2.2
theorem KT.val {H:Hp} {kvs:List (List Key×V)} {xs:List (List Key×Addr×Value)} (r:KT H kvs xs) (k:List Key):zh9 (zbM kvs k) ((atKey xs k).map (·.2)):=by
 induction r with
 | nil=>exact True.intro
 | @cons p q ps qs h t ih =>
  obtain ⟨h1,_,h2⟩:=h
  by_cases e:p.1=k
  ·have e':q.1=k:=h1.symm.trans e
   have b:atKey (q::qs) k=some q.2:=by simp [atKey,List.find?_cons,e']
   rw [zaY e,b];exact h2
  ·have e':¬ q.1=k:=fun z=>e (h1.trans z)
   have b:atKey (q::qs) k=atKey qs k:=by simp [atKey,List.find?_cons,e']
   rw [zaR e,b];exact ih
theorem KT.repl {H:Hp} {kvs:List (List Key×V)} {xs:List (List Key×Addr×Value)} (r:KT H kvs xs) (k:List Key) {y:V} {u:Value} (ry:za9 y u) :
  KT H (kvs.map fun kv=>if kv.1=k then (kv.1,y) else kv) (xs.map (putAt k u)):=by
 induction r with
 | nil=>exact .nil
 | @cons p q ps qs h t ih =>
  rw [List.map_cons,List.map_cons]
  refine .cons ?_ ih
  obtain ⟨h1,h2,h3⟩:=h
  unfold putAt
  by_cases e:p.1=k
  ·rw [if_pos e,if_pos (h1.symm.trans e)];exact ⟨h1,h2,ry⟩
  ·rw [if_neg e,if_neg (fun z=>e (h1.trans z))];exact ⟨h1,h2,h3⟩
theorem KT.put {H:Hp} {kvs:List (List Key×V)} {xs:List (List Key×Addr×Value)} (r:KT H kvs xs) (k:List Key) {b:Addr} {y:V} {u:Value} (hb:H b=some (.tup (k.map kV))) (ry:za9 y u) :
  KT H (zcT kvs k y) (storedH xs k b u):=by
 have e:(kvs.any fun kv=>decide (kv.1=k))=(atKey xs k).isSome:=by
  rw [zck,(r.val k).isSome_eq,Option.isSome_map]
 unfold zcT storedH
 rw [e]
 by_cases q:(atKey xs k).isSome=true
 ·rw [if_pos q,if_pos q];exact r.repl k ry
 ·rw [if_neg q,if_neg q];exact Paired.snoc r ⟨rfl,hb,ry⟩
theorem KT.keeps {H H':Hp} {kvs:List (List Key×V)} {xs:List (List Key×Addr×Value)} (r:KT H kvs xs) (ht:∀ b ys,H b=some (.tup ys)→H' b=some (.tup ys)):KT H' kvs xs :=
 Paired.mapP r fun _ _ z=>⟨z.1,ht _ _ z.2.1,z.2.2⟩
section
variable {P:Program} {w:World} {H:Hp} {h:Heap} {a:Addr}
theorem znF {u:HO} (ok:HOk P w H h) (e:Rd H a u):zaP P w H h a u:=e.ok ok
theorem zjR {kvs:List (Key×V)} (ok:HOk P w H h) (e:Rd H a (.dK kvs)):kvs.length≤sizeLine∧(a == sysModules)=false∧∃ vs,KV kvs vs∧h.DictOf (zaV P w) a vs :=
 show zaP P w H h a (.dK kvs) from znF ok e
theorem zk6 {kvs:List (Key×V)} (ok:HOk P w H h) (e:H a=some (.dK kvs)):kvs.length≤sizeLine∧(a == sysModules)=false∧∃ vs,KV kvs vs∧h.DictOf (zaV P w) a vs:=zjR ok (.inl e)
theorem zg5 {ks:List Key} (ok:HOk P w H h) (e:H a=some (.tup (ks.map kV))):(tupleKind (zaV P w)).is h ks a:=by
 obtain ⟨_,its,r,o,h1,h2,n,h3⟩:=(show zaP P w H h a (.tup (ks.map kV)) from ok a _ e)
 exact ⟨o,its.toArray,n,h1,h2,h3,by simpa using zfN r⟩
theorem zkP {kvs:List (List Key×V)} (ok:HOk P w H h) (e:Rd H a (.dT kvs)):kvs.length≤sizeLine∧(a == sysModules)=false ∧
  ∃ xs,KT H kvs xs∧h.DictOfH (tupleKind (zaV P w)) a xs:=by
 obtain ⟨z,y,xs,r,o,es,ep,h1,h2,h3,h4,h5⟩:=(show zaP P w H h a (.dT kvs) from znF ok e)
 refine ⟨z,y,xs,r,o,es,ep,h1,h2,h3,h4,fun x hx=>?_,h5⟩
 have all:∀ {l:List (List Key×V)} {m:List (List Key×Addr×Value)},KT H l m→∀ x∈m,(tupleKind (zaV P w)).is h x.1 x.2.1:=by
  intro l m q
  induction q with
  | nil=>intro x hx;exact nomatch hx
  | @cons p q ps qs hq t ih =>
   intro x hx
   rcases List.mem_cons.mp hx with e | hx
   ·subst e
    exact zg5 ok (by rw [← hq.1];exact hq.2.1)
   ·exact ih x hx
 exact all r x hx
theorem znp {kvs:List (List Key×V)} (ok:HOk P w H h) (e:H a=some (.dT kvs)):kvs.length≤sizeLine∧(a == sysModules)=false ∧
  ∃ xs,KT H kvs xs∧h.DictOfH (tupleKind (zaV P w)) a xs:=zkP ok (.inl e)
end
def zih (H:Hp) (a:Addr) (y:V) (r:Option V):Prop :=
 (∃ kvs k,Rd H a (.dK kvs)∧y=kV k∧r=zbM kvs k)∨∃ kvs k b,Rd H a (.dT kvs)∧y=.ref b∧H b=some (.tup (k.map kV))∧r=zbM kvs k
def zh6 (H:Hp) (a:Addr) (y v:V) (H':Hp):Prop :=
 (∃ kvs k,H a=some (.dK kvs)∧y=kV k∧kvs.length<sizeLine∧H'=upd H a (.dK (zcT kvs k v))) ∨
 ∃ kvs k b,H a=some (.dT kvs)∧y=.ref b∧H b=some (.tup (k.map kV))∧kvs.length<sizeLine∧H'=upd H a (.dT (zcT kvs k v))
theorem zih.k {H:Hp} {a:Addr} {kvs:List (Key×V)} {k:Key} (e:H a=some (.dK kvs)):zih H a (kV k) (zbM kvs k):=.inl ⟨kvs,k,.inl e,rfl,rfl⟩
theorem zih.t {H:Hp} {a b:Addr} {kvs:List (List Key×V)} {k:List Key} (e:H a=some (.dT kvs)) (eb:H b=some (.tup (k.map kV))):zih H a (.ref b) (zbM kvs k):=.inr ⟨kvs,k,b,.inl e,rfl,eb,rfl⟩
theorem zh6.k {H:Hp} {a:Addr} {kvs:List (Key×V)} {k:Key} {v:V} (e:H a=some (.dK kvs)) (hl:kvs.length<sizeLine):zh6 H a (kV k) v (upd H a (.dK (zcT kvs k v))):=.inl ⟨kvs,k,e,rfl,hl,rfl⟩
theorem zh6.t {H:Hp} {a b:Addr} {kvs:List (List Key×V)} {k:List Key} {v:V} (e:H a=some (.dT kvs)) (eb:H b=some (.tup (k.map kV))) (hl:kvs.length<sizeLine) :
  zh6 H a (.ref b) v (upd H a (.dT (zcT kvs k v))):=.inr ⟨kvs,k,b,e,rfl,eb,hl,rfl⟩
section
variable {X:Cx} {pins:List (Addr×Obj)} {σ:St} {H:Hp} {s:Shared} {a:Addr} {y v:V} {u r:Value} {o:Option V} {A:Around} {E:Value→Shared→Prop}
theorem Inv.big (I:Inv X pins σ H s):sysModules<s.heap.objs.size:=by
 have h:mainGlobals<s.heap.objs.size:=(I.mod.glob.keeps I.bk).lt
 exact Nat.lt_trans (by decide) h
theorem d_in {Q:Value→Shared→Prop} (hu:A.units+1<cLine) (I:Inv X pins σ H s) (g:zih H a y o) (ry:za9 y u) (h:∀ s',Inv X pins σ H s'→Q (.bool o.isSome) s') :
  wpAny (model X.prog X.w) A (compareOp .In u (.ref a)) Q E s:=by
 rcases g with ⟨kvs,k,e,ey,l⟩ | ⟨kvs,k,b,e,ey,eb,l⟩
 ·subst ey
  obtain ⟨z,hd,vs,rel,dd⟩:=zjR I.hok e
  refine wpAny_in_of (ziF ry) hd dd.mapOf ?_
  rw [← (rel.val k).isSome_eq,← l]
  exact h _ (I.tok _)
 ·subst ey
  cases (show u=Value.ref b from ry)
  obtain ⟨z,hd,xs,rel,dd⟩:=zkP I.hok e
  refine wpAny_in_heap (tupleKind_room_in1 hu) (zg5 I.hok eb) hd dd ?_
  have q:=(rel.val k).isSome_eq
  rw [Option.isSome_map] at q
  rw [← q,← l]
  exact h _ (I.tok _)
theorem zed {h':Heap} {t':Nat} {ob:HO} (I:Inv X pins σ H s) (mu:Mut (H a)) (hs:Heap.SameBut a s.heap h') (he:∃ q,h'.get? a=some q) (new:zaP X.prog X.w (upd H a ob) h' a ob) :
  Inv X pins σ (upd H a ob) { s with heap:=h',toks:=t' } :=
 I.write (x:=a) (e:=a) mu (.inl rfl) (fun b q hb z=>(hs.2 b hb).trans z) he new
theorem zlB {P:Program} {w:World} {H':Hp} {h':Heap} {kvs:List (Key×V)} {vs:List (Key×Value)} (z:kvs.length≤sizeLine) (hd:(a == sysModules)=false) (rel:KV kvs vs) (dd:h'.DictOf (zaV P w) a vs) :
  zaP P w H' h' a (.dK kvs):=⟨z,hd,vs,rel,dd⟩
theorem zi1 {H':Hp} {Q:Unit→Shared→Prop} (hu:A.units+1<cLine) (I:Inv X pins σ H s) (g:zh6 H a y v H') (ry:za9 y u) (rv:za9 v r) (h:∀ s',Inv X pins σ H' s'→Q () s') :
  wpAny (model X.prog X.w) A (setItem (.ref a) u r) Q E s:=by
 rcases g with ⟨kvs,k,e,ey,l,eH⟩ | ⟨kvs,k,b,e,ey,eb,l,eH⟩
 ·subst ey eH
  obtain ⟨z,hd,vs,rel,dd⟩:=zk6 I.hok e
  have hz:vs.length≤sizeLine:=by rw [← rel.length];exact z
  have hl:(zcT kvs k v).length≤sizeLine:=by have:=zbB kvs k v;(first|lia|omega)
  refine wpAny_setItem_pairs (hsz:=hz) (ziF ry) dd fun h' dd' hs=>h _ ?_
  have he:∃ q,h'.get? a=some q:=let ⟨q,_,_,hq,_⟩:=dd';⟨q,hq⟩
  exact zed I (by rw [e];exact True.intro) hs he (zlB hl hd (rel.put k rv) dd')
 ·subst ey eH
  cases (show u=Value.ref b from ry)
  obtain ⟨z,hd,xs,rel,dd⟩:=znp I.hok e
  have hz:xs.length≤sizeLine:=by rw [← Paired.length rel];exact z
  have hl:(zcT kvs k v).length≤sizeLine:=by have:=zbB kvs k v;(first|lia|omega)
  refine wpAny_setItem_heap (hsz:=hz) (tupleKind_room_in1 hu) (zg5 I.hok eb) dd fun h' dd' hs=>h _ ?_
  obtain ⟨q,es,ep,hq,h2,h3,h4,_,h5⟩:=dd'
  refine zed I (by rw [e];exact True.intro) hs ⟨q,hq⟩ ⟨hl,hd,_,(rel.put k eb rv).keeps fun c ys ec=>?_,q,es,ep,hq,h2,h3,h4,h5⟩
  rw [zaj (zbZ ec e (fun z=>nomatch z))]
  exact ec
end
section
variable {X:Cx} {pins:List (Addr×Obj)} {σ:St} {H:Hp} {s:Shared} {a:Addr} {kvs:List (Key×V)} {k:Key} {u:Value} {A:Around} {E:Value→Shared→Prop}
theorem d_len {Q:Value→Shared→Prop} (I:Inv X pins σ H s) (e:Rd H a (.dK kvs)) (h:∀ t s',Inv X pins σ H s'→Q (.int kvs.length t) s'):wpAny (model X.prog X.w) A (call (.builtin "len") [.ref a]) Q E s:=by
 obtain ⟨z,hd,vs,rel,dd⟩:=zjR I.hok e
 refine call_len_dict hd dd (by rw [← rel.length];rw [sizeLine_eq] at z;(first|lia|omega)) ?_
 rw [← rel.length]
 exact h _ _ (I.tok _)
end
def NoSl (i:Expr):Prop:=∀ ov iv,subscripted i false ov iv=operate [ov,iv] (getItem ov iv)
theorem zmr {prog:Program} {w:World} {A:Around} {E:Value→Shared→Prop} {s:Shared} {env:Env} {value slice:Expr} {pos:Pos} {T id:String} {Q:Value→Shared→Prop}
  (hl:typeLookup (.type T) "__getitem__"=pure (some (.builtin id))) (hs:NoSl slice)
  (h:wpAny (model prog w) A (eval value env) (fun o s₁=>wpAny (model prog w) A (eval slice env) (fun i s₂=>s₂.TypeIs o T∧wpAny (model prog w) A (getItem o i) Q E s₂) E s₁) E s) :
  wpAny (model prog w) A (eval (.Subscript value slice pos) env) Q E s:=by
 refine Subscript_ (wpAny_mono h (fun o s₁ h₁=>wpAny_mono h₁ (fun i s₂ h₂=>?_) fun _ _ x=>x) fun _ _ x=>x)
 obtain ⟨hT,h₂⟩:=h₂
 unfold subscriptTail
 refine wpAny_bind ?_
 rw [getitemInPython_of_ne hT.not_modules]
 refine wpAny_bind (wpAny_specialOf hT hl ?_)
 have fin:wpAny (model prog w) A (subscripted slice false o i) (fun r s₃=>wpAny (model prog w) A (letTemporaryGo value o r >>= fun _=>pure r) Q E s₃) E s₂:=by
  rw [hs o i]
  exact wpAny_operating (wpAny_mono h₂ (fun r s₃ h₃=>wpAny_bind (wpAny_letTemporaryGo (wpAny_pure h₃))) fun _ _ x=>x)
 first
  | exact wpAny_pure (wpAny_bind fin)
  | exact wpAny_bind (wpAny_pure (wpAny_bind fin))
  | exact wpAny_bind fin
def zmT (ty td:TE):TE:=fun σ H Q=>ty σ H fun y H1=>td σ H1 fun x H2=>∃ a o,x=.ref a∧zih H2 a y o∧Q (.bl o.isSome) H2
def zd5 (td ty tv:TE):TS:=fun D σ H=>tv σ H fun v H1=>td σ H1 fun x H2=>ty σ H2 fun y H3=>∃ a H4,x=.ref a∧zh6 H3 a y v H4∧D.nx σ H4
section
variable {X:Cx} {o i e value:Expr} {pos pos' tpos:Pos} {td ty tv:TE}
theorem zlh (hu:X.A.units+1<cLine) (hi:PE X i ty) (ho:PE X o td):PC X .In i o (zmT ty td):=by
 intro pins s σ H Q I h
 refine thn (hi pins s σ H _ I h) fun iv s1 ⟨y,H1,I1,ry,q1⟩=>thn (ho pins s1 σ H1 _ I1 q1) fun u s2 hQ'=>?_
 obtain ⟨x,H2,I2,rx,a,ov,ex,g,q2⟩:=hQ'
 subst ex
 obtain rfl:u=Value.ref a:=rx
 exact d_in hu I2 g ry fun s3 I3=>⟨.bl ov.isSome,H2,I3,rfl,q2⟩
theorem zef (hu:X.A.units+1<cLine) (ho:PE X o td) (hi:PE X i ty) (hv:PE X value tv) (hs:swapsWith value (some (.Subscript o i pos')) pos.line X.env=pure false) :
  PS X (.Assign [.Subscript o i pos'] value pos) (zd5 td ty tv):=by
 intro pins s σ H D I h
 refine wpAny_Assign_Subscript (thn (hv pins s σ H _ I h) fun r s1 ⟨v,H1,I1,rv,q1⟩=>thn (ho pins s1 σ H1 _ I1 q1) fun u s2 ⟨x,H2,I2,rx,q2⟩=>thn (hi pins s2 σ H2 _ I2 q2) fun iv s3 hQ'=>?_) hs
 obtain ⟨y,H3,I3,ry,a,H4,ex,g,q3⟩:=hQ'
 subst ex
 obtain rfl:u=Value.ref a:=rx
 exact zi1 hu I3 g ry rv fun s4 I4=>⟨σ,H4,I4,q3⟩
end
theorem zhq {P:Program} {w:World} {H:Hp} (h:Heap) (hb:sysModules<h.objs.size):zaP P w H (h.push { cls:=.type "dict",data:=.dict #[] }) h.objs.size (.dK []) :=
 ⟨Nat.zero_le _,beq_eq_false_iff_ne.mpr (Ne.symm (Nat.ne_of_lt hb)),[],.nil,Heap.DictOf.new h⟩
theorem zks {P:Program} {w:World} {H:Hp} (h:Heap) (hb:sysModules<h.objs.size):zaP P w H (h.push { cls:=.type "dict",data:=.dict #[] }) h.objs.size (.dT []) :=
 ⟨Nat.zero_le _,beq_eq_false_iff_ne.mpr (Ne.symm (Nat.ne_of_lt hb)),[],.nil,_,#[],0,Heap.get?_push_size _ rfl,⟨rfl,rfl,rfl⟩,rfl,rfl,List.nodup_nil⟩
def zjD:TE:=fun _ H Q=>∀ p,H p=none→Q (.ref p) (upd H p (.dK []))
def ziB:TE:=fun _ H Q=>∀ p,H p=none→Q (.ref p) (upd H p (.dT []))
section
variable {X:Cx} {pos:Pos}
theorem zj9:PE X (.Dict [] [] pos) zjD:=fun pins s σ H Q I h =>
 wpAny_Dict_empty ⟨.ref s.heap.objs.size,_,I.laid (a:=s.heap.objs.size) (o:=.dK []) (t':=s.toks) (fun _ _ q=>Heap.get?_push_of_some _ q) (Nat.le_refl _) (zhq s.heap I.big),rfl,h _ (I.hok.fresh (Nat.le_refl _))⟩
theorem zk5:PE X (.Dict [] [] pos) ziB:=fun pins s σ H Q I h =>
 wpAny_Dict_empty ⟨.ref s.heap.objs.size,_,I.laid (a:=s.heap.objs.size) (o:=.dT []) (t':=s.toks) (fun _ _ q=>Heap.get?_push_of_some _ q) (Nat.le_refl _) (zks s.heap I.big),rfl,h _ (I.hok.fresh (Nat.le_refl _))⟩
end
def zg6:List (TE×TE)→St→Hp→(List (V×V)→Hp→Prop)→Prop
 | [],_,H,Q=>Q [] H
 | (tk,tv)::r,σ,H,Q=>tk σ H fun x H1=>tv σ H1 fun y H2=>zg6 r σ H2 fun ps H3=>Q ((x,y)::ps) H3
abbrev VV:List (V×V)→List (Value×Value)→Prop:=Paired fun p q=>za9 p.1 q.1∧za9 p.2 q.2
def PPs (X:Cx) (pos:Pos) (keys:List (Option Expr)) (values:List Expr) (trs:List (TE×TE)):Prop :=
 ∀ (pins:List (Addr×Obj)) (s:Shared) (σ:St) (H:Hp) (Q:List (V×V)→Hp→Prop),Inv X pins σ H s→zg6 trs σ H Q →
  wpAny (model X.prog X.w) X.A (evalPairs (pairTrees keys values X.env pos)) (fun vs s'=>∃ ps H',Inv X pins σ H' s'∧VV ps vs∧Q ps H') X.xe s
theorem zl8 {X:Cx} {pos:Pos}:PPs X pos [] [] []:=fun pins s σ H Q I h=>pairTrees_nil_walk ⟨[],H,I,.nil,h⟩
theorem zj1 {X:Cx} {pos:Pos} {k v:Expr} {ks:List (Option Expr)} {vs:List Expr} {tk tv:TE} {trs:List (TE×TE)} (hk:PE X k tk) (hv:PE X v tv) (hr:PPs X pos ks vs trs) :
  PPs X pos (some k::ks) (v::vs) ((tk,tv)::trs):=fun pins s σ H Q I h =>
 pairTrees_cons_walk (thn (hk pins s σ H _ I h) fun u s1 ⟨x,H1,I1,rx,q1⟩=>thn (hv pins s1 σ H1 _ I1 q1) fun w2 s2 ⟨y,H2,I2,ry,q2⟩ =>
  thn (hr pins s2 σ H2 _ I2 q2) fun ws s3 ⟨ps,H3,I3,rel,q3⟩=>⟨(x,y)::ps,H3,I3,.cons ⟨rx,ry⟩ rel,q3⟩)
def zgk (kvs more:List (Key×V)):List (Key×V):=more.foldl (fun acc kv=>zcT acc kv.1 kv.2) kvs
theorem KV.merge:∀ {more:List (Key×V)} {rs:List (Key×Value)} {kvs:List (Key×V)} {vs:List (Key×Value)},KV more rs→KV kvs vs→KV (zgk kvs more) (merged vs rs):=by
 intro more rs kvs vs r
 unfold KV at r
 induction r generalizing kvs vs with
 | nil=>intro q;exact q
 | @cons p q ps qs h t ih =>
  intro r0
  have e:KV (zcT kvs p.1 p.2) (stored vs q.1 q.2):=by
   have:=r0.put p.1 h.2
   rw [← h.1];exact this
  exact ih e
theorem zdo:∀ (more kvs:List (Key×V)),(zgk kvs more).length≤kvs.length+more.length
 | [],kvs=>by show kvs.length≤kvs.length+0;(first|lia|omega)
 | p::r,kvs=>by
  have h1:=zdo r (zcT kvs p.1 p.2)
  have h2:=zbB kvs p.1 p.2
  show (zgk (zcT kvs p.1 p.2) r).length≤_
  rw [List.length_cons];(first|lia|omega)
theorem ze6 {P:Program} {w:World}:∀ {kvs:List (Key×V)} {ws:List (Value×Value)},VV (kvs.map fun kv=>(kV kv.1,kv.2)) ws→∃ rs,Carries (zaV P w) ws rs∧KV kvs rs
 | [],_,r=>by rw [List.map_nil] at r;cases r;exact ⟨[],True.intro,.nil⟩
 | p::kvs,_,r=>by
  rw [List.map_cons] at r
  cases r with
  | @cons a b as bs h t =>
   obtain ⟨rs,c,q⟩:=ze6 (P:=P) (w:=w) t
   obtain ⟨b1,b2⟩:=b
   exact ⟨(p.1,b2)::rs,⟨ziF h.1,rfl,c⟩,.cons ⟨rfl,h.2⟩ q⟩
def zlU (trs:List (TE×TE)):TE:=fun σ H Q=>∀ p,H p=none→zg6 trs σ (upd H p (.dK [])) fun ps H2=>H2 p=some (.dK [])∧∃ kvs:List (Key×V),ps=kvs.map (fun kv=>(kV kv.1,kv.2))∧kvs.length≤15∧Q (.ref p) (upd H2 p (.dK (zgk [] kvs)))
theorem zlV {X:Cx} {pos:Pos} {keys:List (Option Expr)} {values:List Expr} {trs:List (TE×TE)} (h:PPs X pos keys values trs) (hall:keys.all (·.isSome)=true) (hl:keys.length=values.length) (h0:keys≠[])
  (h15:keys.length≤15):PE X (.Dict keys values pos) (zlU trs):=by
 intro pins s σ H Q I q
 have hn:=I.hok.fresh (Nat.le_refl s.heap.objs.size)
 have I1:=I.laid (a:=s.heap.objs.size) (o:=.dK []) (h':=s.heap.push { cls:=.type "dict",data:=.dict #[] }) (t':=s.toks) (fun _ _ q=>Heap.get?_push_of_some _ q) (Nat.le_refl _) (zhq s.heap I.big)
 refine wpAny_Dict_walk (knd:=zaV X.prog X.w) hall hl h0 h15 (thn (h pins _ σ _ _ I1 (q _ hn)) fun ws s2 hQ'=>?_)
 obtain ⟨ps,H2,I2,rel,e,kvs,ep,lk,q2⟩:=hQ'
 subst ep
 obtain ⟨rs,c,rk⟩:=ze6 (P:=X.prog) (w:=X.w) rel
 obtain ⟨z,hd,vs0,r0,dd⟩:=zk6 I2.hok e
 cases r0
 refine ⟨rs,c,dd,fun h' dd' hs=>⟨.ref s.heap.objs.size,_,?_,rfl,q2⟩⟩
 have hz:(zgk [] kvs).length≤sizeLine:=by
  have h1:=zdo kvs []
  rw [List.length_nil] at h1
  rw [sizeLine_eq];(first|lia|omega)
 have he:∃ q,h'.get? s.heap.objs.size=some q:=let ⟨q,_,_,hq,_⟩:=dd';⟨q,hq⟩
 exact zed I2 (by rw [e];exact True.intro) hs he (zlB hz hd (rk.merge .nil) dd')
structure M2 (X:Cx) (o:Expr) (m:Str) (apos:Pos) (e f:Expr) (cpos:Pos):Prop where
 base:attributeBase o m X.env (eval o X.env)=eval o X.env
 few:((backTo cpos (starEach [e,f] X.env)).all (fun x=>!x.1)&&(backToKw cpos (keywordEach [] X.env)).all (fun x=>x.1.isSome)
  && decide (([e,f]:List Expr).length+([]:List Keyword).length+(if ([]:List Keyword).isEmpty then 0 else 1)<30))=true
 line:(apos.endLine == cpos.line)=true
 trees:backTo cpos (starEach [e,f] X.env)=[(false,eval e X.env),(false,eval f X.env)]
def IsD (H:Hp) (a:Addr):Prop:=(∃ kvs,Rd H a (.dK kvs))∨∃ kvs,Rd H a (.dT kvs)
theorem znj {X:Cx} {pins:List (Addr×Obj)} {σ:St} {H:Hp} {s:Shared} {a:Addr} (I:Inv X pins σ H s) (d:IsD H a) :
  s.TypeIs (.ref a) "dict"∧(∀ b,Value.ref a=.ref b→∃ ob,s.heap.get? b=some ob∧ob.dict=none)∧(a == sysModules)=false:=by
 rcases d with ⟨kvs,e⟩ | ⟨kvs,e⟩
 ·obtain ⟨_,hd,vs,_,dd⟩:=zjR I.hok e
  refine ⟨dd.typeIs,fun b q=>?_,hd⟩
  cases q
  obtain ⟨ob,_,_,h1,h2,_⟩:=dd
  exact ⟨ob,h1,h2.2.1⟩
 ·obtain ⟨_,hd,xs,_,dd⟩:=zkP I.hok e
  refine ⟨dd.typeIs,fun b q=>?_,hd⟩
  cases q
  obtain ⟨ob,_,_,h1,h2,_⟩:=dd
  exact ⟨ob,h1,h2.2.1⟩
section
variable {X:Cx} {pins:List (Addr×Obj)} {σ:St} {H:Hp} {s:Shared} {a:Addr} {y d:V} {u r:Value} {o:Option V} {A:Around} {E:Value→Shared→Prop}
theorem znl {Q:Value→Shared→Prop} (hu:A.units+1<cLine) (I:Inv X pins σ H s) (g:zih H a y o) (ry:za9 y u) (rd:za9 d r) (h:∀ w' s',Inv X pins σ H s'→za9 (o.getD d) w'→Q w' s') :
  wpAny (model X.prog X.w) A (call (.builtin "dict.get") [.ref a,u,r]) Q E s:=by
 rcases g with ⟨kvs,k,e,ey,l⟩ | ⟨kvs,k,b,e,ey,eb,l⟩
 ·subst ey
  obtain ⟨z,hd,vs,rel,dd⟩:=zjR I.hok e
  refine call_meetsIn PySem.F.slot_dict_get dd.typeIs PySem.F.entry_dict_get (PySem.F.args_dict_get_3 _ _ _) (meets_dict_get_default (zaV X.prog X.w) a (ziF ry) hd r) ⟨_,dd.mapOf,h _ _ (I.tok _) ?_⟩
  rw [l]
  exact (rel.val k).getD rd
 ·subst ey
  cases (show u=Value.ref b from ry)
  obtain ⟨z,hd,xs,rel,dd⟩:=zkP I.hok e
  refine call_meetsIn PySem.F.slot_dict_get dd.typeIs PySem.F.entry_dict_get (PySem.F.args_dict_get_3 _ _ _) (meetsH_dict_get_default (tupleKind (zaV X.prog X.w)) a b hd r) ⟨tupleKind_room_in1 hu,k,xs,zg5 I.hok eb,dd,h _ _ (I.tok _) ?_⟩
  rw [l]
  exact (rel.val k).getD rd
end
def ze4 (td ty tx:TE):TE:=fun σ H Q=>td σ H fun x H1=>∃ a,x=.ref a∧IsD H1 a∧ty σ H1 fun y H2=>tx σ H2 fun z H3=>∃ o,zih H3 a y o∧Q (o.getD z) H3
section
variable {X:Cx} {o e f:Expr} {apos cpos:Pos} {td ty tx:TE}
theorem zhi (hu:X.A.units+1<cLine) (ho:PE X o td) (he:PE X e ty) (hf:PE X f tx) (m:M2 X o "get" apos e f cpos):PE X (.Call (.Attribute o "get" apos) [e,f] [] cpos) (ze4 td ty tx):=by
 intro pins s σ H Q I h
 refine wpAny_Call_method m.base m.few m.line PySem.F.plainAttrs_dict PySem.F.slot_dict_get PySem.F.type_dict_get (thn (ho pins s σ H _ I h) fun u s1 hQ'=>?_)
 obtain ⟨x,H1,I1,rx,a,ex,d,q1⟩:=hQ'
 subst ex
 obtain rfl:u=Value.ref a:=rx
 obtain ⟨t1,t2,_⟩:=znj I1 d
 refine ⟨t1,t2,?_⟩
 rw [m.trees]
 refine Calls.callWith_builtin rfl (Calls.evalArgs_plain (Calls.spliced_cons (thn (he pins s1 σ H1 _ I1 q1) fun iv s2 ⟨y,H2,I2,ry,q2⟩ =>
  Calls.spliced_cons (thn (hf pins s2 σ H2 _ I2 q2) fun fv s3 ⟨z,H3,I3,rz,ov,g,q3⟩=>Calls.spliced_nil ?_))))
 exact znl hu I3 g ry rz fun w' s4 I4 rw'=>⟨_,H3,I4,rw',q3⟩
end
section
variable {X:Cx} {pins:List (Addr×Obj)} {σ:St} {H:Hp} {s:Shared} {a:Addr} {kvs:List (Key×V)} {A:Around} {E:Value→Shared→Prop}
end
section
variable {X:Cx} {pins:List (Addr×Obj)} {σ:St} {H:Hp} {s:Shared} {a:Addr} {y:V} {u:Value} {A:Around} {E:Value→Shared→Prop}
end
end L2
namespace L2
open PySem PySem.Spec PyProof.Rows
section
variable {X:Cx}
theorem zew:zdv X (.builtin "len") (fun xs H Q=>∃ a kvs,xs=[V.ref a]∧H a=some (.dK kvs)∧Q (.int kvs.length) H):=by
 intro pins s σ H xs us Q I r h
 obtain ⟨a,kvs,rfl,ha,q⟩:=h
 obtain ⟨u,rfl,ru⟩:=zeK r
 cases ru
 exact d_len I (.inl ha) fun t s' I'=>⟨.int kvs.length,H,I',⟨t,rfl⟩,q⟩
end
end L2
namespace L2
open PySem PySem.Spec PyProof.Rows
def zh1:List V→Hp→VK→Prop:=fun xs H Q=>∃ a kvs,xs=[V.ref a]∧H a=some (.dK kvs)∧Q (.int kvs.length) H
section
variable {X:Cx}
theorem zjH:∀ {xs:List V} {us:List Value},xs.length=us.length→(∀ (j:Nat) x u,xs[j]?=some x→us[j]?=some u→za9 x u)→zbr xs us
 | [],[],_,_=>.nil
 | [],_::_,h,_=>by simp at h
 | _::_,[],h,_=>by simp at h
 | x::xs,u::us,h,r=>.cons (r 0 x u rfl rfl) (zjH (by simpa using h) fun j y v e1 e2=>r (j+1) y v e1 e2)
end
end L2
namespace L2
open PySem PySem.Spec PyProof.Rows
def zlr (K:PySem.W.Frag) (a:Addr) (xs:List V):Prop:=∃ (o:Obj) (its:Array Value) (n:Nat),K.lookup a=some o∧o.cls=.type "tuple"∧o.data=.seq its n∧its.size≤sizeLine∧zbr xs its.toList
theorem SqT.ofK {K:PySem.W.Frag} {H:Hp} {a:Addr} {xs:List V} (h:zlr K a xs):SqT K H a xs:=.inr h
section
variable {X:Cx}
theorem zhw:∀ {ns:List Int} {us:List Value},zbr (ns.map V.int) us→IntsAre us ns
 | [],_,r=>by rw [List.map_nil] at r;cases r;exact .nil
 | n::ns,_,r=>by
  rw [List.map_cons] at r
  cases r with
  | cons h t =>
   obtain ⟨t',rfl⟩:=h
   exact .cons _ _ (zhw t)
theorem zgq:∀ {ns:List Int} {us:List Value},IntsAre us ns→zbr (ns.map V.int) us
 | _,_,.nil=>.nil
 | _,_,.cons n t r=>.cons ⟨t,rfl⟩ (zgq r)
theorem zh3 {pins:List (Addr×Obj)} {σ:St} {H:Hp} {s:Shared} {l:Addr} {h':Heap} {tk:Nat} {out:Array Value} {e:Nat} {ns':List Int} {Q:VK} (I:Inv X pins σ H s) (kp:∀ b o,s.heap.get? b=some o→h'.get? b=some o) (hlt:s.heap.objs.size≤l)
  (ho:h'.get? l=some (seqObj "list" out e)) (hI:IntsAre out.toList ns') (hl:ns'.length<64) (q:H l=none→Q (.ref l) (upd H l (.lst (ns'.map V.int)))):EP X pins σ Q (.ref l) { s with heap:=h',toks:=tk }:=by
 refine ⟨.ref l,_,I.laid (t':=tk) kp hlt (show zaP X.prog X.w _ h' _ (.lst (ns'.map V.int)) from ⟨?_,out.toList,e,zgq hI,ho⟩),rfl,q (I.hok.fresh hlt)⟩
 rw [List.length_map,sizeLine_eq]
 (first|lia|omega)
end
end L2
namespace L2
open PySem PySem.Spec PyProof.Rows
section
variable {X:Cx} {pins:List (Addr×Obj)} {σ:St} {H:Hp} {s:Shared} {a:Addr} {o:Obj} {kvs:List (Key×V)}
theorem Inv.reword {u v:HO} (I:Inv X pins σ H s) (e:H a=some u) (hu:∀ xs,u≠.tup xs) (ho:∀ x,u≠.own x) (hb:∀ ps,u≠.tbl ps) (hf:∀ o' u',X.H₀ a≠some (.frz o' u')) (new:zaP X.prog X.w H s.heap a v):Inv X pins σ (upd H a v) s:=by
 have nn:∀ b,H b=none→b≠a:=fun b n=>(zap e n).symm
 have nt:∀ b xs,H b=some (.tup xs)→b≠a:=fun b xs q z=>by subst z;rw [e] at q;exact hu xs (Option.some.inj q)
 have no:∀ b x,H b=some (.own x)→b≠a:=fun b x q z=>by subst z;rw [e] at q;exact ho x (Option.some.inj q)
 have nb:∀ b ps,H b=some (.tbl ps)→b≠a:=fun b ps q z=>by subst z;rw [e] at q;exact hb ps (Option.some.inj q)
 refine ⟨I.ok,I.os,I.bare,⟨I.base.keep,I.base.slot,fun b o' q n hx=>?_,I.base.there,fun b xs q=>?_,fun b o' u' q=>?_,fun b ps q=>?_⟩,I.loc,I.cell,?_,fun x c q=>?_,fun p hp=>?_,fun b w' q=>?_,I.len⟩
 ·have n1:=I.base.free b o' q n hx
  rw [zaj (nn b n1)]
  exact n1
 ·have n1:=I.base.tups b xs q
  rw [zaj (nt b xs n1)]
  exact n1
 ·have n1:=I.base.frzs b o' u' q
  rw [zaj (fun z=>by subst z;exact hf o' u' q)]
  exact n1
 ·obtain ⟨more,n1⟩:=I.base.tbls b ps q
  exact ⟨more,by rw [zaj (nb b _ n1)];exact n1⟩
 ·rw [zaj (nn _ I.free)]
  exact I.free
 ·rw [zaj (nn _ (I.freeC x c q))]
  exact I.freeC x c q
 ·obtain ⟨p1,p2,p3⟩:=I.pin p hp
  exact ⟨p1,by rw [zaj (nn _ p2)];exact p2,p3⟩
 ·have ok:zaP X.prog X.w H s.heap b w':=by
   by_cases c:b=a
   ·subst c
    rw [zad] at q
    cases q
    exact new
   ·rw [zaj c] at q
    exact I.hok b w' q
  exact ok.stay (fun _ _ _ z=>z) (fun c z=>by rw [zaj (no c _ z)];exact z) fun c xs z=>by rw [zaj (nt c xs z)];exact z
theorem Inv.nofrz {u:HO} (I:Inv X pins σ H s) (e:H a=some u) (hu:∀ o' u',u≠.frz o' u'):∀ o' u',X.H₀ a≠some (.frz o' u'):=fun o' u' q=>by
 have:=I.base.frzs a o' u' q
 rw [e] at this
 exact hu o' u' (Option.some.inj this)
end
end L2
namespace L2
open PySem
end L2
namespace L2.Srt
open PySem PyProof.Rows PySem.W
section
variable {cmp:Nat→Nat→(Bool→Shared→Prop)→Shared→Prop} {R:Nat→Int} {N:Nat} {s:Shared} {p:Array Nat}
def Asks (cmp:Nat→Nat→(Bool→Shared→Prop)→Shared→Prop) (R:Nat→Int) (N:Nat) (s:Shared):Prop:=∀ i j C,i<N→j<N→C (decide (R i<R j)) s→cmp i j C s
def kr (R:Nat→Int) (p:Array Nat) (i:Nat):Int:=R (p.getD i 0)
def So (R:Nat→Int) (p:Array Nat) (n:Nat):Prop:=∀ i j,i≤j→j<n→kr R p i≤kr R p j
def De (R:Nat→Int) (p:Array Nat) (n:Nat):Prop:=∀ i j,i≤j→j<n→kr R p j≤kr R p i
def Rg (N:Nat) (p:Array Nat):Prop:=p.Perm (List.toArray (List.range N))
theorem Rg.size (h:Rg N p):p.size=N:=by
 have:=h.size_eq
 rw [this,List.size_toArray,List.length_range]
theorem Rg.lt (h:Rg N p) {i:Nat} (hi:i<N):p.getD i 0<N:=by
 have hs:i<p.size:=by rw [h.size];exact hi
 have e:p.getD i 0=p[i]:=by simp [Array.getD,hs]
 rw [e]
 have hm:p[i]∈(List.toArray (List.range N)).toList:=(Array.perm_iff_toList_perm.mp h).mem_iff.mp (by simp)
 simpa using hm
theorem Asks.kr (hc:Asks cmp R N s) (h:Rg N p) {i j:Nat} (hi:i<N) (hj:j<N) {C:Bool→Shared→Prop} (q:C (decide (kr R p i<kr R p j)) s):cmp (p.getD i 0) (p.getD j 0) C s:=hc _ _ _ (h.lt hi) (h.lt hj) q
theorem zjG {p':Array Nat} {i j:Nat} (h:p'[i]?=p[j]?):kr R p' i=kr R p j:=by
 unfold kr
 rw [Array.getD_eq_getD_getElem?,Array.getD_eq_getD_getElem?,h]
theorem ziG {i j:Nat} (hj:j≤p.size) (k:Nat):kr R (kas_rev p i j) k=if i≤k∧k<j then kr R p (i+j - 1 - k) else kr R p k:=by
 have h:=getElem?_mirror_all (xs:=p) (i:=i) hj k
 unfold kas_rev
 split
 ·next c=>rw [if_pos c] at h;exact zjG h
 ·next c=>rw [if_neg c] at h;exact zjG h
theorem zcu {i j:Nat} (hj:j≤p.size) (he:∀ k,i≤k→k<j→kr R p k=kr R p (j - 1)) (k:Nat):kr R (kas_rev p i j) k=kr R p k:=by
 rw [ziG hj]
 split
 ·next c=>rw [he _ (by (first|lia|omega)) (by (first|lia|omega)),he k c.1 c.2]
 ·rfl
theorem zfT (h:Rg N p) (i j:Nat):Rg N (kas_rev p i j):=(mirror_perm p i j _).trans h
theorem znM (h:Rg N p) (i j:Nat):Rg N (bubble p i j):=(bubble_perm p i j).trans h
theorem zls {k d:Nat} (hs:k<p.size) (hd:d≤k) (i:Nat):kr R (bubble p k d) i=if i=k - d then kr R p k else if k - d<i∧i≤k then kr R p (i - 1) else kr R p i:=by
 have h:=getElem?_bubble (xs:=p) hs d hd i
 split
 ·next c=>rw [if_pos c] at h;exact zjG h
 ·next c =>
  rw [if_neg c] at h
  split
  ·next c2=>rw [if_pos c2] at h;exact zjG h
  ·next c2=>rw [if_neg c2] at h;exact zjG h
theorem zdw {α:Type} {cmp:Nat→Nat→(Bool→Shared→Prop)→Shared→Prop} {T₁ T₂:KasT α} {Q:α→Shared→Prop} {s:Shared} (h:T₁.kasWp cmp Q s):(if true=true then T₁ else T₂).kasWp cmp Q s:=by rw [if_pos rfl];exact h
theorem zeu {α:Type} {cmp:Nat→Nat→(Bool→Shared→Prop)→Shared→Prop} {T₁ T₂:KasT α} {Q:α→Shared→Prop} {s:Shared} (h:T₂.kasWp cmp Q s):(if false=true then T₁ else T₂).kasWp cmp Q s:=by rw [if_neg (by simp)];exact h
theorem zmB (hc:Asks cmp R N s) (hp:Rg N p) {G:Nat→Shared→Prop} {e:Nat}:∀ (f n:Nat),1≤n→n+f=e→e≤N→So R p n→(∀ m,n≤m→m≤e→So R p m→(m=e∨kr R p m<kr R p (m - 1))→G m s)→(kas_asc p f n).kasWp cmp G s
 | 0,n,h1,he,hN,hs,q=>q n (Nat.le_refl _) (by (first|lia|omega)) hs (.inl (by (first|lia|omega)))
 | f+1,n,h1,he,hN,hs,q=>by
  show cmp (p.getD n 0) (p.getD (n - 1) 0) _ s
  refine hc.kr hp (by (first|lia|omega)) (by (first|lia|omega)) ?_
  by_cases c:kr R p n<kr R p (n - 1)
  ·rw [decide_eq_true c];refine zdw ?_
   exact q n (Nat.le_refl _) (by (first|lia|omega)) hs (.inr c)
  ·rw [decide_eq_false c];refine zeu ?_
   refine zmB hc hp f (n+1) (by (first|lia|omega)) (by (first|lia|omega)) hN (fun i j hij hj=>?_) fun m m1 m2=>q m (by (first|lia|omega)) m2
   by_cases hj':j<n
   ·exact hs i j hij hj'
   ·have:j=n:=by (first|lia|omega)
    subst this
    by_cases hi:i=j
    ·subst hi;exact Int.le_refl _
    ·have:=hs i (j - 1) (by (first|lia|omega)) (by (first|lia|omega))
     (first|lia|omega)
theorem zjY (hc:Asks cmp R N s) (hp:Rg N p) {G:Nat×Array Nat→Shared→Prop} {n nrem:Nat} (h1:1≤n) (hn:n≤nrem) (hN:nrem≤N) (hd:De R p n) (q:∀ m p',1≤m→m≤nrem→Rg N p'→So R p' m→G (m,p') s):(kas_tail3 n nrem p).kasWp cmp G s:=by
 unfold kas_tail3
 rw [KasT.kasWp_bind]
 have hz:=hp.size
 refine zmB hc (zfT hp 0 n) (e:=nrem) (nrem - n) n h1 (by (first|lia|omega)) hN (fun i j hij hj=>?_) fun m m1 m2 hs _=>q m _ (by (first|lia|omega)) m2 (zfT hp 0 n) hs
 rw [ziG (by (first|lia|omega)),ziG (by (first|lia|omega)),if_pos (by (first|lia|omega)),if_pos (by (first|lia|omega))]
 exact hd _ _ (by (first|lia|omega)) (by (first|lia|omega))
theorem zhI (hc:Asks cmp R N s) {G:Array Nat×Nat×Nat→Shared→Prop} {e:Nat}:∀ (f:Nat) (p:Array Nat) (n q:Nat),Rg N p→1≤n→n+f=e→e≤N→De R p n→q+1≤n→(∀ i,n - (q+1)≤i→i<n→kr R p i=kr R p (n - 1)) →
  (∀ p' m q',Rg N p'→1≤m→m≤e→De R p' m→q'+1≤m→(∀ i,m - (q'+1)≤i→i<m→kr R p' i=kr R p' (m - 1))→G (p',m,q') s)→(kas_desc f p n q).kasWp cmp G s
 | 0,p,n,q,hp,h1,he,hN,hd,hq,hE,g=>g p n q hp h1 (by (first|lia|omega)) hd hq hE
 | f+1,p,n,q,hp,h1,he,hN,hd,hq,hE,g=>by
  show cmp (p.getD n 0) (p.getD (n - 1) 0) _ s
  have hz:=hp.size
  refine hc.kr hp (by (first|lia|omega)) (by (first|lia|omega)) ?_
  by_cases c:kr R p n<kr R p (n - 1)
  ·rw [decide_eq_true c];refine zdw ?_
   have st:∀ p':Array Nat,(∀ k,kr R p' k=kr R p k)→De R p' (n+1):=by
    intro p' hk i j hij hj
    rw [hk,hk]
    by_cases hj':j<n
    ·exact hd i j hij hj'
    ·have:j=n:=by (first|lia|omega)
     subst this
     by_cases hi:i=j
     ·subst hi;exact Int.le_refl _
     ·have:=hd i (j - 1) (by (first|lia|omega)) (by (first|lia|omega))
      (first|lia|omega)
   by_cases cq:q > 0
   ·rw [if_pos cq]
    exact zhI hc f _ (n+1) 0 (zfT hp _ _) (by (first|lia|omega)) (by (first|lia|omega)) hN (st _ (zcu (by (first|lia|omega)) hE)) (by (first|lia|omega)) (fun i i1 i2=>by congr 1;(first|lia|omega)) g
   ·rw [if_neg cq]
    exact zhI hc f _ (n+1) 0 hp (by (first|lia|omega)) (by (first|lia|omega)) hN (st _ fun _=>rfl) (by (first|lia|omega)) (fun i i1 i2=>by congr 1;(first|lia|omega)) g
  ·rw [decide_eq_false c];refine zeu ?_
   show cmp (p.getD (n - 1) 0) (p.getD n 0) _ s
   refine hc.kr hp (by (first|lia|omega)) (by (first|lia|omega)) ?_
   by_cases c2:kr R p (n - 1)<kr R p n
   ·rw [decide_eq_true c2];refine zdw ?_
    exact g p n q hp h1 (by (first|lia|omega)) hd hq hE
   ·rw [decide_eq_false c2];refine zeu ?_
    have eq:kr R p n=kr R p (n - 1):=by (first|lia|omega)
    refine zhI hc f p (n+1) (q+1) hp (by (first|lia|omega)) (by (first|lia|omega)) hN (fun i j hij hj=>?_) (by (first|lia|omega)) (fun i i1 i2=>?_) g
    ·by_cases hj':j<n
     ·exact hd i j hij hj'
     ·have:j=n:=by (first|lia|omega)
      subst this
      by_cases hi:i=j
      ·subst hi;exact Int.le_refl _
      ·rw [eq];exact hd i (j - 1) (by (first|lia|omega)) (by (first|lia|omega))
    ·rw [show n+1 - 1=n by (first|lia|omega)]
     by_cases hi:i=n
     ·subst hi;rfl
     ·rw [eq];exact hE i (by (first|lia|omega)) (by (first|lia|omega))
theorem zeZ (hc:Asks cmp R N s) (hp:Rg N p) {G:Nat×Array Nat→Shared→Prop} {n nrem:Nat} (hn:n+1≤nrem) (hN:nrem≤N) (hd:De R p (n+1)) (q:∀ m p',1≤m→m≤nrem→Rg N p'→So R p' m→G (m,p') s):(kas_descPart n nrem p).kasWp cmp G s:=by
 unfold kas_descPart
 rw [KasT.kasWp_bind]
 refine zhI hc (e:=nrem) (nrem - (n+1)) p (n+1) 0 hp (by (first|lia|omega)) (by (first|lia|omega)) hN hd (by (first|lia|omega)) (fun i i1 i2=>by congr 1;(first|lia|omega)) fun p' m q' hp' m1 m2 hd' hq' hE=>?_
 have hz:=hp'.size
 by_cases cq:q' > 0
 ·rw [if_pos cq]
  refine zjY hc (zfT hp' _ _) (by (first|lia|omega)) m2 hN (fun i j hij hj=>?_) q
  rw [zcu (by (first|lia|omega)) hE,zcu (by (first|lia|omega)) hE]
  exact hd' i j hij hj
 ·rw [if_neg cq]
  exact zjY hc hp' (by (first|lia|omega)) m2 hN hd' q
theorem zmI (hc:Asks cmp R N s) (hp:Rg N p) {G:Nat×Array Nat→Shared→Prop} {nrem:Nat} (h1:1≤nrem) (hN:nrem≤N) (q:∀ m p',1≤m→m≤nrem→Rg N p'→So R p' m→G (m,p') s):(kas_count nrem p).kasWp cmp G s:=by
 unfold kas_count
 rw [KasT.kasWp_bind]
 have hz:=hp.size
 refine zmB hc hp (e:=nrem) (nrem - 1) 1 (by (first|lia|omega)) (by (first|lia|omega)) hN (fun i j hij hj=>by have:i=j:=(by (first|lia|omega));subst this;exact Int.le_refl _) fun n n1 n2 hs ho=>?_
 by_cases e1:n=nrem
 ·rw [if_pos (by simpa using e1)]
  exact q n p n1 n2 hp hs
 ·rw [if_neg (by simpa using e1)]
  have lt:=ho.resolve_left e1
  by_cases e2:n > 1
  ·rw [if_pos e2]
   show cmp (p.getD 0 0) (p.getD (n - 1) 0) _ s
   refine hc.kr hp (by (first|lia|omega)) (by (first|lia|omega)) ?_
   by_cases c:kr R p 0<kr R p (n - 1)
   ·rw [decide_eq_true c];refine zdw ?_
    exact q n p n1 n2 hp hs
   ·rw [decide_eq_false c];refine zeu ?_
    have he:∀ k,0≤k→k<n→kr R p k=kr R p (n - 1):=fun k _ hk=>by
     have a1:=hs 0 k (by (first|lia|omega)) hk
     have a2:=hs k (n - 1) (by (first|lia|omega)) (by (first|lia|omega))
     (first|lia|omega)
    refine zeZ hc (zfT hp 0 n) (by (first|lia|omega)) hN (fun i j hij hj=>?_) q
    rw [zcu (by (first|lia|omega)) he,zcu (by (first|lia|omega)) he]
    by_cases hj':j<n
    ·rw [he i (by (first|lia|omega)) (by (first|lia|omega)),he j (by (first|lia|omega)) hj'];exact Int.le_refl _
    ·have:j=n:=by (first|lia|omega)
     subst this
     by_cases hi:i=j
     ·subst hi;exact Int.le_refl _
     ·rw [he i (by (first|lia|omega)) (by (first|lia|omega))];(first|lia|omega)
  ·rw [if_neg e2]
   have en:n=1:=by (first|lia|omega)
   subst en
   refine zeZ hc hp (by (first|lia|omega)) hN (fun i j hij hj=>?_) q
   by_cases hi:i=j
   ·subst hi;exact Int.le_refl _
   ·have:i=0∧j=1:=by (first|lia|omega)
    obtain ⟨rfl,rfl⟩:=this
    exact Int.le_of_lt lt
theorem zg3 (hc:Asks cmp R N s) (hp:Rg N p) {G:Nat→Shared→Prop} {k:Nat} (hk:k<N) (hs:So R p k) (g:∀ l,l≤k→(∀ i,i<l→kr R p i≤kr R p k)→(∀ i,l≤i→i<k→kr R p k<kr R p i)→G l s) :
  ∀ (f l r:Nat),l≤r→r≤k→r - l≤f→(∀ i,i<l→kr R p i≤kr R p k)→(∀ i,r≤i→i<k→kr R p k<kr R p i)→(kas_place p k f l r).kasWp cmp G s
 | 0,l,r,h1,h2,h3,h4,h5=>by
  have:l=r:=by (first|lia|omega)
  subst this
  exact g l h2 h4 h5
 | f+1,l,r,h1,h2,h3,h4,h5=>by
  unfold kas_place
  by_cases c:l≥r
  ·rw [if_pos c]
   have:l=r:=by (first|lia|omega)
   subst this
   exact g l h2 h4 h5
  ·rw [if_neg c]
   show cmp (p.getD k 0) (p.getD ((l+r) / 2) 0) _ s
   refine hc.kr hp (by (first|lia|omega)) (by (first|lia|omega)) ?_
   by_cases c2:kr R p k<kr R p ((l+r) / 2)
   ·rw [decide_eq_true c2];refine zdw ?_
    refine zg3 hc hp hk hs g f l ((l+r) / 2) (by (first|lia|omega)) (by (first|lia|omega)) (by (first|lia|omega)) h4 fun i i1 i2=>?_
    have:=hs ((l+r) / 2) i i1 i2
    (first|lia|omega)
   ·rw [decide_eq_false c2];refine zeu ?_
    refine zg3 hc hp hk hs g f ((l+r) / 2+1) r (by (first|lia|omega)) (by (first|lia|omega)) (by (first|lia|omega)) (fun i i1=>?_) h5
    have:=hs i ((l+r) / 2) (by (first|lia|omega)) (by (first|lia|omega))
    (first|lia|omega)
theorem znK (hc:Asks cmp R N s) {G:Array Nat→Shared→Prop} (g:∀ p',Rg N p'→So R p' N→G p' s):∀ (f:Nat) (p:Array Nat) (k:Nat),Rg N p→k+f=N→So R p k→(kas_bin f p k).kasWp cmp G s
 | 0,p,k,hp,hk,hs=>g p hp (by rw [← hk];exact hs)
 | f+1,p,k,hp,hk,hs=>by
  unfold kas_bin
  rw [KasT.kasWp_bind]
  have hz:=hp.size
  refine zg3 hc hp (by (first|lia|omega)) hs (fun l l1 l2 l3=>?_) k 0 k (by (first|lia|omega)) (by (first|lia|omega)) (by (first|lia|omega)) (fun i hi=>by (first|lia|omega)) (fun i i1 i2=>by (first|lia|omega))
  refine znK hc g f _ (k+1) (znM hp _ _) (by (first|lia|omega)) fun i j hij hj=>?_
  rw [zls (by (first|lia|omega)) (by (first|lia|omega)),zls (by (first|lia|omega)) (by (first|lia|omega))]
  rw [show k - (k - l)=l by (first|lia|omega)]
  have t1:=fun i j=>hs i j
  by_cases ci:i=l
  ·rw [if_pos ci]
   by_cases cj:j=l
   ·rw [if_pos cj];exact Int.le_refl _
   ·rw [if_neg cj,if_pos (by (first|lia|omega))]
    exact Int.le_of_lt (l3 _ (by (first|lia|omega)) (by (first|lia|omega)))
  ·rw [if_neg ci]
   by_cases cj:j=l
   ·rw [if_pos cj,if_neg (by (first|lia|omega))]
    exact l2 i (by (first|lia|omega))
   ·rw [if_neg cj]
    by_cases di:l<i∧i≤k
    ·rw [if_pos di,if_pos (by (first|lia|omega))]
     exact hs _ _ (by (first|lia|omega)) (by (first|lia|omega))
    ·rw [if_neg di]
     by_cases dj:l<j∧j≤k
     ·rw [if_pos dj]
      exact hs _ _ (by (first|lia|omega)) (by (first|lia|omega))
     ·rw [if_neg dj]
      exact hs _ _ hij (by (first|lia|omega))
theorem znn (hc:Asks cmp R N s) (h2:2≤N) {G:Array Nat→Shared→Prop} (g:∀ p',Rg N p'→So R p' N→G p' s):(kas_sort N).kasWp cmp G s:=by
 unfold kas_sort
 rw [KasT.kasWp_bind]
 have r0:Rg N (List.toArray (List.range N)):=Array.Perm.refl _
 refine zmI hc r0 (by (first|lia|omega)) (Nat.le_refl _) fun m p' m1 m2 hp hs=>?_
 show (if m<N then _ else _:KasT (Array Nat)).kasWp cmp G s
 by_cases c:m<N
 ·rw [if_pos c]
  rw [show max m 1=m by (first|lia|omega)]
  exact znK hc g (N - m) p' m hp (by (first|lia|omega)) hs
 ·rw [if_neg c]
  have:m=N:=by (first|lia|omega)
  subst this
  exact g p' hp hs
end
section
variable {prog:Program} {w:World} {A:Around} {E:Value→Shared→Prop} {s:Shared}
end
end L2.Srt
namespace L2
open PySem PySem.Spec PyProof.Rows
section
variable {X:Cx} {e ve:Expr} {t:TA} {pos p kp:Pos}
end
end L2
namespace L2
open PySem
theorem zlZ {v:V} {σ:List (Option V)} {H:Hp} {Q:VK}:zac 0 (some v::σ) H Q=Q v H:=by simp [zac]
theorem zmz {x0:Option V} {v:V} {σ:List (Option V)} {H:Hp} {Q:VK}:zac 1 (x0::some v::σ) H Q=Q v H:=by simp [zac]
theorem zmd {x0 x1:Option V} {v:V} {σ:List (Option V)} {H:Hp} {Q:VK}:zac 2 (x0::x1::some v::σ) H Q=Q v H:=by simp [zac]
theorem zl2 {x0 x1 x2:Option V} {v:V} {σ:List (Option V)} {H:Hp} {Q:VK}:zac 3 (x0::x1::x2::some v::σ) H Q=Q v H:=by simp [zac]
theorem zl7 {x0 x1 x2 x3:Option V} {v:V} {σ:List (Option V)} {H:Hp} {Q:VK}:zac 4 (x0::x1::x2::x3::some v::σ) H Q=Q v H:=by simp [zac]
theorem zl3 {x0 x1 x2 x3 x4:Option V} {v:V} {σ:List (Option V)} {H:Hp} {Q:VK}:zac 5 (x0::x1::x2::x3::x4::some v::σ) H Q=Q v H:=by simp [zac]
theorem zl4 {x0 x1 x2 x3 x4 x5:Option V} {v:V} {σ:List (Option V)} {H:Hp} {Q:VK}:zac 6 (x0::x1::x2::x3::x4::x5::some v::σ) H Q=Q v H:=by simp [zac]
theorem zlJ {x0 x1 x2 x3 x4 x5 x6:Option V} {v:V} {σ:List (Option V)} {H:Hp} {Q:VK}:zac 7 (x0::x1::x2::x3::x4::x5::x6::some v::σ) H Q=Q v H:=by simp [zac]
theorem zmM {x0 x1 x2 x3 x4 x5 x6 x7:Option V} {v:V} {σ:List (Option V)} {H:Hp} {Q:VK}:zac 8 (x0::x1::x2::x3::x4::x5::x6::x7::some v::σ) H Q=Q v H:=by simp [zac]
theorem zmD {x0 x1 x2 x3 x4 x5 x6 x7 x8:Option V} {v:V} {σ:List (Option V)} {H:Hp} {Q:VK}:zac 9 (x0::x1::x2::x3::x4::x5::x6::x7::x8::some v::σ) H Q=Q v H:=by simp [zac]
theorem zk9 {x0 x1 x2 x3 x4 x5 x6 x7 x8 x9:Option V} {v:V} {σ:List (Option V)} {H:Hp} {Q:VK}:zac 10 (x0::x1::x2::x3::x4::x5::x6::x7::x8::x9::some v::σ) H Q=Q v H:=by simp [zac]
theorem zkv {x0 x1 x2 x3 x4 x5 x6 x7 x8 x9 x10:Option V} {v:V} {σ:List (Option V)} {H:Hp} {Q:VK}:zac 11 (x0::x1::x2::x3::x4::x5::x6::x7::x8::x9::x10::some v::σ) H Q=Q v H:=by simp [zac]
theorem zkz {x0 x1 x2 x3 x4 x5 x6 x7 x8 x9 x10 x11:Option V} {v:V} {σ:List (Option V)} {H:Hp} {Q:VK}:zac 12 (x0::x1::x2::x3::x4::x5::x6::x7::x8::x9::x10::x11::some v::σ) H Q=Q v H:=by simp [zac]
theorem zk7 {x0 x1 x2 x3 x4 x5 x6 x7 x8 x9 x10 x11 x12:Option V} {v:V} {σ:List (Option V)} {H:Hp} {Q:VK}:zac 13 (x0::x1::x2::x3::x4::x5::x6::x7::x8::x9::x10::x11::x12::some v::σ) H Q=Q v H:=by simp [zac]
theorem zkb {x0 x1 x2 x3 x4 x5 x6 x7 x8 x9 x10 x11 x12 x13:Option V} {v:V} {σ:List (Option V)} {H:Hp} {Q:VK}:zac 14 (x0::x1::x2::x3::x4::x5::x6::x7::x8::x9::x10::x11::x12::x13::some v::σ) H Q=Q v H:=by simp [zac]
theorem zkp {x0:Option V} {v:V} {σ:List (Option V)} {H:Hp} {Q:St→Hp→Prop}:zag 0 v (x0::σ) H Q=Q (some v::σ) H:=rfl
theorem zj6 {x0 x1:Option V} {v:V} {σ:List (Option V)} {H:Hp} {Q:St→Hp→Prop}:zag 1 v (x0::x1::σ) H Q=Q (x0::some v::σ) H:=rfl
theorem zj8 {x0 x1 x2:Option V} {v:V} {σ:List (Option V)} {H:Hp} {Q:St→Hp→Prop}:zag 2 v (x0::x1::x2::σ) H Q=Q (x0::x1::some v::σ) H:=rfl
theorem zko {x0 x1 x2 x3:Option V} {v:V} {σ:List (Option V)} {H:Hp} {Q:St→Hp→Prop}:zag 3 v (x0::x1::x2::x3::σ) H Q=Q (x0::x1::x2::some v::σ) H:=rfl
theorem zkt {x0 x1 x2 x3 x4:Option V} {v:V} {σ:List (Option V)} {H:Hp} {Q:St→Hp→Prop}:zag 4 v (x0::x1::x2::x3::x4::σ) H Q=Q (x0::x1::x2::x3::some v::σ) H:=rfl
theorem zlb {x0 x1 x2 x3 x4 x5:Option V} {v:V} {σ:List (Option V)} {H:Hp} {Q:St→Hp→Prop}:zag 5 v (x0::x1::x2::x3::x4::x5::σ) H Q=Q (x0::x1::x2::x3::x4::some v::σ) H:=rfl
theorem zk4 {x0 x1 x2 x3 x4 x5 x6:Option V} {v:V} {σ:List (Option V)} {H:Hp} {Q:St→Hp→Prop}:zag 6 v (x0::x1::x2::x3::x4::x5::x6::σ) H Q=Q (x0::x1::x2::x3::x4::x5::some v::σ) H:=rfl
theorem zk8 {x0 x1 x2 x3 x4 x5 x6 x7:Option V} {v:V} {σ:List (Option V)} {H:Hp} {Q:St→Hp→Prop}:zag 7 v (x0::x1::x2::x3::x4::x5::x6::x7::σ) H Q=Q (x0::x1::x2::x3::x4::x5::x6::some v::σ) H:=rfl
theorem zkS {x0 x1 x2 x3 x4 x5 x6 x7 x8:Option V} {v:V} {σ:List (Option V)} {H:Hp} {Q:St→Hp→Prop}:zag 8 v (x0::x1::x2::x3::x4::x5::x6::x7::x8::σ) H Q=Q (x0::x1::x2::x3::x4::x5::x6::x7::some v::σ) H:=rfl
theorem zkJ {x0 x1 x2 x3 x4 x5 x6 x7 x8 x9:Option V} {v:V} {σ:List (Option V)} {H:Hp} {Q:St→Hp→Prop}:zag 9 v (x0::x1::x2::x3::x4::x5::x6::x7::x8::x9::σ) H Q=Q (x0::x1::x2::x3::x4::x5::x6::x7::x8::some v::σ) H:=rfl
theorem zjL {x0 x1 x2 x3 x4 x5 x6 x7 x8 x9 x10:Option V} {v:V} {σ:List (Option V)} {H:Hp} {Q:St→Hp→Prop}:zag 10 v (x0::x1::x2::x3::x4::x5::x6::x7::x8::x9::x10::σ) H Q=Q (x0::x1::x2::x3::x4::x5::x6::x7::x8::x9::some v::σ) H:=rfl
theorem zjJ {x0 x1 x2 x3 x4 x5 x6 x7 x8 x9 x10 x11:Option V} {v:V} {σ:List (Option V)} {H:Hp} {Q:St→Hp→Prop}:zag 11 v (x0::x1::x2::x3::x4::x5::x6::x7::x8::x9::x10::x11::σ) H Q=Q (x0::x1::x2::x3::x4::x5::x6::x7::x8::x9::x10::some v::σ) H:=rfl
theorem zin {x0 x1 x2 x3 x4 x5 x6 x7 x8 x9 x10 x11 x12:Option V} {v:V} {σ:List (Option V)} {H:Hp} {Q:St→Hp→Prop}:zag 12 v (x0::x1::x2::x3::x4::x5::x6::x7::x8::x9::x10::x11::x12::σ) H Q=Q (x0::x1::x2::x3::x4::x5::x6::x7::x8::x9::x10::x11::some v::σ) H:=rfl
theorem ziV {x0 x1 x2 x3 x4 x5 x6 x7 x8 x9 x10 x11 x12 x13:Option V} {v:V} {σ:List (Option V)} {H:Hp} {Q:St→Hp→Prop}:zag 13 v (x0::x1::x2::x3::x4::x5::x6::x7::x8::x9::x10::x11::x12::x13::σ) H Q=Q (x0::x1::x2::x3::x4::x5::x6::x7::x8::x9::x10::x11::x12::some v::σ) H:=rfl
theorem zjf {x0 x1 x2 x3 x4 x5 x6 x7 x8 x9 x10 x11 x12 x13 x14:Option V} {v:V} {σ:List (Option V)} {H:Hp} {Q:St→Hp→Prop}:zag 14 v (x0::x1::x2::x3::x4::x5::x6::x7::x8::x9::x10::x11::x12::x13::x14::σ) H Q=Q (x0::x1::x2::x3::x4::x5::x6::x7::x8::x9::x10::x11::x12::x13::some v::σ) H:=rfl
theorem rI_c {C:Int→Int→Prop} {g:Int→Int→V} {a b:Int} {H:Hp} {Q:VK}:rI C g (.int a) (.int b) H Q=(C a b∧Q (g a b) H):=by simp [rI]
theorem rI0_c {g:Int→Int→V} {a b:Int} {H:Hp} {Q:VK}:rI0 g (.int a) (.int b) H Q=Q (g a b) H:=by simp [rI0]
theorem znA {K:PySem.W.Frag} {p:Addr} {i:Int} {H:Hp} {Q:VK}:zcs K (.ref p) (.int i) H Q=∃ xs,SqL K H p xs∧∃ v,atI xs i=some v∧Q v H:=by simp [zcs]
theorem znE {K:PySem.W.Frag} {p:Addr} {i:Int} {H:Hp} {Q:VK}:ze1 K (.ref p) (.int i) H Q=∃ xs,SqT K H p xs∧∃ v,atI xs i=some v∧Q v H:=by simp [ze1]
theorem ex_bl {c:Bool} {Q:Bool→Prop}:(∃ k,V.bl c=V.bl k∧Q k)=Q c:=by simp
theorem zno {c:Int} {Q:Int→Prop}:(∃ k,V.int c=V.int k∧Q k)=Q c:=by simp
theorem znC {c:Addr} {Q:Addr→Prop}:(∃ k,V.ref c=V.ref k∧Q k)=Q c:=by simp
theorem znB {c:Int} {Q:Int→Prop}:(∃ k,[V.int c]=[V.int k]∧Q k)=Q c:=by simp
theorem znw {c:Addr} {Q:Addr→Prop}:(∃ k,[V.ref c]=[V.ref k]∧Q k)=Q c:=by simp
end L2
namespace L2.St
open PySem
def it (m:Nat):Nat→Nat→Nat
 | 0,x=>x
 | n+1,x=>it m n ((x*5+1) % m)
def orb (m:Nat):Nat→Nat→List Nat
 | 0,_=>[]
 | n+1,x=>x::orb m n ((x*5+1) % m)
theorem zhs (m:Nat):∀ a b x,it m (a+b) x=it m b (it m a x)
 | 0,b,x=>by rw [Nat.zero_add];rfl
 | a+1,b,x=>by rw [Nat.succ_add];exact zhs m a b _
theorem zg1 {m j:Nat}:∀ {n x},j∈orb m n x→∃ k,k<n∧it m k x=j
 | 0,x,h=>by simp [orb] at h
 | n+1,x,h=>by
  rcases List.mem_cons.mp h with rfl | h
  ·exact ⟨0,Nat.succ_pos _,rfl⟩
  ·obtain ⟨k,h1,h2⟩:=zg1 h
   exact ⟨k+1,by (first|lia|omega),h2⟩
def Msk (M:Nat):Prop:=M=7∨M=31∨M=127∨M=511
theorem zmA {M:Nat} (h:Msk M):(∀ j,j<M+1→j∈orb (M+1) (M+1) 0)∧it (M+1) (M+1) 0=0:=by
 have key:∀ m,((List.range m).all fun j=>(orb m m 0).contains j)=true→∀ j,j<m→j∈orb m m 0:=fun m e j hj=>by
  have:=List.all_eq_true.mp e j (List.mem_range.mpr hj)
  simpa using this
 rcases h with rfl | rfl | rfl | rfl
 ·exact ⟨key 8 (by decide +kernel),by decide +kernel⟩
 ·exact ⟨key 32 (by decide +kernel),by decide +kernel⟩
 ·exact ⟨key 128 (by decide +kernel),by decide +kernel⟩
 ·exact ⟨key 512 (by decide +kernel),by decide +kernel⟩
theorem znt {M:Nat} (h:Msk M) {x j:Nat} (hx:x<M+1) (hj:j<M+1):∃ n,n<M+1∧it (M+1) n x=j:=by
 obtain ⟨h1,h2⟩:=zmA h
 obtain ⟨a,a1,rfl⟩:=zg1 (h1 x hx)
 obtain ⟨b,b1,rfl⟩:=zg1 (h1 j hj)
 by_cases c:a≤b
 ·exact ⟨b - a,by (first|lia|omega),by rw [← zhs,Nat.add_sub_cancel' c]⟩
 ·refine ⟨M+1 - a+b,by (first|lia|omega),?_⟩
  rw [← zhs,show a+(M+1 - a+b)=(M+1)+b by (first|lia|omega),zhs,h2]
def lp (M:Nat):Nat→Nat×Nat→Nat×Nat
 | 0,s=>s
 | n+1,s=>lp M n (SetTable.leap M s.1 s.2)
theorem zlx (M:Nat):∀ a b s,lp M (a+b) s=lp M b (lp M a s)
 | 0,b,s=>by rw [Nat.zero_add];rfl
 | a+1,b,s=>by rw [Nat.succ_add];exact zlx M a b _
theorem zlp (M:Nat):∀ n s,(lp M n s).2=s.2 / 32 ^ n
 | 0,s=>by simp [lp]
 | n+1,s=>by
  show (lp M n _).2=_
  rw [zlp M n,SetTable.leap,Nat.div_div_eq_div_mul,Nat.pow_succ,Nat.mul_comm]
theorem znG (M:Nat):∀ n s,s.1<M+1→(lp M n s).1<M+1
 | 0,s,h=>h
 | n+1,s,h=>znG M n _ (Nat.mod_lt _ (Nat.succ_pos _))
theorem zjv (M:Nat):∀ n x,(lp M n (x,0)).1=it (M+1) n x
 | 0,x=>rfl
 | n+1,x=>by
  show (lp M n ((x*5+1+0 / 32) % (M+1),0 / 32)).1=it (M+1) n ((x*5+1) % (M+1))
  rw [Nat.zero_div,Nat.add_zero,zjv M n]
theorem zlv {M:Nat} (h:Msk M) {x p j:Nat} (hx:x<M+1) (hp:p<2 ^ 64) (hj:j<M+1):∃ n,n≤M+13∧(lp M n (x,p)).1=j:=by
 have e:lp M 13 (x,p)=((lp M 13 (x,p)).1,0):=by
  refine Prod.ext rfl ?_
  rw [zlp]
  exact Nat.div_eq_of_lt (Nat.lt_trans hp (by decide))
 obtain ⟨n,n1,n2⟩:=znt h (znG M 13 (x,p) hx) hj
 refine ⟨13+n,by (first|lia|omega),?_⟩
 rw [zlx,e,zjv]
 exact n2
theorem zjx (h:Int):SetTable.bits h<2 ^ 64:=by
 unfold SetTable.bits
 have:=Int.emod_lt_of_pos h (show (0:Int)<2 ^ 64 by decide)
 have:=Int.emod_nonneg h (show (2 ^ 64:Int)≠0 by decide)
 (first|lia|omega)
def zfy (t:SetTable) (s:Nat×Nat):SetTable.Probe:={ j:=s.1,more:=SetTable.runEnd t.mask s.1 - s.1,i:=s.1,perturb:=s.2,dummy:=none }
def adv (t:SetTable):Nat→SetTable.Probe→SetTable.Probe
 | 0,p=>p
 | n+1,p=>adv t n (t.advance p)
theorem zjV (t:SetTable):∀ a b p,adv t (a+b) p=adv t b (adv t a p)
 | 0,b,p=>by rw [Nat.zero_add];rfl
 | a+1,b,p=>by rw [Nat.succ_add];exact zjV t a b _
theorem zjb (t:SetTable):∀ k j i q,adv t (k+1) { j:=j,more:=k,i:=i,perturb:=q,dummy:=none }=zfy t (SetTable.leap t.mask i q)
 | 0,j,i,q=>by simp [adv,SetTable.advance,zfy]
 | k+1,j,i,q=>by
  show adv t (k+1) (t.advance _)=_
  rw [show t.advance { j:=j,more:=k+1,i:=i,perturb:=q,dummy:=none }={ j:=j+1,more:=k,i:=i,perturb:=q,dummy:=none } by simp [SetTable.advance]]
  exact zjb t k (j+1) i q
def Reach (t:SetTable) (n:Nat) (p:SetTable.Probe):Prop:=∃ r,r≤n∧t.slot (adv t r p).j=.empty
theorem zhJ {t:SetTable}:∀ {n s},t.slot (lp t.mask n s).1=.empty→Reach t (10*n) (zfy t s)
 | 0,s,h=>⟨0,Nat.le_refl _,h⟩
 | n+1,s,h=>by
  obtain ⟨r,r1,r2⟩:=zhJ (n:=n) (s:=SetTable.leap t.mask s.1 s.2) h
  have hm:SetTable.runEnd t.mask s.1 - s.1≤9:=by unfold SetTable.runEnd;split <;> (first|lia|omega)
  refine ⟨SetTable.runEnd t.mask s.1 - s.1+1+r,by (first|lia|omega),?_⟩
  rw [zjV,zfy,zjb]
  exact r2
theorem zlq:∀ (m:Nat) (l:List Nat),(∀ j,j<m→j∈l)→m≤l.length
 | 0,l,h=>Nat.zero_le _
 | m+1,l,h=>by
  have hm:=h m (Nat.lt_succ_self m)
  have:=zlq m (l.erase m) fun j hj=>(List.mem_erase_of_ne (by (first|lia|omega))).mpr (h j (by (first|lia|omega)))
  rw [List.length_erase_of_mem hm] at this
  have:0<l.length:=List.length_pos_of_mem hm
  (first|lia|omega)
theorem slot_cases {t:SetTable} (hd:t.dummies=#[]) (j:Nat):t.slot j=.empty∨∃ i,t.slot j=.live i∧t.place[i]?=some j:=by
 unfold SetTable.slot
 rw [hd]
 by_cases c:(t.place[SetTable.below t.place j]? == some j)=true
 ·exact .inr ⟨_,by rw [if_pos c],by simpa using c⟩
 ·left
  rw [if_neg c]
  simp [SetTable.has]
theorem zhM {t:SetTable} (hd:t.dummies=#[]) (hl:t.place.size<t.mask+1):∃ j,j<t.mask+1∧t.slot j=.empty:=by
 refine Classical.byContradiction fun hn=>?_
 have:=zlq (t.mask+1) t.place.toList fun j hj=>by
  rcases slot_cases hd j with h | ⟨i,_,h⟩
  ·exact absurd ⟨j,hj,h⟩ hn
  ·rw [← Array.getElem?_toList] at h
   exact List.mem_of_getElem? h
 rw [Array.length_toList] at this
 (first|lia|omega)
theorem reach_start {t:SetTable} (hM:Msk t.mask) (hd:t.dummies=#[]) (hl:t.place.size<t.mask+1) (h:Int):Reach t (10*(t.mask+13)) (t.probeStart h):=by
 obtain ⟨j,j1,j2⟩:=zhM hd hl
 obtain ⟨n,n1,n2⟩:=zlv hM (x:=SetTable.bits h % (t.mask+1)) (Nat.mod_lt _ (Nat.succ_pos _)) (zjx h) j1
 obtain ⟨r,r1,r2⟩:=zhJ (t:=t) (n:=n) (s:=(SetTable.bits h % (t.mask+1),SetTable.bits h)) (by rw [n2];exact j2)
 exact ⟨r,by (first|lia|omega),r2⟩
theorem adv_dummy (t:SetTable) (p:SetTable.Probe):(t.advance p).dummy=p.dummy:=by
 unfold SetTable.advance
 split
 ·rfl
 ·rfl
theorem zgl {M:Nat} {ow:Array (Option Nat)}:∀ (fuel i p n:Nat),n<fuel→ow.getD (lp M n (i,p)).1 (some 0)=none→∃ j,SetTable.layClean.free M ow fuel i p=some j∧ow.getD j (some 0)=none
 | 0,i,p,n,h,_=>by (first|lia|omega)
 | fuel+1,i,p,n,h,e=>by
  rw [SetTable.layClean.free]
  cases c:(List.range (SetTable.runEnd M i+1 - i)).find? fun k=>(ow.getD (i+k) (some 0)).isNone with
  | some k =>
   have:=List.find?_some c
   exact ⟨i+k,rfl,by simpa using this⟩
  | none =>
   match n,h,e with
   | 0,_,e =>
    have:=List.find?_eq_none.mp c 0 (List.mem_range.mpr (by unfold SetTable.runEnd;split <;> (first|lia|omega)))
    rw [Nat.add_zero,show ow.getD i (some 0)=none from e] at this
    simp at this
   | n+1,h,e=>exact zgl fuel _ _ n (by (first|lia|omega)) e
def Own (M:Nat) (ow:Array (Option Nat)) (k:Nat):Prop:=ow.size=M+1∧ow.toList.countP Option.isSome=k∧∀ v,some v∈ow.toList→v<k
theorem getD_lt {ow:Array (Option Nat)} {j:Nat} (h:ow.getD j (some 0)=none):∃ hj:j<ow.size,ow[j]=none:=by
 by_cases c:j<ow.size
 ·exact ⟨c,by simpa [Array.getD,c] using h⟩
 ·simp [Array.getD,c] at h
theorem zkD {M:Nat} (hM:Msk M) {ow:Array (Option Nat)} {k:Nat} (o:Own M ow k) (hk:k<M+1) (h:Int):∃ j,SetTable.layClean.free M ow (SetTable.turns M) (SetTable.bits h % (M+1)) (SetTable.bits h)=some j∧Own M (ow.setIfInBounds j (some k)) (k+1):=by
 obtain ⟨o1,o2,o3⟩:=o
 have ex:∃ j,j<M+1∧ow.getD j (some 0)=none:=by
  refine Classical.byContradiction fun hn=>?_
  have:ow.toList.countP Option.isSome=ow.toList.length:=by
   rw [List.countP_eq_length]
   intro v hv
   cases v with
   | some v=>rfl
   | none =>
    obtain ⟨j,hj,e⟩:=List.mem_iff_getElem.mp hv
    rw [Array.length_toList] at hj
    exact absurd ⟨j,by (first|lia|omega),by simpa [Array.getD,hj] using e⟩ hn
  rw [Array.length_toList] at this
  (first|lia|omega)
 obtain ⟨j,j1,j2⟩:=ex
 obtain ⟨n,n1,n2⟩:=zlv hM (x:=SetTable.bits h % (M+1)) (Nat.mod_lt _ (Nat.succ_pos _)) (zjx h) j1
 obtain ⟨j',f1,f2⟩:=zgl (M:=M) (ow:=ow) (SetTable.turns M) _ _ n (by unfold SetTable.turns;(first|lia|omega)) (by rw [n2];exact j2)
 obtain ⟨hj,ej⟩:=getD_lt f2
 refine ⟨j',f1,by simpa using o1,?_,?_⟩
 ·rw [Array.toList_setIfInBounds,List.countP_set (by simpa using hj)]
  rw [show ow.toList[j']=none from by simpa using ej,o2]
  simp
 ·intro v hv
  rw [Array.toList_setIfInBounds] at hv
  rcases List.mem_or_eq_of_mem_set hv with hv | hv
  ·exact Nat.lt_succ_of_lt (o3 v hv)
  ·cases hv;exact Nat.lt_succ_self _
theorem fold_ok {M:Nat} (hM:Msk M):∀ (hs:List Int) (ow:Array (Option Nat)) (k:Nat),Own M ow k→k+hs.length<M+1 →
  ∃ ow',(hs.foldl (fun (acc:Option (Array (Option Nat)×Nat)) h=>do
   let (owner,k) ← acc
   let j ← SetTable.layClean.free M owner (SetTable.turns M) (SetTable.bits h % (M+1)) (SetTable.bits h)
   pure (owner.setIfInBounds j (some k),k+1)) (some (ow,k)))=some (ow',k+hs.length)∧Own M ow' (k+hs.length)
 | [],ow,k,o,_=>⟨ow,rfl,o⟩
 | h::hs,ow,k,o,hl=>by
  rw [List.length_cons] at hl
  obtain ⟨j,e1,e2⟩:=zkD hM o (by (first|lia|omega)) h
  obtain ⟨ow',a,b⟩:=fold_ok hM hs _ _ e2 (by (first|lia|omega))
  refine ⟨ow',?_,by rw [List.length_cons,show k+(hs.length+1)=k+1+hs.length by (first|lia|omega)];exact b⟩
  rw [List.foldl_cons,List.length_cons,show k+(hs.length+1)=k+1+hs.length by (first|lia|omega),← a]
  simp [e1]
theorem relaid_ok {t:SetTable} {hs:Array Int} {wanted:Nat} (hM:Msk (SetTable.sizeAbove wanted - 1)) (hl:hs.size<SetTable.sizeAbove wanted - 1+1) :
  ∃ t' ord,t.relaid hs wanted=some (t',ord)∧t'.mask=SetTable.sizeAbove wanted - 1∧t'.dummies=#[]∧t'.place.size=hs.size∧t'.led=t.led∧ord.size=hs.size∧∀ v∈ord.toList,v<hs.size:=by
 obtain ⟨ow,a,o1,o2,o3⟩:=fold_ok hM hs.toList (Array.replicate (SetTable.sizeAbove wanted - 1+1) none) 0 ⟨by simp,by simp [List.countP_replicate],by simp⟩ (by simpa using hl)
 rw [Nat.zero_add,Array.length_toList] at o2 o3
 unfold SetTable.relaid SetTable.laid SetTable.layClean
 rw [← Array.foldl_toList,a]
 have len:((List.range (SetTable.sizeAbove wanted - 1+1)).filterMap fun j=>(ow.getD j none).map (j,·)).length=hs.size:=by
  rw [List.length_filterMap_eq_countP,← o2,← o1]
  have:ow.toList=(List.range ow.size).map fun j=>ow.getD j none:=by
   apply List.ext_getElem
   ·simp
   ·intro i h1 h2
    simp at h1
    simp [Array.getD,h1]
  rw [this,List.countP_map]
  congr 1
  funext j
  simp
 refine ⟨_,_,rfl,rfl,rfl,by simpa using len,rfl,by simpa using len,fun v hv=>?_⟩
 rw [List.toList_toArray,List.mem_map] at hv
 obtain ⟨⟨j,v'⟩,hm,rfl⟩:=hv
 obtain ⟨j',_,e⟩:=List.mem_filterMap.mp hm
 refine o3 v' ?_
 cases c:ow.getD j' none with
 | none=>rw [c] at e;simp at e
 | some u =>
  rw [c] at e
  simp at e
  have:j'<ow.size:=by
   refine Classical.byContradiction fun hn=>?_
   simp [Array.getD,hn] at c
  rw [← e.2,← c]
  simp [Array.getD,this]
end L2.St
namespace L2.St
open PySem
section
variable {P:Program} {w:World} {A:Around} {E:Value→Shared→Prop} {s:Shared}
end
end L2.St
namespace L2.St
open PySem
theorem ins_size {α:Type} (xs:Array α) (p:Nat) (x:α):(SetTable.insertAt xs p x).size=xs.size+1:=by
 unfold SetTable.insertAt
 simp only [Array.size_append,Array.size_push,Array.size_extract]
 (first|lia|omega)
theorem put_ok {t:SetTable} {j:Nat} (hd:t.dummies=#[]):(t.put j).1.dummies=#[]∧(t.put j).1.place.size=t.place.size+1∧(t.put j).1.mask=t.mask:=by
 unfold SetTable.put
 refine ⟨?_,ins_size _ _ _,rfl⟩
 dsimp only
 rw [hd]
 simp [SetTable.has]
section
variable {P:Program} {w:World} {A:Around} {E:Value→Shared→Prop} {s:Shared}
theorem grow {M n:Nat} (hM:Msk M) (h1:n*5<M*3) (h2:(n+1)*5≥M*3) (hz:n<300):Msk (SetTable.sizeAbove (SetTable.grown (n+1)) - 1)∧(n+1)*5<(SetTable.sizeAbove (SetTable.grown (n+1)) - 1)*3∧¬ SetTable.sizeAbove (SetTable.grown (n+1)) > sizeLine:=by
 rcases hM with rfl | rfl | rfl | rfl
 ·obtain rfl:n=4:=by (first|lia|omega)
  exact ⟨.inr (.inl rfl),by decide,by decide⟩
 ·obtain rfl:n=18:=by (first|lia|omega)
  exact ⟨.inr (.inr (.inl rfl)),by decide,by decide⟩
 ·obtain rfl:n=76:=by (first|lia|omega)
  exact ⟨.inr (.inr (.inr rfl)),by decide,by decide⟩
 ·(first|lia|omega)
theorem lay_self {h:Heap} {S:Addr} {es es':Array (Int×Value)} {ep:Nat} {t t':SetTable} (T:h.get? S=some { cls:=.type "set",dict:=none,data:=.set es ep t,slots:=#[] }) :
  (h.update S (Obj.putSet es' t')).get? S=some { cls:=.type "set",dict:=none,data:=.set es' (ep+1) t',slots:=#[] }:=by
 have:=Heap.get?_update_self (Obj.putSet es' t') T (by rw [putSet_of es' t' rfl];rfl)
 rw [putSet_of es' t' rfl] at this;exact this
end
end L2.St
namespace L2.St
open PySem PySem.Spec
def kk (key:Nat→List Int) (ad:Nat→Addr):Nat→List (List Int×Addr)
 | 0=>[]
 | i+1=>(key i,ad i)::kk key ad i
section
variable {P:Program} {w:World} {A:Around} {E:Value→Shared→Prop} {s:Shared}
end
end L2.St
namespace L2
open PySem PySem.Spec PyProof.Rows
section
variable {X:Cx} {pins:List (Addr×Obj)} {s:Shared} {σ:St} {H:Hp}
variable {e:Expr} {t:TA} {p1 p2 pos1 pos2:Pos}
end
end L2
namespace L2.Sw
open PySem PySem.Spec PyProof.Rows
theorem zdO:Slot "set_iterator" "__next__" "set_iterator.__next__":=by
 refine .of (owner:="set_iterator") (n:="__next__") (by rw [typeLookup_type,builtinLookup_eq_fast];kernel_rfl) ?_ ?_ ?_ ?_ (by rw [isSubtype_type];kernel_rfl)
 ·decide +kernel
 ·decide +kernel
 ·decide +kernel
 ·first | exact .inl (by decide +kernel) | exact .inr (by decide +kernel)
theorem ziS:Slot "set_iterator" "__iter__" "set_iterator.__iter__":=by
 refine .of (owner:="set_iterator") (n:="__iter__") (by rw [typeLookup_type,builtinLookup_eq_fast];kernel_rfl) ?_ ?_ ?_ ?_ (by rw [isSubtype_type];kernel_rfl)
 ·decide +kernel
 ·decide +kernel
 ·decide +kernel
 ·first | exact .inl (by decide +kernel) | exact .inr (by decide +kernel)
theorem zjw:entryFor table "set_iterator.__next__"=some Builtin.«set_iterator.__next__»:=entryFor_of_tree (by kernel_rfl)
theorem znD:Manifest.owners.lookup (String.ofList "rotareti_tes".toList.reverse)=some Manifest.sig_set_iterator:=by kernel_rfl
theorem zjW (v:Value):argsOk "set_iterator.__next__" ⟨[v],[]⟩:=by
 unfold argsOk
 rw [signature?_of (id:="set_iterator.__next__") (n:="__txen__".toList) (o:="rotareti_tes".toList) (by kernel_rfl) znD]
 kernel_rfl
theorem zma:entryFor table "set.__iter__"=some Builtin.«frozenset.__iter__»:=entryFor_alias (id':="frozenset.__iter__") (by kernel_rfl) rfl (by decide +kernel) (by kernel_rfl)
theorem zkK:entryFor table "set_iterator.__iter__"=some Builtin.«dict_keyiterator.__iter__»:=entryFor_alias (id':="dict_keyiterator.__iter__") (by kernel_rfl) rfl (by decide +kernel) (by kernel_rfl)
theorem zkd (v:Value):argsOk "set_iterator.__iter__" ⟨[v],[]⟩:=by
 unfold argsOk
 rw [signature?_of (id:="set_iterator.__iter__") (n:="__reti__".toList) (o:="rotareti_tes".toList) (by kernel_rfl) znD]
 kernel_rfl
def SI (h:Heap) (it S:Addr) (slot i n ep:Nat):Prop:=∃ o,h.get? it=some o∧o.cls=.type "set_iterator"∧o.data=.fields #[rawInt slot,rawInt i,.ref S,rawInt n,rawInt ep]
def SO (h:Heap) (S:Addr) (es:Array (Int×Value)) (ep:Nat) (t:SetTable):Prop:=h.get? S=some { cls:=.type "set",dict:=none,data:=.set es ep t,slots:=#[] }
section
variable {P:Program} {w:World} {A:Around} {E:Value→Shared→Prop} {s:Shared} {it S:Addr} {es:Array (Int×Value)} {ep:Nat} {t:SetTable} {slot i:Nat}
theorem SI.ty (x:SI s.heap it S slot i es.size ep):s.TypeIs (.ref it) "set_iterator":=let ⟨o,ho,hc,_⟩:=x;⟨o,ho,hc⟩
theorem SO.ty (x:SO s.heap S es ep t):s.TypeIs (.ref S) "set":=⟨_,x,rfl⟩
theorem zcQ {Q:(Array (Int×Value)×Nat×SetTable)→Shared→Prop} (x:SO s.heap S es ep t) (f:t.fits es.size=true) (q:Q (es,ep,t) s):wpAny (model P w) A (setState S) Q E s :=
 wpAny_setState_of x rfl f q
theorem zir {v:Value} {B:Nat→Prop} {Q:Option Value→Shared→Prop} (hi:SI s.heap it S slot i es.size ep) (x:SO s.heap S es ep t) (f:t.fits es.size=true)
  (nx:∀ (A':Around) (E':Value→Shared→Prop) (Q':Option (Value×Nat)→Shared→Prop),(∀ slot',B slot'→Q' (some (v,slot')) s)→wpAny (model P w) A' (setNext S slot i ep) Q' E' s)
  (q:∀ slot' h',B slot'→SI h' it S slot' (i+1) es.size ep→Heap.SameBut it s.heap h'→Q (some v) { s with heap:=h' }) :
  wpAny (model P w) A (pyNext (.ref it)) Q E s:=by
 obtain ⟨o,ho,hc,hd⟩:=id hi
 unfold pyNext
 refine wpAny_bind (wpAny_attempt (wpAny_callSpecial?_slot (name:=Str.ofString "__next__") hi.ty zdO (wpAny_call_entry zdO hi.ty zjw ?_ (zjW _))))
 unfold Builtin.«set_iterator.__next__»;refine wpAny_bind (wpAny_of_eq (a:=(Value.ref it,[])) rfl ?_);refine wpAny_bind (wpAny_fieldsOf ho hd ?_)
 show wpAny _ _ (setEntries S >>= _) _ _ s
 refine wpAny_bind (wpAny_setEntries_of x rfl f ?_)
 dsimp only
 rw [if_neg (by simp)]
 refine wpAny_bind (nx _ _ _ fun slot' hB=>?_)
 show wpAny _ _ (setField (.ref it) 0 (rawInt slot') >>= _) _ _ s;refine wpAny_bind (wpAny_setField ho hd (by simp) ?_)
 have g1:=Heap.get?_update_self (Obj.mapFields (·.setIfInBounds 0 (rawInt slot'))) ho (Obj.isFreed_of_fields (Obj.data_mapFields hd _))
 have d1:=Obj.data_mapFields hd (·.setIfInBounds 0 (rawInt slot'))
 refine wpAny_bind (wpAny_setField g1 d1 (by simp) ?_)
 refine wpAny_pure ⟨v,rfl,wpAny_pure (q slot' _ hB ⟨_,Heap.get?_update_self _ g1 (Obj.isFreed_of_fields (Obj.data_mapFields d1 _)),?_,?_⟩ ?_)⟩
 ·rw [Obj.cls_mapFields,Obj.cls_mapFields]
  exact hc
 ·rw [Obj.data_mapFields d1]
  simp [rawInt]
 ·exact (Heap.SameBut.update ..).trans (Heap.SameBut.update ..)
theorem zlg {Q:Option Value→Shared→Prop} (hh:A.handled=none) (hi:SI s.heap it S slot i es.size ep) (x:SO s.heap S es ep t) (f:t.fits es.size=true)
  (nx:∀ (A':Around) (E':Value→Shared→Prop) (Q':Option (Value×Nat)→Shared→Prop),Q' none s→wpAny (model P w) A' (setNext S slot i ep) Q' E' s)
  (q:∀ h',Heap.ExtBut it s.heap h'→Q none { s with heap:=h' }) :
  wpAny (model P w) A (pyNext (.ref it)) Q E s:=by
 obtain ⟨o,ho,hc,hd⟩:=id hi
 unfold pyNext
 refine wpAny_bind (wpAny_attempt (wpAny_callSpecial?_slot (name:=Str.ofString "__next__") hi.ty zdO (wpAny_call_entry zdO hi.ty zjw ?_ (zjW _))))
 unfold Builtin.«set_iterator.__next__»;refine wpAny_bind (wpAny_of_eq (a:=(Value.ref it,[])) rfl ?_);refine wpAny_bind (wpAny_fieldsOf ho hd ?_)
 show wpAny _ _ (setEntries S >>= _) _ _ s
 refine wpAny_bind (wpAny_setEntries_of x rfl f ?_)
 dsimp only
 rw [if_neg (by simp)]
 refine wpAny_bind (nx _ _ _ ?_);show wpAny _ _ (setField (.ref it) 2 .none >>= _) _ _ s;refine wpAny_bind (wpAny_setField ho hd (by simp) ?_)
 refine wpAny_bind ?_
 simp only [newExc,newTuple]
 refine wpAny_bind (wpAny_newObj_type ?_ (by size_fits));refine wpAny_bind (m:=firstArgMember _ _) (wpAny_of_eq (a:=Value.none) (by first | rfl | (simp only [firstArgMember];rfl)) ?_);refine wpAny_newObj_type ?_ (by size_fits)
 simp only [raiseNew];refine wpAny_bind (wpAny_handled ?_);first | rw [show A.in1.handled=none from hh] | rw [hh]
 refine wpAny_bind (wpAny_pure (wpAny_throw ?_));refine wpAny_bind (wpAny_isInstance (T:="StopIteration") (b:=true) ⟨_,Heap.get?_push_size _ rfl,rfl⟩ isSubtype_stop ?_)
 exact wpAny_pure (q _ (((Heap.SameBut.update ..).extBut.push _).push _))
theorem ziU {Q:Value→Shared→Prop} (hi:SI s.heap it S slot i es.size ep) (q:Q (.ref it) s):wpAny (model P w) A (pyIter (.ref it)) Q E s:=by
 refine wpAny_pyIter_slot hi.ty ziS (wpAny_call_entry ziS hi.ty zkK ?_ (zkd _))
 show wpAny _ _ (ret (.ref it)) _ _ s;exact wpAny_pure ⟨_,rfl,"set_iterator",_,hi.ty,zdO.lookup,q⟩
theorem zj5 {Q:Value→Shared→Prop} (x:SO s.heap S es ep t) (f:t.fits es.size=true) (dr:∀ (A':Around) (E':Value→Shared→Prop) (Q':Bool→Shared→Prop),Q' false s→wpAny (model P w) A' (setDrawn S) Q' E' s)
  (q:Q (.ref s.heap.objs.size) { s with heap:=s.heap.push { cls:=.type "set_iterator",data:=.fields #[rawInt 0,rawInt 0,.ref S,rawInt es.size,rawInt ep] } }) :
  wpAny (model P w) A (pyIter (.ref S)) Q E s:=by
 refine wpAny_pyIter_slot x.ty PySem.F.slot_set_iter (wpAny_call_entry PySem.F.slot_set_iter x.ty zma ?_ (PySem.F.args_set_iter_1 _))
 unfold Builtin.«frozenset.__iter__»
 refine wpAny_bind (wpAny_of_eq (a:=S) rfl ?_)
 refine wpAny_bind (m:=Builtin.Frozenset.sizeOf S) ?_
 unfold Builtin.Frozenset.sizeOf
 refine wpAny_bind (wpAny_setEntries_of x rfl f (wpAny_pure ?_))
 refine wpAny_bind (dr _ _ _ ?_);simp only [Bool.false_eq_true,if_false];refine wpAny_bind (wpAny_pure ?_)
 refine wpAny_bind (wpAny_setEpoch_of x rfl f ?_)
 refine wpAny_bind (wpAny_newObj_type (wpAny_pure ⟨_,rfl,"set_iterator",_,⟨_,Heap.get?_push_size _ rfl,rfl⟩,zdO.lookup,q⟩))
theorem hint {Q:Bool→Shared→Prop} (x:SO s.heap S es ep t) (q:Q false s):wpAny (model P w) A (Builtin.List.listLengthHint (.ref S)) Q E s:=by
 unfold Builtin.List.listLengthHint;refine wpAny_bind (wpAny_specialOf x.ty PySem.F.slot_set_len.lookup ?_)
 generalize e:("set.__len__":String)=nm
 wp_delta
 rw [show splitId nm=some ("set","__len__") from by subst e;decide +kernel];subst e
 refine wpAny_bind (wpAny_isInstance (T:="set") (b:=true) x.ty (by rw [isSubtype_type];kernel_rfl) ?_)
 refine wpAny_ite_split (fun z=>absurd z (by decide)) fun _=>wpAny_ite_split (fun _=>wpAny_bind (wpAny_typeOf x.ty (wpAny_pure q))) fun z=>absurd (by decide +kernel) z
theorem zcO {Q:Bool→Shared→Prop} (q:Q (w.params.followText "set-order") s):wpAny (model P w) A setsByText Q E s:=by
 unfold setsByText
 exact wpAny_bind (wpAny_askSetting (wpAny_pure q))
theorem zgK {xs:Array Nat} {j:Nat} (h:xs.toList.Pairwise (·<·)):∀ (fuel lo hi:Nat),hi - lo≤fuel→lo≤hi→hi≤xs.size→(∀ (k v:Nat),xs[k]?=some v→k<lo→v<j)→(∀ (k v:Nat),xs[k]?=some v→hi≤k→j≤v) →
  SetTable.below.go xs j fuel lo hi≤xs.size∧(∀ (k v:Nat),xs[k]?=some v→k<SetTable.below.go xs j fuel lo hi→v<j)∧∀ (k v:Nat),xs[k]?=some v→SetTable.below.go xs j fuel lo hi≤k→j≤v
 | 0,lo,hi,h1,h2,h3,h4,h5=>by
  have:lo=hi:=by (first|lia|omega)
  subst this
  exact ⟨h3,h4,h5⟩
 | fuel+1,lo,hi,h1,h2,h3,h4,h5=>by
  have mono:∀ {k m v u:Nat},xs[k]?=some v→xs[m]?=some u→k<m→v<u:=fun {k m v u} e1 e2 l=>by
   rw [← Array.getElem?_toList] at e1 e2
   obtain ⟨l1,rfl⟩:=List.getElem?_eq_some_iff.mp e1
   obtain ⟨l2,rfl⟩:=List.getElem?_eq_some_iff.mp e2
   exact List.pairwise_iff_getElem.mp h _ _ l1 l2 l
  unfold SetTable.below.go
  by_cases c:lo<hi
  ·rw [if_pos c]
   dsimp only
   have hm:(lo+hi) / 2<hi:=by (first|lia|omega)
   have hl:lo≤(lo+hi) / 2:=by (first|lia|omega)
   generalize (lo+hi) / 2=mid at hm hl ⊢
   have em:xs[mid]?=some xs[mid]:=Array.getElem?_eq_getElem (by (first|lia|omega))
   have eg:xs.getD mid j=xs[mid]:=by
    rw [Array.getD_eq_getD_getElem?,em]
    rfl
   rw [eg]
   by_cases d:xs[mid]<j
   ·rw [if_pos d]
    refine zgK h fuel (mid+1) hi (by (first|lia|omega)) (by (first|lia|omega)) h3 (fun k v e l=>?_) h5
    rcases Nat.lt_or_ge k mid with l' | l'
    ·exact Nat.lt_trans (mono e em l') d
    ·obtain rfl:k=mid:=by (first|lia|omega)
     rw [em] at e
     cases e
     exact d
   ·rw [if_neg d]
    refine zgK h fuel lo mid (by (first|lia|omega)) hl (by (first|lia|omega)) h4 fun k v e l=>?_
    rcases Nat.lt_or_ge mid k with l' | l'
    ·exact Nat.le_of_lt (Nat.lt_of_le_of_lt (Nat.le_of_not_lt d) (mono em e l'))
    ·obtain rfl:k=mid:=by (first|lia|omega)
     rw [em] at e
     cases e
     exact Nat.le_of_not_lt d
  ·rw [if_neg c]
   have:lo=hi:=by (first|lia|omega)
   subst this
   exact ⟨h3,h4,h5⟩
theorem zcU {xs:Array Nat} (j:Nat) (h:xs.toList.Pairwise (·<·)):SetTable.below xs j≤xs.size∧(∀ (k v:Nat),xs[k]?=some v→k<SetTable.below xs j→v<j)∧∀ (k v:Nat),xs[k]?=some v→SetTable.below xs j≤k→j≤v :=
 zgK h xs.size 0 xs.size (Nat.le_refl _) (Nat.zero_le _) (Nat.le_refl _) (fun _ _ _ z=>absurd z (Nat.not_lt_zero _)) fun k v e z=>absurd (Array.getElem?_eq_some_iff.mp e).1 (by (first|lia|omega))
theorem zhV {xs:Array Nat} {i j:Nat} (h:xs.toList.Pairwise (·<·)) (e:xs[i]?=some j):SetTable.below xs (j+1)=i+1:=by
 obtain ⟨h1,h2,h3⟩:=zcU (j+1) h
 have a1:¬ SetTable.below xs (j+1)≤i:=fun z=>absurd (h3 i j e z) (by (first|lia|omega))
 have a2:¬ i+1<SetTable.below xs (j+1):=fun z=>by
  have l:i+1<xs.size:=by (first|lia|omega)
  have e2:xs[i+1]?=some xs[i+1]:=Array.getElem?_eq_getElem l
  have u1:=h2 _ _ e2 z
  rw [← Array.getElem?_toList] at e e2
  obtain ⟨l1,z1⟩:=List.getElem?_eq_some_iff.mp e
  obtain ⟨l2,z2⟩:=List.getElem?_eq_some_iff.mp e2
  have u2:=List.pairwise_iff_getElem.mp h _ _ l1 l2 (Nat.lt_succ_self i)
  (first|lia|omega)
 (first|lia|omega)
theorem zhR {xs:Array Nat} (h:xs.toList.Pairwise (·<·)):SetTable.below xs 0=0:=by
 obtain ⟨h1,h2,_⟩:=zcU 0 h
 rcases Nat.eq_zero_or_pos (SetTable.below xs 0) with z | z
 ·exact z
 ·exact absurd (h2 0 _ (Array.getElem?_eq_getElem (by (first|lia|omega))) z) (Nat.not_lt_zero _)
theorem zkI {xs:Array Nat} {j:Nat} (h:xs.toList.Pairwise (·<·)) (n:j∉xs.toList):(SetTable.insertAt xs (SetTable.below xs j) j).toList.Pairwise (·<·):=by
 obtain ⟨h1,h2,h3⟩:=zcU j h
 generalize SetTable.below xs j=p at h1 h2 h3 ⊢
 have e:(SetTable.insertAt xs p j).toList=xs.toList.take p++([j]++xs.toList.drop p):=by
  unfold SetTable.insertAt
  simp only [Array.toList_append,Array.toList_push,Array.toList_extract,List.extract_eq_drop_take,List.drop_zero,Nat.sub_zero,List.append_assoc]
  rw [List.take_of_length_le (l:=xs.toList.drop p) (by rw [List.length_drop,Array.length_toList];(first|lia|omega))]
 rw [e]
 have m1:∀ v∈xs.toList.take p,v<j:=fun v hv=>by
  obtain ⟨k,ek⟩:=List.getElem?_of_mem hv
  rw [List.getElem?_take] at ek
  split at ek
  ·exact h2 k v (by rw [← Array.getElem?_toList];exact ek) (by assumption)
  ·cases ek
 have m2:∀ v∈xs.toList.drop p,j<v:=fun v hv=>by
  obtain ⟨k,ek⟩:=List.getElem?_of_mem hv
  rw [List.getElem?_drop] at ek
  have:=h3 (p+k) v (by rw [← Array.getElem?_toList];exact ek) (by (first|lia|omega))
  have ne:v≠j:=fun z=>n (z ▸ List.mem_of_mem_drop hv)
  (first|lia|omega)
 refine List.pairwise_append.mpr ⟨h.sublist (List.take_sublist _ _),List.pairwise_append.mpr ⟨List.pairwise_singleton _ _,h.sublist (List.drop_sublist _ _),fun a ha b hb=>?_⟩,fun a ha b hb=>?_⟩
 ·rw [List.mem_singleton.mp ha]
  exact m2 b hb
 ·rcases List.mem_append.mp hb with hb | hb
  ·rw [List.mem_singleton.mp hb]
   exact m1 a ha
  ·exact Nat.lt_trans (m1 a ha) (m2 b hb)
def Led (w:World) (t:SetTable):Prop:=w.params.followText "set-order"=true∨(t.led=true∧t.plain=true∧t.place.toList.Pairwise (·<·))
theorem zkL {Q:Bool→Shared→Prop} (x:SO s.heap S es ep t) (f:t.fits es.size=true) (l:Led w t) (q:Q false s):wpAny (model P w) A (setDrawn S) Q E s:=by
 unfold setDrawn
 refine wpAny_bind (zcQ x f ?_)
 refine wpAny_bind (zcO (wpAny_pure ?_))
 have e:(!w.params.followText "set-order"&&(!t.plain&&decide (es.size > 1)))=false:=by
  rcases l with l | ⟨_,l,_⟩ <;> rw [l]
  ·rfl
  ·rw [Bool.not_true,Bool.false_and,Bool.and_false]
 exact (congrArg (fun b=>Q b s) e).mpr q
def ord (w:World) (S:Addr) (es:Array (Int×Value)) (ep:Nat):Array (Int×Value):=if w.params.followText "set-order"=true then pickOrder (w.params.setOrder S ep) es else es
theorem zmi {Q:Option (Value×Nat)→Shared→Prop} {v:Value} (x:SO s.heap S es ep t) (f:t.fits es.size=true) (l:Led w t) (hs:w.params.followText "set-order"=true∨SetTable.below t.place slot=i) (hv:((ord w S es ep)[i]?).map (·.2)=some v)
  (q:∀ slot',(w.params.followText "set-order"=true∨SetTable.below t.place slot'=i+1)→Q (some (v,slot')) s):wpAny (model P w) A (setNext S slot i ep) Q E s:=by
 unfold setNext
 refine wpAny_bind (zcQ x f ?_)
 refine wpAny_bind (zcO ?_)
 by_cases tx:w.params.followText "set-order"=true
 ·rw [if_pos tx]
  dsimp only
  rw [if_neg (by simp)]
  refine wpAny_bind (m:=setWalk S) ?_
  unfold setWalk
  refine wpAny_bind (zcQ x f (wpAny_bind (zcO ?_)))
  rw [if_pos tx]
  refine wpAny_bind (wpAny_askSetting (wpAny_pure (wpAny_pure ?_)))
  unfold ord at hv
  rw [if_pos tx] at hv
  obtain ⟨e,e1,e2⟩:=Option.map_eq_some_iff.mp hv
  show Q (Option.map (fun e=>(e.snd,slot)) (pickOrder (w.params.setOrder S ep) es)[i]?) s
  rw [e1]
  subst e2
  exact q slot (.inl tx)
 ·obtain ⟨l1,l2,l3⟩:=l.resolve_left tx
  have hb:=hs.resolve_left tx
  rw [if_neg tx]
  dsimp only
  unfold ord at hv
  rw [if_neg tx] at hv
  obtain ⟨e,e1,e2⟩:=Option.map_eq_some_iff.mp hv
  have hp:t.place.size=es.size:=by
   unfold SetTable.fits at f
   rw [Bool.and_eq_true,beq_iff_eq] at f
   exact f.1
  have hi:=(Array.getElem?_eq_some_iff.mp e1).1
  have e3:t.place[i]?=some t.place[i]:=Array.getElem?_eq_getElem (by (first|lia|omega))
  show wpAny _ _ (if (!t.plain&&decide (es.size > 1))=true then _ else _) _ _ s
  rw [if_neg (by rw [l2];simp)]
  show wpAny _ _ ((if (!t.led&&!es.isEmpty)=true then unsupported "set:maker-not-led" else pure ()) >>= _) _ _ s
  rw [if_neg (by rw [l1];simp)];refine wpAny_bind (wpAny_pure (wpAny_pure ?_))
  show Q (match es[SetTable.below t.place slot]?,t.place[SetTable.below t.place slot]? with
      | some (_,y),some k=>some (y,k+1)
      | _,_=>none) s
  rw [hb,e1,e3]
  subst e2
  exact q _ (.inr (zhV l3 e3))
theorem zjo {Q:Option (Value×Nat)→Shared→Prop} (x:SO s.heap S es ep t) (f:t.fits es.size=true) (l:Led w t) (hs:w.params.followText "set-order"=true∨SetTable.below t.place slot=i) (hv:(ord w S es ep)[i]?=none)
  (q:Q none s):wpAny (model P w) A (setNext S slot i ep) Q E s:=by
 unfold setNext
 refine wpAny_bind (zcQ x f ?_)
 refine wpAny_bind (zcO ?_)
 by_cases tx:w.params.followText "set-order"=true
 ·rw [if_pos tx]
  dsimp only
  rw [if_neg (by simp)]
  refine wpAny_bind (m:=setWalk S) ?_
  unfold setWalk
  refine wpAny_bind (zcQ x f (wpAny_bind (zcO ?_)))
  rw [if_pos tx]
  refine wpAny_bind (wpAny_askSetting (wpAny_pure (wpAny_pure ?_)))
  unfold ord at hv
  rw [if_pos tx] at hv
  show Q (Option.map (fun e=>(e.snd,slot)) (pickOrder (w.params.setOrder S ep) es)[i]?) s
  rw [hv]
  exact q
 ·obtain ⟨l1,l2,l3⟩:=l.resolve_left tx
  have hb:=hs.resolve_left tx
  rw [if_neg tx]
  dsimp only
  unfold ord at hv
  rw [if_neg tx] at hv
  show wpAny _ _ (if (!t.plain&&decide (es.size > 1))=true then _ else _) _ _ s
  rw [if_neg (by rw [l2];simp)]
  show wpAny _ _ ((if (!t.led&&!es.isEmpty)=true then unsupported "set:maker-not-led" else pure ()) >>= _) _ _ s
  rw [if_neg (by rw [l1];simp)];refine wpAny_bind (wpAny_pure (wpAny_pure ?_))
  show Q (match es[SetTable.below t.place slot]?,t.place[SetTable.below t.place slot]? with
      | some (_,y),some k=>some (y,k+1)
      | _,_=>none) s
  rw [hb,hv]
  exact q
theorem zgs {α:Type} {next:Nat→Nat}:∀ (fuel k:Nat) (left:List α) (out:Array α),left.length=fuel→(pickOrder.go next fuel k left out).toList.Perm (out.toList++left)
 | 0,k,left,out,e=>by
  rw [List.eq_nil_of_length_eq_zero e,List.append_nil]
  exact .refl _
 | fuel+1,k,left,out,e=>by
  have l:next k % left.length<left.length:=Nat.mod_lt _ (by (first|lia|omega))
  unfold pickOrder.go
  generalize next k % left.length=i at l ⊢
  rw [List.getElem?_eq_getElem l]
  refine (zgs fuel (k+1) (left.eraseIdx i) (out.push left[i]) (by rw [List.length_eraseIdx_of_lt l];(first|lia|omega))).trans ?_
  rw [Array.toList_push,List.append_assoc];refine List.Perm.append_left _ ?_
  rw [List.eraseIdx_eq_take_drop_succ]
  have e2:left=left.take i++left[i]::left.drop (i+1):=by rw [List.getElem_cons_drop,List.take_append_drop]
  exact (List.perm_middle (a:=left[i]) (l₁:=left.take i) (l₂:=left.drop (i+1))).symm.trans (.of_eq e2.symm)
theorem ord_perm:(ord w S es ep).toList.Perm es.toList:=by
 unfold ord
 split
 ·exact zgs _ _ _ _ (Array.length_toList ..)
 ·exact .refl _
theorem src (f:t.fits es.size=true) (l:Led w t):PySem.W.KdlSrc P w "set" S S es.size (fun i v=>((ord w S es ep)[i]?).map (·.2)=some v) (fun h=>SO h S es ep t) where
 type:=fun s x=>x.ty
 there:=fun h x=>⟨Heap.lt_size x,Heap.lt_size x⟩
 keep:=fun h h' x k=>k S (.inl rfl) _ x
 notList:=by decide
 notTuple:=by decide
 hint:=fun A E s Q x q=>hint x q
 iter:=fun A s hh x=>by
  have hne:S≠s.heap.objs.size:=Nat.ne_of_lt (Heap.lt_size x)
  have osz:(ord w S es ep).size=es.size:=by rw [← Array.length_toList,ord_perm.length_eq,Array.length_toList]
  refine ⟨_,fun i h=>(∃ slot,SI h s.heap.objs.size S slot i es.size ep∧(w.params.followText "set-order"=true∨SetTable.below t.place slot=i))∧SO h S es ep t,fun E Q q=>zj5 x f (fun A' E' Q' q'=>zkL x f l q') q,?_,⟨0,⟨_,Heap.get?_push_size _ rfl,rfl,rfl⟩,?_⟩,Heap.get?_push_of_some _ x⟩
  ·exact {
    sub:=fun b' hb'=>by rw [List.mem_singleton] at hb';rw [hb'];exact List.mem_cons_self
    frame:=fun i h h' st hk=>⟨let ⟨slot,⟨o,ho,r⟩,b⟩:=st.1;⟨slot,⟨o,hk _ (by simp) o ho,r⟩,b⟩,hk S (by simp) _ st.2⟩
    item:=fun i s' Q E hi st hQ=>by
     obtain ⟨⟨slot,si,b⟩,so⟩:=st
     have e1:(ord w S es ep)[i]?=some (ord w S es ep)[i]:=Array.getElem?_eq_getElem (by (first|lia|omega))
     refine zir si so f (fun A' E' Q' q'=>zmi (v:=(ord w S es ep)[i].2) so f l b (by rw [e1];rfl) q') fun slot' h' hB si' sm=>?_
     refine hQ _ h' s'.toks (by rw [e1];rfl) ⟨⟨slot',si',hB⟩,?_⟩ fun b' o hb e=>sm.extBut b' o (fun z=>hb (by simp [z])) e
     exact sm.extBut S _ hne so
    done:=fun s' Q E st hQ=>by
     obtain ⟨⟨slot,si,b⟩,so⟩:=st
     exact zlg hh si so f (fun A' E' Q' q'=>zjo so f l b (Array.getElem?_eq_none (by (first|lia|omega))) q') fun h' ex=>hQ h' s'.toks fun b' o hb e=>ex b' o (fun z=>hb (by simp [z])) e
    self:=fun i s' Q E st hQ=>by
     obtain ⟨⟨slot,si,b⟩,so⟩:=st
     exact ziU si hQ }
  ·rcases l with l | ⟨_,_,l⟩
   ·exact .inl l
   ·exact .inr (zhR l)
def vI:Value→Int
 | .int k _=>k
 | _=>0
structure SJ (P:Program) (w:World) (h:Heap) (S:Addr) (es:Array (Int×Value)) (ep:Nat) (t:SetTable) (ds:List Int):Prop where
 ob:SO h S es ep t
 pl:t.place.size=es.size
 dm:t.dummies=#[]
 ms:St.Msk t.mask
 lo:es.size*5<t.mask*3
 pn:t.plain=true
 ld:w.params.followText "set-order"=true∨t.led=true
 rs:t.place.toList.Pairwise (·<·)
 el:∀ e∈es.toList,∃ k tk,e=((intKind P w).hash k,Value.int k tk)
 ks:(es.toList.map fun e=>vI e.2).Perm ds
theorem SJ.fits {h:Heap} {ds:List Int} (T:SJ P w h S es ep t ds):t.fits es.size=true:=by
 have:=T.lo
 simp only [SetTable.fits,SetTable.fill,T.pl,T.dm,Bool.and_eq_true,beq_self_eq_true,decide_eq_true_eq,true_and]
 show es.size+0≤t.mask
 (first|lia|omega)
theorem SJ.led {h:Heap} {ds:List Int} (T:SJ P w h S es ep t ds):Led w t:=T.ld.elim .inl fun l=>.inr ⟨l,T.pn,T.rs⟩
theorem SJ.elems {h:Heap} {ds:List Int} (T:SJ P w h S es ep t ds):ElemsOf (intKind P w) es.toList:=fun e he=>by
 obtain ⟨k,tk,rfl⟩:=T.el e he
 exact ⟨⟨k,intKind_is _ _ _ _,rfl⟩,rfl⟩
theorem zi7 {j:Nat} (hd:t.dummies=#[]) (h:t.slot j=.empty) (l:t.place.toList.Pairwise (·<·)):j∉t.place.toList:=by
 intro hm
 obtain ⟨i,ei⟩:=List.getElem?_of_mem hm
 rw [Array.getElem?_toList] at ei
 obtain ⟨h1,h2,h3⟩:=zcU j l
 have a1:¬ i<SetTable.below t.place j:=fun z=>absurd (h2 i j ei z) (Nat.lt_irrefl _)
 have a2:¬ SetTable.below t.place j<i:=fun z=>by
  have hi:=(Array.getElem?_eq_some_iff.mp ei).1
  have e2:t.place[SetTable.below t.place j]?=some t.place[SetTable.below t.place j]:=Array.getElem?_eq_getElem (by (first|lia|omega))
  have u:=h3 _ _ e2 (Nat.le_refl _)
  rw [← Array.getElem?_toList] at ei e2
  obtain ⟨l1,z1⟩:=List.getElem?_eq_some_iff.mp ei
  obtain ⟨l2,z2⟩:=List.getElem?_eq_some_iff.mp e2
  have u2:=List.pairwise_iff_getElem.mp l _ _ l2 l1 z
  (first|lia|omega)
 have:SetTable.below t.place j=i:=by (first|lia|omega)
 unfold SetTable.slot at h
 rw [this] at h
 dsimp only at h
 rw [ei,if_pos (by simp)] at h
 cases h
theorem ziZ {x:Int} (hd:t.dummies=#[]):∀ (n fuel:Nat) (p:SetTable.Probe),St.Reach t n p→n<fuel→p.dummy=none→∃ j,SetTable.probe.go t (fun _=>x+1) x fuel p=some (.empty j none)∧t.slot j=.empty
 | n,0,p,_,hn,_=>by (first|lia|omega)
 | n,fuel+1,p,hr,hn,hp=>by
  rw [SetTable.probe.go]
  rcases St.slot_cases hd p.j with e | ⟨i,e,_⟩
  ·exact ⟨p.j,by rw [e];simp [hp],e⟩
  ·obtain ⟨r,r1,r2⟩:=hr
   match r,r1,r2 with
   | 0,r1,r2=>exact absurd (show t.slot p.j=.empty from r2) (by rw [e];simp)
   | r+1,r1,r2 =>
    obtain ⟨j,a,b⟩:=ziZ (x:=x) hd (n - 1) fuel (t.advance p) ⟨r,by (first|lia|omega),r2⟩ (by (first|lia|omega)) (by rw [St.adv_dummy,hp])
    have c:((x+1:Int) == x)=false:=by
     rw [Bool.eq_false_iff]
     intro z
     have:=eq_of_beq z
     (first|lia|omega)
    exact ⟨j,by rw [e];simpa [c] using a,b⟩
theorem zmH {h:Heap} {ds:List Int} (T:SJ P w h S es ep t ds) (x:Int) (v:Value):∃ (p:Nat) (t2:SetTable),layNew t es x v=(SetTable.insertAt es p (x,v),t2,false,false)∧t2.mask=t.mask∧t2.dummies=#[]∧t2.place.size=es.size+1∧t2.plain=true∧t2.led=t.led∧t2.place.toList.Pairwise (·<·):=by
 have lo:=T.lo
 have hl:t.place.size<t.mask+1:=by rw [T.pl];(first|lia|omega)
 have hr:=St.reach_start T.ms T.dm hl x
 have hf:∃ j,t.freeSlot x=some (j,false)∧t.slot j=.empty:=by
  unfold SetTable.freeSlot SetTable.probe
  obtain ⟨j,a,b⟩:=ziZ (x:=x) T.dm _ (10*SetTable.turns t.mask) _ hr (by unfold SetTable.turns;(first|lia|omega)) rfl
  exact ⟨j,by rw [a];rfl,b⟩
 obtain ⟨j,e1,e2⟩:=hf
 obtain ⟨a1,a2,a3⟩:=St.put_ok (t:=t) (j:=j) T.dm
 refine ⟨SetTable.below t.place j,(t.put j).1,?_,a3,a1,by rw [a2,T.pl],T.pn,rfl,zkI T.rs (zi7 T.dm e2 T.rs)⟩
 unfold layNew
 rw [e1]
 have fit:(t.put j).1.fits (SetTable.insertAt es (SetTable.below t.place j) (x,v)).size=true:=by
  simp only [SetTable.fits,SetTable.fill,a1,a2,a3,St.ins_size,T.pl,Bool.and_eq_true,beq_self_eq_true,decide_eq_true_eq,true_and]
  show es.size+1+0≤t.mask
  (first|lia|omega)
 show ((SetTable.insertAt es (SetTable.below t.place j) (x,v)),((t.put j).1.orStandIn (SetTable.insertAt es (SetTable.below t.place j) (x,v)).size),false,!((t.put j).1.fits (SetTable.insertAt es (SetTable.below t.place j) (x,v)).size))=_
 unfold SetTable.orStandIn
 rw [if_pos fit,fit]
 rfl
theorem zkU {α:Type} (xs:Array α) (p:Nat) (x:α):(SetTable.insertAt xs p x).toList.Perm (x::xs.toList):=by
 refine (SetTable.insertAt_perm xs p x).trans ?_
 rw [Array.toList_push]
 exact List.perm_append_comm
theorem zja:∀ (r l:List Nat),r.Nodup→(∀ v∈r,v∈l)→l.length=r.length→l.Perm r
 | [],l,_,_,e=>by rw [List.eq_nil_of_length_eq_zero e]
 | a::r,l,n,h,e=>by
  have ha:=h a List.mem_cons_self
  rw [List.nodup_cons] at n
  refine (List.perm_cons_erase ha).trans (List.Perm.cons _ (zja r (l.erase a) n.2 (fun v hv=>?_) ?_))
  ·exact (List.mem_erase_of_ne (fun (z:v=a)=>n.1 (z ▸ hv))).mpr (h v (List.mem_cons_of_mem _ hv))
  ·rw [List.length_erase_of_mem ha,e]
   rfl
theorem zf5 {M:Nat} {ow:Array (Option Nat)}:∀ (fuel i p j:Nat),SetTable.layClean.free M ow fuel i p=some j→ow.getD j (some 0)=none
 | 0,i,p,j,e=>by
  unfold SetTable.layClean.free at e
  cases e
 | fuel+1,i,p,j,e=>by
  unfold SetTable.layClean.free at e
  split at e
  ·rename_i k hk
   cases e
   have:=List.find?_some hk
   simpa using this
  ·exact zf5 fuel _ _ j e
theorem zhA {M:Nat}:∀ (hs:List Int) (ow ow':Array (Option Nat)) (k k':Nat),(∀ v,v<k→some v∈ow.toList) →
  (hs.foldl (fun (acc:Option (Array (Option Nat)×Nat)) h=>do
   let (owner,k) ← acc
   let j ← SetTable.layClean.free M owner (SetTable.turns M) (SetTable.bits h % (M+1)) (SetTable.bits h)
   pure (owner.setIfInBounds j (some k),k+1)) (some (ow,k)))=some (ow',k')→∀ v,v<k'→some v∈ow'.toList
 | [],ow,ow',k,k',h,e=>by
  cases e
  exact h
 | x::hs,ow,ow',k,k',h,e=>by
  rw [List.foldl_cons] at e
  cases c:SetTable.layClean.free M ow (SetTable.turns M) (SetTable.bits x % (M+1)) (SetTable.bits x) with
  | none =>
   simp only [c,Option.bind_eq_bind,Option.bind_some,Option.bind_none] at e
   exfalso
   have:∀ l:List Int,(l.foldl (fun (acc:Option (Array (Option Nat)×Nat)) h=>acc.bind fun q=>(SetTable.layClean.free M q.1 (SetTable.turns M) (SetTable.bits h % (M+1)) (SetTable.bits h)).bind fun j=>pure (q.1.setIfInBounds j (some q.2),q.2+1)) none)=none:=fun l=>by
    induction l with
    | nil=>rfl
    | cons y l ih=>rw [List.foldl_cons];exact ih
   have z:=(this hs).symm.trans e
   cases z
  | some j =>
   simp only [c,Option.bind_eq_bind,Option.bind_some] at e
   refine zhA hs _ ow' _ k' (fun v hv=>?_) e
   have nj:=zf5 _ _ _ _ c
   obtain ⟨lj,gj⟩:=St.getD_lt nj
   rw [Array.toList_setIfInBounds]
   rcases Nat.lt_or_ge v k with l | l
   ·obtain ⟨i,ei⟩:=List.getElem?_of_mem (h v l)
    have ne:j≠i:=fun z=>by
     subst z
     rw [Array.getElem?_toList,Array.getElem?_eq_getElem lj,gj] at ei
     cases ei
    exact List.mem_of_getElem? (by rw [List.getElem?_set_ne ne];exact ei)
   ·obtain rfl:v=k:=by (first|lia|omega)
    exact List.mem_of_getElem? (List.getElem?_set_self (by rw [Array.length_toList];exact lj))
theorem zkM {n:Nat} {t2:SetTable} {es2:Array (Int×Value)} (hM:St.Msk t2.mask) (hn:es2.size=n+1) (c1:n*5<t2.mask*3) (c2:(n+1)*5≥t2.mask*3) (hz:n<300) (pn:t2.plain=true) :
  ∃ (es3:Array (Int×Value)) (t3:SetTable),relayAll t2 es2 (SetTable.grown es2.size)=(es3,t3,false)∧es3.toList.Perm es2.toList∧St.Msk t3.mask∧(n+1)*5<t3.mask*3∧t3.dummies=#[]∧t3.place.size=n+1∧t3.plain=true∧t3.led=t2.led∧t3.place.toList.Pairwise (·<·):=by
 obtain ⟨g1,g2,g3⟩:=St.grow hM c1 c2 hz
 rw [← hn] at g1 g2
 obtain ⟨t3,od,r1,r2,r3,r4,r5,r6,r7⟩:=St.relaid_ok (t:=t2) (hs:=es2.map (·.1)) g1 (by rw [Array.size_map];(first|lia|omega))
 rw [Array.size_map] at r4 r6 r7
 have key:t3.plain=true∧t3.place.toList.Pairwise (·<·)∧∀ v,v<es2.size→v∈od.toList:=by
  have r:=r1
  obtain ⟨ow,a,o1,o2,o3⟩:=St.fold_ok g1 (es2.map (·.1)).toList (Array.replicate (SetTable.sizeAbove (SetTable.grown es2.size) - 1+1) none) 0 ⟨by simp,by simp [List.countP_replicate],by simp⟩ (by simp;(first|lia|omega))
  have al:=zhA _ _ _ _ _ (fun v hv=>absurd hv (Nat.not_lt_zero v)) a
  rw [Nat.zero_add,Array.length_toList,Array.size_map] at al
  unfold SetTable.relaid SetTable.laid SetTable.layClean at r
  rw [← Array.foldl_toList,a] at r
  simp only [Option.map_some,Option.bind_eq_bind,Option.bind_some] at r
  have r':=Option.some.inj r
  cases r'
  refine ⟨pn,?_,fun v hv=>?_⟩
  ·show (List.toArray _).toList.Pairwise (·<·)
   rw [List.toList_toArray,List.pairwise_map]
   refine List.Pairwise.filterMap _ (fun a a' l b hb b' hb'=>?_) List.pairwise_lt_range
   obtain ⟨u,_,rfl⟩:=Option.map_eq_some_iff.mp hb
   obtain ⟨u',_,rfl⟩:=Option.map_eq_some_iff.mp hb'
   exact l
  ·rw [List.toList_toArray,List.mem_map]
   obtain ⟨j,ej⟩:=List.getElem?_of_mem (al v hv)
   rw [Array.getElem?_toList] at ej
   have lj:=(Array.getElem?_eq_some_iff.mp ej).1
   refine ⟨(j,v),List.mem_filterMap.mpr ⟨j,List.mem_range.mpr (by (first|lia|omega)),?_⟩,rfl⟩
   rw [Array.getD_eq_getD_getElem?,ej]
   rfl
 obtain ⟨k1,k2,k3⟩:=key
 have pm:od.toList.Perm (List.range es2.size):=zja _ _ List.nodup_range (fun v hv=>k3 v (List.mem_range.mp hv)) (by rw [Array.length_toList,r6,List.length_range])
 have cv:coversAll od es2.size=true:=by
  unfold coversAll
  exact List.isPerm_iff.mpr pm
 have pe:(od.filterMap (es2[·]?)).toList.Perm es2.toList:=by
  rw [Array.toList_filterMap]
  refine (pm.filterMap _).trans (.of_eq (filterMap_getElem?_range es2))
 have sz:(od.filterMap (es2[·]?)).size=es2.size:=by rw [← Array.length_toList,pe.length_eq,Array.length_toList]
 have ft:t3.fits (od.filterMap (es2[·]?)).size=true:=by
  simp only [SetTable.fits,SetTable.fill,r3,r4,sz,Bool.and_eq_true,beq_self_eq_true,decide_eq_true_eq,true_and]
  show es2.size+0≤t3.mask
  rw [r2]
  (first|lia|omega)
 refine ⟨_,t3,?_,pe,by rw [r2];exact g1,by rw [r2,← hn];exact g2,r3,by rw [r4,hn],k1,r5,k2⟩
 unfold relayAll
 rw [r1]
 dsimp only
 rw [if_pos (by rw [cv,ft];rfl)]
theorem addJ {k:Int} {tk:Tok} {ds:List Int} {Q:Bool→Shared→Prop} (T:SJ P w s.heap S es ep t ds) (hz:es.size<300)
  (q:∀ h' b es' ep' t',SJ P w h' S es' ep' t' (if k∈ds then ds else k::ds)→Heap.SameBut S s.heap h'→Q b { s with heap:=h' }) :
  wpAny (model P w) A (setAddHashed S (.int k tk) ((intKind P w).hash k)) Q E s:=by
 have bd:es.size<scanBound:=Nat.lt_trans hz (by decide);unfold setAddHashed setAddHashedIn
 refine wpAny_holding (wpAny_bind (zcQ T.ob T.fits ?_))
 dsimp only
 rw [byScan_of (knd:=intKind P w) rfl bd T.elems,if_pos rfl]
 unfold setAddByScan
 refine wpAny_bind (wpAny_bind (wpAny_rule (wpAny_bind (wpAny_setScan_of (knd:=intKind P w) (intKind_is _ _ _ _) T.ob rfl T.fits T.elems ?_))))
 have mem:∀ e∈es.toList,(intKind P w).is k e.2=true↔vI e.2=k:=fun e he=>by
  obtain ⟨k',tk',rfl⟩:=T.el e he
  simp only [intKind,Value.isInt,vI]
  exact beq_iff_eq
 have inD:k∈ds↔∃ e∈es.toList,(intKind P w).is k e.2=true:=by
  rw [← T.ks.mem_iff,List.mem_map]
  exact ⟨fun ⟨e,h1,h2⟩=>⟨e,h1,(mem e h1).mpr h2⟩,fun ⟨e,h1,h2⟩=>⟨e,h1,(mem e h1).mp h2⟩⟩
 cases hr:List.findIdx? (fun e=>(intKind P w).is k e.2) es.toList with
 | some j =>
  obtain ⟨hj,hp,_⟩:=List.findIdx?_eq_some_iff_getElem.mp hr
  have hk:k∈ds:=inD.mpr ⟨_,List.getElem_mem hj,hp⟩
  rw [if_pos hk] at q
  exact wpAny_pure (wpAny_pure (q s.heap false es ep t T (Heap.SameBut.refl S s.heap)))
 | none =>
  have hk:k∉ds:=fun z=>by
   obtain ⟨e,h1,h2⟩:=inD.mp z
   rw [List.findIdx?_eq_none_iff.mp hr e h1] at h2
   cases h2
  rw [if_neg hk] at q
  obtain ⟨p,t2,e1,m2,d2,p2,pn2,l2,r2⟩:=zmH T ((intKind P w).hash k) (.int k tk)
  dsimp only
  rw [e1]
  dsimp only
  have sz:(SetTable.insertAt es p ((intKind P w).hash k,Value.int k tk)).size=es.size+1:=St.ins_size _ _ _
  have pm:=zkU es p ((intKind P w).hash k,Value.int k tk)
  generalize SetTable.insertAt es p ((intKind P w).hash k,Value.int k tk)=es2 at sz pm ⊢
  have zl:es.size+1≤sizeLine:=by rw [sizeLine_eq];(first|lia|omega)
  have fl:t2.fill=es.size+1:=by simp [SetTable.fill,d2,p2]
  have el2:∀ e∈es2.toList,∃ k tk,e=((intKind P w).hash k,Value.int k tk):=fun e he=>by
   rcases List.mem_cons.mp (pm.mem_iff.mp he) with rfl | he
   ·exact ⟨_,_,rfl⟩
   ·exact T.el e he
  have ks2:(es2.toList.map fun e=>vI e.2).Perm (k::ds):=(pm.map _).trans (List.Perm.cons _ T.ks)
  have ld2:w.params.followText "set-order"=true∨t2.led=true:=by rw [l2];exact T.ld
  show wpAny _ _ (pure () >>= _) _ _ s;refine wpAny_bind (wpAny_pure ?_)
  rw [if_pos pn2,hashByValue_scannable 8 (x:=.int k tk) rfl];refine wpAny_bind (wpAny_pure ?_)
  dsimp only [plainKind]
  rw [if_pos rfl]
  refine wpAny_bind (wpAny_storeSet_of T.ob rfl ?_ (by rw [sz];exact zl))
  have sb:=Heap.SameBut.update s.heap S (Obj.putSet es2 t2)
  have o1:=St.lay_self (es':=es2) (t':=t2) T.ob
  by_cases c:(!false&&t2.tooFull)=true
  ·rw [if_pos c]
   have c':(es.size+1)*5≥t.mask*3:=by
    simp only [Bool.not_false,Bool.true_and,SetTable.tooFull,decide_eq_true_eq,fl,m2] at c
    exact c
   obtain ⟨es3,t3,f1,f2,f3,f4,f5,f6,f7,f8,f9⟩:=zkM (n:=es.size) (t2:=t2) (es2:=es2) (by rw [m2];exact T.ms) sz (by rw [m2];exact T.lo) (by rw [m2];exact c') hz pn2
   rw [f1]
   dsimp only
   have sz3:es3.size=es.size+1:=by rw [← Array.length_toList,f2.length_eq,Array.length_toList,sz]
   show wpAny _ _ (pure () >>= _) _ _ _;refine wpAny_bind (wpAny_pure ?_)
   refine wpAny_bind (wpAny_storeSet_of (s:={ s with heap:=_ }) o1 rfl ?_ (by rw [sz3];exact zl))
   refine wpAny_pure (wpAny_pure (q _ true es3 _ t3 ⟨St.lay_self o1,by rw [f6,sz3],f5,f3,by rw [sz3];exact f4,f7,by rw [f8];exact ld2,f9,fun e he=>el2 e (f2.mem_iff.mp he),(f2.map _).trans ks2⟩ (sb.trans (Heap.SameBut.update _ S _))))
  ·rw [if_neg c]
   refine wpAny_pure (wpAny_pure (q _ true es2 _ t2 ⟨o1,by rw [p2,sz],d2,by rw [m2];exact T.ms,?_,pn2,ld2,r2,el2,ks2⟩ sb))
   simp only [Bool.not_false,Bool.true_and,SetTable.tooFull,decide_eq_true_eq,fl,m2] at c
   rw [sz,m2]
   (first|lia|omega)
def dd (val:Nat→Int):Nat→List Int
 | 0=>[]
 | i+1=>if val i∈dd val i then dd val i else val i::dd val i
theorem dd_len (val:Nat→Int):∀ i,(dd val i).length≤i
 | 0=>Nat.le_refl _
 | i+1=>by
  have:=dd_len val i
  unfold dd
  split
  ·(first|lia|omega)
  ·rw [List.length_cons]
   (first|lia|omega)
theorem dd_nodup (val:Nat→Int):∀ i,(dd val i).Nodup
 | 0=>List.nodup_nil
 | i+1=>by
  unfold dd
  split
  ·exact dd_nodup val i
  ·exact List.nodup_cons.mpr ⟨by assumption,dd_nodup val i⟩
theorem dd_mem (val:Nat→Int) {x:Int}:∀ {i},x∈dd val i↔∃ j,j<i∧val j=x
 | 0=>⟨fun h=>(nomatch h),fun ⟨j,h,_⟩=>absurd h (Nat.not_lt_zero j)⟩
 | i+1=>by
  have ih:=dd_mem val (x:=x) (i:=i)
  have e:x∈dd val (i+1)↔x∈dd val i∨val i=x:=by
   show x∈(if val i∈dd val i then dd val i else val i::dd val i)↔_
   split
   ·rename_i h
    exact ⟨.inl,fun z=>z.elim id fun e=>e ▸ h⟩
   ·rw [List.mem_cons]
    exact ⟨fun z=>z.elim (fun e=>.inr e.symm) .inl,fun z=>z.elim .inr fun e=>.inl e.symm⟩
  rw [e,ih]
  constructor
  ·rintro (⟨j,h1,h2⟩ | h)
   ·exact ⟨j,by (first|lia|omega),h2⟩
   ·exact ⟨i,by (first|lia|omega),h⟩
  ·rintro ⟨j,h1,h2⟩
   rcases Nat.lt_or_ge j i with l | l
   ·exact .inl ⟨j,l,h2⟩
   ·obtain rfl:j=i:=by (first|lia|omega)
    exact .inr h2
theorem SJ.keep {h h':Heap} {ds:List Int} (T:SJ P w h S es ep t ds) (e:∀ o,h.get? S=some o→h'.get? S=some o):SJ P w h' S es ep t ds :=
 ⟨e _ T.ob,T.pl,T.dm,T.ms,T.lo,T.pn,T.ld,T.rs,T.el,T.ks⟩
theorem SJ.size {h:Heap} {ds:List Int} (T:SJ P w h S es ep t ds):es.size=ds.length:=by
 rw [← T.ks.length_eq,List.length_map,Array.length_toList]
theorem loopJ {R:Result→Shared→Prop} {I:Addr} {fp wr:List Addr} {G:Array GenState→Array GenState→Prop} {n:Nat} {V:Nat→Value→Prop} {Z:Nat→Shared→Prop}
  (W:WalksS P w A.in1 I fp wr G n V Z) (S:Addr) (nS:S∉fp) (val:Nat→Int) (hv:∀ i v,V i v→∃ tk,v=.int (val i) tk) (hz:n<300) :
  ∀ (k i:Nat) (s:Shared) (es:Array (Int×Value)) (ep:Nat) (t:SetTable),n - i=k→i≤n→Z i s→SJ P w s.heap S es ep t (dd val i) →
   (∀ s' es' ep' t',Moved (S::wr) G s s'→SJ P w s'.heap S es' ep' t' (dd val n)→R (.ok (.ret .none)) s') →
   codeAny (model P w) A (.builtin "set.update.loop" ⟨[.ref S,.ref I],[]⟩) R s:=by
 have nW:S∉wr:=fun h=>nS (W.sub _ h)
 have sb:∀ b∈wr,b∈S::wr:=fun b hb=>List.mem_cons_of_mem _ hb
 intro k
 induction k with
 | zero =>
  intro i s es ep t ek hi st T q
  obtain rfl:i=n:=by (first|lia|omega)
  refine codeAny_builtin PyProof.Rows.F.entry_set_update_loop ?_;rw [Around.under_plainId PyProof.Rows.F.plain_set_update_loop _]
  show wpAny _ A.in1 (pyNext (.ref I) >>= _) _ _ s;refine wpAny_bind (W.done s _ _ st fun s' hm=>?_)
  show wpAny _ A.in1 (ret Value.none) _ _ s';exact wpAny_pure (q s' es ep t (hm.mono sb) (T.keep fun o e=>hm.heap S o nW e))
 | succ k ih =>
  intro i s es ep t ek hi st T q
  have lt:i<n:=by (first|lia|omega)
  refine codeAny_builtin PyProof.Rows.F.entry_set_update_loop ?_;rw [Around.under_plainId PyProof.Rows.F.plain_set_update_loop _]
  show wpAny _ A.in1 (pyNext (.ref I) >>= _) _ _ s;refine wpAny_bind (W.item i s _ _ lt st fun v s' hP st' hm=>?_)
  obtain ⟨tk,rfl⟩:=hv i v hP
  have T':SJ P w s'.heap S es ep t (dd val i):=T.keep fun o e=>hm.heap S o nW e
  have zl:=dd_len val i
  have sz:=T'.size
  show wpAny _ A.in1 (holding [Value.int (val i) tk] (setAdd S (.int (val i) tk)) >>= _) _ _ s';refine wpAny_bind (wpAny_holding ?_)
  unfold setAdd
  refine wpAny_holding (wpAny_bind ((intKind P w).pyHash (k:=val i) (intKind_is _ _ _ _) ?_))
  refine addJ (s:={ s' with toks:=s'.toks+1 }) T' (by (first|lia|omega)) fun h' b es' ep' t' T2 sm=>?_
  refine wpAny_pure ⟨plainId_quiet PyProof.Rows.F.plain_set_update_loop _,ih (i+1) _ es' ep' t' (by (first|lia|omega)) lt (W.frame _ s' _ _ st' (Nat.le_succ _) fun b hb o e=>?_) T2 fun s'' es'' ep'' t'' hm'' T3=>?_⟩
  ·rw [sm.2 b (fun h:b=S=>nS (by rw [← h];exact hb))];exact e
  ·refine q s'' es'' ep'' t'' (Moved.trans W.gtrans ((hm.mono sb).then_heap (Nat.le_succ _) fun b o hb e=>?_) hm'') T3
   rw [sm.2 b (fun h:b=S=>hb (by rw [h];exact List.mem_cons_self))];exact e
theorem zlS (v:Value) {Q₁:Value→Shared→Prop} (h:Q₁ (.ref s.heap.objs.size) { s with heap:=s.heap.push { cls:=.type "set",dict:=none,data:=.set #[] 0 (.fresh 0 0 (!w.params.followText "set-order")) } }) :
  codeAny (model P w) A (.call (.builtin "set.__new__") ⟨[.type "set",v],[]⟩) (wants Q₁ E) s:=by
 refine codeAny_of_tree ?_;show wpAny _ A.in1 (do checkBuiltinCall "set.__new__" ⟨[.type "set",v],[]⟩;again (.builtin "set.__new__" ⟨[.type "set",v],[]⟩)) _ _ s
 refine wpAny_bind (wpAny_of_eq (PySem.F.newCall_set_1 v) (wpAny_pure ⟨plainId_quiet PySem.F.plain_set_new _,codeAny_builtin PySem.F.entry_set_new ?_⟩));rw [Around.under_plainId PySem.F.plain_set_new _]
 unfold Builtin.«set.__new__» Builtin.Frozenset.newClass;have hsub:=PySem.sub_set_self;obtain ⟨hp,g,d,tk,os⟩:=s
 dsimp only;wp_walk
 refine wpAny_askSetting (wpAny_pure ?_);dsimp only;simp only [newObj]
 refine wpAny_bind (wpAny_alloc (wpAny_pure ?_));exact wpAny_pure h
end
end L2.Sw
namespace L2
open PySem PySem.Spec PyProof.Rows
section
variable {X:Cx} {e:Expr} {t:TA} {p1 p2 pos1 pos2:Pos}
theorem ziT:∀ {ms:List Int},ms.Pairwise (·≤·)→ms.Nodup→ms.Pairwise (·<·)
 | [],_,_=>.nil
 | a::ms,h,n=>by
  rw [List.pairwise_cons] at h ⊢
  rw [List.nodup_cons] at n
  refine ⟨fun b hb=>?_,ziT h.2 n.2⟩
  have h1:=h.1 b hb
  have h2:a≠b:=fun z=>n.1 (z ▸ hb)
  (first|lia|omega)
end
end L2
namespace L2
open PySem PySem.Spec PyProof.Rows
abbrev Std:=List Int×Int
section
variable {prog:Program} {w:World} {A:Around} {E:Value→Shared→Prop} {s:Shared}
def zb1 (prog:Program) (w:World) (h:Heap) (k:Std) (a:Addr):Prop:=∃ o n b t,h.get? a=some o∧o.cls=.type "tuple"∧o.data=.seq #[.ref b,.int k.2 t] n∧IsTupleKey (intKind prog w) h k.1 b
theorem ItemsAre.any {p':Program} {w':World} {ks:List Int} {vs:List Value} (h:ItemsAre (intKind prog w) ks vs):ItemsAre (intKind p' w') ks vs:=by
 induction h with
 | nil=>exact .nil
 | cons a _ ih=>exact .cons a ih
theorem IsTupleKey.any {p':Program} {w':World} {h:Heap} {ks:List Int} {a:Addr} (x:IsTupleKey (intKind prog w) h ks a):IsTupleKey (intKind p' w') h ks a:=by
 obtain ⟨o,items,n,ho,hc,hd,hi⟩:=x
 exact ⟨o,items,n,ho,hc,hd,ItemsAre.any hi⟩
theorem zb1.typeIs {k:Std} {a:Addr} (x:zb1 prog w s.heap k a):s.TypeIs (.ref a) "tuple":=let ⟨o,_,_,_,ho,hc,_⟩:=x;⟨o,ho,hc⟩
theorem zb1.inj {h:Heap} {a:Addr} {x y:Std} (hx:zb1 prog w h x a) (hy:zb1 prog w h y a):x=y:=by
 obtain ⟨o,n,b,t,ho,_,hd,hi⟩:=hx
 obtain ⟨o',n',b',t',ho',_,hd',hi'⟩:=hy
 obtain rfl:o=o':=Option.some.inj (ho.symm.trans ho')
 rw [hd] at hd'
 injection hd' with h1 _
 simp only [Array.mk.injEq,List.cons.injEq,Value.ref.injEq,Value.int.injEq,and_true] at h1
 obtain ⟨rfl,h2,_⟩:=h1
 exact Prod.ext (hi.inj hi') h2
theorem zb1.keeps {h h':Heap} {k:Std} {a d:Addr} {o:Obj} {es ep} (x:zb1 prog w h k a) (ho:h.get? d=some o) (hd:o.data=.dict es ep) (hs:Heap.SameBut d h h'):zb1 prog w h' k a:=by
 obtain ⟨o',n,b,t,ho',hc,hd',hi⟩:=x
 have hne:a≠d:=by
  rintro rfl
  obtain rfl:o'=o:=Option.some.inj (ho'.symm.trans ho)
  rw [hd] at hd'
  exact nomatch hd'
 exact ⟨o',n,b,t,(hs.2 a hne).trans ho',hc,hd',hi.keeps ho hd hs⟩
def zgV (prog:Program) (w:World) (k:Std):Int:=reduceHash (Builtin.Tuple.tupleHashOf [tupleKeyHash (intKind prog w) k.1,hashInt k.2])
theorem zh5 {k:Std} {a:Addr} {Q:Int→Shared→Prop} (hu:A.units+1<cLine) (hk:zb1 prog w s.heap k a) (h:Q (zgV prog w k) { s with toks:=s.toks+(k.1.length+1+1+1) }):wpAny (model prog w) A (pyHash (.ref a)) Q E s:=by
 have hT:=hk.typeIs
 obtain ⟨o,n,b,t,ho,_,hd,hi⟩:=hk
 unfold pyHash
 first | unfold pyHashByItsType | skip
 first | refine wpAny_bind (wpAny_cRoomFor_or (.inr (by (first|lia|omega))) ?_) | skip
 refine wpAny_bind (wpAny_specialOf hT F.slot_tuple_hash.lookup ?_)
 show wpAny _ _ (if (some (Value.builtin "tuple.__hash__") == some Value.none)=true then _ else _) Q E s
 rw [if_neg (by rw [beq_builtin_none];exact Bool.false_ne_true)]
 refine wpAny_bind (wpAny_specialOf hT F.slot_tuple_hash.lookup ?_)
 show wpAny _ _ (callSpecialIfBoundUnlessNone? (.ref a) "__hash__" _ >>= _) Q E s
 refine wpAny_bind (wpAny_callSpecialIfBoundUnlessNone?_slot hT F.slot_tuple_hash (wpAny_call_entry F.slot_tuple_hash hT F.entry_tuple_hash ?_ (F.args_tuple_hash_1 _)))
 show wpAny _ _ (Builtin.Tuple.tupleItemsOf (.ref a) >>= _) _ _ s
 refine wpAny_bind (wpAny_tupleItemsOf ho hd ?_)
 refine wpAny_bind ?_
 rw [← Array.forIn_toList]
 simp only [List.forIn_cons,List.forIn_nil]
 refine wpAny_bind (wpAny_bind (wpAny_pyHash_tuple (show A.in1.units<cLine from hu) hi (wpAny_pure ?_)))
 refine wpAny_bind (wpAny_bind (wpAny_pyHash_int (wpAny_pure (wpAny_pure ?_))))
 show wpAny _ _ (retInt (Builtin.Tuple.tupleHashOf [tupleKeyHash (intKind prog w) k.1,hashInt k.2])) _ _ _
 refine wpAny_ret_mkInt ?_
 show wpAny _ _ (if (decide (-(2:Int) ^ 63≤Builtin.Tuple.tupleHashOf [tupleKeyHash (intKind prog w) k.1,hashInt k.2])&&decide (Builtin.Tuple.tupleHashOf [tupleKeyHash (intKind prog w) k.1,hashInt k.2]<2 ^ 63))=true then _ else _) Q E _
 unfold zgV reduceHash at h
 by_cases hr:(decide (-(2:Int) ^ 63≤Builtin.Tuple.tupleHashOf [tupleKeyHash (intKind prog w) k.1,hashInt k.2])&&decide (Builtin.Tuple.tupleHashOf [tupleKeyHash (intKind prog w) k.1,hashInt k.2]<2 ^ 63))=true
 ·rw [if_pos hr]
  rw [if_pos hr] at h
  exact wpAny_pure (by simpa [Nat.add_assoc] using h)
 ·rw [if_neg hr]
  rw [if_neg hr] at h
  exact wpAny_bind (wpAny_rule (wpAny_pure (by simpa [Nat.add_assoc] using h)))
theorem zeS {x y:Std} {a b:Addr} {Q:Bool→Shared→Prop} (hu:A.units+1<cLine) (hx:zb1 prog w s.heap x a) (hy:zb1 prog w s.heap y b) (h:Q (decide (x=y)) s):wpAny (model prog w) A (eqBool (.ref a) (.ref b)) Q E s:=by
 by_cases hab:a=b
 ·subst hab
  obtain rfl:=hx.inj hy
  rw [decide_eq_true rfl] at h
  exact SeqAt.EqAt.same _ prog w E Q h
 obtain ⟨o,n,c,t,ho,hc,hd,hi⟩:=hx
 obtain ⟨o',n',c',t',ho',hc',hd',hi'⟩:=hy
 refine SeqAt.EqAt.of_refs hab (SeqAt.RcAt.tuples (items:=#[.ref c,.int x.2 t]) (items2:=#[.ref c',.int y.2 t']) (e:=fun j=>if j=0 then decide (x.1=y.1) else (x.2 == y.2)) ⟨o,ho,hc,n,hd⟩ ⟨o',ho',hc',n',hd'⟩ (by (first|lia|omega)) ?_) prog w E Q ?_
 ·intro j h1 h2
  match j,h1,h2 with
  | 0,_,_=>exact fun p' w' E' Q' hq=>wpAny_eqBool_tuple (show A.in1.units<cLine from hu) (IsTupleKey.any hi) (IsTupleKey.any hi') hq
  | 1,_,_=>exact SeqAt.EqAt.int_int _ _ _ _
 ·have e:(((List.range (min #[Value.ref c,Value.int x.snd t].size #[Value.ref c',Value.int y.snd t'].size)).all fun j=>if j=0 then decide (x.fst=y.fst) else x.snd == y.snd)&&#[Value.ref c,Value.int x.snd t].size == #[Value.ref c',Value.int y.snd t'].size)=decide (x=y):=by
   show ((decide (x.1=y.1)&&((x.2 == y.2)&&true))&&true)=_
   rw [Bool.and_true,Bool.and_true]
   by_cases c1:x.1=y.1
   ·by_cases c2:x.2=y.2
    ·rw [decide_eq_true c1,decide_eq_true (Prod.ext c1 c2),c2,beq_self_eq_true]
     rfl
    ·rw [decide_eq_false (fun z=>c2 (congrArg Prod.snd z)),beq_eq_false_iff_ne.mpr c2,Bool.and_false]
   ·rw [decide_eq_false c1,decide_eq_false (fun z=>c1 (congrArg Prod.fst z)),Bool.false_and]
  rw [e]
  exact h
theorem ziA {m:Nat} {ks:List Int} {a:Addr} {Q:Bool→Shared→Prop} (hk:IsTupleKey (intKind prog w) s.heap ks a) (h:Q true s):wpAny (model prog w) A (eqIsQuiet (m+1) (.ref a)) Q E s:=by
 have hT:=hk.typeIs
 obtain ⟨o,items,n,ho,_,hd,hi⟩:=hk
 unfold eqIsQuiet
 refine wpAny_bind (wpAny_specialOf hT F.slot_tuple_eq.lookup ?_)
 show wpAny _ _ (isInstance (.ref a) (.type "tuple") >>= _) _ _ s
 refine wpAny_bind (wpAny_isInstance hT isSubtype_tuple_tuple ?_)
 simp only [Bool.not_true,Bool.false_eq_true,if_false]
 refine wpAny_bind (wpAny_seqItems ho hd ?_)
 refine wpAny_bind ?_
 show wpAny _ _ (forIn items _ _) _ _ s
 rw [← Array.forIn_toList]
 refine wpAny_forIn_list _ (fun zfK r s'=>r.1=none∧s'=s∧∀ v∈zfK,carriedByValue v=true) _ ?_ ?_ _ _ ⟨rfl,rfl,hi.byValue⟩
 ·rintro v zfK r s' ⟨hr,rfl,hall⟩
  rw [eqIsQuiet_byValue _ (hall v List.mem_cons_self)]
  refine wpAny_bind (wpAny_pure ?_)
  simp only [Bool.not_true,Bool.false_eq_true,if_false]
  exact wpAny_pure ⟨rfl,rfl,fun u hu'=>hall u (List.mem_cons_of_mem _ hu')⟩
 ·rintro ⟨r1,r2⟩ s' ⟨hr,rfl,_⟩
  simp only at hr
  subst hr
  exact wpAny_pure h
theorem ziK {k:Std} {a:Addr} {Q:Bool→Shared→Prop} (hk:zb1 prog w s.heap k a) (h:Q true s):wpAny (model prog w) A (eqIsQuiet 8 (.ref a)) Q E s:=by
 have hT:=hk.typeIs
 obtain ⟨o,n,b,t,ho,_,hd,hi⟩:=hk
 unfold eqIsQuiet
 refine wpAny_bind (wpAny_specialOf hT F.slot_tuple_eq.lookup ?_)
 show wpAny _ _ (isInstance (.ref a) (.type "tuple") >>= _) _ _ s
 refine wpAny_bind (wpAny_isInstance hT isSubtype_tuple_tuple ?_)
 simp only [Bool.not_true,Bool.false_eq_true,if_false]
 refine wpAny_bind (wpAny_seqItems ho hd ?_)
 refine wpAny_bind ?_
 show wpAny _ _ (forIn (#[.ref b,.int k.2 t]:Array Value) _ _) _ _ s
 rw [← Array.forIn_toList]
 simp only [List.forIn_cons,List.forIn_nil]
 refine wpAny_bind (wpAny_bind (ziA hi ?_))
 simp only [Bool.not_true,Bool.false_eq_true,if_false]
 refine wpAny_pure ?_
 rw [eqIsQuiet_byValue _ rfl]
 refine wpAny_bind (wpAny_bind (wpAny_pure ?_))
 simp only [Bool.not_true,Bool.false_eq_true,if_false]
 exact wpAny_pure (wpAny_pure (wpAny_pure h))
def zdD (prog:Program) (w:World):HeapKind prog w Std where
 is:=zb1 prog w
 hash:=zgV prog w
 draws:=fun k=>k.1.length+1+1+1
 room:=fun A=>A.units+1<cLine
 inj:=fun hx hy=>hx.inj hy
 keeps:=fun x ho hd hs=>x.keeps ho hd hs
 pyHash:=fun hu hk h=>zh5 hu hk h
 eqBool:=fun hu hx hy h=>zeS hu hx hy h
 quiet:=fun hk h=>ziK hk h
end
def stdH (k:Std):Int:=reduceHash (Builtin.Tuple.tupleHashOf [reduceHash (Builtin.Tuple.tupleHashOf (k.1.map hashInt)),hashInt k.2])
def zhf (x:Std×Addr×Value):DictEntry:=⟨stdH x.1,.ref x.2.1,x.2.2⟩
abbrev KS:List (Std×Addr×V)→List (Std×Addr×Value)→Prop:=Paired fun p q=>p.1=q.1∧p.2.1=q.2.1∧za9 p.2.2 q.2.2
def kvS (kvs:List (Std×Addr×V)):List (Std×V):=kvs.map fun x=>(x.1,x.2.2)
def zek (kvs:List (Std×Addr×V)) (k:Std) (c:Addr) (v:V):List (Std×Addr×V) :=
 if (kvs.any fun x=>decide (x.1=k))=true then kvs.map fun x=>if x.1=k then (x.1,x.2.1,v) else x else kvs++[(k,c,v)]
theorem KS.val {kvs:List (Std×Addr×V)} {xs:List (Std×Addr×Value)} (r:KS kvs xs) (k:Std):zh9 (zbM (kvS kvs) k) ((atKey xs k).map (·.2)):=by
 induction r with
 | nil=>exact True.intro
 | @cons p q ps qs h t ih =>
  obtain ⟨h1,_,h2⟩:=h
  by_cases e:p.1=k
  ·have e':q.1=k:=h1.symm.trans e
   have b:atKey (q::qs) k=some q.2:=by simp [atKey,List.find?_cons,e']
   have b2:zbM (kvS (p::ps)) k=some p.2.2:=zaY (p:=(p.1,p.2.2)) e
   rw [b2,b];exact h2
  ·have e':¬ q.1=k:=fun z=>e (h1.trans z)
   have b:atKey (q::qs) k=atKey qs k:=by simp [atKey,List.find?_cons,e']
   have b2:zbM (kvS (p::ps)) k=zbM (kvS ps) k:=zaR (p:=(p.1,p.2.2)) e
   rw [b2,b];exact ih
theorem anyS (kvs:List (Std×Addr×V)) (k:Std):(kvs.any fun x=>decide (x.1=k))=(zbM (kvS kvs) k).isSome:=by
 rw [← zck,kvS,List.any_map]
 rfl
theorem zfD (kvs:List (Std×Addr×V)) (k:Std) (c:Addr) (v:V):(zek kvs k c v).length≤kvs.length+1:=by
 unfold zek
 split
 ·rw [List.length_map]
  (first|lia|omega)
 ·rw [List.length_append]
  exact Nat.le_refl _
theorem zk3 {kvs:List (Std×Addr×V)} {k:Std} {c:Addr} {v:V} {x:Std×Addr×V} (h:x∈zek kvs k c v):(∃ y∈kvs,y.1=x.1∧y.2.1=x.2.1)∨(x.1=k∧x.2.1=c):=by
 unfold zek at h
 split at h
 ·obtain ⟨y,hy,rfl⟩:=List.mem_map.mp h
  refine .inl ⟨y,hy,?_⟩
  split <;> exact ⟨rfl,rfl⟩
 ·rcases List.mem_append.mp h with h | h
  ·exact .inl ⟨x,h,rfl,rfl⟩
  ·rw [List.mem_singleton.mp h]
   exact .inr ⟨rfl,rfl⟩
theorem KS.put {kvs:List (Std×Addr×V)} {xs:List (Std×Addr×Value)} (r:KS kvs xs) (k:Std) (c:Addr) {y:V} {u:Value} (ry:za9 y u):KS (zek kvs k c y) (storedH xs k c u):=by
 have e:(kvs.any fun kv=>decide (kv.1=k))=(atKey xs k).isSome:=by
  rw [anyS,(r.val k).isSome_eq,Option.isSome_map]
 unfold zek storedH
 rw [e]
 by_cases q:(atKey xs k).isSome=true
 ·rw [if_pos q,if_pos q]
  clear e q
  induction r with
  | nil=>exact .nil
  | @cons p q ps qs h t ih =>
   rw [List.map_cons,List.map_cons]
   refine .cons ?_ ih
   obtain ⟨h1,h2,h3⟩:=h
   unfold putAt
   by_cases e:p.1=k
   ·rw [if_pos e,if_pos (h1.symm.trans e)];exact ⟨h1,h2,ry⟩
   ·rw [if_neg e,if_neg (fun z=>e (h1.trans z))];exact ⟨h1,h2,h3⟩
 ·rw [if_neg q,if_neg q];exact Paired.snoc r ⟨rfl,rfl,ry⟩
def SObj (a:Addr) (kvs:List (Std×Addr×V)) (h:Heap):Prop:=kvs.length≤sizeLine∧(a == sysModules)=false∧∃ xs,KS kvs xs∧∃ o es ep,h.get? a=some o∧o.ExactDict∧o.data=.dict es ep∧es.toList=xs.map zhf∧(xs.map (·.1)).Nodup
def dSO (a:Addr) (kvs:List (Std×Addr×V)):HO:=.ext (SObj a kvs)
theorem zhB {P:Program} {w:World} {H:Hp} {h:Heap} {a:Addr} {kvs:List (Std×Addr×V)} (x:SObj a kvs h):zaP P w H h a (dSO a kvs):=by
 obtain ⟨z,y,xs,r,o,es,ep,e,c⟩:=id x
 refine ⟨x,⟨o,e⟩,fun h1 h2 p k=>?_⟩
 obtain ⟨z,y,xs,r,o,es,ep,e,c⟩:=p
 exact ⟨z,y,xs,r,o,es,ep,k _ e,c⟩
def TpK (K:PySem.W.Frag) (H:Hp) (a:Addr) (xs:List V):Prop:=H a=some (.tup xs)∨zlr K a xs
theorem TpK.same {K:PySem.W.Frag} {H H':Hp} {a:Addr} {xs:List V} (h:TpK K H a xs) (ht:∀ b ys,H b=some (.tup ys)→H' b=some (.tup ys)):TpK K H' a xs:=h.elim (fun e=>.inl (ht _ _ e)) .inr
theorem TpK.sq {K:PySem.W.Frag} {H:Hp} {a:Addr} {xs:List V} (h:TpK K H a xs):SqT K H a xs:=h.elim SqT.of SqT.ofK
def StH (K:PySem.W.Frag) (H:Hp) (k:Std) (c:Addr):Prop:=∃ b,TpK K H c [.ref b,.int k.2]∧TpK K H b (k.1.map V.int)
theorem StH.same {K:PySem.W.Frag} {H H':Hp} {k:Std} {c:Addr} (h:StH K H k c) (ht:∀ b ys,H b=some (.tup ys)→H' b=some (.tup ys)):StH K H' k c:=by
 obtain ⟨b,h1,h2⟩:=h
 exact ⟨b,h1.same ht,h2.same ht⟩
theorem zhl {P:Program} {w:World}:∀ {ks:List Int} {us:List Value},zbr (ks.map V.int) us→ItemsAre (intKind P w) ks us
 | [],_,r=>by cases r;exact .nil
 | k::ks,_,r=>by
  cases r with
  | cons h t =>
   obtain ⟨t',rfl⟩:=h
   exact .cons (by simp [intKind,Value.isInt]) (zhl t)
section
variable {X:Cx} {pins:List (Addr×Obj)} {σ:St} {H:Hp} {s:Shared} {a c:Addr} {k:Std} {xs:List V}
theorem TpK.raw (I:Inv X pins σ H s) (h:TpK X.K H a xs):∃ its o n,zbr xs its∧s.heap.get? a=some o∧o.cls=.type "tuple"∧o.data=.seq its.toArray n:=by
 rcases h with h | ⟨o,its,n,h1,h2,h3,_,h4⟩
 ·obtain ⟨_,its,r,o,g1,g2,n,g3⟩:=(show zaP X.prog X.w H s.heap a (.tup xs) from I.hok a _ h)
  exact ⟨its,o,n,r,g1,g2,g3⟩
 ·exact ⟨its.toList,o,n,h4,I.kIn a o h1,h2,by rw [Array.toArray_toList];exact h3⟩
theorem StH.is (I:Inv X pins σ H s) (x:StH X.K H k c):zb1 X.prog X.w s.heap k c:=by
 obtain ⟨b,h1,h2⟩:=x
 obtain ⟨its,o,n,r,g1,g2,g3⟩:=h1.raw I
 obtain ⟨its2,o2,n2,r2,g4,g5,g6⟩:=h2.raw I
 cases r with
 | cons r1 r =>
  cases r with
  | cons r3 r =>
   cases r
   cases r1
   obtain ⟨t,rfl⟩:=r3
   exact ⟨o,n,b,t,g1,g2,g3,o2,its2.toArray,n2,g4,g5,g6,by simpa using zhl r2⟩
structure DS (K:PySem.W.Frag) (H:Hp) (a:Addr) (kvs:List (Std×Addr×V)):Prop where
 h:H a=some (dSO a kvs)
 ks:∀ x∈kvs,StH K H x.1 x.2.1
theorem DS.of {kvs:List (Std×Addr×V)} (I:Inv X pins σ H s) (d:DS X.K H a kvs):kvs.length≤sizeLine∧(a == sysModules)=false∧∃ xs,KS kvs xs∧s.heap.DictOfH (zdD X.prog X.w) a xs:=by
 obtain ⟨⟨z,y,xs,r,o,es,ep,h1,h2,h3,h4,h5⟩,_,_⟩:=(show zaP X.prog X.w H s.heap a (dSO a kvs) from I.hok a _ d.h)
 refine ⟨z,y,xs,r,o,es,ep,h1,h2,h3,h4,fun x hx=>?_,h5⟩
 have all:∀ {l:List (Std×Addr×V)} {m:List (Std×Addr×Value)},KS l m→(∀ x∈l,StH X.K H x.1 x.2.1)→∀ x∈m,(zdD X.prog X.w).is s.heap x.1 x.2.1:=by
  intro l m q
  induction q with
  | nil=>intro _ x hx;exact nomatch hx
  | @cons p q ps qs hq t ih =>
   intro hl x hx
   rcases List.mem_cons.mp hx with e | hx
   ·subst e
    have:=hl p List.mem_cons_self
    rw [hq.1,hq.2.1] at this
    exact this.is I
   ·exact ih (fun y hy=>hl y (List.mem_cons_of_mem _ hy)) x hx
 exact all r d.ks x hx
end
def SGet (K:PySem.W.Frag) (H:Hp) (a:Addr) (y:V) (r:Option V):Prop:=∃ kvs k c,DS K H a kvs∧y=.ref c∧StH K H k c∧r=zbM (kvS kvs) k
def SPut (K:PySem.W.Frag) (H:Hp) (a:Addr) (y v:V) (H':Hp):Prop:=∃ kvs k c,DS K H a kvs∧y=.ref c∧StH K H k c∧kvs.length<sizeLine∧H'=upd H a (dSO a (zek kvs k c v))
section
variable {X:Cx} {pins:List (Addr×Obj)} {σ:St} {H:Hp} {s:Shared} {a:Addr} {y v:V} {u r:Value} {o:Option V} {A:Around} {E:Value→Shared→Prop}
theorem ziX {Q:Value→Shared→Prop} (hu:A.units+64<cLine) (I:Inv X pins σ H s) (g:SGet X.K H a y (some v)) (ry:za9 y u) (h:∀ w' s',Inv X pins σ H s'→za9 v w'→Q w' s') :
  wpAny (model X.prog X.w) A (getItem (.ref a) u) Q E s:=by
 obtain ⟨kvs,k,c,d,rfl,hk,l⟩:=g
 cases (show u=Value.ref c from ry)
 obtain ⟨z,hd,xs,rel,dd⟩:=d.of I
 obtain ⟨w',hw,rw'⟩:=zh9.some_of (v:=v) (o:=(atKey xs k).map (·.2)) (by rw [l];exact rel.val k)
 obtain ⟨p,hp,hp2⟩:=Option.map_eq_some_iff.mp hw
 refine wpAny_getItem_heap (knd:=zdD X.prog X.w) (show A.units+1+1<cLine by (first|lia|omega)) (hk.is I) dd hp ?_
 rw [hp2]
 exact h w' _ (I.tok _) rw'
theorem zlT {Q:Value→Shared→Prop} (hu:A.units+64<cLine) (I:Inv X pins σ H s) (g:SGet X.K H a y o) (ry:za9 y u) (h:∀ s',Inv X pins σ H s'→Q (.bool (!o.isSome)) s') :
  wpAny (model X.prog X.w) A (compareOp .NotIn u (.ref a)) Q E s:=by
 obtain ⟨kvs,k,c,d,rfl,hk,l⟩:=g
 cases (show u=Value.ref c from ry)
 obtain ⟨z,hd,xs,rel,dd⟩:=d.of I
 refine wpAny_notIn_heap (knd:=zdD X.prog X.w) (show A.units+1+1<cLine by (first|lia|omega)) (hk.is I) hd dd ?_
 have q:=(rel.val k).isSome_eq
 rw [Option.isSome_map] at q
 rw [← q,← l]
 exact h _ (I.tok _)
theorem zje {H':Hp} {Q:Unit→Shared→Prop} (hu:A.units+64<cLine) (I:Inv X pins σ H s) (g:SPut X.K H a y v H') (ry:za9 y u) (rv:za9 v r) (h:∀ s',Inv X pins σ H' s'→Q () s') :
  wpAny (model X.prog X.w) A (setItem (.ref a) u r) Q E s:=by
 obtain ⟨kvs,k,c,d,rfl,hk,l,rfl⟩:=g
 cases (show u=Value.ref c from ry)
 obtain ⟨z,hd,xs,rel,dd⟩:=d.of I
 have hz:xs.length≤sizeLine:=by rw [← Paired.length rel];exact z
 have hl:(zek kvs k c v).length≤sizeLine:=by have:=zfD kvs k c v;(first|lia|omega)
 refine wpAny_setItem_heap (knd:=zdD X.prog X.w) (hsz:=hz) (show A.units+1+1<cLine by (first|lia|omega)) (hk.is I) dd fun h' dd' hs=>h _ ?_
 obtain ⟨q,es,ep,hq,h2,h3,h4,_,h5⟩:=dd'
 exact zed I (by rw [d.h];exact True.intro) hs ⟨q,hq⟩ (zhB ⟨hl,hd,_,rel.put k c rv,q,es,ep,hq,h2,h3,h4,h5⟩)
end
theorem zki {X:Cx} {pins:List (Addr×Obj)} {σ:St} {H:Hp} {s:Shared} {a:Addr} {kvs:List (Std×Addr×V)} (I:Inv X pins σ H s) (d:DS X.K H a kvs):s.TypeIs (.ref a) "dict":=by
 obtain ⟨_,_,xs,_,dd⟩:=d.of I
 exact dd.typeIs
def zib (K:PySem.W.Frag) (td ty:TE):TE:=fun σ H Q=>td σ H fun x H1=>ty σ H1 fun y H2=>∃ a v,x=.ref a∧SGet K H2 a y (some v)∧Q v H2
def zfE (K:PySem.W.Frag) (ty td:TE):TE:=fun σ H Q=>ty σ H fun y H1=>td σ H1 fun x H2=>∃ a o,x=.ref a∧SGet K H2 a y o∧Q (.bl (!o.isSome)) H2
def zkX (K:PySem.W.Frag) (td ty tv:TE):TS:=fun D σ H=>tv σ H fun v H1=>td σ H1 fun x H2=>ty σ H2 fun y H3=>∃ a H4,x=.ref a∧SPut K H3 a y v H4∧D.nx σ H4
def zlN:TE:=fun _ H Q=>∀ p,H p=none→Q (.ref p) (upd H p (dSO p []))
section
variable {X:Cx} {o i e value:Expr} {pos pos' tpos:Pos} {td ty tv:TE}
theorem zil (hu:X.A.units+64<cLine) (ho:PE X o td) (hi:PE X i ty) (hs:NoSl i):PE X (.Subscript o i pos) (zib X.K td ty):=by
 intro pins s σ H Q I h
 refine zmr PySem.F.slot_dict_getitem.lookup hs (thn (ho pins s σ H _ I h) fun u s1 ⟨x,H1,I1,rx,q1⟩=>thn (hi pins s1 σ H1 _ I1 q1) fun iv s2 hQ'=>?_)
 obtain ⟨y,H2,I2,ry,a,v,ex,g,q2⟩:=hQ'
 subst ex
 obtain rfl:u=Value.ref a:=rx
 exact ⟨zki I2 g.choose_spec.choose_spec.choose_spec.1,ziX hu I2 g ry fun w' s3 I3 rw'=>⟨v,H2,I3,rw',q2⟩⟩
theorem zjO (hu:X.A.units+64<cLine) (hi:PE X i ty) (ho:PE X o td):PC X .NotIn i o (zfE X.K ty td):=by
 intro pins s σ H Q I h
 refine thn (hi pins s σ H _ I h) fun iv s1 ⟨y,H1,I1,ry,q1⟩=>thn (ho pins s1 σ H1 _ I1 q1) fun u s2 hQ'=>?_
 obtain ⟨x,H2,I2,rx,a,ov,ex,g,q2⟩:=hQ'
 subst ex
 obtain rfl:u=Value.ref a:=rx
 exact zlT hu I2 g ry fun s3 I3=>⟨.bl (!ov.isSome),H2,I3,rfl,q2⟩
theorem zml (hu:X.A.units+64<cLine) (ho:PE X o td) (hi:PE X i ty) (hv:PE X value tv) (hs:swapsWith value (some (.Subscript o i pos')) pos.line X.env=pure false) :
  PS X (.Assign [.Subscript o i pos'] value pos) (zkX X.K td ty tv):=by
 intro pins s σ H D I h
 refine wpAny_Assign_Subscript (thn (hv pins s σ H _ I h) fun r s1 ⟨v,H1,I1,rv,q1⟩=>thn (ho pins s1 σ H1 _ I1 q1) fun u s2 ⟨x,H2,I2,rx,q2⟩=>thn (hi pins s2 σ H2 _ I2 q2) fun iv s3 hQ'=>?_) hs
 obtain ⟨y,H3,I3,ry,a,H4,ex,g,q3⟩:=hQ'
 subst ex
 obtain rfl:u=Value.ref a:=rx
 exact zje hu I3 g ry rv fun s4 I4=>⟨σ,H4,I4,q3⟩
theorem zmn:PE X (.Dict [] [] pos) zlN:=fun pins s σ H Q I h =>
 wpAny_Dict_empty ⟨.ref s.heap.objs.size,_,I.laid (a:=s.heap.objs.size) (o:=dSO s.heap.objs.size []) (t':=s.toks) (fun _ _ q=>Heap.get?_push_of_some _ q) (Nat.le_refl _) (zhB ⟨Nat.zero_le _,beq_eq_false_iff_ne.mpr (Ne.symm (Nat.ne_of_lt I.big)),[],.nil,_,#[],0,Heap.get?_push_size _ rfl,⟨rfl,rfl,rfl⟩,rfl,rfl,List.nodup_nil⟩),rfl,h _ (I.hok.fresh (Nat.le_refl _))⟩
end
end L2
namespace L2
open PySem PySem.Spec PyProof.Rows
def zcn (h:Heap) (d:Addr) (es:Array DictEntry) (ep:Nat):Prop:=∃ o,h.get? d=some o∧o.ExactDict∧o.data=.dict es ep
section
variable {prog:Program} {w:World} {A:Around} {E:Value→Shared→Prop} {s:Shared} {d it v:Addr} {es:Array DictEntry} {ep i:Nat}
theorem zcn.ty (m:zcn s.heap d es ep):s.TypeIs (.ref d) "dict":=let ⟨o,h1,h2,_⟩:=m;⟨o,h1,h2.1⟩
theorem zcn.lt {h:Heap} (m:zcn h d es ep):d<h.objs.size:=let ⟨_,h1,_⟩:=m;Heap.lt_size h1
theorem zcn.at {h h':Heap} (m:zcn h d es ep) (e:∀ o,h.get? d=some o→h'.get? d=some o):zcn h' d es ep:=let ⟨o,h1,r⟩:=m;⟨o,e _ h1,r⟩
theorem zj3 {Q:Value→Shared→Prop} (hd:(d == sysModules)=false) (m:zcn s.heap d es ep)
  (q:Q (.ref s.heap.objs.size) { s with heap:=s.heap.push { cls:=.type "dict_keyiterator",data:=.fields #[.ref d,.int 0 0,.int es.size 0,.int ep 0] } }):wpAny (model prog w) A (pyIter (.ref d)) Q E s:=by
 have T:=m.ty;obtain ⟨o,h1,h2,h3⟩:=m
 refine wpAny_pyIter_slot T F.slot_dict_iter (wpAny_call_entry F.slot_dict_iter T F.entry_dict_iter (wpAny_bind ?_) (F.args_dict_iter_1 _));unfold Builtin.Dict.dictSlotNone
 refine wpAny_bind (wpAny_notOrdered_dict T ?_);show wpAny _ _ (pure (Value.ref d)) _ _ s;refine wpAny_pure ?_;show wpAny _ _ (Builtin.Dict.showsAll d >>= _) _ _ s;unfold Builtin.Dict.showsAll
 rw [if_neg (by rw [hd];exact Bool.false_ne_true)];refine wpAny_bind (wpAny_pure (wpAny_bind (wpAny_dictEntries h1 h3 (wpAny_bind (wpAny_dictEpoch h1 h3 ?_)))))
 refine wpAny_bind (wpAny_newObj_type (wpAny_pure ⟨_,rfl,"dict_keyiterator",_,⟨_,Heap.get?_push_size _ rfl,rfl⟩,F.slot_dict_keyiterator_next.lookup,?_⟩));simpa [rawInt] using q
theorem zkE {Q:Option Value→Shared→Prop} {e:DictEntry} (hit:s.heap.IsKeyIter it d i es.size ep) (m:zcn s.heap d es ep) (hx:es[i]?=some e)
  (q:∀ h',h'.IsKeyIter it d (i+1) es.size ep→Heap.SameBut it s.heap h'→Q (some e.key) { s with heap:=h' }):wpAny (model prog w) A (pyNext (.ref it)) Q E s:=by
 obtain ⟨o,ho,hc,hd⟩:=id hit;obtain ⟨od,h1,h2,h3⟩:=m;obtain ⟨lt,he⟩:=Array.getElem?_eq_some_iff.mp hx;have T:=hit.typeIs
 unfold pyNext;refine wpAny_bind (wpAny_attempt (wpAny_callSpecial?_slot (name:=Str.ofString "__next__") T F.slot_dict_keyiterator_next (wpAny_call_entry F.slot_dict_keyiterator_next T F.entry_dict_keyiterator_next ?_ (F.args_dict_keyiterator_next_1 _))))
 refine wpAny_bind (wpAny_pure (wpAny_bind (wpAny_bind ?_)));refine wpAny_bind (wpAny_typeNameOfWhole_keyiter T (wpAny_pure (wpAny_bind (wpAny_fieldsOf ho hd ?_))))
 simp only [show Builtin.Dict_items.ownsTuple "dict_keyiterator"=false from by decide,Bool.false_eq_true,if_false]
 show wpAny _ _ (if (Value.ref d == Value.none)=true then _ else _) _ _ s;rw [if_neg (show ¬ ((Value.ref d == Value.none)=true) from Bool.false_ne_true)]
 refine wpAny_bind (wpAny_pure (wpAny_bind (wpAny_dictEntries h1 h3 ?_)));rw [if_neg (by simp)];refine wpAny_bind (wpAny_pure (wpAny_bind (wpAny_dictEpoch h1 h3 ?_)));rw [if_neg (by simp)];refine wpAny_pure ?_
 simp only [show ¬ ((i:Int)<0) from by (first|lia|omega),if_false,Int.toNat_natCast,hx]
 refine wpAny_bind ?_;refine wpAny_bind (wpAny_typeNameOfWhole_keyiter T (wpAny_pure ?_));refine wpAny_bind (wpAny_isOneOf_keyiter T ?_);show wpAny _ _ (setField (.ref it) 1 (rawInt ((i:Int)+1)) >>= _) _ _ s
 refine wpAny_bind (wpAny_setField ho hd (by simp) ?_)
 have hit':(s.heap.update it (Obj.mapFields (·.setIfInBounds 1 (rawInt ((i:Int)+1))))).IsKeyIter it d (i+1) es.size ep:=⟨_,Heap.get?_update_self _ ho (Obj.isFreed_of_fields (Obj.data_mapFields hd _)),(Obj.cls_mapFields ..).trans hc,by rw [Obj.data_mapFields hd];simp [rawInt]⟩
 refine wpAny_bind (wpAny_holding ?_);refine wpAny_bind (wpAny_isOneOf_keyiter (s:={ s with heap:=s.heap.update it (Obj.mapFields (·.setIfInBounds 1 (rawInt ((i:Int)+1)))) }) hit'.typeIs ?_)
 show wpAny _ _ (pure e.key) _ _ _;exact wpAny_pure (wpAny_pure ⟨_,rfl,wpAny_pure (q _ hit' (Heap.SameBut.update ..))⟩)
theorem zlF {Q:Option Value→Shared→Prop} (hh:A.handled=none) (hit:s.heap.IsKeyIter it d i es.size ep) (m:zcn s.heap d es ep) (hx:es.size≤i)
  (q:∀ h',Heap.ExtBut it s.heap h'→Q none { s with heap:=h' }):wpAny (model prog w) A (pyNext (.ref it)) Q E s:=by
 obtain ⟨o,ho,hc,hd⟩:=id hit;obtain ⟨od,h1,h2,h3⟩:=m;have T:=hit.typeIs
 unfold pyNext;refine wpAny_bind (wpAny_attempt (wpAny_callSpecial?_slot (name:=Str.ofString "__next__") T F.slot_dict_keyiterator_next (wpAny_call_entry F.slot_dict_keyiterator_next T F.entry_dict_keyiterator_next ?_ (F.args_dict_keyiterator_next_1 _))))
 refine wpAny_bind (wpAny_pure (wpAny_bind (wpAny_bind ?_)));refine wpAny_bind (wpAny_typeNameOfWhole_keyiter T (wpAny_pure (wpAny_bind (wpAny_fieldsOf ho hd ?_))))
 simp only [show Builtin.Dict_items.ownsTuple "dict_keyiterator"=false from by decide,Bool.false_eq_true,if_false]
 show wpAny _ _ (if (Value.ref d == Value.none)=true then _ else _) _ _ s;rw [if_neg (show ¬ ((Value.ref d == Value.none)=true) from Bool.false_ne_true)]
 refine wpAny_bind (wpAny_pure (wpAny_bind (wpAny_dictEntries h1 h3 ?_)));rw [if_neg (by simp)];refine wpAny_bind (wpAny_pure (wpAny_bind (wpAny_dictEpoch h1 h3 ?_)));rw [if_neg (by simp)];refine wpAny_pure ?_
 simp only [show ¬ ((i:Int)<0) from by (first|lia|omega),if_false,Int.toNat_natCast,Array.getElem?_eq_none hx]
 refine wpAny_bind ?_;refine wpAny_bind (wpAny_typeNameOfWhole_keyiter T (wpAny_pure ?_));show wpAny _ _ (setField (.ref it) 0 .none >>= _) _ _ s;refine wpAny_bind (wpAny_setField ho hd (by simp) ?_)
 show wpAny _ _ (newExc (.type "StopIteration") [] >>= _) _ _ _;refine wpAny_bind ?_;simp only [newExc,newTuple];refine wpAny_bind (wpAny_newObj_type ?_ (by size_fits))
 refine wpAny_bind (m:=firstArgMember _ _) (wpAny_of_eq (a:=Value.none) (by first | rfl | (simp only [firstArgMember];rfl)) ?_);refine wpAny_newObj_type ?_ (by size_fits);simp only [raiseNew]
 refine wpAny_bind (wpAny_handled ?_);rw [show A.in1.handled=none from hh];refine wpAny_bind (wpAny_pure (wpAny_throw ?_))
 refine wpAny_bind (wpAny_isInstance (T:="StopIteration") (b:=true) ⟨_,Heap.get?_push_size _ rfl,rfl⟩ isSubtype_stop ?_);exact wpAny_pure (q _ (((Heap.SameBut.update ..).extBut.push _).push _))
theorem ziC (hh:A.handled=none) (I:Addr) (ne:d≠I):Walks prog w A I [I,d] [I] es.size (fun i v=>∃ e,es[i]?=some e∧v=e.key) (fun i h=>h.IsKeyIter I d i es.size ep∧zcn h d es ep) where
 sub:=fun b hb=>by simp at hb;simp [hb]
 frame:=fun _ _ _ st k=>⟨st.1.at fun o e=>k I (by simp) o e,st.2.at fun o e=>k d (by simp) o e⟩
 item:=fun i s Q E lt st q=>zkE st.1 st.2 (Array.getElem?_eq_getElem lt) fun h' it' sb=>q _ h' s.toks ⟨_,Array.getElem?_eq_getElem lt,rfl⟩ ⟨it',st.2.at fun o e=>sb.extBut d o ne e⟩ fun b o hb e=>sb.extBut b o (fun z=>hb (by simp [z])) e
 done:=fun s Q E st q=>zlF hh st.1 st.2 (Nat.le_refl _) fun h' eb=>q h' s.toks fun b o hb e=>eb b o (fun z=>hb (by simp [z])) e
 self:=fun _ _ _ _ st q=>wpAny_pyIter_keyiter st.1 q
theorem zij (lo:(d == sysModules)=false):PySem.W.KdlSrc prog w "dict" d d es.size (fun i v=>∃ e,es[i]?=some e∧v=e.key) (fun h=>zcn h d es ep) where
 type:=fun _ m=>m.ty
 there:=fun _ m=>⟨m.lt,m.lt⟩
 keep:=fun _ _ m k=>m.at fun o e=>k d (.inl rfl) o e
 notList:=by decide
 notTuple:=by decide
 hint:=fun _ _ _ _ m q=>PySem.W.kdl_hint_dict m.ty q
 iter:=fun _ _ hh m=>⟨_,_,(fun _ _ q=>zj3 lo m q),ziC hh _ (Nat.ne_of_lt m.lt),⟨⟨_,Heap.get?_push_size _ rfl,rfl,rfl⟩,m.at fun o e=>Heap.get?_push_of_some _ e⟩⟩
end
end L2
namespace L2
open PySem PySem.Spec PyProof.Rows
section
variable {prog:Program} {w:World} {A:Around} {E:Value→Shared→Prop} {s:Shared} {d it v:Addr} {es:Array DictEntry} {ep i:Nat} {ok ov:Value}
theorem zlc {Q:Value→Shared→Prop} (hv:s.heap.IsItemsView v d) (m:zcn s.heap d es ep)
  (q:Q (.ref s.heap.objs.size) { s with heap:=s.heap.push { cls:=.type "dict_itemiterator",data:=.fields #[.none,.bool false,.ref d,.int 0 0,.int es.size 0,.int ep 0,.none,.none] } }):wpAny (model prog w) A (pyIter (.ref v)) Q E s:=by
 obtain ⟨o2,h4,_,h5⟩:=id hv;obtain ⟨o,h1,h2,h3⟩:=m
 refine wpAny_pyIter_slot hv.typeIs F.slot_dict_items_iter (wpAny_call_entry F.slot_dict_items_iter hv.typeIs F.entry_dict_items_iter (wpAny_bind (wpAny_pure (wpAny_bind ?_))) (F.args_dict_items_iter_1 _));unfold Builtin.Dict_items.dictOf
 refine wpAny_bind (wpAny_field h4 h5 (x:=.ref d) rfl (wpAny_pure (wpAny_bind ?_)));unfold Builtin.Dict_items.newIterator;refine wpAny_bind (wpAny_dictEntries h1 h3 (wpAny_bind (wpAny_dictEpoch h1 h3 ?_)))
 simp only [show Builtin.Dict_items.ownsTuple "dict_itemiterator"=true from by decide,if_true]
 refine wpAny_newObj_type (wpAny_pure ⟨_,rfl,"dict_itemiterator",_,⟨_,Heap.get?_push_size _ rfl,rfl⟩,F.slot_dict_itemiterator_next.lookup,?_⟩) (by simp only [sizeOk,Builtin.Dict_items.ownedTupleFields,List.size_toArray,List.length_append,List.length_cons,List.length_nil,sizeLine_eq];(first|lia|omega))
 simpa [rawInt,Builtin.Dict_items.ownedTupleFields] using q
theorem zky {Q:Option Value→Shared→Prop} {e:DictEntry} (hit:IsItemIter s.heap it d i es.size ep ok ov) (m:zcn s.heap d es ep) (hx:es[i]?=some e)
  (q:∀ h',IsItemIterOut h' it d (i+1) es.size ep e.key e.val s.heap.objs.size→h'.get? s.heap.objs.size=some { cls:=.type "tuple",data:=.seq #[e.key,e.val] }→(∀ b o,b≠it→s.heap.get? b=some o→h'.get? b=some o)→Q (some (.ref s.heap.objs.size)) { s with heap:=h' }):wpAny (model prog w) A (pyNext (.ref it)) Q E s:=by
 obtain ⟨hp,g,dr,tk,os⟩:=s;obtain ⟨od,h1,h2,h3⟩:=m;have T:Shared.TypeIs ⟨hp,g,dr,tk,os⟩ (.ref it) "dict_itemiterator":=⟨_,hit,rfl⟩
 unfold pyNext;refine wpAny_bind (wpAny_attempt (wpAny_callSpecial?_slot (name:=Str.ofString "__next__") T F.slot_dict_itemiterator_next (wpAny_call_entry F.slot_dict_itemiterator_next T F.entry_dict_itemiterator_next ?_ (F.args_dict_itemiterator_next_1 _))))
 refine wpAny_bind (wpAny_pure (wpAny_bind (wpAny_bind ?_)));refine wpAny_bind (wpAny_typeNameOfWhole_itemiter T (wpAny_pure (wpAny_bind (wpAny_fieldsOf hit rfl ?_))))
 simp only [show Builtin.Dict_items.ownsTuple "dict_itemiterator"=true from by decide,if_true]
 show wpAny _ _ (if (Value.ref d == Value.none)=true then _ else _) _ _ _;rw [if_neg (show ¬ ((Value.ref d == Value.none)=true) from Bool.false_ne_true)]
 refine wpAny_bind (wpAny_pure (wpAny_bind (wpAny_dictEntries h1 h3 ?_)));rw [if_neg (by simp)];refine wpAny_bind (wpAny_pure (wpAny_bind (wpAny_dictEpoch h1 h3 ?_)));rw [if_neg (by simp)];refine wpAny_pure ?_
 simp only [show ¬ ((i:Int)<0) from by (first|lia|omega),if_false,Int.toNat_natCast,hx]
 refine wpAny_bind ?_;refine wpAny_bind (wpAny_typeNameOfWhole_itemiter T (wpAny_pure ?_));refine wpAny_bind (wpAny_isOneOf_itemiter T ?_);show wpAny _ _ (setField (.ref it) 3 (rawInt ((i:Int)+1)) >>= _) _ _ ⟨hp,g,dr,tk,os⟩
 refine wpAny_bind (wpAny_setField_rec hit (by simp) fun k1 e1 b1=>?_);replace b1:Heap.SameBut it hp k1:=b1
 replace e1:IsItemIter k1 it d (i+1) es.size ep ok ov:=by
  have z:((i+1:Nat):Int)=(i:Int)+1:=by (first|lia|omega)
  unfold IsItemIter;rw [z];simpa [rawInt] using e1
 have T1:Shared.TypeIs ⟨k1,g,dr,tk,os⟩ (.ref it) "dict_itemiterator":=⟨_,e1,rfl⟩
 refine wpAny_bind (wpAny_holding (wpAny_bind (wpAny_isOneOf_itemiter T1 (wpAny_bind (wpAny_isOneOf_itemiter T1 ?_)))));show wpAny _ _ (Builtin.Dict_items.pairFromOwner (.ref it) 6 e.key e.val) _ _ ⟨k1,g,dr,tk,os⟩;unfold Builtin.Dict_items.pairFromOwner;refine wpAny_bind (wpAny_newTuple ?_)
 have e2:IsItemIter (k1.push { cls:=.type "tuple",data:=.seq #[e.key,e.val] }) it d (i+1) es.size ep ok ov:=Heap.get?_push_of_some _ e1
 have z1:k1.objs.size=hp.objs.size:=b1.1
 have il:it<hp.objs.size:=Heap.lt_size hit
 have t2:(k1.push { cls:=.type "tuple",data:=.seq #[e.key,e.val] }).get? hp.objs.size=some { cls:=.type "tuple",data:=.seq #[e.key,e.val] }:=by rw [← z1];exact Heap.get?_push_size _ rfl
 have c2:∀ b o,b≠it→hp.get? b=some o→(k1.push { cls:=.type "tuple",data:=.seq #[e.key,e.val] }).get? b=some o:=fun b o hb z=>Heap.get?_push_of_some _ (b1.extBut b o hb z)
 generalize k1.push { cls:=.type "tuple",data:=.seq #[e.key,e.val] }=k2 at e2 t2 c2 ⊢
 show wpAny _ _ (Builtin.Dict_items.ownedTupleIsFree (.ref it) >>= _) _ _ ⟨k2,g,dr,tk,os⟩;rw [z1];clear e1 b1 T1 z1 k1
 refine wpAny_bind ?_;unfold Builtin.Dict_items.ownedTupleIsFree;refine wpAny_bind (wpAny_field e2 rfl (x:=.none) rfl (wpAny_pure ?_));simp only [if_true]
 refine wpAny_bind (wpAny_field e2 rfl (x:=ok) rfl (wpAny_bind (wpAny_field e2 rfl (x:=ov) rfl ?_)));refine wpAny_bind (wpAny_setField_rec e2 (by simp) fun k3 e3 b3=>?_);replace b3:Heap.SameBut it k2 k3:=b3
 replace e3:IsItemIter k3 it d (i+1) es.size ep e.key ov:=e3
 refine wpAny_bind (wpAny_setField_rec e3 (by simp) fun k4 e4 b4=>?_);replace b4:Heap.SameBut it k3 k4:=b4;replace e4:IsItemIter k4 it d (i+1) es.size ep e.key e.val:=e4
 refine wpAny_bind (wpAny_setField_rec e4 (by simp) fun k5 e5 b5=>?_);replace b5:Heap.SameBut it k4 k5:=b5;replace e5:IsItemIterOut k5 it d (i+1) es.size ep e.key e.val hp.objs.size:=e5
 refine wpAny_bind (wpAny_setField_rec e5 (by simp) fun k6 e6 b6=>?_);replace b6:Heap.SameBut it k5 k6:=b6;replace e6:IsItemIterOut k6 it d (i+1) es.size ep e.key e.val hp.objs.size:=e6
 have go:∀ b o,b≠it→k2.get? b=some o→k6.get? b=some o:=fun b o hb z=>b6.extBut b o hb (b5.extBut b o hb (b4.extBut b o hb (b3.extBut b o hb z)))
 exact wpAny_bind (wpAny_letGo (wpAny_pure (wpAny_pure ⟨_,rfl,wpAny_pure (q k6 e6 (go _ _ (Nat.ne_of_gt il) t2) fun b o hb z=>go b o hb (c2 b o hb z))⟩)))
theorem zlR {Q:Option Value→Shared→Prop} (hh:A.handled=none) (hit:IsItemIter s.heap it d i es.size ep ok ov) (m:zcn s.heap d es ep) (hx:es.size≤i)
  (q:∀ h',Heap.ExtBut it s.heap h'→Q none { s with heap:=h' }):wpAny (model prog w) A (pyNext (.ref it)) Q E s:=by
 obtain ⟨od,h1,h2,h3⟩:=m;have T:s.TypeIs (.ref it) "dict_itemiterator":=⟨_,hit,rfl⟩
 unfold pyNext;refine wpAny_bind (wpAny_attempt (wpAny_callSpecial?_slot (name:=Str.ofString "__next__") T F.slot_dict_itemiterator_next (wpAny_call_entry F.slot_dict_itemiterator_next T F.entry_dict_itemiterator_next ?_ (F.args_dict_itemiterator_next_1 _))))
 refine wpAny_bind (wpAny_pure (wpAny_bind (wpAny_bind ?_)));refine wpAny_bind (wpAny_typeNameOfWhole_itemiter T (wpAny_pure (wpAny_bind (wpAny_fieldsOf hit rfl ?_))))
 simp only [show Builtin.Dict_items.ownsTuple "dict_itemiterator"=true from by decide,if_true]
 show wpAny _ _ (if (Value.ref d == Value.none)=true then _ else _) _ _ s;rw [if_neg (show ¬ ((Value.ref d == Value.none)=true) from Bool.false_ne_true)]
 refine wpAny_bind (wpAny_pure (wpAny_bind (wpAny_dictEntries h1 h3 ?_)));rw [if_neg (by simp)];refine wpAny_bind (wpAny_pure (wpAny_bind (wpAny_dictEpoch h1 h3 ?_)));rw [if_neg (by simp)];refine wpAny_pure ?_
 simp only [show ¬ ((i:Int)<0) from by (first|lia|omega),if_false,Int.toNat_natCast,Array.getElem?_eq_none hx]
 refine wpAny_bind ?_;refine wpAny_bind (wpAny_typeNameOfWhole_itemiter T (wpAny_pure ?_));show wpAny _ _ (setField (.ref it) 2 .none >>= _) _ _ s;refine wpAny_bind (wpAny_setField hit rfl (by simp) ?_)
 show wpAny _ _ (newExc (.type "StopIteration") [] >>= _) _ _ _;refine wpAny_bind ?_;simp only [newExc,newTuple];refine wpAny_bind (wpAny_newObj_type ?_ (by size_fits))
 refine wpAny_bind (m:=firstArgMember _ _) (wpAny_of_eq (a:=Value.none) (by first | rfl | (simp only [firstArgMember];rfl)) ?_);refine wpAny_newObj_type ?_ (by size_fits);simp only [raiseNew]
 refine wpAny_bind (wpAny_handled ?_);rw [show A.in1.handled=none from hh];refine wpAny_bind (wpAny_pure (wpAny_throw ?_))
 refine wpAny_bind (wpAny_isInstance (T:="StopIteration") (b:=true) ⟨_,Heap.get?_push_size _ rfl,rfl⟩ isSubtype_stop ?_);exact wpAny_pure (q _ (((Heap.SameBut.update ..).extBut.push _).push _))
end
theorem zjN {α β:Type} {F:α→β→Prop}:∀ {l:List α} {m:List β} {i:Nat} {x:α},Paired F l m→l[i]?=some x→∃ y,m[i]?=some y∧F x y
 | _,_,_,_,.nil,e=>by simp at e
 | _,_,0,_,.cons r _,e=>by simp at e;subst e;exact ⟨_,rfl,r⟩
 | _,_,i+1,x,.cons _ t,e=>by
  obtain ⟨u,h1,h2⟩:=zjN (i:=i) (x:=x) t (by simpa using e)
  exact ⟨u,by simpa using h1,h2⟩
def ItV (v d:Addr):HO:=.ext fun h=>h.IsItemsView v d
def ziJ:V→List V→Hp→VK→Prop:=fun x vs H Q=>∃ d kvs,x=.ref d∧vs=[]∧H d=some (.dT kvs)∧∀ v,H v=none→Q (.ref v) (upd H v (ItV v d))
section
variable {X:Cx} {pins:List (Addr×Obj)} {σ:St} {H:Hp} {s:Shared} {d v:Addr} {kvs:List (List Key×V)}
theorem zli {P:Program} {w:World} {h:Heap} (ok:HOk P w H h) (e:H d=some (.dT kvs)):(d == sysModules)=false∧∃ xs es ep,KT H kvs xs∧zcn h d es ep∧es.toList=xs.map (entryOfKey (tupleKind (zaV P w))):=by
 obtain ⟨_,hd,xs,r,o,es,ep,h1,h2,h3,h4,_⟩:=znp ok e
 exact ⟨hd,xs,es,ep,r,⟨o,h1,h2,h3⟩,h4⟩
theorem zhH {P:Program} {w:World} {H:Hp} {h:Heap} {o:Obj} {φ:Heap→Prop} (a:Addr) (n:φ (h.push o)) (g:∃ o',(h.push o).get? a=some o') (k:∀ h1 h2:Heap,φ h1→(∀ o,h1.get? a=some o→h2.get? a=some o)→φ h2):zaP P w H (h.push o) a (.ext φ):=⟨n,g,k⟩
theorem zkR:MtR X "dict.items" ziJ:=by
 intro pins s σ H x xs u us Q I rx rs h
 obtain ⟨d,kvs,rfl,rfl,e,q⟩:=h
 cases rx
 have hus:=rs.zero
 subst hus
 obtain ⟨hd,xs,es,ep,r,m,_⟩:=zli I.hok e
 refine wpAny_call_entry F.slot_dict_items m.ty F.entry_dict_items (wpAny_bind ?_) (F.args_dict_items_1 _);unfold Builtin.Dict.noArgs
 refine wpAny_bind (wpAny_notOrdered_dict m.ty ?_);show wpAny _ _ (pure d) _ _ s;refine wpAny_pure ?_;show wpAny _ _ (Builtin.Dict.showsAll d >>= _) _ _ s;unfold Builtin.Dict.showsAll
 rw [if_neg (by rw [hd];exact Bool.false_ne_true)];refine wpAny_bind (wpAny_pure (wpAny_bind (wpAny_newObj_type (wpAny_pure ⟨_,rfl,?_⟩))))
 exact ⟨.ref s.heap.objs.size,_,I.laid (t':=s.toks) (o:=ItV s.heap.objs.size d) (fun b o z=>Heap.get?_push_of_some _ z) (Nat.le_refl _) (zhH _ ⟨_,Heap.get?_push_size _ rfl,rfl,rfl⟩ ⟨_,Heap.get?_push_size _ rfl⟩ fun h1 h2 ⟨o,a1,a2⟩ k=>⟨o,k o a1,a2⟩),rfl,q _ (I.hok.fresh (Nat.le_refl _))⟩
end
def Iti (d:Addr) (o:Obj) (kvs:List (List Key×V)):It :=
 ⟨fun i H=>(∃ p,kvs[i]?=some p)∧H d=some (.frz o (.dT kvs)),fun i H x H'=>∃ T c p,kvs[i]?=some p∧H T=none∧H c=some (.tup (p.1.map kV))∧x=.ref T∧H'=upd H T (.tup [.ref c,p.2]),fun i H=>kvs.length≤i∧H d=some (.frz o (.dT kvs))⟩
def zjh (F:Addr→Prop) (tv:TE):TI:=fun σ H R=>tv σ H fun x H1=>∃ v d kvs,x=.ref v∧H1 v=some (ItV v d)∧H1 d=some (.dT kvs)∧∀ o,F d→R (Iti d o kvs) (upd H1 d (.frz o (.dT kvs)))
def thawT (F:Addr→Prop) (D:zbY):zbY :=
 { nx:=fun σ H=>∃ a o kvs,F a∧H a=some (.frz o (.dT kvs))∧D.nx σ (upd H a (.dT kvs)),rt:=fun v H=>∃ a o kvs,F a∧H a=some (.frz o (.dT kvs))∧D.rt v (upd H a (.dT kvs)) }
def zlL (tv:TE) (g:TG) (tb:TS):TS:=fun D σ H=>∀ F:Addr→Prop,zdB (zjh F tv) g tb (thawT F D) σ H
theorem zid {F:Addr→Prop} {a:Addr} {o:Obj} {kvs:List (List Key×V)} {g:TG} {tb:TS} {D:zbY} {σ:St} {H:Hp} (hF:F a) (Pv:Nat→St→Hp→Prop) (h0:Pv 0 σ (upd H a (.frz o (.dT kvs)))) (hl:∀ i σ H,i≤kvs.length→Pv i σ H→H a=some (.frz o (.dT kvs)))
  (hs:∀ i p T c σ H,kvs[i]?=some p→Pv i σ H→H T=none→H c=some (.tup (p.1.map kV))→g (.ref T) σ (upd H T (.tup [.ref c,p.2])) fun σ2 H2=>tb { thawT F D with nx:=Pv (i+1),ct:=Pv (i+1),bk:=(thawT F D).nx } σ2 H2) (hd:∀ σ H,Pv kvs.length σ H→D.nx σ (upd H a (.dT kvs))):zh0 (Iti a o kvs) g tb (thawT F D) σ (upd H a (.frz o (.dT kvs))):=by
 refine ⟨fun i m σ H=>m=kvs.length - i∧i≤kvs.length∧Pv i σ H,⟨_,rfl,Nat.zero_le _,h0⟩,?_⟩
 rintro i m σ H ⟨rfl,hi,pv⟩
 have hx:=hl i σ H hi pv
 by_cases hlt:i<kvs.length
 ·refine .inr ⟨⟨⟨kvs[i],by simp [hlt]⟩,hx⟩,Pv (i+1),fun σ' H' p'=>⟨_,by (first|lia|omega),rfl,hlt,p'⟩,fun x H' yl=>?_⟩
  obtain ⟨T,c,p,hp,hT,hc,rfl,rfl⟩:=yl
  exact hs i p T c σ _ hp pv hT hc
 ·have e:i=kvs.length:=by (first|lia|omega)
  subst e
  exact .inl ⟨⟨Nat.le_refl _,hx⟩,a,o,kvs,hF,hx,hd σ H pv⟩
section
variable {X:Cx} {pins:List (Addr×Obj)} {σ:St} {H:Hp} {s:Shared} {a:Addr} {o:Obj} {kvs:List (List Key×V)}
theorem Inv.freezeT (I:Inv X pins σ H s) (e:H a=some (.dT kvs)) (ho:s.heap.get? a=some o):Inv X pins σ (upd H a (.frz o (.dT kvs))) s :=
 I.reword e (fun _ z=>nomatch z) (fun _ z=>nomatch z) (fun _ z=>nomatch z) (I.nofrz e fun _ _ z=>nomatch z) ⟨ho,I.hok a _ e⟩
theorem Inv.thawT (I:Inv X pins σ H s) (e:H a=some (.frz o (.dT kvs))) (hf:∀ o' u',X.H₀ a≠some (.frz o' u')):Inv X pins σ (upd H a (.dT kvs)) s :=
 I.reword e (fun _ z=>nomatch z) (fun _ z=>nomatch z) (fun _ z=>nomatch z) hf (show zaP X.prog X.w H s.heap a (.frz o (.dT kvs)) from I.hok a _ e).2
theorem ziI {P:Program} {w:World} {h:Heap} {es:Array DictEntry} {ep:Nat} (ok:HOk P w H h) (e:H a=some (.frz o (.dT kvs))) (ho:o.data=.dict es ep):zcn h a es ep∧∃ xs,KT H kvs xs∧es.toList=xs.map (entryOfKey (tupleKind (zaV P w))):=by
 obtain ⟨e1,_,_,xs,r,o',es',ep',e2,e3,e4,e5,_⟩:=(show zaP P w H h a (.frz o (.dT kvs)) from ok a _ e)
 rw [e1] at e2
 cases e2
 rw [ho] at e4
 cases e4
 exact ⟨⟨o,e1,e3,ho⟩,xs,r,e5⟩
theorem zhP {P:Program} {w:World} {K:PySem.W.Frag} {elts:List Expr} {k:Nat} {pos:Pos} (a it:Addr) (o:Obj) (kvs:List (List Key×V)) {es:Array DictEntry} {ep:Nat} (ho:o.data=.dict es ep) (na:a≠it):zmQ P w K (.Tuple elts k pos) (Iti a o kvs) [it] it (fun i h=>∃ ok ov,IsItemIter h it a i es.size ep ok ov) where
 mem:=by simp
 obj:=fun i h st b hb=>by
  have e:b=it:=by simpa using hb
  subst e
  obtain ⟨ok,ov,e⟩:=st
  exact ⟨_,e,fun v z=>nomatch z⟩
 keep:=fun i h h' st k=>by
  obtain ⟨ok,ov,e⟩:=st
  exact ⟨ok,ov,k it (by simp) _ e⟩
 item:=by
  intro X hP hw hK hc i pins s σ H E I hf st hg
  subst hP hw hK
  obtain ⟨⟨p,hx⟩,hq⟩:=hg
  obtain ⟨ok,ov,st⟩:=st
  obtain ⟨m,xs,r,he⟩:=ziI I.hok hq ho
  obtain ⟨f0,f1,f2,f3,f4,f5⟩:=hf it (by simp)
  obtain ⟨x,ex,r1,r2,r3⟩:=zjN r hx
  have hent:es[i]?=some (entryOfKey (tupleKind (zaV X.prog X.w)) x):=by rw [← Array.getElem?_toList,he,List.getElem?_map,ex];rfl
  refine zky st m hent fun h' st' tu kk=>⟨_,rfl,?_⟩
  refine wpAny_letOwnedTupleGo_items st' fun h2 st2 sb=>?_
  have kk2:∀ b o,b≠it→s.heap.get? b=some o→h2.get? b=some o:=fun b o hb z=>sb.extBut b o hb (kk b o hb z)
  have I1:Inv X pins σ H { s with heap:=h2 }:=I.turned (t':=s.toks) kk2 f0 f1 f3 f4 f5
  have il:it<s.heap.objs.size:=Heap.lt_size st
  have nT:H s.heap.objs.size=none:=I.hok.fresh (Nat.le_refl _)
  have I2:=I1.track (a:=s.heap.objs.size) (o:=.tup [.ref x.2.1,p.2]) nT (Heap.get?_none_of_le I.sz) (Nat.ne_of_gt I.lt) (fun y c z=>by
   obtain ⟨v,q⟩:=I.cell y c z
   exact Nat.ne_of_lt q.lt) (fun p hp=>Nat.ne_of_lt (Heap.lt_size (I.pin p hp).1)) ⟨by show 2≤sizeLine;decide,[.ref x.2.1,x.2.2],.cons rfl (.cons r3 .nil),_,sb.extBut _ _ (Nat.ne_of_gt il) tu,rfl,_,rfl⟩
  exact ⟨.ref s.heap.objs.size,_,I2,rfl,⟨s.heap.objs.size,x.2.1,p,hx,nT,r2,rfl,rfl⟩,⟨_,_,st2⟩,fun b hb=>by
   have e:b=it:=by simpa using hb
   subst e
   rw [zaj (Nat.ne_of_lt il)]
   exact f0⟩
 done:=by
  intro X hP hw hK hc i pins s σ H E I hf st hg
  subst hP hw hK
  obtain ⟨hx,hq⟩:=hg
  obtain ⟨ok,ov,st⟩:=st
  obtain ⟨m,xs,r,he⟩:=ziI I.hok hq ho
  obtain ⟨f0,f1,f2,f3,f4,f5⟩:=hf it (by simp)
  have hl:es.size=kvs.length:=by rw [← Array.length_toList,he,List.length_map,Paired.length r]
  exact zlR (I.ok.hd hc) st m (by rw [hl];exact hx) fun h' eb=>⟨rfl,I.turned (t':=s.toks) (fun b o hb e=>eb b o hb e) f0 f1 f3 f4 f5⟩
 self:=fun _ _ _ _ _ ⟨_,_,st⟩ h=>PySem.W.kcp_self st h
theorem zku {elts:List Expr} {k:Nat} {pos:Pos} {l:Expr} {tv:TE} (hl:PE X l tv):PI X (.Tuple elts k pos) l (zjh (fun a=>∀ o' u',X.H₀ a≠some (.frz o' u')) tv):=by
 intro pins s σ H R I h
 refine thn (hl pins s σ H _ I h) fun v s1 hQ'=>?_
 obtain ⟨x,H1,I1,r1,q1⟩:=hQ'
 obtain ⟨v,a,kvs,e,hv,ha,q⟩:=q1
 subst e
 cases r1
 obtain ⟨hd,xs,es,ep,rel,m,he⟩:=zli I1.hok ha
 have vv:s1.heap.IsItemsView v a:=(show zaP X.prog X.w H1 s1.heap v (ItV v a) from I1.hok v _ hv).1
 refine zlc vv m ?_
 obtain ⟨o,ho,hxd,hdat⟩:=m
 have lt:a<s1.heap.objs.size:=Heap.lt_size ho
 have I2:Inv X pins σ H1 { s1 with heap:=s1.heap.push { cls:=.type "dict_itemiterator",data:=.fields #[.none,.bool false,.ref a,.int 0 0,.int es.size 0,.int ep 0,.none,.none] } }:=I1.kept (t':=s1.toks) fun b o e=>Heap.get?_push_of_some _ e
 have I3:=I2.freezeT ha (Heap.get?_push_of_some _ ho)
 refine ⟨s1.heap.objs.size,[s1.heap.objs.size],_,_,_,rfl,I3,zhP a _ o kvs hdat (Nat.ne_of_lt lt),⟨_,_,Heap.get?_push_size _ rfl⟩,fun b hb=>?_,q o (I1.nofrz ha fun _ _ z=>nomatch z)⟩
 have e:b=s1.heap.objs.size:=by simpa using hb
 subst e
 exact I1.fpOk (Nat.le_refl _) (by rw [zaj (Nat.ne_of_gt lt)];exact I1.hok.fresh (Nat.le_refl _))
theorem zl9 {elts:List Expr} {k:Nat} {tpos:Pos} {l:Expr} {body:List Stmt} {tv:TE} {g:TG} {tb:TS} {pos:Pos} (hp:PassesOwn (model X.prog X.w) X.A X.env X.xe) (hc:X.calm=true) (hl:PE X l tv) (hg:PG X (.Tuple elts k tpos) g) (hb:PSs X body tb)
  (hs:∀ x,foldedSetIterable l X.env x=pure x:=by intro _;rfl):PS X (.For (.Tuple elts k tpos) l body [] pos) (zlL tv g tb):=by
 intro pins s σ H D I h
 refine thn (zbU hp hc (zku hl) hg hb hs pins s σ H _ I (h _)) fun f s' q=>?_
 cases f with
 | next=>obtain ⟨σ',H',I',a,o,kvs,hF,e,q⟩:=q;exact ⟨σ',_,I'.thawT e hF,q⟩
 | brk=>obtain ⟨σ',H',I',q⟩:=q;exact q.elim
 | cont=>obtain ⟨σ',H',I',q⟩:=q;exact q.elim
 | ret u=>obtain ⟨v,σ',H',I',r,a,o,kvs,hF,e,q⟩:=q;exact ⟨v,σ',_,I'.thawT e hF,r,q⟩
end
end L2
namespace L2
open PySem PySem.Spec PyProof.Rows
theorem zji {prog:Program} {w:World} {A:Around} {E:Value→Shared→Prop} {s:Shared} {a:Addr} {xs:Array Value} {k:Nat} {Q:Option Value→Shared→Prop} (hx:s.heap.get? a=some { cls:=.type "list",data:=.seq xs k }) (hA:A.handled=none)
  (q:∀ h' tk,(∀ b o,s.heap.get? b=some o→h'.get? b=some o)→Q none { s with heap:=h',toks:=tk }):wpAny (model prog w) A (getAttr? (.ref a) "keys") Q E s:=by
 obtain ⟨hp,g,d,tk,os⟩:=s
 have hT:∀ tk',(⟨hp,g,d,tk',os⟩:Shared).TypeIs (.ref a) "list":=fun _=>⟨_,hx,rfl⟩
 have f1:=sub_AttributeError;have f3:=F.slot_list_getattribute.lookup;have f4:=F.slot_list_getattribute.bind (.ref a);have f5:=am_list_getattr_none
 have f6:typeLookup (.type "list") "keys"=pure none:=by rw [typeLookup_type,builtinLookup_eq_fast];kernel_rfl
 unfold getAttr? getAttrBy? getAttrBy
 repeat (any_goals (first | assumption | exact hT _ | ((with_reducible show wpAny _ _ (call (Value.builtin "list.__getattribute__") _ _) _ _ _);refine call_meets F.slot_list_getattribute (hT _) am_entry_list_getattribute (F.args_list_getattribute_2 _ _) (meets_getattribute_miss_list a xs k #[] "keys" _ f6 (by decide) (by size_fits)) ⟨hx,hA,fun h' tk' e hx'=>?_⟩) | wp_step))
 obtain ⟨t',u',he⟩:=hx'.there;show wpAny _ _ (getattributeRaised _ _ _ _ _ _ _) _ _ _;unfold getattributeRaised
 repeat (any_goals (first | assumption | wp_step))
 exact q _ _ hx'.keeps
theorem zd8:plainId "dict.update.loop"=true:=by decide +kernel
theorem zhm:entryFor table "dict.update.loop"=some Builtin.«dict.update.loop»:=entryFor_of_tree (by kernel_rfl)
abbrev Prs:=List (Std×Addr×V)
def zeV (kvs:Prs) (ps:Prs):Prs:=ps.foldl (fun acc p=>zek acc p.1 p.2.1 p.2.2) kvs
structure PrH (K:PySem.W.Frag) (H:Hp) (ts:List Addr) (ps:Prs):Prop where
 len:ts.length=ps.length
 at':∀ (j:Nat) t p,ts[j]?=some t→ps[j]?=some p→H t=some (.tup [.ref p.2.1,p.2.2])∧StH K H p.1 p.2.1
theorem PrH.mono {K:PySem.W.Frag} {H H':Hp} {ts:List Addr} {ps:Prs} (h:PrH K H ts ps) (ht:∀ b ys,H b=some (.tup ys)→H' b=some (.tup ys)):PrH K H' ts ps:=⟨h.len,fun j t p e1 e2=>⟨ht _ _ (h.at' j t p e1 e2).1,(h.at' j t p e1 e2).2.same ht⟩⟩
theorem DS.put {K:PySem.W.Frag} {H:Hp} {a c:Addr} {kvs:Prs} {k:Std} {v:V} (d:DS K H a kvs) (hk:StH K H k c):DS K (upd H a (dSO a (zek kvs k c v))) a (zek kvs k c v):=by
 have ht:∀ b ys,H b=some (.tup ys)→upd H a (dSO a (zek kvs k c v)) b=some (.tup ys):=fun b ys e=>by rw [zaj (zbZ e d.h (fun z=>nomatch z))];exact e
 refine ⟨zad,fun x hx=>?_⟩
 rcases zk3 hx with ⟨y,hy,e1,e2⟩ | ⟨e1,e2⟩
 ·rw [← e1,← e2];exact (d.ks y hy).same ht
 ·rw [e1,e2];exact hk.same ht
section
variable {X:Cx} {pins:List (Addr×Obj)} {σ:St} {H:Hp} {s:Shared} {d I l:Addr} {ts:List Addr} {ps kvs:Prs} {A:Around} {E:Value→Shared→Prop}
theorem zi5 {k:Std} {c:Addr} {v:V} {r:Value} {Q:Unit→Shared→Prop} (hu:A.units+1<cLine) (J:Inv X pins σ H s) (dd:DS X.K H d kvs) (hk:StH X.K H k c) (hl:kvs.length<sizeLine) (rv:za9 v r)
  (q:∀ h' tk,Inv X pins σ (upd H d (dSO d (zek kvs k c v))) { s with heap:=h',toks:=tk }→Heap.SameBut d s.heap h'→Q () { s with heap:=h',toks:=tk }):wpAny (model X.prog X.w) A (dictSet d (.ref c) r) Q E s:=by
 obtain ⟨z,hd,xs,rel,m⟩:=dd.of J
 have hz:xs.length≤sizeLine:=by rw [← Paired.length rel];exact z
 refine wpAny_dictSet_heap (knd:=zdD X.prog X.w) (hsz:=hz) hu (hk.is J) m fun h' m' hs=>q h' _ ?_ hs
 obtain ⟨o,es,ep,hq,h2,h3,h4,_,h5⟩:=m'
 exact zed J (by rw [dd.h];exact True.intro) hs ⟨o,hq⟩ (zhB ⟨by have:=zfD kvs k c v;(first|lia|omega),hd,_,rel.put k c rv,o,es,ep,hq,h2,h3,h4,h5⟩)
theorem zkC {R:Result→Shared→Prop} {res:Value} (hh:A.handled=none) (hu:A.units+2<cLine):∀ (n i:Nat) (s:Shared) (H:Hp) (kvs:Prs),ts.length - i=n→Inv X pins σ H s→zhN X pins H I→s.heap.IsListIter I l i→H l=some (.lst (ts.map V.ref))→PrH X.K H ts ps→DS X.K H d kvs→kvs.length+n<sizeLine →
  (∀ s',Inv X pins σ (upd H d (dSO d (zeV kvs (ps.drop i)))) s'→R (.ok (.ret res)) s')→codeAny (model X.prog X.w) A (.builtin "dict.update.loop" ⟨[.ref d,.ref I,rawInt i,res],[]⟩) R s:=by
 intro n
 induction n with
 | zero =>
  intro i s H kvs hn J f st hl hp dd hz q
  obtain ⟨its,rv,p,_⟩:=J.list (SqL.of hl)
  obtain ⟨f0,f1,f2,f3,f4,f5⟩:=f
  have e0:ps.drop i=[]:=List.drop_eq_nil_of_le (by rw [← hp.len];(first|lia|omega))
  refine codeAny_builtin zhm ?_;rw [Around.under_plainId zd8 _];show wpAny _ A.in1 (pyNext (.ref I) >>= _) _ _ s
  refine wpAny_bind (wpAny_pyNext_list_end (A:=A.in1) hh st p.isList (by have:=rv.length;rw [List.length_map] at this;simp;(first|lia|omega)) fun h' eb=>?_)
  have J1:Inv X pins σ H { s with heap:=h' }:=J.turned (t':=s.toks) (fun b o hb e=>eb b o hb e) f0 f1 f3 f4 f5
  refine wpAny_bind (wpAny_pure (wpAny_pure (q _ ?_)))
  rw [e0]
  have:upd H d (dSO d (zeV kvs []))=H:=by funext b;unfold upd;split;(rename_i z;rw [z];exact dd.h.symm);rfl
  rw [this]
  exact J1
 | succ n ih =>
  intro i s H kvs hn J f st hl hp dd hz q
  obtain ⟨its,rv,p,_⟩:=J.list (SqL.of hl)
  have f':=f
  obtain ⟨f0,f1,f2,f3,f4,f5⟩:=f
  have li:i<ts.length:=by (first|lia|omega)
  have lp:i<ps.length:=by rw [← hp.len];exact li
  obtain ⟨u,hu1,ru⟩:=rv.get (i:=i) (x:=.ref ts[i]) (by rw [List.getElem?_map,List.getElem?_eq_getElem li];rfl)
  cases ru
  obtain ⟨ht,hk⟩:=hp.at' i _ _ (List.getElem?_eq_getElem li) (List.getElem?_eq_getElem lp)
  refine codeAny_builtin zhm ?_;rw [Around.under_plainId zd8 _];show wpAny _ A.in1 (pyNext (.ref I) >>= _) _ _ s
  refine wpAny_bind (wpAny_pyNext_list_item st p.isList (by simpa using hu1) fun h' st' sb=>?_)
  have J1:Inv X pins σ H { s with heap:=h' }:=J.turned (t':=s.toks) (fun b o hb e=>(sb.2 b hb).trans e) f0 f1 f3 f4 f5
  obtain ⟨_,it2,rt,o,g1,g2,m3,g3⟩:=(show zaP X.prog X.w H h' ts[i] (.tup [.ref ps[i].2.1,ps[i].2.2]) from J1.hok _ _ ht)
  obtain ⟨u1,u2,rfl,r1,r2⟩:∃ u1 u2,it2=[u1,u2]∧za9 (.ref ps[i].2.1) u1∧za9 ps[i].2.2 u2:=by
   cases rt with
   | cons a1 t1 =>
    cases t1 with
    | cons a2 t2=>cases t2;exact ⟨_,_,rfl,a1,a2⟩
  cases r1
  refine wpAny_bind (wpAny_holding (wpAny_bind (wpAny_tryCatch ?_)));unfold Builtin.Dict.pairItems
  refine wpAny_bind (wpAny_typeOf (T:="tuple") ⟨o,g1,g2⟩ ?_)
  rw [if_pos (by decide)]
  refine wpAny_bind ?_;unfold seqItems?
  refine wpAny_bind (wpAny_load g1 ?_);rw [g3]
  refine wpAny_pure (wpAny_pure ?_)
  refine wpAny_holding (zi5 (by show A.units+1+1<cLine;(first|lia|omega)) J1 dd hk (by (first|lia|omega)) r2 fun h2 tk J2 hs2=>wpAny_pure ⟨plainId_quiet zd8 _,?_⟩)
  have ht2:∀ b ys,H b=some (.tup ys)→upd H d (dSO d (zek kvs ps[i].1 ps[i].2.1 ps[i].2.2)) b=some (.tup ys):=fun b ys e=>by rw [zaj (zbZ e dd.h (fun z=>nomatch z))];exact e
  have nI:I≠d:=fun z=>by rw [z,dd.h] at f0;cases f0
  have nl:l≠d:=zbZ hl dd.h (fun z=>nomatch z)
  have ei:rawInt ((i:Int)+1)=rawInt ((i+1:Nat):Int):=by congr 1
  rw [ei]
  refine ih (i+1) _ _ _ (by (first|lia|omega)) J2 ⟨by rw [zaj nI];exact f0,f1,f2,f3,f4,f5⟩ (st'.at fun o e=>(hs2.2 I nI).trans e) (by rw [zaj nl];exact hl) (hp.mono ht2) (dd.put hk) (by have:=zfD kvs ps[i].1 ps[i].2.1 ps[i].2.2;(first|lia|omega)) fun s' J'=>q s' ?_
  rw [zgz] at J'
  rw [List.drop_eq_getElem_cons lp]
  exact J'
theorem zkc {R:Result→Shared→Prop} {res:Value} {id:String} (hh:A.handled=none) (hu:A.units+2<cLine) (J:Inv X pins σ H s) (hl:H l=some (.lst (ts.map V.ref))) (hp:PrH X.K H ts ps) (dd:DS X.K H d kvs) (hz:kvs.length+ts.length<sizeLine)
  (q:∀ s',Inv X pins σ (upd H d (dSO d (zeV kvs ps))) s'→R (.ok (.ret res)) s') :
  wpAny (model X.prog X.w) A.in1 (Builtin.Dict.updateFrom id d (.ref l) [] res) (fun fin s'=>match fin with | .done f=>R (.ok f) s' | .again c'=>c'.quiet=true∧codeAny (model X.prog X.w) A c' R s') (fun e s'=>R (.error e) s') s:=by
 obtain ⟨_,its,n,rv,e⟩:=(show zaP X.prog X.w H s.heap l (.lst (ts.map V.ref)) from J.hok _ _ hl)
 unfold Builtin.Dict.updateFrom
 refine wpAny_bind (wpAny_typeOf (T:="list") ⟨_,e,rfl⟩ ?_)
 rw [if_pos (by decide)]
 refine wpAny_bind (zji e (show A.in1.handled=none from hh) fun h1 tk kp=>?_)
 rw [if_pos (show (none:Option Value).isNone=true from rfl)]
 have J1:Inv X pins σ H { s with heap:=h1,toks:=tk }:=J.kept (t':=tk) kp
 obtain ⟨its2,rv2,p2,_⟩:=J1.list (SqL.of hl)
 refine wpAny_bind (wpAny_rule (wpAny_bind (wpAny_pyIter_list p2.isList (wpAny_pure ⟨plainId_quiet zd8 _,?_⟩))))
 have J2:Inv X pins σ H { s with heap:=h1.push { cls:=.type "list_iterator",data:=.fields #[.ref l,.int 0 0] },toks:=tk }:=J1.kept (t':=tk) fun b o z=>Heap.get?_push_of_some _ z
 refine zkC (I:=h1.objs.size) (l:=l) hh hu _ 0 _ H kvs rfl J2 (J1.fpOk (Nat.le_refl _) (J1.hok.fresh (Nat.le_refl _))) ⟨_,Heap.get?_push_size _ rfl,rfl,rfl⟩ hl hp dd hz q
end
def zhk (K:PySem.W.Frag):List V→Hp→VK→Prop:=fun xs H Q=>∃ (l:Addr) (ts:List Addr) (ps:Prs),xs=[.ref l]∧H l=some (.lst (ts.map V.ref))∧PrH K H ts ps∧ts.length<sizeLine∧∀ d,H d=none→Q (.ref d) (upd H d (dSO d (zeV [] ps)))
section
variable {X:Cx}
theorem zhU (hu:X.A.units+64<cLine) (hc:X.calm=true):zdv X (.type "dict") (zhk X.K):=by
 intro pins s σ H xs us Q I r h
 obtain ⟨l,ts,ps,rfl,hl,hp,hz,q⟩:=h
 obtain ⟨u,rfl,rx⟩:=zeK r
 cases rx
 refine callType_codes (Q₁:=fun obj s₁=>obj=.ref s.heap.objs.size∧s₁={ s with heap:=s.heap.push { cls:=.type "dict",data:=.dict #[] } }) F.kt_called_dict (F.kt_typeCall_dict_1 _) F.entry_dict_init (kt_code_dict_new _ ⟨rfl,rfl⟩) ?_
 rintro obj s₁ ⟨rfl,rfl⟩
 have hn:=I.hok.fresh (Nat.le_refl s.heap.objs.size)
 have J:Inv X pins σ (upd H s.heap.objs.size (dSO s.heap.objs.size [])) { s with heap:=s.heap.push { cls:=.type "dict",data:=.dict #[] } }:=I.laid (t':=s.toks) (fun b o z=>Heap.get?_push_of_some _ z) (Nat.le_refl _) (zhB ⟨Nat.zero_le _,beq_eq_false_iff_ne.mpr (Ne.symm (Nat.ne_of_lt I.big)),[],.nil,_,#[],0,Heap.get?_push_size _ rfl,⟨rfl,rfl,rfl⟩,rfl,rfl,List.nodup_nil⟩)
 have T:Shared.TypeIs { s with heap:=s.heap.push { cls:=.type "dict",data:=.dict #[] } } (.ref s.heap.objs.size) "dict":=⟨_,Heap.get?_push_size _ rfl,rfl⟩
 have nl:∀ b o,H b=some o→b≠s.heap.objs.size:=fun b o e=>zap e hn
 refine ⟨T,F.args_dict_init_2 _ _,wpAny_bind ?_⟩;unfold Builtin.Dict.selfAndRest
 refine wpAny_bind (wpAny_notOrdered_dict T ?_);show wpAny _ _ (pure (s.heap.objs.size,[Value.ref l])) _ _ _;refine wpAny_pure ?_
 show wpAny _ X.A.in1.in1 (Builtin.Dict.updateFrom "dict.__init__" s.heap.objs.size (.ref l) [] .none) _ _ _
 refine zkc (A:=X.A.in1) (kvs:=[]) (I.ok.hd hc) (by show X.A.units+1+2<cLine;(first|lia|omega)) J (by rw [zaj (nl _ _ hl)];exact hl) (hp.mono fun b ys e=>by rw [zaj (nl _ _ e)];exact e) ⟨zad,fun x hx=>nomatch hx⟩ (by simpa using hz) fun s' J'=>?_
 rw [zgz] at J'
 exact ⟨rfl,.ref s.heap.objs.size,_,J',rfl,q _ hn⟩
end
end L2
namespace L2
open PySem PySem.Spec PyProof.Rows
inductive TL (prog:Program) (w:World) (A:Around) (s:Shared):List (Value×Value)→Bool→Bool→Prop
 | nil {c:Bool}:TL prog w A s [] c c
 | eq {x y:Value} {r:List (Value×Value)} {c b:Bool} (h:∀ (E:Value→Shared→Prop) (Q:Bool→Shared→Prop),Q true s→wpAny (model prog w) A (eqBool x y) Q E s) (t:TL prog w A s r c b):TL prog w A s ((x,y)::r) c b
 | ne {x y:Value} {r:List (Value×Value)} {c b:Bool} (h:∀ (E:Value→Shared→Prop) (Q:Bool→Shared→Prop),Q false s→wpAny (model prog w) A (eqBool x y) Q E s)
   (q:∀ (E:Value→Shared→Prop) (Q:Value→Shared→Prop),Q (.bool b) s→wpAny (model prog w) A (richCompare .Lt x y) Q E s):TL prog w A s ((x,y)::r) c b
section
variable {prog:Program} {w:World} {A:Around} {E:Value→Shared→Prop} {s:Shared}
theorem zmu {R:Fin→Shared→Prop} {body:Value×Value→Option Fin×Unit→Sem (ForInStep (Option Fin×Unit))} {k:Option Fin×Unit→Sem Fin} {c b:Bool}
  (hb:∀ x y (R':ForInStep (Option Fin×Unit)→Shared→Prop),wpAny (model prog w) A (eqBool x y) (fun e s'=>if e=true then R' (.yield (none,())) s' else wpAny (model prog w) A (richCompare .Lt x y) (fun v s''=>R' (.done (some (.done (.ret v)),())) s'') E s') E s→wpAny (model prog w) A (body (x,y) (none,())) R' E s)
  (hk:R (.done (.ret (.bool b))) s) (kn:c=b→wpAny (model prog w) A (k (none,())) R E s) (kd:∀ v,R v s→wpAny (model prog w) A (k (some v,())) R E s) :
  ∀ (zs:List (Value×Value)),TL prog w A s zs c b→wpAny (model prog w) A (forIn zs (none,()) body >>= k) R E s:=by
 intro zs t
 refine wpAny_bind ?_
 induction t with
 | nil=>rw [List.forIn_nil];exact wpAny_pure (kn rfl)
 | eq h t ih =>
  rw [List.forIn_cons]
  refine wpAny_bind (hb _ _ _ (h _ _ ?_))
  rw [if_pos rfl]
  exact ih hk kn
 | ne h q =>
  rw [List.forIn_cons]
  refine wpAny_bind (hb _ _ _ (h _ _ ?_))
  rw [if_neg Bool.false_ne_true]
  exact q _ _ (wpAny_pure (kd _ hk))
theorem znR {l m:Addr} {xs ys:Array Value} {b:Bool} {Q:Value→Shared→Prop} (hl:s.heap.IsTuple l xs) (hm:s.heap.IsTuple m ys) (hu:A.units<cLine) (t:TL prog w A.in1 s (xs.toList.zip ys.toList) (decide (xs.size<ys.size)) b) (q:Q (.bool b) s):wpAny (model prog w) A (richCompare .Lt (.ref l) (.ref m)) Q E s:=by
 obtain ⟨o,h1,h2,n,h3⟩:=hl
 obtain ⟨o',g1,g2,n',g3⟩:=hm
 refine wpAny_richCompare_same_room ⟨o,h1,h2⟩ ⟨o',g1,g2⟩ F.slot_tuple_lt (wpAny_call_entry F.slot_tuple_lt ⟨o,h1,h2⟩ F.entry_tuple_lt ?_ (F.args_tuple_lt_2 _ _)) hu
 show wpAny _ _ (isInstance (.ref m) (.type "tuple") >>= _) _ _ s
 refine wpAny_bind (wpAny_isInstance (T:="tuple") ⟨o',g1,g2⟩ AutoSeq1.sub_tuple_tuple ?_)
 simp only [Bool.not_true,Bool.false_eq_true,if_false]
 refine wpAny_bind (wpAny_tupleItemsOf h1 h3 (wpAny_bind (wpAny_tupleItemsOf g1 g3 ?_)))
 refine zmu (b:=b) (c:=decide (xs.size<ys.size)) (fun x y R' h=>?_) ⟨_,rfl,(fun z=>nomatch z),q⟩ (fun e=>wpAny_pure ⟨.bool b,?_,(fun z=>nomatch z),q⟩) (fun v h=>wpAny_pure h) _ t
 ·refine wpAny_bind (wpAny_mono h (fun e s' he=>?_) fun _ _ z=>z)
  cases e with
  | true=>simp only [if_true,Bool.not_true,Bool.false_eq_true,if_false] at he ⊢;exact wpAny_pure he
  | false =>
   simp only [if_true,Bool.not_false,Bool.false_eq_true,if_false] at he ⊢
   exact wpAny_bind (wpAny_rule (wpAny_bind (wpAny_mono he (fun v s'' hv=>wpAny_bind (wpAny_pure (wpAny_pure hv))) fun _ _ z=>z)))
 ·rw [← e];rfl
def zhL:List Int→List Int→Bool
 | [],[]=>false
 | [],_::_=>true
 | _::_,[]=>false
 | x::xs,y::ys=>if x=y then zhL xs ys else decide (x<y)
theorem ziN:∀ {ks ls:List Int} {us vs:List Value},ItemsAre (intKind prog w) ks us→ItemsAre (intKind prog w) ls vs→TL prog w A s (us.zip vs) (decide (us.length<vs.length)) (zhL ks ls)
 | [],[],_,_,.nil,.nil=>.nil
 | [],_::_,_,_,.nil,.cons _ _=>.nil
 | _::_,[],_,_,.cons _ _,.nil=>.nil
 | k::ks,l::ls,_,_,.cons a as,.cons b bs=>by
  rename_i u us v vs
  obtain ⟨t,rfl⟩:∃ t,u=.int k t:=by cases u <;> simp_all [intKind,Value.isInt]
  obtain ⟨t',rfl⟩:∃ t,v=.int l t:=by cases v <;> simp_all [intKind,Value.isInt]
  unfold zhL
  have e:decide ((Value.int k t::us).length<(Value.int l t'::vs).length)=decide (us.length<vs.length):=by simp
  rw [List.zip_cons_cons,e]
  by_cases c:k=l
  ·rw [if_pos c]
   exact .eq (fun E Q q=>wpAny_eqBool_int (by simpa [c] using q)) (ziN as bs)
  ·rw [if_neg c]
   exact .ne (fun E Q q=>wpAny_eqBool_int (by rw [beq_eq_false_iff_ne.mpr c];exact q)) fun E Q q=>wpAny_lt_int q
theorem zm5 {ks ls:List Int} {b c:Addr} {Q:Value→Shared→Prop} (hb:IsTupleKey (intKind prog w) s.heap ks b) (hc:IsTupleKey (intKind prog w) s.heap ls c) (hu:A.units<cLine) (q:Q (.bool (zhL ks ls)) s):wpAny (model prog w) A (richCompare .Lt (.ref b) (.ref c)) Q E s:=by
 obtain ⟨o,xs,n,h1,h2,h3,h4⟩:=hb
 obtain ⟨o',ys,n',g1,g2,g3,g4⟩:=hc
 exact znR ⟨o,h1,h2,n,h3⟩ ⟨o',g1,g2,n',g3⟩ hu (by simpa using ziN h4 g4) q
end
end L2
namespace L2.Srt
open PySem PyProof.Rows PySem.W
section
variable {prog:Program} {w:World} {A:Around} {E:Value→Shared→Prop} {s:Shared}
def Kp (s:Shared) (a:Addr) (h':Heap):Prop:=∀ b o,b≠a→s.heap.get? b=some o→h'.get? b=some o
theorem rg_id (n:Nat):Rg n (List.toArray (List.range n)):=.refl _
theorem list_sort_core {a:Addr} {us:List Value} {n:Nat} {κ:SortKind} {Rk:Nat→Int} {P:PySem.Fin→Shared→Prop} (ho:s.heap.get? a=some (seqObj "list" us.toArray n)) (h64:us.length<sizeLine)
  (hkind:∀ h',Kp s a h'→∀ (Q:SortKind→Shared→Prop),2≤us.length→Q κ { s with heap:=h' }→wpAny (model prog w) A (keyKind' us.toArray) Q E { s with heap:=h' })
  (hrun:∀ h',Kp s a h'→2≤us.length→wpAny (model prog w) A (StateT.run sortRuns' (SortSt.mk' κ (us.toArray.zip us.toArray) #[] 7 none)) (fun r s'=>s'={ s with heap:=h' }∧failedOf r.2=none∧∃ p:Array Nat,arrOf r.2=p.map (kas_item (us.toArray.zip us.toArray))∧Rg us.length p∧So Rk p us.length) E { s with heap:=h' })
  (h:∀ p:Array Nat,Rg us.length p→So Rk p us.length→P (.done (.ret .none)) { s with heap:=sortedHeap s.heap a us (p.toList.map fun i=>us.getD i Value.none).toArray }) :
  wpAny (model prog w) A (Builtin.«list.sort» ⟨[.ref a],[]⟩) P E s:=by
 rw [list_sort_plain]
 have ha:a<s.heap.objs.size:=Heap.lt_size ho
 refine wpAny_bind (listItems_at ho rfl (wpAny_bind (listUpdate_at ho rfl ?_ (by rw [List.size_toArray];(first|lia|omega)) (Nat.zero_le _))))
 obtain ⟨e1,ho1⟩:∃ e1,(s.heap.update a (Obj.mapSeq fun _=>#[])).get? a=some (seqObj "list" #[] e1):=⟨_,get?_update_seq ho (fun _=>#[])⟩
 refine wpAny_bind (seqEpoch_at ho1 rfl (wpAny_bind (wpAny_newTuple ?_ (by show us.length≤_;(first|lia|omega)))))
 refine wpAny_bind (wpAny_newList ?_ (Nat.zero_le _));refine wpAny_holding ?_
 have ho6:(((s.heap.update a (Obj.mapSeq fun _=>#[])).push (seqObj "tuple" us.toArray 0)).push (seqObj "list" #[] 0)).get? a=some (seqObj "list" #[] e1):=by
  rw [Heap.get?_push_ne _ _ _ (by rw [size_push',Heap.size_update];exact Nat.ne_of_lt (Nat.lt_succ_of_lt ha)),Heap.get?_push_ne _ _ _ (by rw [Heap.size_update];exact Nat.ne_of_lt ha)];exact ho1
 have kp:Kp s a (((s.heap.update a (Obj.mapSeq fun _=>#[])).push (seqObj "tuple" us.toArray 0)).push (seqObj "list" #[] 0)):=fun b o ne g=>by
  have lt:=Heap.lt_size g
  rw [Heap.get?_push_ne _ _ _ (by rw [size_push',Heap.size_update];exact Nat.ne_of_lt (Nat.lt_succ_of_lt lt)),Heap.get?_push_ne _ _ _ (by rw [Heap.size_update];exact Nat.ne_of_lt lt),Heap.get?_update_ne _ _ _ _ ne];exact g
 show wpAny (model prog w) A _ P E { s with heap:=((s.heap.update a (Obj.mapSeq fun _=>#[])).push (seqObj "tuple" us.toArray 0)).push (seqObj "list" #[] 0) }
 dsimp only
 have hlen:us.toArray.size=us.length:=List.size_toArray
 by_cases h2:us.toArray.size<2
 ·rw [if_pos h2,if_pos h2];refine wpAny_bind (wpAny_pure ?_);rw [StateT.run_pure];refine wpAny_bind (wpAny_pure ?_);dsimp only;refine wpAny_bind (seqEpoch_at ho6 rfl ?_)
  have eo:Array.map (fun x=>x.snd) (arrOf (SortSt.mk' general' (us.toArray.zip us.toArray) #[] 7 none))=us.toArray:=by
   show Array.map (fun x:Keyed=>x.snd) (us.toArray.zip us.toArray)=_
   apply Array.toList_inj.mp
   rw [Array.toList_map,ksk_zip]
   exact List.map_snd_zip (Nat.le_refl _)
  refine wpAny_bind (listUpdate_at ho6 rfl ?_ (Nat.zero_le _) (by rw [eo,hlen];(first|lia|omega)))
  simp only [bne_self_eq_false,Bool.false_eq_true,if_false]
  rw [eo]
  have:=h _ (rg_id us.length) (fun i j h1 h3=>by rw [show i=j from by (first|lia|omega)];exact Int.le_refl _)
  have ee:((List.toArray (List.range us.length)).toList.map fun i=>us.getD i Value.none)=us:=by
   apply List.ext_getElem?
   intro i
   rw [List.getElem?_map]
   by_cases c:i<us.length
   ·rw [List.getElem?_range c,Option.map_some,List.getD_eq_getElem?_getD,List.getElem?_eq_getElem c];rfl
   ·rw [List.getElem?_eq_none (by rw [List.length_range];(first|lia|omega)),List.getElem?_eq_none (by (first|lia|omega))];rfl
  rw [ee] at this
  exact wpAny_pure this
 ·rw [if_neg h2,if_neg h2,hlen] at *
  refine wpAny_bind (hkind _ kp _ (by (first|lia|omega)) ?_)
  generalize hhp:((s.heap.update a (Obj.mapSeq fun _=>#[])).push (seqObj "tuple" us.toArray 0)).push (seqObj "list" #[] 0)=hp at kp ho6 ⊢
  refine wpAny_bind (wpAny_mono (hrun hp kp (by (first|lia|omega))) ?_ fun _ _ x=>x)
  rintro ⟨⟨⟩,st'⟩ s' ⟨rfl,hf,p,har,r1,r2⟩
  dsimp only
  have hout:=kat_snds rfl har
  refine wpAny_bind (seqEpoch_at ho6 rfl (wpAny_bind (listUpdate_at ho6 rfl ?_ (Nat.zero_le _) (by rw [hout,List.size_toArray,List.length_map,Array.length_toList,r1.size];(first|lia|omega)))))
  rw [hf]
  simp only [bne_self_eq_false,Bool.false_eq_true,if_false]
  rw [hout,← hhp]
  exact wpAny_pure (h p r1 r2)
theorem list_sort_by {a:Addr} {us:List Value} {n:Nat} {κ:SortKind} {Rk:Nat→Int} {P:PySem.Fin→Shared→Prop} (ho:s.heap.get? a=some (seqObj "list" us.toArray n)) (h64:us.length<64)
  (hkind:∀ h',Kp s a h'→∀ (Q:SortKind→Shared→Prop),2≤us.length→Q κ { s with heap:=h' }→wpAny (model prog w) A (keyKind' us.toArray) Q E { s with heap:=h' })
  (hask:∀ h',Kp s a h'→Asks (kas_ask prog w A κ us) Rk us.length { s with heap:=h' })
  (h:∀ p:Array Nat,Rg us.length p→So Rk p us.length→P (.done (.ret .none)) { s with heap:=sortedHeap s.heap a us (p.toList.map fun i=>us.getD i Value.none).toArray }) :
  wpAny (model prog w) A (Builtin.«list.sort» ⟨[.ref a],[]⟩) P E s :=
 list_sort_core ho (by rw [sizeLine_eq];(first|lia|omega)) hkind (fun h' kp h2=>by
  have hk:(kas_sort us.length).kasWp (kas_ask prog w A κ us) (fun p s'=>s'={ s with heap:=h' }∧Rg us.length p∧So Rk p us.length) { s with heap:=h' }:=znn (R:=Rk) (hask h' kp) h2 fun p' r1 r2=>⟨rfl,r1,r2⟩
  exact kat_run (ks:=us) (vs:=us) (Q:=fun st' s'=>s'={ s with heap:=h' }∧failedOf st'=none∧∃ p:Array Nat,arrOf st'=p.map (kas_item ((List.toArray us).zip (List.toArray us)))∧Rg us.length p∧So Rk p us.length)
   rfl h2 h64 (G:=fun p s'=>s'={ s with heap:=h' }∧Rg us.length p∧So Rk p us.length) (fun p st' s' a1 a2 a3 a4=>⟨a4.1,a3,p,a2,a4.2⟩) hk) h
theorem by_rank {α:Type} {f:α→Value} {g:α→Int} {xs:List α} {d0:α} {p:Array Nat} (hp:Rg xs.length p) (hs:So (fun i=>g (xs.getD i d0)) p xs.length) :
  ∃ xs',List.Perm xs' xs∧(xs'.Pairwise fun x y=>g x≤g y)∧(p.toList.map fun i=>(xs.map f).getD i Value.none)=xs'.map f:=by
 have hz:=hp.size
 have hin:∀ i∈p.toList,i<xs.length:=fun i hi=>by simpa using (Array.perm_iff_toList_perm.mp hp).mem_iff.mp hi
 have perm:List.Perm (p.toList.map fun i=>xs.getD i d0) xs:=by
  refine (List.Perm.map _ (Array.perm_iff_toList_perm.mp hp)).trans ?_
  have:(List.toArray (List.range xs.length)).toList.map (fun i=>xs.getD i d0)=xs:=by
   apply List.ext_getElem?
   intro i
   rw [List.getElem?_map,List.toList_toArray]
   by_cases c:i<xs.length
   ·rw [List.getElem?_range c,Option.map_some,List.getD_eq_getElem?_getD,List.getElem?_eq_getElem c];rfl
   ·rw [List.getElem?_eq_none (by rw [List.length_range];(first|lia|omega)),List.getElem?_eq_none (by (first|lia|omega))];rfl
  rw [this]
 refine ⟨p.toList.map fun i=>xs.getD i d0,perm,?_,?_⟩
 ·rw [List.pairwise_iff_getElem]
  intro i j hi hj hij
  rw [List.length_map,Array.length_toList] at hi hj
  rw [List.getElem_map,List.getElem_map]
  have h:=hs i j (by (first|lia|omega)) (by (first|lia|omega))
  unfold kr at h
  rw [Array.getD_eq_getD_getElem?,Array.getD_eq_getD_getElem?,Array.getElem?_eq_getElem hi,Array.getElem?_eq_getElem hj] at h
  exact h
 ·rw [List.map_map]
  refine List.map_congr_left fun i hi=>?_
  have c:=hin i hi
  show (xs.map f).getD i Value.none=f (xs.getD i d0)
  rw [List.getD_eq_getElem?_getD,List.getD_eq_getElem?_getD,List.getElem?_map,List.getElem?_eq_getElem c]
  rfl
end
end L2.Srt
namespace L2
open PySem PySem.Spec PyProof.Rows PySem.W
def rkL:Nat→List Int→Int
 | 0,_=>0
 | _+1,[]=>0
 | n+1,p::r=>(p+1)*64 ^ n+rkL n r
theorem zgt:∀ (n:Nat) (l:List Int),(∀ p∈l,0≤p∧p<63)→0≤rkL n l∧rkL n l<64 ^ n
 | 0,_,_=>by unfold rkL;decide
 | n+1,[],_=>⟨Int.le_refl _,by unfold rkL;exact Int.pow_pos (by decide)⟩
 | n+1,p::r,h=>by
  obtain ⟨h1,h2⟩:=zgt n r fun q hq=>h q (List.mem_cons_of_mem _ hq)
  obtain ⟨h3,h4⟩:=h p List.mem_cons_self
  unfold rkL
  have a1:(64:Int) ^ (n+1)=64*64 ^ n:=by rw [Int.pow_succ,Int.mul_comm]
  have a2:(p+1)*64 ^ n≤63*64 ^ n:=Int.mul_le_mul_of_nonneg_right (by (first|lia|omega)) (Int.le_of_lt (Int.pow_pos (by decide)))
  have a3:0≤(p+1)*64 ^ n:=Int.mul_nonneg (by (first|lia|omega)) (Int.le_of_lt (Int.pow_pos (by decide)))
  rw [a1]
  generalize (64:Int) ^ n=z at *
  generalize (p+1)*z=y at *
  (first|lia|omega)
theorem zeD:∀ (n:Nat) (l m:List Int),(∀ p∈l,0≤p∧p<63)→(∀ p∈m,0≤p∧p<63)→l.length≤n→m.length≤n→zhL l m=decide (rkL n l<rkL n m)∧(rkL n l=rkL n m→l=m)
 | _,[],[],_,_,_,_=>⟨by simp [zhL],fun _=>rfl⟩
 | 0,_::_,_,_,_,h,_=>by simp at h
 | 0,_,_::_,_,_,_,h=>by simp at h
 | n+1,[],q::m,_,hm,_,_=>by
  obtain ⟨h1,_⟩:=zgt n m fun q hq=>hm q (List.mem_cons_of_mem _ hq)
  obtain ⟨h3,_⟩:=hm q List.mem_cons_self
  have a3:0<(q+1)*64 ^ n:=Int.mul_pos (by (first|lia|omega)) (Int.pow_pos (by decide))
  unfold rkL zhL
  exact ⟨by rw [decide_eq_true];(first|lia|omega),fun e=>by (first|lia|omega)⟩
 | n+1,p::l,[],hl,_,_,_=>by
  obtain ⟨h1,_⟩:=zgt n l fun q hq=>hl q (List.mem_cons_of_mem _ hq)
  obtain ⟨h3,_⟩:=hl p List.mem_cons_self
  have a3:0<(p+1)*64 ^ n:=Int.mul_pos (by (first|lia|omega)) (Int.pow_pos (by decide))
  unfold rkL zhL
  exact ⟨by rw [decide_eq_false];(first|lia|omega),fun e=>by (first|lia|omega)⟩
 | n+1,p::l,q::m,hl,hm,h1,h2=>by
  obtain ⟨ih1,ih2⟩:=zeD n l m (fun q hq=>hl q (List.mem_cons_of_mem _ hq)) (fun q hq=>hm q (List.mem_cons_of_mem _ hq)) (by simpa using h1) (by simpa using h2)
  obtain ⟨b1,b2⟩:=zgt n l fun q hq=>hl q (List.mem_cons_of_mem _ hq)
  obtain ⟨c1,c2⟩:=zgt n m fun q hq=>hm q (List.mem_cons_of_mem _ hq)
  unfold rkL zhL
  by_cases e:p=q
  ·subst e
   rw [if_pos rfl,ih1]
   exact ⟨decide_eq_decide.mpr (by (first|lia|omega)),fun z=>by rw [ih2 (by (first|lia|omega))]⟩
  ·rw [if_neg e]
   rcases Int.lt_or_gt_of_ne e with c | c
   ·have:(p+1)*64 ^ n+64 ^ n≤(q+1)*64 ^ n:=by
     have:=Int.mul_le_mul_of_nonneg_right (show p+1+1≤q+1 by (first|lia|omega)) (Int.le_of_lt (show (0:Int)<64 ^ n from Int.pow_pos (by decide)))
     rw [Int.add_mul (p+1) 1,Int.one_mul] at this
     exact this
    exact ⟨decide_eq_decide.mpr (by (first|lia|omega)),fun z=>by (first|lia|omega)⟩
   ·have:(q+1)*64 ^ n+64 ^ n≤(p+1)*64 ^ n:=by
     have:=Int.mul_le_mul_of_nonneg_right (show q+1+1≤p+1 by (first|lia|omega)) (Int.le_of_lt (show (0:Int)<64 ^ n from Int.pow_pos (by decide)))
     rw [Int.add_mul (q+1) 1,Int.one_mul] at this
     exact this
    exact ⟨decide_eq_decide.mpr (by (first|lia|omega)),fun z=>by (first|lia|omega)⟩
def Sml (k:Std):Prop:=(∀ p∈k.1,0≤p∧p<63)∧k.1.length≤8∧0≤k.2∧k.2<64
def stR (k:Std):Int:=rkL 8 k.1*64+k.2
theorem znQ {x y:Std} (hx:Sml x) (hy:Sml y):decide (stR x<stR y)=if x.1=y.1 then decide (x.2<y.2) else zhL x.1 y.1:=by
 obtain ⟨h1,h2⟩:=zeD 8 x.1 y.1 hx.1 hy.1 hx.2.1 hy.2.1
 have b1:=hx.2.2;have b2:=hy.2.2
 unfold stR
 by_cases e:x.1=y.1
 ·rw [if_pos e,e]
  exact decide_eq_decide.mpr (by (first|lia|omega))
 ·rw [if_neg e,h1]
  have:rkL 8 x.1≠rkL 8 y.1:=fun z=>e (h2 z)
  exact decide_eq_decide.mpr (by (first|lia|omega))
theorem zfo {x y:Std} (hx:Sml x) (hy:Sml y) (e:stR x=stR y):x=y:=by
 obtain ⟨h1,h2⟩:=zeD 8 x.1 y.1 hx.1 hy.1 hx.2.1 hy.2.1
 have b1:=hx.2.2;have b2:=hy.2.2
 unfold stR at e
 exact Prod.ext (h2 (by (first|lia|omega))) (by (first|lia|omega))
section
variable {prog:Program} {w:World} {A:Around} {E:Value→Shared→Prop} {s:Shared}
abbrev SAd:=Std×Addr
abbrev zct (x:SAd):Value:=.ref x.2
theorem zjd {xs:List SAd} {i:Nat} (hi:i<xs.length):(xs.map zct).getD i Value.none=.ref xs[i].2:=by rw [List.getD_eq_getElem?_getD,List.getElem?_map,List.getElem?_eq_getElem hi];rfl
theorem zhn {xs:List SAd} (hu:A.units+1<cLine) (hh:∀ x∈xs,zb1 prog w s.heap x.1 x.2∧Sml x.1):Srt.Asks (kas_ask prog w A (tuples' false) (xs.map zct)) (fun i=>stR (xs.getD i (([],0),0)).1) xs.length s:=by
 intro i j C hi hj q
 unfold kas_ask
 rw [zjd hi,zjd hj]
 obtain ⟨⟨o,n,b,t,g1,g2,g3,g4⟩,gs⟩:=hh xs[i] (List.getElem_mem hi)
 obtain ⟨⟨o',n',b',t',f1,f2,f3,f4⟩,fs⟩:=hh xs[j] (List.getElem_mem hj)
 have ei:xs.getD i (([],0),0)=xs[i]:=by rw [List.getD_eq_getElem?_getD,List.getElem?_eq_getElem hi];rfl
 have ej:xs.getD j (([],0),0)=xs[j]:=by rw [List.getD_eq_getElem?_getD,List.getElem?_eq_getElem hj];rfl
 simp only [ei,ej] at q
 rw [znQ gs fs] at q
 generalize xs[i]=x at *
 generalize xs[j]=y at *
 refine kat_lt g1 g3 f1 f3 ?_
 show KatLex prog w A false _ C [(Value.ref b,Value.ref b'),(Value.int x.1.2 t,Value.int y.1.2 t')] 0 s
 refine kat_cons (wpAny_eqBool_tuple (show A.units<cLine by (first|lia|omega)) g4 f4 (kat_go (fun e=>kat_yes (kat_cons (wpAny_eqBool_int (kat_go (fun e2=>kat_yes (kat_nil ?_)) fun e2=>kat_no (kat_one _ _ (lt_int ?_)))))) fun e=>kat_no (kat_one _ _ (zm5 g4 f4 (by (first|lia|omega)) ?_))))
 ·have e':x.1.1=y.1.1:=by simpa using e
  have e2':x.1.2=y.1.2:=by simpa using e2
  rw [if_pos e',decide_eq_false (by (first|lia|omega))] at q
  exact q
 ·have e':x.1.1=y.1.1:=by simpa using e
  rw [if_pos e'] at q
  exact q
 ·have e':x.1.1≠y.1.1:=by simpa using e
  rw [if_neg e'] at q
  exact q
theorem zhu {xs:List SAd} (hh:∀ x∈xs,zb1 prog w s.heap x.1 x.2) (hne:0<xs.length) {Q:SortKind→Shared→Prop} (q:Q (tuples' false) s):wpAny (model prog w) A (keyKind' (xs.map zct).toArray) Q E s:=by
 have key:∀ (l:List SAd),(∀ x∈l,zb1 prog w s.heap x.1 x.2)→∃ fs:List Value,fs.length=l.length∧KatTups s.heap (l.map zct) fs∧∀ v∈fs,∃ b o,v=.ref b∧s.heap.get? b=some o∧o.cls=.type "tuple":=by
  intro l
  induction l with
  | nil=>intro _;exact ⟨[],rfl,.nil,by simp⟩
  | cons x l ih =>
   intro h
   obtain ⟨fs,e1,e2,e3⟩:=ih fun y hy=>h y (List.mem_cons_of_mem _ hy)
   obtain ⟨o,n,b,t,g1,g2,g3,o2,_,_,k1,k2,_⟩:=h x (List.mem_cons_self ..)
   refine ⟨.ref b::fs,by simp [e1],KatTups.cons g1 g2 g3 rfl e2,fun v hv=>?_⟩
   rcases List.mem_cons.mp hv with rfl | hv
   ·exact ⟨b,o2,rfl,k1,k2⟩
   ·exact e3 v hv
 obtain ⟨fs,e1,e2,e3⟩:=key xs hh
 refine kat_kind (T:=.type "tuple") e2 (by (first|lia|omega)) (fun v hv=>?_) (by decide) q
 obtain ⟨b,o,rfl,k1,k2⟩:=e3 v hv
 exact fun A Q E s' k q=>wpAny_typeOf ⟨o,k _ _ k1,k2⟩ q
theorem zb1.kp {k:Std} {c a:Addr} {h':Heap} (x:zb1 prog w s.heap k c) (na:∀ o,s.heap.get? a=some o→o.cls=.type "list") (kp:Srt.Kp s a h'):zb1 prog w h' k c:=by
 have no:∀ b o,s.heap.get? b=some o→o.cls=.type "tuple"→b≠a:=fun b o e c z=>by
  subst z
  rw [na o e] at c
  exact nomatch c
 obtain ⟨o,n,b,t,g1,g2,g3,o2,it,n2,g4,g5,g6,g7⟩:=x
 exact ⟨o,n,b,t,kp _ _ (no _ _ g1 g2) g1,g2,g3,o2,it,n2,kp _ _ (no _ _ g4 g5) g4,g5,g6,g7⟩
theorem zfe {a:Addr} {xs:List SAd} {n:Nat} {P:PySem.Fin→Shared→Prop} (hu:A.units+1<cLine) (ho:s.heap.get? a=some (seqObj "list" (xs.map zct).toArray n)) (h64:xs.length<64) (hh:∀ x∈xs,zb1 prog w s.heap x.1 x.2∧Sml x.1)
  (h:∀ xs',List.Perm xs' xs→(xs'.Pairwise fun x y=>stR x.1≤stR y.1)→P (.done (.ret .none)) { s with heap:=sortedHeap s.heap a (xs.map zct) (xs'.map zct).toArray }):wpAny (model prog w) A (Builtin.«list.sort» ⟨[.ref a],[]⟩) P E s:=by
 have na:∀ o,s.heap.get? a=some o→o.cls=.type "list":=fun o e=>by rw [ho] at e;cases e;rfl
 refine Srt.list_sort_by (κ:=tuples' false) (Rk:=fun i=>stR (xs.getD i (([],0),0)).1) ho (by rw [List.length_map];exact h64) (fun h' kp Q h2 q=>zhu (s:={ s with heap:=h' }) (fun x hx=>(hh x hx).1.kp na kp) (by rw [List.length_map] at h2;(first|lia|omega)) q) (fun h' kp=>by rw [List.length_map];exact zhn (s:={ s with heap:=h' }) hu fun x hx=>⟨(hh x hx).1.kp na kp,(hh x hx).2⟩) fun p r1 r2=>?_
 rw [List.length_map] at r1 r2
 obtain ⟨xs',q1,q2,q3⟩:=Srt.by_rank (f:=zct) (g:=fun x:SAd=>stR x.1) r1 r2
 rw [q3]
 exact h xs' q1 q2
end
section
variable {X:Cx}
theorem DS.ent {K:PySem.W.Frag} {P:Program} {w:World} {H:Hp} {h:Heap} {d:Addr} {kvs:Prs} (ok:HOk P w H h) (dd:DS K H d kvs):(d == sysModules)=false∧∃ xs es ep,KS kvs xs∧zcn h d es ep∧es.toList=xs.map zhf:=by
 obtain ⟨⟨_,hd,xs,r,o,es,ep,h1,h2,h3,h4,_⟩,_,_⟩:=(show zaP P w H h d (dSO d kvs) from ok d _ dd.h)
 exact ⟨hd,xs,es,ep,r,⟨o,h1,h2,h3⟩,h4⟩
theorem zi8 {kvs:Prs} {xs:List (Std×Addr×Value)} (r:KS kvs xs):xs.map (fun x=>(zhf x).key)=(kvs.map fun x=>(x.1,x.2.1)).map zct:=by
 induction r with
 | nil=>rfl
 | cons h _ ih=>rw [List.map_cons,List.map_cons,List.map_cons,ih,show (zhf _).key=_ from congrArg Value.ref h.2.1.symm]
end
end L2
namespace L2.Sw
open PySem PySem.Spec PyProof.Rows
section
variable {P:Program} {w:World} {A:Around} {E:Value→Shared→Prop} {s:Shared}
set_option maxHeartbeats 3200000 in
theorem call_setU {l:Addr} {its:Array Value} {val:Nat→Int} {Q:Value→Shared→Prop}
  (hh:A.handled=none) (hl:s.heap.IsTuple l its) (hv:∀ (i:Nat) v,its[i]?=some v→∃ tk,v=.int (val i) tk) (hz:its.size<300)
  (q:∀ (h':Heap) (u:Nat) es ep t,SJ P w h' s.heap.objs.size es ep t (dd val its.size)→(∀ b o,s.heap.get? b=some o→h'.get? b=some o)→Q (.ref s.heap.objs.size) { s with heap:=h',toks:=u }) :
  wpAny (model P w) A (call (.type "set") [.ref l]) Q E s:=by
 obtain ⟨c0,tl0,mr⟩:=PySem.F.called_set.mro
 have mad:=PySem.F.called_set.made;have sub0:=PySem.F.called_set.sub;refine wpAny_call (codeAny_of_tree ?_)
 show wpAny _ _ (callAny (.type "set") _) _ _ _;refine wpAny_pure ⟨Code.quiet_builtin _ (by decide +kernel),codeAny_builtin PySem.F.entry_type_call ?_⟩;rw [Around.under_plain (weight_type_call_type "set" [.ref l] []) rfl]
 have h1:=PySem.F.called_set.notType;have h2:=PySem.F.called_set.canCreate;have tc:=PySem.F.typeCall_set_1 (.ref l);repeat (any_goals (first | assumption | wp_step))
 refine codeAny_mono (zlS (.ref l) (E:=E) (Q₁:=fun ob s₁=>∃ led:Bool,led=!w.params.followText "set-order"∧ob=.ref s.heap.objs.size∧s₁={ s with heap:=s.heap.push { cls:=.type "set",dict:=none,data:=.set #[] 0 (.fresh 0 0 led) } }) ⟨_,rfl,rfl,rfl⟩) fun r s₁ hr=>?_
 cases r with
 | error e=>exact hr
 | ok fl =>
  cases fl with
  | ret ob =>
   obtain ⟨led,hled,rfl,rfl⟩:=hr
   have gS:(s.heap.push { cls:=.type "set",dict:=none,data:=.set #[] 0 (.fresh 0 0 led) }).get? s.heap.objs.size=some { cls:=.type "set",dict:=none,data:=.set #[] 0 (.fresh 0 0 led) }:=Heap.get?_push_size _ rfl
   have tyS:Shared.TypeIs { s with heap:=s.heap.push { cls:=.type "set",dict:=none,data:=.set #[] 0 (.fresh 0 0 led) } } (.ref s.heap.objs.size) "set":=⟨_,gS,rfl⟩
   have li:=PySem.F.called_set.init.lookup;have bi:=PySem.F.called_set.init.bind (.ref s.heap.objs.size);repeat (any_goals (first | assumption | wp_step))
   refine codeAny_mono (codeAny_call_builtin (R:=wants (fun r s₂=>r=.none∧∃ h' u es ep t,s₂={ s with heap:=h',toks:=u }∧SJ P w h' s.heap.objs.size es ep t (dd val its.size)∧(∀ b o,s.heap.get? b=some o→h'.get? b=some o)) E) PySem.F.called_set.init.plain PySem.F.entry_set_init (check_set_init_1 tyS ?_)) fun r₂ s₂ hr₂=>?_
   ·obtain ⟨⟨oc,od,odt,os⟩,go,gc,nl,gd⟩:=hl
    simp only at gc gd
    subst gc;subst gd
    have go':(s.heap.push { cls:=.type "set",dict:=none,data:=.set #[] 0 (.fresh 0 0 led) }).get? l=some { cls:=.type "tuple",dict:=od,data:=.seq its nl,slots:=os }:=Heap.get?_push_of_some _ go
    have b1:=PySem.F.sub_tuple_set;have b2:=PySem.F.sub_tuple_frozenset
    have b3:(Value.type "tuple" == Value.type "dict")=false:=by decide
    have hl1:(s.heap.push { cls:=.type "set",dict:=none,data:=.set #[] 0 (.fresh 0 0 led) }).IsTuple l its:=⟨_,go',rfl,nl,rfl⟩;unfold Builtin.«set.__init__» noKeywords Builtin.Frozenset.updateFrom
    generalize ePI:pyIter=PI
    wp_walk
    subst ePI
    refine wpAny_pyIter_tuple hl1 ?_;refine wpAny_bind (wpAny_runValue ?_)
    have lS:l<s.heap.objs.size:=Heap.lt_size go;have hh3:A.in1.in1.in1.handled=none:=by simp [hh]
    have sz1:(s.heap.push { cls:=.type "set",dict:=none,data:=.set #[] 0 (.fresh 0 0 led) }).objs.size=s.heap.objs.size+1:=Heap.size_push ..
    have nI:l≠(s.heap.push { cls:=.type "set",dict:=none,data:=.set #[] 0 (.fresh 0 0 led) }).objs.size:=by rw [sz1];exact Nat.ne_of_lt (Nat.lt_succ_of_lt lS)
    have nSf:s.heap.objs.size∉[(s.heap.push { cls:=.type "set",dict:=none,data:=.set #[] 0 (.fresh 0 0 led) }).objs.size,l]:=by
     rw [sz1];simp only [List.mem_cons,List.not_mem_nil,or_false,not_or]
     exact ⟨Nat.ne_of_lt (Nat.lt_succ_self _),Nat.ne_of_gt lS⟩
    refine loopJ ((Walks.tuple hh3 _ l nI its).toS) s.heap.objs.size nSf val hv hz (its.size - 0) 0 _ #[] 0 (.fresh 0 0 led) (by (first|lia|omega)) (Nat.zero_le _) ⟨⟨_,Heap.get?_push_size _ rfl,rfl,rfl⟩,(hl1.push _)⟩ ⟨Heap.get?_push_of_some _ gS,rfl,rfl,.inl rfl,(by show 0*5<7*3;decide),rfl,?_,List.Pairwise.nil,fun e he=>by simp at he,List.Perm.refl _⟩ ?_
    ·show w.params.followText "set-order"=true∨led=true
     rw [hled]
     cases w.params.followText "set-order" <;> simp
    ·intro s' es ep t hm T
     obtain ⟨h',g',d',tk',os'⟩:=s';have eg:g'=s.gens:=hm.gens;have ed:d'=s.drawn:=hm.drawn
     have eo:os'=s.os:=hm.os
     subst eg;subst ed;subst eo
     show wpAny _ _ _ _ _ _;refine wpAny_pure ?_;show wpAny _ _ (ret Value.none) _ _ _
     refine wpAny_pure ⟨rfl,h',tk',es,ep,t,rfl,T,fun b o e=>?_⟩
     have:=Heap.lt_size e
     refine hm.heap b o ?_ (Heap.get?_push_of_some _ (Heap.get?_push_of_some _ e))
     simp only [List.mem_cons,List.not_mem_nil,or_false,not_or]
     rw [sz1]
     exact ⟨Nat.ne_of_lt this,Nat.ne_of_lt (Nat.lt_succ_of_lt this)⟩
   ·cases r₂ with
    | error e=>exact hr₂
    | ok fl₂ =>
     cases fl₂ with
     | ret r =>
      obtain ⟨rfl,h',u,es,ep,t,rfl,g1,g4⟩:=hr₂;repeat (any_goals (first | assumption | wp_step))
      exact q _ _ _ _ _ g1 g4
     | _=>exact hr₂.elim
  | _=>exact hr.elim
end
end L2.Sw
namespace L2
open PySem PySem.Spec PyProof.Rows
def zcx (K:PySem.W.Frag):List V→Hp→VK→Prop:=fun xs H Q=>∃ (p:Addr) (ns:List Int),xs=[.ref p]∧SqT K H p (ns.map V.int)∧ns.length<64∧∀ (l:Addr) (ms:List Int),H l=none→(∀ x,x∈ms↔x∈ns)→ms.Pairwise (·<·)→ms.length≤ns.length→Q (.ref l) (upd H l (.lst (ms.map V.int)))
section
variable {X:Cx} {e:Expr} {t:TA} {p1 p2 pos1 pos2:Pos}
theorem zei (hgl:Gl X "sorted") (hml:X.mg "sorted"=none) (hgs:Gl X "set") (hms:X.mg "set"=none) (ha:PA X [e] t) (hc:X.calm=true:=by rfl)
  (he:starEach [e] X.env=(false,eval e X.env)::starEach [] X.env:=by rfl) (hpl:∀ pos,(backTo pos (starEach [] X.env)).any (·.1)=false:=by intro _;rfl)
  (he2:starEach [.Call (.Name "set" p2) [e] [] pos2] X.env=(false,eval (.Call (.Name "set" p2) [e] [] pos2) X.env)::starEach [] X.env:=by rfl) :
  PE X (.Call (.Name "sorted" p1) [.Call (.Name "set" p2) [e] [] pos2] [] pos1) (tCB (zcx X.K) t):=by
 intro pins s σ H Q I h
 refine wpAny_Call_Name_kw (zdY I hgl hml boot_sorted ?_ (by decide) (by decide))
 refine PyProof.Rows.callWith_builtin1 ?_ he2 (hpl _);rw [he2]
 show wpAny _ _ (spliced ((false,eval (.Call (.Name "set" p2) [e] [] pos2) X.env)::backTo pos1 (starEach [] X.env))) _ _ s;refine Calls.spliced_cons ?_
 refine wpAny_Call_Name_kw (zdY I hgs hms PyProof.Rows.boot_set ?_ (by decide) (by decide))
 refine PyProof.Rows.callWith_type1 (thn (ha pos2 pins s σ H _ I h) fun us s1 hQ'=>?_) he (hpl _)
 obtain ⟨vs,H1,I1,r1,q1⟩:=hQ'
 obtain ⟨p,ns,rfl,hp,l64,q⟩:=q1
 obtain ⟨u,rfl,rx⟩:=zeK r1
 cases rx
 obtain ⟨its,rv,pl,hz⟩:=I1.tuple hp
 have hlen:its.length=ns.length:=by rw [← rv.length,List.length_map]
 refine Sw.call_setU (its:=its.toArray) (val:=fun i=>ns.getD i 0) (I1.ok.hd hc) pl (fun i v e=>?_) (by rw [List.size_toArray,hlen];(first|lia|omega)) fun h' tk es ep tb T g4=>?_
 ·have hi:i<ns.length:=by
   have:=(Array.getElem?_eq_some_iff.mp e).1
   rw [List.size_toArray,hlen] at this
   exact this
  obtain ⟨u,eu,ru⟩:=rv.get (show (ns.map V.int)[i]?=some (V.int ns[i]) by simp [hi])
  have e':its[i]?=some v:=by simpa using e
  rw [e'] at eu
  cases eu
  rw [List.getD_eq_getElem?_getD,List.getElem?_eq_getElem hi]
  exact ru
 ·refine Calls.spliced_nil ?_
  have szi:its.toArray.size=ns.length:=by rw [List.size_toArray];exact hlen
  rw [szi] at T
  have I2:Inv X pins σ H1 { s1 with heap:=h',toks:=tk }:=I1.kept (t':=tk) g4
  generalize s1.heap.objs.size=S at T ⊢
  have hes:=T.size
  have hdd:=Sw.dd_len (fun i=>ns.getD i 0) ns.length
  refine Calls.call_function_entry kind_sorted plain_sorted entry_sorted (args_sorted1 _) ?_;unfold Builtin.«sorted»;refine wpAny_bind (m:=checkCount "sorted" 1 1 _) (wpAny_pure ?_)
  refine wpAny_bind (PySem.W.kdu_collect (A:=X.A.in1) (s:={ s1 with heap:=h',toks:=tk }) (Sw.src (P:=X.prog) (w:=X.w) T.fits T.led) (I1.ok.hd hc) T.ob (by rw [sizeLine_eq];(first|lia|omega)) fun h2 tk2 acc hkp hacc=>?_)
  have pm:=(Sw.ord_perm (w:=X.w) (S:=S) (es:=es) (ep:=ep))
  have osz:(Sw.ord X.w S es ep).size=es.size:=by rw [← Array.length_toList,pm.length_eq,Array.length_toList]
  have hla:acc.toList.length=es.size:=by rw [Array.length_toList,hacc.1]
  have hI:IntsAre acc.toList ((Sw.ord X.w S es ep).toList.map fun e=>Sw.vI e.2):=by
   refine zhw (zjH (by rw [List.length_map,List.length_map,hla,Array.length_toList,osz]) fun j x w e1 e2=>?_)
   rw [List.getElem?_map,Option.map_eq_some_iff] at e1
   obtain ⟨k,hk,rfl⟩:=e1
   rw [List.getElem?_map,Option.map_eq_some_iff] at hk
   obtain ⟨y,hy,rfl⟩:=hk
   have e3:((Sw.ord X.w S es ep)[j]?).map (·.2)=some w:=hacc.2 j w (by rw [← Array.getElem?_toList];exact e2)
   rw [← Array.getElem?_toList,hy] at e3
   cases e3
   obtain ⟨k',tk',rfl⟩:=T.el y (pm.mem_iff.mp (List.mem_of_getElem? hy))
   exact ⟨tk',rfl⟩
  have hpk:((Sw.ord X.w S es ep).toList.map fun e=>Sw.vI e.2).Perm (Sw.dd (fun i=>ns.getD i 0) ns.length):=(pm.map _).trans T.ks
  refine wpAny_bind (wpAny_newList ?_ (by rw [hla,sizeLine_eq];(first|lia|omega)))
  have hoL:(h2.push (seqObj "list" acc.toList.toArray 0)).get? h2.objs.size=some (seqObj "list" acc.toList.toArray 0):=Heap.get?_push_size _ rfl
  refine wpAny_bind (wpAny_holding (wpAny_call_entry slot_list_sort ⟨_,hoL,rfl⟩ entry_list_sort (list_sort_tree hoL hI (by rw [hla];(first|lia|omega)) fun out ns' a1 a2 a3=>⟨_,rfl,?_⟩) (args_list_sort _)))
  obtain ⟨e,he⟩:=sortedHeap_at (out:=out) hoL;refine wpAny_pure ⟨_,rfl,?_⟩
  have I':Inv X pins σ H1 { s1 with heap:=h2,toks:=tk2 }:=I2.kept (t':=tk2) hkp
  have a4:=a2.trans hpk
  refine zh3 (s:={ s1 with heap:=h2,toks:=tk2 }) (h':=sortedHeap (h2.push (seqObj "list" acc.toList.toArray 0)) h2.objs.size acc.toList out) (tk:=tk2) I' (fun b o hb'=>?_) (Nat.le_refl _) he a1 (by rw [a4.length_eq];(first|lia|omega)) fun hn=>q _ ns' hn (fun x=>?_) (ziT a3 (a4.nodup_iff.mpr (Sw.dd_nodup _ _))) (by rw [a4.length_eq];exact hdd)
  ·have hlt:=Heap.lt_size hb'
   rw [sortedHeap_old (Nat.ne_of_lt hlt) (by rw [size_push'];exact Nat.lt_succ_of_lt hlt)]
   exact Heap.get?_push_of_some _ hb'
  ·rw [a4.mem_iff,Sw.dd_mem]
   constructor
   ·rintro ⟨j,hj,rfl⟩
    rw [List.getD_eq_getElem?_getD,List.getElem?_eq_getElem hj]
    exact List.getElem_mem hj
   ·intro hx
    obtain ⟨j,ej⟩:=List.getElem?_of_mem hx
    exact ⟨j,(List.getElem?_eq_some_iff.mp ej).1,by rw [List.getD_eq_getElem?_getD,ej];rfl⟩
end
end L2
namespace L2.Sk
open PySem PySem.Spec PyProof.Rows
section
variable {P:Program} {w:World} {A:Around} {E:Value→Shared→Prop} {s:Shared}
end
end L2.Sk
namespace L2
open PySem PySem.Spec PyProof.Rows PySem.W
section
variable {prog:Program} {w:World} {A:Around} {E:Value→Shared→Prop} {s:Shared}
abbrev IA:=List Int×Addr
abbrev zgM (x:IA):Value:=.ref x.2
def SmT (k:List Int):Prop:=(∀ p∈k,0≤p∧p<63)∧k.length≤8∧0<k.length
theorem ziE {b:Bool} {C:Bool→Shared→Prop}:∀ {ks ls:List Int} {us vs:List Value} {i:Nat},ItemsAre (intKind prog w) ks us→ItemsAre (intKind prog w) ls vs→C (zhL ks ls) s→KatLex prog w A b (decide (us.length<vs.length)) C (us.zip vs) i s
 | [],[],_,_,_,.nil,.nil,q=>kat_nil q
 | [],_::_,_,_,_,.nil,.cons _ _,q=>kat_nil q
 | _::_,[],_,_,_,.cons _ _,.nil,q=>kat_nil q
 | k::ks,l::ls,_,_,i,.cons a as,.cons b' bs,q=>by
  rename_i u us v vs
  obtain ⟨t,rfl⟩:∃ t,u=.int k t:=by cases u <;> simp_all [intKind,Value.isInt]
  obtain ⟨t',rfl⟩:∃ t,v=.int l t:=by cases v <;> simp_all [intKind,Value.isInt]
  unfold zhL at q
  have e:decide ((Value.int k t::us).length<(Value.int l t'::vs).length)=decide (us.length<vs.length):=by simp
  rw [List.zip_cons_cons,e]
  refine kat_cons (wpAny_eqBool_int (kat_go (fun e=>kat_yes (ziE as bs ?_)) fun e=>kat_no ?_))
  ·rw [if_pos (by simpa using e)] at q
   exact q
  ·rw [if_neg (by simpa using e)] at q
   cases (b&&i == 0) with
   | true=>exact oneLt_int q
   | false=>exact kat_one _ _ (lt_int q)
theorem ziu {xs:List IA} {i:Nat} (hi:i<xs.length):(xs.map zgM).getD i Value.none=.ref xs[i].2:=by rw [List.getD_eq_getElem?_getD,List.getElem?_map,List.getElem?_eq_getElem hi];rfl
theorem zka {xs:List IA} (hh:∀ x∈xs,IsTupleKey (intKind prog w) s.heap x.1 x.2∧SmT x.1):Srt.Asks (kas_ask prog w A (tuples' true) (xs.map zgM)) (fun i=>rkL 8 (xs.getD i ([],0)).1) xs.length s:=by
 intro i j C hi hj q
 unfold kas_ask
 rw [ziu hi,ziu hj]
 obtain ⟨⟨o,n,b,g1,g2,g3,g4⟩,gs⟩:=hh xs[i] (List.getElem_mem hi)
 obtain ⟨⟨o',n',b',f1,f2,f3,f4⟩,fs⟩:=hh xs[j] (List.getElem_mem hj)
 have ei:xs.getD i ([],0)=xs[i]:=by rw [List.getD_eq_getElem?_getD,List.getElem?_eq_getElem hi];rfl
 have ej:xs.getD j ([],0)=xs[j]:=by rw [List.getD_eq_getElem?_getD,List.getElem?_eq_getElem hj];rfl
 simp only [ei,ej] at q
 rw [← (zeD 8 _ _ gs.1 fs.1 gs.2.1 fs.2.1).1] at q
 exact kat_lt g1 g3 f1 f3 (by simpa using ziE (b:=true) (i:=0) g4 f4 q)
theorem zkx {xs:List IA} (hh:∀ x∈xs,IsTupleKey (intKind prog w) s.heap x.1 x.2∧SmT x.1) (hne:0<xs.length) {Q:SortKind→Shared→Prop} (q:Q (tuples' true) s):wpAny (model prog w) A (keyKind' (xs.map zgM).toArray) Q E s:=by
 have key:∀ (l:List IA),(∀ x∈l,IsTupleKey (intKind prog w) s.heap x.1 x.2∧SmT x.1)→∃ fs:List Value,fs.length=l.length∧KatTups s.heap (l.map zgM) fs∧∀ v∈fs,∃ n t,v=.int n t:=by
  intro l
  induction l with
  | nil=>intro _;exact ⟨[],rfl,.nil,by simp⟩
  | cons x l ih =>
   intro h
   obtain ⟨fs,e1,e2,e3⟩:=ih fun y hy=>h y (List.mem_cons_of_mem _ hy)
   obtain ⟨⟨o,its,n,g1,g2,g3,g4⟩,_,_,h0⟩:=h x (List.mem_cons_self ..)
   obtain ⟨k,t,ei⟩:∃ k t,its[0]?=some (.int k t):=by
    rw [← Array.getElem?_toList]
    cases hk:x.1 with
    | nil=>rw [hk] at h0;simp at h0
    | cons k ks =>
     rw [hk] at g4
     generalize its.toList=us at g4
     cases g4 with
     | cons a _ =>
      rename_i u us a
      obtain ⟨t,rfl⟩:∃ t,u=Value.int k t:=by
       clear hh ih h e3
       cases u <;> simp_all [intKind,Value.isInt]
      exact ⟨k,t,rfl⟩
   refine ⟨.int k t::fs,by simp [e1],KatTups.cons g1 g2 g3 ei e2,fun v hv=>?_⟩
   rcases List.mem_cons.mp hv with rfl | hv
   ·exact ⟨_,_,rfl⟩
   ·exact e3 v hv
 obtain ⟨fs,e1,e2,e3⟩:=key xs hh
 refine kat_kind (T:=.type "int") e2 (by (first|lia|omega)) (fun v hv=>?_) (by decide) q
 obtain ⟨n,t,rfl⟩:=e3 v hv
 exact fun A Q E s' k q=>wpAny_typeOf rfl q
theorem zlA {k:List Int} {c a:Addr} {h':Heap} (x:IsTupleKey (intKind prog w) s.heap k c) (na:∀ o,s.heap.get? a=some o→o.cls=.type "list") (kp:Srt.Kp s a h'):IsTupleKey (intKind prog w) h' k c:=by
 obtain ⟨o,n,b,g1,g2,g3⟩:=x
 refine ⟨o,n,b,kp _ _ (fun z=>?_) g1,g2,g3⟩
 subst z
 rw [na o g1] at g2
 exact nomatch g2
theorem zfA {a:Addr} {xs:List IA} {n:Nat} {P:PySem.Fin→Shared→Prop} (ho:s.heap.get? a=some (seqObj "list" (xs.map zgM).toArray n)) (h64:xs.length<64) (hh:∀ x∈xs,IsTupleKey (intKind prog w) s.heap x.1 x.2∧SmT x.1)
  (h:∀ xs',List.Perm xs' xs→(xs'.Pairwise fun x y=>rkL 8 x.1≤rkL 8 y.1)→P (.done (.ret .none)) { s with heap:=sortedHeap s.heap a (xs.map zgM) (xs'.map zgM).toArray }):wpAny (model prog w) A (Builtin.«list.sort» ⟨[.ref a],[]⟩) P E s:=by
 have na:∀ o,s.heap.get? a=some o→o.cls=.type "list":=fun o e=>by rw [ho] at e;cases e;rfl
 refine Srt.list_sort_by (κ:=tuples' true) (Rk:=fun i=>rkL 8 (xs.getD i ([],0)).1) ho (by rw [List.length_map];exact h64) (fun h' kp Q h2 q=>zkx (s:={ s with heap:=h' }) (fun x hx=>⟨zlA (hh x hx).1 na kp,(hh x hx).2⟩) (by rw [List.length_map] at h2;(first|lia|omega)) q) (fun h' kp=>by rw [List.length_map];exact zka (s:={ s with heap:=h' }) fun x hx=>⟨zlA (hh x hx).1 na kp,(hh x hx).2⟩) fun p r1 r2=>?_
 rw [List.length_map] at r1 r2
 obtain ⟨xs',q1,q2,q3⟩:=Srt.by_rank (f:=zgM) (g:=fun x:IA=>rkL 8 x.1) r1 r2
 rw [q3]
 exact h xs' q1 q2
end
section
variable {X:Cx} {e:Expr} {t:TA} {p1 p2 pos1 pos2:Pos}
end
end L2
namespace L2.Tim
open PySem PyProof.Rows
local macro_rules
 | `(tactic| fail_if_success skip)=>do
  let n:=(["_private","PySem","Builtin","List","W1All"].foldl Lean.Name.mkStr .anonymous).num 0 |>.str "PySem" |>.str "Builtin"
  `(tactic| first | unfold $(Lean.mkIdent (n.str "gallop")) | unfold $(Lean.mkIdent (n.str "mergeLo")) | unfold $(Lean.mkIdent (n.str "mergeHi")) | unfold $(Lean.mkIdent (n.str "mergeAt")))
section
variable {prog:Program} {w:World} {A:Around} {E:Value→Shared→Prop} {s:Shared} {κ:SortKind} {rk:Keyed→Int} {S:Keyed→Prop}
def Okk (prog:Program) (w:World) (A:Around) (s:Shared) (κ:SortKind) (rk:Keyed→Int) (S:Keyed→Prop):Prop:=∀ x y:Keyed,S x→S y→∀ C:Bool→Shared→Prop,C (decide (rk x<rk y)) s→wpAny (model prog w) A (keyLt' κ x.1 y.1) C (fun _ _=>False) s
theorem zeI (O:Okk prog w A s κ rk S) {x y:Keyed} (hx:S x) (hy:S y) {st:SortSt} (hk:kindOf st=κ) {Q:Option Bool→SortSt→Prop} (q:Q (some (decide (rk x<rk y))) st):wpS (model prog w) A E s (lt' x y) Q st:=by
 rw [lt'_eq]
 refine wpS_bind (wpS_get (wpS_bind (wpS_lift (wpAny_attempt ?_))))
 rw [hk]
 exact wpAny_mono (O x y hx hy _ ⟨rfl,wpS_pure q⟩) (fun _ _ z=>z) fun _ _ z=>z.elim
theorem zar {arr:Array Keyed} {i:Nat} {x:Keyed} (h:arr[i]?=some x) {st:SortSt} {Q:Keyed→SortSt→Prop} (q:Q x st):wpS (model prog w) A E s (elem' arr i) Q st:=by
 rw [elem'_eq,h]
 exact wpS_pure q
def byd (rk:Keyed→Int) (left:Bool) (key x:Keyed):Bool:=if left=true then decide (rk x<rk key) else !decide (rk key<rk x)
theorem zgN (O:Okk prog w A s κ rk S) {left:Bool} {key x:Keyed} {arr:Array Keyed} {i:Nat} (h:arr[i]?=some x) (hx:S x) (hk:S key) {st:SortSt} (ek:kindOf st=κ) {Q:Option Bool→SortSt→Prop} (q:Q (some (byd rk left key x)) st) :
  wpS (model prog w) A E s (elem' arr i >>= fun x=>if left=true then lt' x key else lt' key x >>= fun r=>pure (Option.map (fun x=>!x) r)) Q st:=by
 refine wpS_bind (zar h ?_)
 unfold byd at q
 by_cases l:left=true
 ·rw [if_pos l] at q ⊢
  exact zeI O hx hk ek q
 ·rw [if_neg l] at q ⊢
  exact wpS_bind (zeI O hk hx ek (wpS_pure q))
theorem zgS {left:Bool} {key:Keyed} {arr:Array Keyed} {base n hint:Nat} {st:SortSt} {g:Nat→Bool} (hh:hint<n) (mono:∀ i j,i≤j→j<n→g j=true→g i=true)
  (hb:∀ i,i<n→∀ Q:Option Bool→SortSt→Prop,Q (some (g i)) st→wpS (model prog w) A E s (elem' arr (base+i) >>= fun x=>if left=true then lt' x key else lt' key x >>= fun r=>pure (Option.map (fun x=>!x) r)) Q st)
  {Q:Option Nat→SortSt→Prop} (q:∀ k,k≤n→(∀ i,i<k→g i=true)→(∀ i,k≤i→i<n→g i=false)→Q (some k) st):wpS (model prog w) A E s ((sortPriv% PySem.Builtin.gallop) left key arr base n hint) Q st:=by
 fail_if_success skip
 refine wpS_bind (hb hint hh _ ?_)
 dsimp only
 have fin:∀ lo hi,lo≤hi→hi≤lo→hi≤n→(∀ i,i<lo→g i=true)→(∀ i,hi≤i→i<n→g i=false)→Q (some hi) st:=fun lo hi h1 h2 h3 h4 h5=>q hi h3 (fun i h=>h4 i (by (first|lia|omega))) h5
 have fls:∀ i j,i≤j→j<n→g i=false→g j=false:=fun i j h1 h2 h3=>by
  cases z:g j with
  | false=>rfl
  | true=>rw [mono i j h1 h2 z] at h3;exact h3
 cases e:g hint
 case' true =>
  rw [if_pos rfl]
  refine wpS_bind (wpS_mono (wpS_forRange (I:=fun i (c:Option (Option Nat)×Nat×Nat) (st':SortSt)=>st=st'∧c.1=none∧c.2.1<c.2.2∧i<c.2.2∧hint+c.2.1<n∧g (hint+c.2.1)=true) (Q:=fun (c:Option (Option Nat)×Nat×Nat) (st':SortSt)=>st=st'∧c.1=none∧c.2.1<c.2.2∧hint+c.2.1<n∧g (hint+c.2.1)=true∧(n - hint≤c.2.2∨g (hint+c.2.2)=false)) (fun i c st' _ hi' hI=>?_) (fun c st' hI=>?_) ⟨rfl,rfl,by decide,by decide,by (first|lia|omega),e⟩) fun c st' hc=>?_)
  ·obtain ⟨rfl,c1,c2,c3,c4,c5⟩:=hI
   obtain ⟨cn,l,o⟩:=c
   dsimp only at *
   split
   ·exact wpS_pure ⟨rfl,rfl,c2,c4,c5,.inl (by (first|lia|omega))⟩
   ·have a1:o<2*o+1:=by (first|lia|omega)
    have a2:i+1<2*o+1:=by (first|lia|omega)
    have a3:hint+o<n:=by (first|lia|omega)
    refine wpS_bind (hb (hint+o) (by (first|lia|omega)) _ ?_)
    dsimp only
    cases e2:g (hint+o) with
    | true=>exact wpS_pure ⟨rfl,rfl,a1,a2,a3,e2⟩
    | false=>exact wpS_pure ⟨rfl,rfl,c2,c4,c5,.inr e2⟩
  ·obtain ⟨e1,c1,c2,c3,c4,c5⟩:=hI
   have c3:n<c.2.2:=by simpa using c3
   exact ⟨e1,c1,c2,c4,c5,.inl (by (first|lia|omega))⟩
  obtain ⟨rfl,c1,c2,c3,c4,c5⟩:=hc
  obtain ⟨cn,l,o⟩:=c
  dsimp only at c1 c2 c3 c4 c5
  subst c1
  dsimp only
  have k1:hint+l+1≤hint+min o (n - hint):=by (first|lia|omega)
  have k2:hint+min o (n - hint)≤n:=by (first|lia|omega)
  have k3:∀ i,i<hint+l+1→g i=true:=fun i h=>mono i (hint+l) (by (first|lia|omega)) c3 c4
  have k4:∀ i,hint+min o (n - hint)≤i→i<n→g i=false:=fun i h1 h2=>by
   rcases c5 with z | z
   ·(first|lia|omega)
   ·exact fls (hint+o) i (by (first|lia|omega)) h2 z
  generalize hint+l+1=lo at k1 k3 ⊢
  generalize hint+min o (n - hint)=hi at k1 k2 k4 ⊢
 case' false =>
  rw [if_neg (by decide)]
  refine wpS_bind (wpS_mono (wpS_forRange (I:=fun i (c:Option (Option Nat)×Nat×Nat) (st':SortSt)=>st=st'∧c.1=none∧c.2.1<c.2.2∧i<c.2.2∧c.2.1≤hint∧g (hint - c.2.1)=false) (Q:=fun (c:Option (Option Nat)×Nat×Nat) (st':SortSt)=>st=st'∧c.1=none∧c.2.1<c.2.2∧c.2.1≤hint∧g (hint - c.2.1)=false∧(hint+1≤c.2.2∨g (hint - c.2.2)=true)) (fun i c st' _ hi' hI=>?_) (fun c st' hI=>?_) ⟨rfl,rfl,by decide,by decide,Nat.zero_le _,e⟩) fun c st' hc=>?_)
  ·obtain ⟨rfl,c1,c2,c3,c4,c5⟩:=hI
   obtain ⟨cn,l,o⟩:=c
   dsimp only at *
   split
   ·exact wpS_pure ⟨rfl,rfl,c2,c4,c5,.inl (by (first|lia|omega))⟩
   ·have a1:o<2*o+1:=by (first|lia|omega)
    have a2:i+1<2*o+1:=by (first|lia|omega)
    have a3:o≤hint:=by (first|lia|omega)
    refine wpS_bind (hb (hint - o) (by (first|lia|omega)) _ ?_)
    dsimp only
    cases e2:g (hint - o) with
    | true=>exact wpS_pure ⟨rfl,rfl,c2,c4,c5,.inr e2⟩
    | false=>exact wpS_pure ⟨rfl,rfl,a1,a2,a3,e2⟩
  ·obtain ⟨e1,c1,c2,c3,c4,c5⟩:=hI
   have c3:n<c.2.2:=by simpa using c3
   exact ⟨e1,c1,c2,c4,c5,.inl (by (first|lia|omega))⟩
  obtain ⟨rfl,c1,c2,c3,c4,c5⟩:=hc
  obtain ⟨cn,l,o⟩:=c
  dsimp only at c1 c2 c3 c4 c5
  subst c1
  dsimp only
  have k1:hint+1 - min o (hint+1)≤hint - l:=by (first|lia|omega)
  have k2:hint - l≤n:=by (first|lia|omega)
  have k3:∀ i,i<hint+1 - min o (hint+1)→g i=true:=fun i h=>by
   rcases c5 with z | z
   ·(first|lia|omega)
   ·exact mono i (hint - o) (by (first|lia|omega)) (by (first|lia|omega)) z
  have k4:∀ i,hint - l≤i→i<n→g i=false:=fun i h1 h2=>fls (hint - l) i h1 h2 c4
  generalize hint+1 - min o (hint+1)=lo at k1 k3 ⊢
  generalize hint - l=hi at k1 k2 k4 ⊢
 all_goals
  refine wpS_bind (wpS_mono (wpS_forRange (I:=fun i (c:Option (Option Nat)×Nat×Nat) (st':SortSt)=>st=st'∧c.1=none∧c.2.1≤c.2.2∧c.2.2≤n∧c.2.2≤c.2.1+(n - i)∧(∀ i,i<c.2.1→g i=true)∧∀ i,c.2.2≤i→i<n→g i=false)
   (Q:=fun (c:Option (Option Nat)×Nat×Nat) (st':SortSt)=>st=st'∧c.1=none∧c.2.1≤c.2.2∧c.2.2≤c.2.1∧c.2.2≤n∧(∀ i,i<c.2.1→g i=true)∧∀ i,c.2.2≤i→i<n→g i=false) (fun i c st' _ hi' hI=>?_) (fun c st' hI=>?_) ⟨rfl,rfl,k1,k2,by dsimp only;(first|lia|omega),k3,k4⟩) fun c st' hc=>?_)
  ·obtain ⟨rfl,c1,c2,c3,c4,c5,c6⟩:=hI
   obtain ⟨cn,l',r'⟩:=c
   dsimp only at *
   split
   ·exact wpS_pure ⟨rfl,rfl,c2,by (first|lia|omega),c3,c5,c6⟩
   ·have a3:l'+(r' - l') / 2<n:=by (first|lia|omega)
    refine wpS_bind (hb (l'+(r' - l') / 2) a3 _ ?_)
    dsimp only
    cases e2:g (l'+(r' - l') / 2) with
    | true =>
     have b1:l'+(r' - l') / 2+1≤r':=by (first|lia|omega)
     have b2:r'≤l'+(r' - l') / 2+1+(n - (i+1)):=by (first|lia|omega)
     exact wpS_pure ⟨rfl,rfl,b1,c3,b2,fun j h=>mono j (l'+(r' - l') / 2) (by dsimp only at h;(first|lia|omega)) a3 e2,c6⟩
    | false =>
     have b1:l'≤l'+(r' - l') / 2:=by (first|lia|omega)
     have b2:l'+(r' - l') / 2≤l'+(n - (i+1)):=by (first|lia|omega)
     have b3:l'+(r' - l') / 2≤n:=by (first|lia|omega)
     exact wpS_pure ⟨rfl,rfl,b1,b3,b2,c5,fun j h1 h2=>fls (l'+(r' - l') / 2) j h1 h2 e2⟩
  ·obtain ⟨e1,c1,c2,c3,c4,c5,c6⟩:=hI
   have c4:c.2.2≤c.2.1:=by simpa using c4
   exact ⟨e1,c1,c2,c4,c3,c5,c6⟩
  ·obtain ⟨rfl,c1,c2,c3,c4,c5,c6⟩:=hc
   obtain ⟨cn,l',r'⟩:=c
   dsimp only at c1 c2 c3 c4 c5 c6
   subst c1
   exact wpS_pure (fin l' r' c2 c3 c4 c5 c6)
abbrev So (rk:Keyed→Int) (l:List Keyed):Prop:=l.Pairwise fun x y=>rk x<rk y
structure Mg (rk:Keyed→Int) (la lb out:List Keyed) (ia ib:Nat):Prop where
 pm:(out++(la.drop ia++lb.drop ib)).Perm (la++lb)
 so:So rk out
 lt:∀ x∈out,∀ y,(y∈la.drop ia∨y∈lb.drop ib)→rk x<rk y
theorem Mg.swap {la lb out:List Keyed} {ia ib:Nat} (m:Mg rk la lb out ia ib):Mg rk lb la out ib ia :=
 ⟨((List.Perm.append_left out List.perm_append_comm).trans m.pm).trans List.perm_append_comm,m.so,fun x hx y hy=>m.lt x hx y hy.symm⟩
theorem Mg.a {la lb out:List Keyed} {ia ib:Nat} (m:Mg rk la lb out ia ib) (sa:So rk la) (k:Nat) (h:∀ x∈(la.drop ia).take k,∀ y∈lb.drop ib,rk x<rk y):Mg rk la lb (out++(la.drop ia).take k) (ia+k) ib:=by
 have e:la.drop ia=(la.drop ia).take k++la.drop (ia+k):=by rw [← List.drop_drop,List.take_append_drop]
 have sd:So rk ((la.drop ia).take k++la.drop (ia+k)):=by rw [← e];exact sa.sublist (List.drop_sublist _ _)
 have sd:=List.pairwise_append.mp sd
 refine ⟨?_,List.pairwise_append.mpr ⟨m.so,sd.1,fun x hx y hy=>m.lt x hx y (.inl (List.mem_of_mem_take hy))⟩,fun x hx y hy=>?_⟩
 ·have:=m.pm
  rw [e] at this
  simpa only [List.append_assoc] using this
 ·rcases List.mem_append.mp hx with hx | hx
  ·refine m.lt x hx y (hy.imp (fun z=>?_) id)
   rw [e]
   exact List.mem_append_right _ z
  ·rcases hy with z | z
   ·exact sd.2.2 x hx y z
   ·exact h x hx y z
theorem Mg.b {la lb out:List Keyed} {ia ib:Nat} (m:Mg rk la lb out ia ib) (sb:So rk lb) (k:Nat) (h:∀ x∈(lb.drop ib).take k,∀ y∈la.drop ia,rk x<rk y):Mg rk la lb (out++(lb.drop ib).take k) ia (ib+k):=(m.swap.a sb k h).swap
def Res (rk:Keyed→Int) (la lb r:List Keyed):Prop:=r.Perm (la++lb)∧So rk r
theorem Mg.end {la lb out r:List Keyed} {ia ib:Nat} (m:Mg rk la lb out ia ib) (hr:So rk r) (hp:r.Perm (la.drop ia++lb.drop ib)):Res rk la lb (out++r) :=
 ⟨(List.Perm.append_left out hp).trans m.pm,List.pairwise_append.mpr ⟨m.so,hr,fun x hx y hy=>m.lt x hx y (List.mem_append.mp (hp.mem_iff.mp hy))⟩⟩
def Sm (st st':SortSt):Prop:=kindOf st'=kindOf st∧arrOf st'=arrOf st∧pendingOf st'=pendingOf st∧failedOf st'=failedOf st
theorem zhG {n:Nat} {st:SortSt} {Q:Unit→SortSt→Prop} (q:∀ st',Sm st st'→Q () st'):wpS (model prog w) A E s ((sortPriv% PySem.Builtin.setMinGallop) n) Q st:=wpS_modify (q _ ⟨rfl,rfl,rfl,rfl⟩)
theorem Sm.trans {s1 s2 s3:SortSt} (a:Sm s1 s2) (b:Sm s2 s3):Sm s1 s3:=⟨b.1.trans a.1,b.2.1.trans a.2.1,b.2.2.1.trans a.2.2.1,b.2.2.2.trans a.2.2.2⟩
theorem zal {M:Model} {σ α:Type} {c:Prop} [Decidable c] {m1 m2:StateT σ Sem α} {Q:α→σ→Prop} {st:σ} (h1:c→wpS M A E s m1 Q st) (h2:¬ c→wpS M A E s m2 Q st):wpS M A E s (if c then m1 else m2) Q st:=by
 split
 ·exact h1 ‹_›
 ·exact h2 ‹_›
theorem zhX {x:String} {st:SortSt} {Q:Unit→SortSt→Prop} (q:Q () st):wpS (model prog w) A E s (liftM (rule x):StateT SortSt Sem Unit) Q st:=wpS_lift (wpAny_rule ⟨rfl,q⟩)
theorem zd9 (a:Array Keyed) (i:Nat):(a.extract i).toList=a.toList.drop i:=by
 simp only [Array.toList_extract,List.extract_eq_take_drop]
 exact List.take_of_length_le (by simp)
theorem zfc (a:Array Keyed) (i k:Nat):(a.extract i (i+k)).toList=(a.toList.drop i).take k:=by simp [List.extract_eq_take_drop]
theorem zeb {l:List Keyed} {i:Nat} {x:Keyed} (h:l[i]?=some x):(l.drop i).take 1=[x]:=by
 obtain ⟨hi,rfl⟩:=List.getElem?_eq_some_iff.mp h
 rw [List.drop_eq_getElem_cons hi]
 rfl
theorem zbD {a:Array Keyed} {i:Nat} (h:i<a.size):∃ x,a.toList[i]?=some x∧a[i]?=some x:=⟨a[i],by simp [h],by simp [h]⟩
theorem least {l:List Keyed} {i:Nat} {x:Keyed} (sl:So rk l) (h:l[i]?=some x):∀ y∈l.drop i,rk x≤rk y:=fun y hy=>by
 obtain ⟨hi,rfl⟩:=List.getElem?_eq_some_iff.mp h
 have sd:So rk (l.drop i):=sl.sublist (List.drop_sublist _ _)
 rw [List.drop_eq_getElem_cons hi] at sd hy
 rcases List.mem_cons.mp hy with rfl | hy
 ·exact Int.le_refl _
 ·exact Int.le_of_lt ((List.pairwise_cons.mp sd).1 y hy)
section
variable {a b:Array Keyed} {out:Array Keyed} {ia ib:Nat} {x y:Keyed}
theorem Mg.pushA (m:Mg rk a.toList b.toList out.toList ia ib) (sa:So rk a.toList) (sb:So rk b.toList) (ea:a.toList[ia]?=some x) (h:∀ y∈b.toList.drop ib,rk x<rk y):Mg rk a.toList b.toList (out.push x).toList (ia+1) ib:=by
 have:=m.a sa 1 (by rw [zeb ea];exact fun z hz=>by rw [List.mem_singleton.mp hz];exact h)
 rw [zeb ea] at this
 rwa [Array.toList_push]
theorem Mg.pushB (m:Mg rk a.toList b.toList out.toList ia ib) (sa:So rk a.toList) (sb:So rk b.toList) (eb:b.toList[ib]?=some y) (h:∀ x∈a.toList.drop ia,rk y<rk x):Mg rk a.toList b.toList (out.push y).toList ia (ib+1):=by
 have:=m.b sb 1 (by rw [zeb eb];exact fun z hz=>by rw [List.mem_singleton.mp hz];exact h)
 rw [zeb eb] at this
 rwa [Array.toList_push]
theorem Mg.done (m:Mg rk a.toList b.toList out.toList ia ib) (sa:So rk a.toList) (h:b.size≤ib):Res rk a.toList b.toList (out++a.extract ia++b.extract ib).toList:=by
 have e:b.toList.drop ib=[]:=List.drop_eq_nil_of_le (by simpa using h)
 rw [Array.toList_append,Array.toList_append,zd9,zd9,e,List.append_nil]
 exact m.end (sa.sublist (List.drop_sublist _ _)) (by rw [e,List.append_nil])
theorem Mg.last (m:Mg rk a.toList b.toList out.toList ia ib) (sb:So rk b.toList) (e1:a.toList[a.size - 1]?=some x) (h1:∀ y∈b.toList,rk y<rk x) (h:ia+1=a.size):Res rk a.toList b.toList (out++b.extract ib++a.extract ia).toList:=by
 have ei:a.size - 1=ia:=by (first|lia|omega)
 rw [ei] at e1
 have e:a.toList.drop ia=[x]:=by
  obtain ⟨hi,rfl⟩:=List.getElem?_eq_some_iff.mp e1
  rw [List.drop_eq_getElem_cons hi,List.drop_eq_nil_of_le (by simp;(first|lia|omega))]
 rw [Array.toList_append,Array.toList_append,zd9,zd9,e,List.append_assoc]
 refine m.end (List.pairwise_append.mpr ⟨sb.sublist (List.drop_sublist _ _),List.pairwise_singleton _ _,fun u hu v hv=>?_⟩) (by rw [e];exact List.perm_append_comm)
 rw [List.mem_singleton.mp hv]
 exact h1 u (List.mem_of_mem_drop hu)
end
theorem galS (O:Okk prog w A s κ rk S) {left:Bool} {key:Keyed} {arr:Array Keyed} {base n hint:Nat} (hn:base+n≤arr.size) (hh:hint<n) (sl:So rk ((arr.toList.drop base).take n)) (hS:∀ x∈arr.toList,S x) (hk:S key) (ne:∀ x∈(arr.toList.drop base).take n,rk x≠rk key) {st:SortSt} (ek:kindOf st=κ) {Q:Option Nat→SortSt→Prop}
  (h:∀ k,k≤n→(∀ z∈(arr.toList.drop base).take k,rk z<rk key)→(∀ z∈((arr.toList.drop base).take n).drop k,rk key<rk z)→Q (some k) st):wpS (model prog w) A E s ((sortPriv% PySem.Builtin.gallop) left key arr base n hint) Q st:=by
 have at':∀ i,i<n→∃ x,arr[base+i]?=some x∧((arr.toList.drop base).take n)[i]?=some x∧x∈(arr.toList.drop base).take n:=fun i hi=>by
  obtain ⟨x,h1,h2⟩:=zbD (a:=arr) (i:=base+i) (by (first|lia|omega))
  have h3:((arr.toList.drop base).take n)[i]?=some x:=by rw [List.getElem?_take_of_lt hi,List.getElem?_drop];exact h1
  exact ⟨x,h2,h3,List.mem_of_getElem? h3⟩
 have gt:∀ x∈(arr.toList.drop base).take n,(byd rk left key x=true↔rk x<rk key)∧(byd rk left key x=false↔rk key<rk x):=fun x hx=>by
  have:=ne x hx
  unfold byd
  cases left <;> simp <;> (first|lia|omega)
 refine zgS (g:=fun i=>byd rk left key (arr.getD (base+i) key)) hh (fun i j hij hj hg=>?_) (fun i hi Q' q=>?_) fun k hk1 hk2 hk3=>h k hk1 (fun z hz=>?_) fun z hz=>?_
 ·obtain ⟨x,ex,lx,mx⟩:=at' i (by (first|lia|omega))
  obtain ⟨y,ey,ly,my⟩:=at' j hj
  simp only [Array.getD_eq_getD_getElem?,ex,ey,Option.getD_some] at hg ⊢
  rw [(gt y my).1] at hg
  rw [(gt x mx).1]
  rcases Nat.eq_or_lt_of_le hij with z | z
  ·subst z
   rw [ex] at ey
   cases ey
   exact hg
  ·obtain ⟨h1,rfl⟩:=List.getElem?_eq_some_iff.mp lx
   obtain ⟨h2,rfl⟩:=List.getElem?_eq_some_iff.mp ly
   have:=(List.pairwise_iff_getElem.mp sl) i j h1 h2 z
   (first|lia|omega)
 ·obtain ⟨x,ex,lx,mx⟩:=at' i hi
  simp only [Array.getD_eq_getD_getElem?,ex,Option.getD_some] at q
  exact zgN O ex (hS x (List.mem_of_mem_drop (List.mem_of_mem_take mx))) hk ek q
 ·obtain ⟨i,hi⟩:=List.getElem?_of_mem hz
  have li:=(List.getElem?_eq_some_iff.mp hi).1
  rw [List.length_take] at li
  have lk:i<k:=by (first|lia|omega)
  rw [List.getElem?_take_of_lt lk,List.getElem?_drop] at hi
  have hg:=hk2 i lk
  rw [Array.getElem?_toList] at hi
  simp only [Array.getD_eq_getD_getElem?,hi,Option.getD_some] at hg
  have mz:z∈(arr.toList.drop base).take n:=by
   rw [← Nat.min_eq_left hk1,← List.take_take] at hz
   exact List.mem_of_mem_take hz
  exact (gt z mz).1.mp hg
 ·obtain ⟨i,hi⟩:=List.getElem?_of_mem hz
  have li:=(List.getElem?_eq_some_iff.mp hi).1
  rw [List.length_drop,List.length_take] at li
  rw [List.getElem?_drop,List.getElem?_take_of_lt (by (first|lia|omega)),List.getElem?_drop] at hi
  have hg:=hk3 (k+i) (by (first|lia|omega)) (by (first|lia|omega))
  rw [Array.getElem?_toList] at hi
  simp only [Array.getD_eq_getD_getElem?,hi,Option.getD_some] at hg
  exact (gt z (List.mem_of_mem_drop hz)).2.mp hg
theorem gal (O:Okk prog w A s κ rk S) {left:Bool} {key:Keyed} {arr:Array Keyed} {base n hint:Nat} (hn:base+n≤arr.size) (hh:hint<n) (sl:So rk arr.toList) (hS:∀ x∈arr.toList,S x) (hk:S key) (ne:∀ x∈arr.toList,rk x≠rk key) {st:SortSt} (ek:kindOf st=κ) {Q:Option Nat→SortSt→Prop}
  (h:∀ k,k≤n→(∀ z∈(arr.toList.drop base).take k,rk z<rk key)→(∀ z∈((arr.toList.drop base).take n).drop k,rk key<rk z)→Q (some k) st):wpS (model prog w) A E s ((sortPriv% PySem.Builtin.gallop) left key arr base n hint) Q st :=
 galS O hn hh (sl.sublist ((List.take_sublist _ _).trans (List.drop_sublist _ _))) hS hk (fun x hx=>ne x (List.mem_of_mem_drop (List.mem_of_mem_take hx))) ek h
theorem ziY {i n:Nat} (l:i+1<n) (c:¬ (i+1+1 == n)=true):i+1+1<n:=by simp at c;(first|lia|omega)
theorem pr_k {p i j:Nat} (k:Nat) (h:p≤i+j):p≤i+1+(j+1+k):=by (first|lia|omega)
theorem zgn (O:Okk prog w A s κ rk S) {a b:Array Keyed} {st:SortSt} (ek:kindOf st=κ) (hS:∀ x,x∈a.toList∨x∈b.toList→S x) (sa:So rk a.toList) (sb:So rk b.toList) (nab:∀ x∈a.toList,∀ y∈b.toList,rk x≠rk y)
  {x0 y0:Keyed} (e0:b.toList[0]?=some y0) (h0:∀ x∈a.toList,rk y0<rk x) (e1:a.toList[a.size - 1]?=some x0) (h1:∀ y∈b.toList,rk y<rk x0) {Q:Array Keyed→SortSt→Prop} (q:∀ r st',Sm st st'→Res rk a.toList b.toList r.toList→Q r st') :
  wpS (model prog w) A E s ((sortPriv% PySem.Builtin.mergeLo) a b) Q st:=by
 fail_if_success skip
 refine wpS_bind (zhX (wpS_bind (zar (by rw [← Array.getElem?_toList];exact e0) ?_)))
 have bz:0<b.size:=by
  have:=(List.getElem?_eq_some_iff.mp e0).1
  simpa using this
 have az:0<a.size:=by
  have:=(List.getElem?_eq_some_iff.mp e1).1
  simp at this
  (first|lia|omega)
 have m0:Mg rk a.toList b.toList (#[y0]:Array Keyed).toList 0 1:=by
  have m:Mg rk a.toList b.toList (#[]:Array Keyed).toList 0 0:=⟨.refl _,.nil,fun x hx=>by simp at hx⟩
  exact m.pushB sa sb e0 (by simpa using h0)
 refine zal (fun c=>wpS_pure (q _ _ ⟨rfl,rfl,rfl,rfl⟩ (m0.done sa (by simp at c;(first|lia|omega))))) fun c1=>zal (fun c=>wpS_pure (q _ _ ⟨rfl,rfl,rfl,rfl⟩ (m0.last sb e1 h1 (by simpa using c)))) fun c2=>?_
 have z1:1<b.size:=by simp at c1;(first|lia|omega)
 have z2:1<a.size:=by simp at c2;(first|lia|omega)
 clear c1 c2
 refine wpS_bind (wpS_get (wpS_bind (wpS_mono (wpS_forRange (I:=fun i (c:Option (Array Keyed)×Array Keyed×Nat×Nat×Nat) (st':SortSt)=>Sm st st'∧c.1=none∧Mg rk a.toList b.toList c.2.1.toList c.2.2.1 c.2.2.2.1∧c.2.2.1+1<a.size∧c.2.2.2.1<b.size∧i+1≤c.2.2.1+c.2.2.2.1)
  (Q:=fun (c:Option (Array Keyed)×Array Keyed×Nat×Nat×Nat) (st':SortSt)=>Sm st st'∧∃ r,c.1=some r∧Res rk a.toList b.toList r.toList) (fun i c st' _ hi' hI=>?_) (fun c st' hI=>?_) ⟨⟨rfl,rfl,rfl,rfl⟩,rfl,m0,by (first|lia|omega),z1,Nat.le_refl _⟩) fun c st' hc=>?_)))
 ·obtain ⟨sm,c1,m,i1,i2,pr⟩:=hI
  obtain ⟨cn,out,ia,ib,mg⟩:=c
  dsimp only at c1 m i1 i2 pr
  refine wpS_bind (wpS_mono (wpS_forRange (I:=fun k (c:Option (Array Keyed)×Array Keyed×Nat×Nat×Nat×Nat) (st':SortSt)=>Sm st st'∧c.1=none∧Mg rk a.toList b.toList c.2.1.toList c.2.2.1 c.2.2.2.1∧c.2.2.1+1<a.size∧c.2.2.2.1<b.size∧ia+ib+k≤c.2.2.1+c.2.2.2.1)
   (Q:=fun (c:Option (Array Keyed)×Array Keyed×Nat×Nat×Nat×Nat) (st':SortSt)=>Sm st st'∧((c.1=none∧Mg rk a.toList b.toList c.2.1.toList c.2.2.1 c.2.2.2.1∧c.2.2.1+1<a.size∧c.2.2.2.1<b.size∧i+2≤c.2.2.1+c.2.2.2.1)∨∃ r,c.1=some r∧Res rk a.toList b.toList r.toList)) (fun k c st' _ hk' hI=>?_) (fun c st' hI=>?_) ⟨sm,rfl,m,i1,i2,Nat.le_refl _⟩) fun c st' hc=>?_)
  ·obtain ⟨sm,c1,m,i1,i2,pr⟩:=hI
   obtain ⟨cn,out,ja,jb,ac,bc⟩:=c
   dsimp only at c1 m i1 i2 pr
   obtain ⟨x,ex,fx⟩:=zbD (a:=a) (i:=ja) (by (first|lia|omega))
   obtain ⟨y,ey,fy⟩:=zbD (a:=b) (i:=jb) i2
   have mx:x∈a.toList:=List.mem_of_getElem? ex
   have my:y∈b.toList:=List.mem_of_getElem? ey
   refine wpS_bind (zar fy (wpS_bind (zar fx (wpS_bind (zeI O (hS y (.inr my)) (hS x (.inl mx)) (sm.1.trans ek) ?_)))))
   refine zal (fun c=>wpS_bind (zar fy ?_)) fun c=>wpS_bind (zar fx ?_)
   ·have c:rk y<rk x:=by simpa using c
    have m2:=m.pushB sa sb ey fun z hz=>Int.lt_of_lt_of_le c (least sa ex z hz)
    refine zal (fun c2=>wpS_pure ⟨sm,.inr ⟨_,rfl,m2.done sa (by simp at c2;(first|lia|omega))⟩⟩) fun c2=>?_
    have j2:jb+1<b.size:=by simp at c2;(first|lia|omega)
    exact zal (fun _=>wpS_pure ⟨sm,.inl ⟨rfl,m2,i1,j2,(by (first|lia|omega):i+2≤ja+(jb+1))⟩⟩) fun _=>wpS_pure ⟨sm,rfl,m2,i1,j2,(by (first|lia|omega):ia+ib+(k+1)≤ja+(jb+1))⟩
   ·have c:rk x<rk y:=by
     have:=nab x mx y my
     simp at c
     (first|lia|omega)
    have m2:=m.pushA sa sb ex fun z hz=>Int.lt_of_lt_of_le c (least sb ey z hz)
    refine zal (fun c2=>wpS_pure ⟨sm,.inr ⟨_,rfl,m2.last sb e1 h1 (by simpa using c2)⟩⟩) fun c2=>?_
    have j2:ja+1+1<a.size:=by simp at c2;(first|lia|omega)
    exact zal (fun _=>wpS_pure ⟨sm,.inl ⟨rfl,m2,j2,i2,(by (first|lia|omega):i+2≤ja+1+jb)⟩⟩) fun _=>wpS_pure ⟨sm,rfl,m2,j2,i2,(by (first|lia|omega):ia+ib+(k+1)≤ja+1+jb)⟩
  ·obtain ⟨sm,c1,m,i1,i2,pr⟩:=hI
   refine ⟨sm,.inl ⟨c1,m,i1,i2,?_⟩⟩
   have:max 0 (a.size+b.size)=a.size+b.size:=by (first|lia|omega)
   rw [this] at pr
   (first|lia|omega)
  ·obtain ⟨sm,h⟩:=hc
   obtain ⟨cn,out,ja,jb,ac,bc⟩:=c
   rcases h with ⟨c1,m,i1,i2,pr⟩ | ⟨r,c1,hr⟩
   ·dsimp only at c1 m i1 i2 pr
    subst c1
    refine wpS_bind (zhX (wpS_bind (wpS_mono (wpS_forRange (I:=fun _ (c:Option (Array Keyed)×Array Keyed×Nat×Nat×Nat×Nat×Nat) (st':SortSt)=>Sm st st'∧c.1=none∧Mg rk a.toList b.toList c.2.1.toList c.2.2.1 c.2.2.2.1∧c.2.2.1+1<a.size∧c.2.2.2.1<b.size∧i+2≤c.2.2.1+c.2.2.2.1)
     (Q:=fun (c:Option (Array Keyed)×Array Keyed×Nat×Nat×Nat×Nat×Nat) (st':SortSt)=>Sm st st'∧((c.1=none∧Mg rk a.toList b.toList c.2.1.toList c.2.2.1 c.2.2.2.1∧c.2.2.1+1<a.size∧c.2.2.2.1<b.size∧i+2≤c.2.2.1+c.2.2.2.1)∨∃ r,c.1=some r∧Res rk a.toList b.toList r.toList)) (fun k c st' _ hk' hI=>?_) (fun c st' hI=>⟨hI.1,.inl hI.2⟩) ⟨sm,rfl,m,i1,i2,pr⟩) fun c st' hc=>?_)))
    ·obtain ⟨sm,c1,m,i1,i2,pr⟩:=hI
     obtain ⟨cn,out,ja,jb,mg',ac',bc'⟩:=c
     dsimp only at c1 m i1 i2 pr
     obtain ⟨y,ey,fy⟩:=zbD (a:=b) (i:=jb) i2
     have my:y∈b.toList:=List.mem_of_getElem? ey
     refine zal (fun _=>?_) fun _=>?_
     all_goals
      refine wpS_bind (zhG fun st2 sm2=>wpS_bind (zar fy (wpS_bind (gal (base:=ja) (n:=a.size - ja) (hint:=0) O (by (first|lia|omega)) (by (first|lia|omega)) sa (fun x hx=>hS x (.inl hx)) (hS y (.inr my)) (fun x hx=>nab x hx y my) ((sm.trans sm2).1.trans ek) fun k' hk1 hk2 hk3=>?_))))
      have sm:=sm.trans sm2
      rw [List.take_of_length_le (by simp),List.drop_drop] at hk3
      have m1:Mg rk a.toList b.toList (out++a.extract ja (ja+k')).toList (ja+k') jb:=by
       rw [Array.toList_append,zfc]
       exact m.a sa k' fun z hz v hv=>Int.lt_of_lt_of_le (hk2 z hz) (least sb ey v hv)
      have hk4:ja+k'<a.size:=by
       rcases Nat.lt_or_ge (ja+k') a.size with z | z
       ·exact z
       ·rw [List.take_of_length_le (by simp;(first|lia|omega))] at hk2
        have:=hk2 x0 (List.mem_of_getElem? (i:=a.size - 1 - ja) (by rw [List.getElem?_drop,show ja+(a.size - 1 - ja)=a.size - 1 by (first|lia|omega)];exact e1))
        have:=h1 y my
        (first|lia|omega)
      refine zal (fun kp=>?_) fun kz=>?_
      refine zal (fun c=>wpS_pure ⟨sm,.inr ⟨_,rfl,m1.last sb e1 h1 (by simpa using c)⟩⟩) fun c=>zal (fun c3=>absurd c3 (by simp;(first|lia|omega))) fun _=>?_
      have l2:ja+k'+1<a.size:=by simp at c;(first|lia|omega)
      have g2:=hk3
      have m2:=m1
      have pr2:i+2≤ja+k'+jb:=by (first|lia|omega)
      rotate_left
      have ez:k'=0:=by (first|lia|omega)
      have l2:=i1
      have m2:=m
      have pr2:=pr
      have g2:∀ z∈a.toList.drop ja,rk y<rk z:=by rw [ez] at hk3;exact hk3
      all_goals
       refine wpS_bind (zar fy ?_)
       have m3:=m2.pushB sa sb ey g2
       refine zal (fun c2=>wpS_pure ⟨sm,.inr ⟨_,rfl,m3.done sa (by simp at c2;(first|lia|omega))⟩⟩) fun c2=>?_
       have j3:jb+1<b.size:=by simp at c2;(first|lia|omega)
       obtain ⟨x,ex,fx⟩:=zbD (Nat.lt_of_succ_lt l2)
       have mx:=List.mem_of_getElem? ex
       refine wpS_bind (zar fx (wpS_bind (gal (base:=jb+1) (n:=b.size - (jb+1)) (hint:=0) O (by (first|lia|omega)) (by (first|lia|omega)) sb (fun x hx=>hS x (.inr hx)) (hS x (.inl mx)) (fun z hz e=>nab x mx z hz e.symm) (sm.1.trans ek) fun k2 hq1 hq2 hq3=>?_)))
       rw [List.take_of_length_le (by simp),List.drop_drop] at hq3
       have m4:=m3.b sb k2 fun z hz v hv=>Int.lt_of_lt_of_le (hq2 z hz) (least sa ex v hv)
       rw [← zfc,← Array.toList_append] at m4
       refine zal (fun kp=>?_) fun kz=>?_
       refine zal (fun c=>wpS_pure ⟨sm,.inr ⟨_,rfl,m4.done sa (by simp at c;(first|lia|omega))⟩⟩) fun c=>?_
       have j4:jb+1+k2<b.size:=by simp at c;(first|lia|omega)
       have g5:=hq3
       have m5:=m4
       have pr5:=pr_k k2 pr2
       rotate_left
       have ez:k2=0:=by (first|lia|omega)
       have j4:=j3
       have m5:=m3
       have pr5:=pr_k 0 pr2
       have g5:∀ z∈b.toList.drop (jb+1),rk x<rk z:=by rw [ez] at hq3;exact hq3
       all_goals
        refine wpS_bind (zar fx ?_)
        have m6:=m5.pushA sa sb ex g5
        exact zal (fun c=>wpS_pure ⟨sm,.inr ⟨_,rfl,m6.last sb e1 h1 (by simpa using c)⟩⟩) fun c=>zal (fun _=>wpS_pure ⟨sm,.inl ⟨rfl,m6,ziY l2 c,j4,pr5⟩⟩) fun _=>wpS_pure ⟨sm,rfl,m6,ziY l2 c,j4,pr5⟩
    ·obtain ⟨sm,h⟩:=hc
     obtain ⟨cn,out,ja,jb,mg',ac',bc'⟩:=c
     rcases h with ⟨c1,m,i1,i2,pr⟩ | ⟨r,c1,hr⟩
     ·dsimp only at c1 m i1 i2 pr
      subst c1
      exact wpS_bind (zhG fun st2 sm2=>wpS_pure ⟨sm.trans sm2,rfl,m,i1,i2,pr⟩)
     ·cases c1
      exact wpS_pure ⟨sm,_,rfl,hr⟩
   ·cases c1
    exact wpS_pure ⟨sm,_,rfl,hr⟩
 ·obtain ⟨sm,c1,m,i1,i2,pr⟩:=hI
  have:max 0 (a.size+b.size)=a.size+b.size:=by (first|lia|omega)
  rw [this] at pr
  (first|lia|omega)
 ·obtain ⟨sm,r,c1,hr⟩:=hc
  obtain ⟨cn,out,ja,jb,ac⟩:=c
  cases c1
  exact wpS_pure (q _ _ sm hr)
structure Mh (rk:Keyed→Int) (la lb out:List Keyed) (na nb:Nat):Prop where
 sa:na≤la.length
 sb:nb≤lb.length
 pm:(la.take na++lb.take nb++out).Perm (la++lb)
 so:So rk out
 lt:∀ x∈out,∀ y,(y∈la.take na∨y∈lb.take nb)→rk y<rk x
theorem Mh.swap {la lb out:List Keyed} {na nb:Nat} (m:Mh rk la lb out na nb):Mh rk lb la out nb na :=
 ⟨m.sb,m.sa,((List.Perm.append_right out List.perm_append_comm).trans m.pm).trans List.perm_append_comm,m.so,fun x hx y hy=>m.lt x hx y hy.symm⟩
theorem Mh.a {la lb out:List Keyed} {na nb k:Nat} (m:Mh rk la lb out na nb) (sa:So rk la) (hk:k≤na) (h:∀ x∈(la.take na).drop k,∀ y∈lb.take nb,rk y<rk x):Mh rk la lb ((la.take na).drop k++out) k nb:=by
 have e:la.take na=la.take k++(la.take na).drop k:=by
  have:=List.take_append_drop k (la.take na)
  rw [List.take_take,Nat.min_eq_left hk] at this
  exact this.symm
 have st:So rk (la.take na):=sa.sublist (List.take_sublist _ _)
 have pm:=m.pm
 have lt:=m.lt
 generalize (la.take na).drop k=D at *
 rw [e] at st pm lt
 have sd:=List.pairwise_append.mp st
 refine ⟨Nat.le_trans hk m.sa,m.sb,?_,List.pairwise_append.mpr ⟨sd.2.1,m.so,fun x hx y hy=>lt y hy x (.inl (List.mem_append_right _ hx))⟩,fun x hx y hy=>?_⟩
 ·refine List.Perm.trans ?_ pm
  simp only [List.append_assoc]
  exact List.Perm.append_left _ (List.perm_append_comm_assoc _ _ _)
 ·rcases List.mem_append.mp hx with hx | hx
  ·rcases hy with z | z
   ·exact sd.2.2 y z x hx
   ·exact h x hx y z
  ·exact lt x hx y (hy.imp (fun z=>List.mem_append_left _ z) id)
theorem zeA (a:Array Keyed) (k n:Nat):(a.extract k n).toList=(a.toList.take n).drop k:=by simp [List.extract_eq_take_drop,List.drop_take]
theorem zfZ {l:List Keyed} {i:Nat} {x:Keyed} (h:l[i]?=some x):(l.take (i+1)).drop i=[x]:=by
 obtain ⟨hi,rfl⟩:=List.getElem?_eq_some_iff.mp h
 rw [List.drop_take,List.drop_eq_getElem_cons hi,show i+1 - i=1 by (first|lia|omega)]
 rfl
theorem most {l:List Keyed} {i:Nat} {x:Keyed} (sl:So rk l) (h:l[i]?=some x):∀ y∈l.take (i+1),rk y≤rk x:=fun y hy=>by
 obtain ⟨hi,rfl⟩:=List.getElem?_eq_some_iff.mp h
 obtain ⟨j,ej⟩:=List.getElem?_of_mem hy
 have lj:=(List.getElem?_eq_some_iff.mp ej).1
 rw [List.length_take] at lj
 rw [List.getElem?_take_of_lt (by (first|lia|omega))] at ej
 obtain ⟨hj,rfl⟩:=List.getElem?_eq_some_iff.mp ej
 rcases Nat.eq_or_lt_of_le (show j≤i by (first|lia|omega)) with z | z
 ·subst z;exact Int.le_refl _
 ·exact Int.le_of_lt ((List.pairwise_iff_getElem.mp sl) j i hj hi z)
section
variable {a b out:Array Keyed} {na nb:Nat} {x y:Keyed}
theorem Mh.pushA (m:Mh rk a.toList b.toList out.reverse.toList (na+1) nb) (sa:So rk a.toList) (ea:a.toList[na]?=some x) (h:∀ y∈b.toList.take nb,rk y<rk x):Mh rk a.toList b.toList (out.push x).reverse.toList na nb:=by
 have:=m.a sa (Nat.le_succ na) (by rw [zfZ ea];exact fun z hz=>by rw [List.mem_singleton.mp hz];exact h)
 rw [zfZ ea] at this
 simpa using this
theorem Mh.pushB (m:Mh rk a.toList b.toList out.reverse.toList na (nb+1)) (sb:So rk b.toList) (eb:b.toList[nb]?=some y) (h:∀ x∈a.toList.take na,rk x<rk y):Mh rk a.toList b.toList (out.push y).reverse.toList na nb:=by
 have:=(m.swap.a sb (Nat.le_succ nb) (by rw [zfZ eb];exact fun z hz=>by rw [List.mem_singleton.mp hz];exact h)).swap
 rw [zfZ eb] at this
 simpa using this
theorem Mh.bulkA {k:Nat} (m:Mh rk a.toList b.toList out.reverse.toList na nb) (sa:So rk a.toList) (hk:k≤na) (h:∀ x∈(a.toList.take na).drop k,∀ y∈b.toList.take nb,rk y<rk x):Mh rk a.toList b.toList (out++(a.extract k na).reverse).reverse.toList k nb:=by
 have:=m.a sa hk h
 rw [← zeA] at this
 simpa using this
theorem Mh.bulkB {k:Nat} (m:Mh rk a.toList b.toList out.reverse.toList na nb) (sb:So rk b.toList) (hk:k≤nb) (h:∀ x∈(b.toList.take nb).drop k,∀ y∈a.toList.take na,rk y<rk x):Mh rk a.toList b.toList (out++(b.extract k nb).reverse).reverse.toList na k:=by
 have:=(m.swap.a sb hk h).swap
 rw [← zeA] at this
 simpa using this
theorem Mh.done (m:Mh rk a.toList b.toList out.reverse.toList 0 nb) (sb:So rk b.toList):Res rk a.toList b.toList (a.extract 0 0++b.extract 0 nb++out.reverse).toList:=by
 have e:(a.extract 0 0++b.extract 0 nb++out.reverse).toList=a.toList.take 0++b.toList.take nb++out.reverse.toList:=by rw [Array.toList_append,Array.toList_append,zeA,zeA];rfl
 rw [e]
 refine ⟨m.pm,?_⟩
 rw [List.take_zero,List.nil_append]
 exact List.pairwise_append.mpr ⟨sb.sublist (List.take_sublist _ _),m.so,fun u hu v hv=>m.lt v hv u (.inr hu)⟩
theorem Mh.first (m:Mh rk a.toList b.toList out.reverse.toList na 1) (sa:So rk a.toList) (e0:b.toList[0]?=some y) (h0:∀ x∈a.toList,rk y<rk x):Res rk a.toList b.toList (b.extract 0 1++a.extract 0 na++out.reverse).toList:=by
 have e:(b.extract 0 1++a.extract 0 na++out.reverse).toList=b.toList.take 1++a.toList.take na++out.reverse.toList:=by rw [Array.toList_append,Array.toList_append,zeA,zeA];rfl
 have e2:b.toList.take 1=[y]:=zfZ e0
 rw [e]
 refine ⟨(List.Perm.append_right _ List.perm_append_comm).trans m.pm,?_⟩
 refine List.pairwise_append.mpr ⟨List.pairwise_append.mpr ⟨by rw [e2];exact List.pairwise_singleton _ _,sa.sublist (List.take_sublist _ _),fun u hu v hv=>?_⟩,m.so,fun u hu v hv=>m.lt v hv u ?_⟩
 ·rw [e2] at hu
  rw [List.mem_singleton.mp hu]
  exact h0 v (List.mem_of_mem_take hv)
 ·exact (List.mem_append.mp hu).symm
end
theorem zl6 {a:Array Keyed} {n:Nat} (h:0<n) (hl:n≤a.toList.length):∃ x,a.toList[n - 1]?=some x∧a[n - 1]?=some x:=zbD (by rw [Array.length_toList] at hl;(first|lia|omega))
theorem znb {l:List Keyed} {n:Nat} {x:Keyed} (sl:So rk l) (h:0<n) (e:l[n - 1]?=some x):∀ y∈l.take n,rk y≤rk x:=fun y hy=>most sl e y (by rw [show n - 1+1=n by (first|lia|omega)];exact hy)
theorem Mh.pushA2 {a b out:Array Keyed} {na nb:Nat} {x:Keyed} (hn:0<na) (m:Mh rk a.toList b.toList out.reverse.toList na nb) (sa:So rk a.toList) (ea:a.toList[na - 1]?=some x) (h:∀ y∈b.toList.take nb,rk y<rk x):Mh rk a.toList b.toList (out.push x).reverse.toList (na - 1) nb :=
 Mh.pushA (by rw [show na - 1+1=na by (first|lia|omega)];exact m) sa ea h
theorem pr_h {p i j k t:Nat} (h:i+j+p+2≤t) (hk:k≤j):i - 1+k+p+2≤t:=by (first|lia|omega)
theorem zgA {n:Nat} (c:¬ (n == 0)=true):0<n:=by simp at c;(first|lia|omega)
theorem zf3 (O:Okk prog w A s κ rk S) {a b:Array Keyed} {st:SortSt} (ek:kindOf st=κ) (hS:∀ x,x∈a.toList∨x∈b.toList→S x) (sa:So rk a.toList) (sb:So rk b.toList) (nab:∀ x∈a.toList,∀ y∈b.toList,rk x≠rk y)
  {x0 y0:Keyed} (e0:b.toList[0]?=some y0) (h0:∀ x∈a.toList,rk y0<rk x) (e1:a.toList[a.size - 1]?=some x0) (h1:∀ y∈b.toList,rk y<rk x0) {Q:Array Keyed→SortSt→Prop} (q:∀ r st',Sm st st'→Res rk a.toList b.toList r.toList→Q r st') :
  wpS (model prog w) A E s ((sortPriv% PySem.Builtin.mergeHi) a b) Q st:=by
 fail_if_success skip
 have bz:0<b.size:=by
  have:=(List.getElem?_eq_some_iff.mp e0).1
  simpa using this
 obtain ⟨n0,en⟩:∃ n,a.size=n+1:=⟨a.size - 1,by
  have:=(List.getElem?_eq_some_iff.mp e1).1
  simp at this
  (first|lia|omega)⟩
 have ez:a.size - 1=n0:=by (first|lia|omega)
 rw [ez] at e1 ⊢
 refine wpS_bind (zhX (wpS_bind (zar (by rw [← Array.getElem?_toList];exact e1) ?_)))
 have m0:Mh rk a.toList b.toList ((#[]:Array Keyed).push x0).reverse.toList n0 b.size:=by
  have m:Mh rk a.toList b.toList (#[]:Array Keyed).reverse.toList (n0+1) b.size:=⟨by simp;(first|lia|omega),by simp,by rw [List.take_of_length_le (by simp;(first|lia|omega)),List.take_of_length_le (by simp)];simp,.nil,fun x hx=>by simp at hx⟩
  exact m.pushA sa e1 fun y hy=>h1 y (List.mem_of_mem_take hy)
 have dn:∀ {out:Array Keyed} {na nb:Nat},Mh rk a.toList b.toList out.reverse.toList na nb→na=0→Res rk a.toList b.toList (a.extract 0 na++b.extract 0 nb++out.reverse).toList:=fun m e=>by
  subst e
  exact m.done sb
 have fs:∀ {out:Array Keyed} {na nb:Nat},Mh rk a.toList b.toList out.reverse.toList na nb→nb=1→Res rk a.toList b.toList (b.extract 0 nb++a.extract 0 na++out.reverse).toList:=fun m e=>by
  subst e
  exact m.first sa e0 h0
 refine zal (fun c=>wpS_pure (q _ _ ⟨rfl,rfl,rfl,rfl⟩ (dn m0 (by simpa using c)))) fun c1=>zal (fun c=>wpS_pure (q _ _ ⟨rfl,rfl,rfl,rfl⟩ (fs m0 (by simpa using c)))) fun c2=>?_
 have z1:0<n0:=by simp at c1;(first|lia|omega)
 have z2:1<b.size:=by simp at c2;(first|lia|omega)
 clear c1 c2
 refine wpS_bind (wpS_get (wpS_bind (wpS_mono (wpS_forRange (I:=fun i (c:Option (Array Keyed)×Nat×Nat×Array Keyed×Nat) (st':SortSt)=>Sm st st'∧c.1=none∧Mh rk a.toList b.toList c.2.2.2.1.reverse.toList c.2.1 c.2.2.1∧0<c.2.1∧1<c.2.2.1∧c.2.1+c.2.2.1+i+1≤a.size+b.size)
  (Q:=fun (c:Option (Array Keyed)×Nat×Nat×Array Keyed×Nat) (st':SortSt)=>Sm st st'∧∃ r,c.1=some r∧Res rk a.toList b.toList r.toList) (fun i c st' _ hi' hI=>?_) (fun c st' hI=>?_) ⟨⟨rfl,rfl,rfl,rfl⟩,rfl,m0,z1,z2,(by (first|lia|omega):n0+b.size+0+1≤a.size+b.size)⟩) fun c st' hc=>?_)))
 ·obtain ⟨sm,c1,m,i1,i2,pr⟩:=hI
  obtain ⟨cn,na,nb,out,mg⟩:=c
  dsimp only at c1 m i1 i2 pr
  refine wpS_bind (wpS_mono (wpS_forRange (I:=fun k (c:Option (Array Keyed)×Nat×Nat×Array Keyed×Nat×Nat) (st':SortSt)=>Sm st st'∧c.1=none∧Mh rk a.toList b.toList c.2.2.2.1.reverse.toList c.2.1 c.2.2.1∧0<c.2.1∧1<c.2.2.1∧c.2.1+c.2.2.1+k≤na+nb)
   (Q:=fun (c:Option (Array Keyed)×Nat×Nat×Array Keyed×Nat×Nat) (st':SortSt)=>Sm st st'∧((c.1=none∧Mh rk a.toList b.toList c.2.2.2.1.reverse.toList c.2.1 c.2.2.1∧0<c.2.1∧1<c.2.2.1∧c.2.1+c.2.2.1+i+2≤a.size+b.size)∨∃ r,c.1=some r∧Res rk a.toList b.toList r.toList)) (fun k c st' _ hk' hI=>?_) (fun c st' hI=>?_) ⟨sm,rfl,m,i1,i2,Nat.le_refl _⟩) fun c st' hc=>?_)
  ·obtain ⟨sm,c1,m,i1,i2,pr⟩:=hI
   obtain ⟨cn,ja,jb,out,ac,bc⟩:=c
   dsimp only at c1 m i1 i2 pr
   obtain ⟨ja,rfl⟩:∃ j,ja=j+1:=⟨ja - 1,by (first|lia|omega)⟩
   obtain ⟨jb,rfl⟩:∃ j,jb=j+1:=⟨jb - 1,by (first|lia|omega)⟩
   obtain ⟨x,ex,fx⟩:=zbD (a:=a) (i:=ja) (by have:=m.sa;rw [Array.length_toList] at this;(first|lia|omega))
   obtain ⟨y,ey,fy⟩:=zbD (a:=b) (i:=jb) (by have:=m.sb;rw [Array.length_toList] at this;(first|lia|omega))
   have mx:x∈a.toList:=List.mem_of_getElem? ex
   have my:y∈b.toList:=List.mem_of_getElem? ey
   refine wpS_bind (zar fy (wpS_bind (zar fx (wpS_bind (zeI O (hS y (.inr my)) (hS x (.inl mx)) (sm.1.trans ek) ?_)))))
   refine zal (fun c=>wpS_bind (zar fx ?_)) fun c=>wpS_bind (zar fy ?_)
   ·have c:rk y<rk x:=by simpa using c
    have m2:=m.pushA sa ex fun z hz=>Int.lt_of_le_of_lt (most sb ey z hz) c
    refine zal (fun c2=>wpS_pure ⟨sm,.inr ⟨_,rfl,dn m2 (by simpa using c2)⟩⟩) fun c2=>?_
    have j2:0<ja:=by simp at c2;(first|lia|omega)
    exact zal (fun _=>wpS_pure ⟨sm,.inl ⟨rfl,m2,j2,i2,(by (first|lia|omega):ja+(jb+1)+i+2≤a.size+b.size)⟩⟩) fun _=>wpS_pure ⟨sm,rfl,m2,j2,i2,(by (first|lia|omega):ja+(jb+1)+(k+1)≤na+nb)⟩
   ·have c:rk x<rk y:=by
     have:=nab x mx y my
     simp at c
     (first|lia|omega)
    have m2:=m.pushB sb ey fun z hz=>Int.lt_of_le_of_lt (most sa ex z hz) c
    refine zal (fun c2=>wpS_pure ⟨sm,.inr ⟨_,rfl,fs m2 (by simpa using c2)⟩⟩) fun c2=>?_
    have j2:1<jb:=by simp at c2;(first|lia|omega)
    exact zal (fun _=>wpS_pure ⟨sm,.inl ⟨rfl,m2,i1,j2,(by (first|lia|omega):ja+1+jb+i+2≤a.size+b.size)⟩⟩) fun _=>wpS_pure ⟨sm,rfl,m2,i1,j2,(by (first|lia|omega):ja+1+jb+(k+1)≤na+nb)⟩
  ·obtain ⟨sm,c1,m,i1,i2,pr⟩:=hI
   have:max 0 (a.size+b.size)=a.size+b.size:=by (first|lia|omega)
   rw [this] at pr
   (first|lia|omega)
  ·obtain ⟨sm,h⟩:=hc
   obtain ⟨cn,ja,jb,out,ac,bc⟩:=c
   rcases h with ⟨c1,m,i1,i2,pr⟩ | ⟨r,c1,hr⟩
   ·dsimp only at c1 m i1 i2 pr
    subst c1
    refine wpS_bind (zhX (wpS_bind (wpS_mono (wpS_forRange (I:=fun _ (c:Option (Array Keyed)×Nat×Nat×Array Keyed×Nat×Nat×Nat) (st':SortSt)=>Sm st st'∧c.1=none∧Mh rk a.toList b.toList c.2.2.2.1.reverse.toList c.2.1 c.2.2.1∧0<c.2.1∧1<c.2.2.1∧c.2.1+c.2.2.1+i+2≤a.size+b.size)
     (Q:=fun (c:Option (Array Keyed)×Nat×Nat×Array Keyed×Nat×Nat×Nat) (st':SortSt)=>Sm st st'∧((c.1=none∧Mh rk a.toList b.toList c.2.2.2.1.reverse.toList c.2.1 c.2.2.1∧0<c.2.1∧1<c.2.2.1∧c.2.1+c.2.2.1+i+2≤a.size+b.size)∨∃ r,c.1=some r∧Res rk a.toList b.toList r.toList)) (fun k c st' _ hk' hI=>?_) (fun c st' hI=>⟨hI.1,.inl hI.2⟩) ⟨sm,rfl,m,i1,i2,pr⟩) fun c st' hc=>?_)))
    ·obtain ⟨sm,c1,m,i1,i2,pr⟩:=hI
     obtain ⟨cn,ja,jb,out,mg',ac',bc'⟩:=c
     dsimp only at c1 m i1 i2 pr
     obtain ⟨jb,rfl⟩:∃ j,jb=j+1:=⟨jb - 1,by (first|lia|omega)⟩
     have za:=m.sa
     have zb:=m.sb
     rw [Array.length_toList] at za zb
     obtain ⟨y,ey,fy⟩:=zbD (a:=b) (i:=jb) (by (first|lia|omega))
     have my:y∈b.toList:=List.mem_of_getElem? ey
     refine zal (fun _=>?_) fun _=>?_
     all_goals
      refine wpS_bind (zhG fun st2 sm2=>wpS_bind (zar fy (wpS_bind (gal (base:=0) (n:=ja) (hint:=ja - 1) O (by (first|lia|omega)) (by (first|lia|omega)) sa (fun x hx=>hS x (.inl hx)) (hS y (.inr my)) (fun x hx=>nab x hx y my) ((sm.trans sm2).1.trans ek) fun k' hk1 hk2 hk3=>?_))))
      have sm:=sm.trans sm2
      rw [List.drop_zero] at hk2 hk3
      have m1:=m.bulkA sa hk1 fun z hz v hv=>Int.lt_of_le_of_lt (most sb ey v hv) (hk3 z hz)
      refine zal (fun kp=>?_) fun kz=>?_
      refine zal (fun c=>wpS_pure ⟨sm,.inr ⟨_,rfl,dn m1 (by simpa using c)⟩⟩) fun c=>?_
      have l2:0<k':=by simp at c;(first|lia|omega)
      have g2:=hk2
      have m2:=m1
      have pr2:k'+jb+i+2≤a.size+b.size:=by (first|lia|omega)
      rotate_left
      have ek':k'=ja:=by
       have kz:¬ (ja - k' > 0):=kz
       (first|lia|omega)
      have l2:=i1
      have g2:∀ z∈a.toList.take ja,rk z<rk y:=by rw [ek'] at hk2;exact hk2
      have m2:=m
      have pr2:ja+jb+i+2≤a.size+b.size:=by (first|lia|omega)
      all_goals
       refine wpS_bind (zar fy ?_)
       have m3:=m2.pushB sb ey g2
       refine zal (fun c2=>wpS_pure ⟨sm,.inr ⟨_,rfl,fs m3 (by simpa using c2)⟩⟩) fun c2=>?_
       have j3:1<jb:=by simp at c2;(first|lia|omega)
       obtain ⟨x,ex,fx⟩:=zl6 l2 m3.sa
       have mx:=List.mem_of_getElem? ex
       refine wpS_bind (zar fx (wpS_bind (gal (base:=0) (n:=jb) (hint:=jb - 1) O (by (first|lia|omega)) (by (first|lia|omega)) sb (fun x hx=>hS x (.inr hx)) (hS x (.inl mx)) (fun z hz e=>nab x mx z hz e.symm) (sm.1.trans ek) fun k2 hq1 hq2 hq3=>?_)))
       rw [List.drop_zero] at hq2 hq3
       have m4:=m3.bulkB sb hq1 fun z hz v hv=>Int.lt_of_le_of_lt (znb sa l2 ex v hv) (hq3 z hz)
       have k20:0<k2:=by
        rcases Nat.eq_zero_or_pos k2 with z | z
        ·subst z
         have:=hq3 y0 (List.mem_of_getElem? (i:=0) (by rw [List.getElem?_drop,List.getElem?_take_of_lt (by (first|lia|omega))];exact e0))
         have:=h0 x mx
         (first|lia|omega)
        ·exact z
       refine zal (fun kp=>?_) fun kz=>?_
       refine zal (fun c=>wpS_pure ⟨sm,.inr ⟨_,rfl,fs m4 (by simpa using c)⟩⟩) fun c=>zal (fun c3=>absurd c3 (by simp;(first|lia|omega))) fun _=>?_
       have j4:1<k2:=by simp at c;(first|lia|omega)
       have g5:=hq2
       have m5:=m4
       have pr5:=pr_h pr2 hq1
       rotate_left
       have ek2:k2=jb:=by
        have kz:¬ (jb - k2 > 0):=kz
        (first|lia|omega)
       have j4:=j3
       have g5:∀ z∈b.toList.take jb,rk z<rk x:=by rw [ek2] at hq2;exact hq2
       have m5:=m3
       have pr5:=pr_h pr2 (Nat.le_refl jb)
       all_goals
        refine wpS_bind (zar fx ?_)
        have m6:=Mh.pushA2 l2 m5 sa ex g5
        exact zal (fun c=>wpS_pure ⟨sm,.inr ⟨_,rfl,dn m6 (by simpa using c)⟩⟩) fun c=>zal (fun _=>wpS_pure ⟨sm,.inl ⟨rfl,m6,zgA c,j4,pr5⟩⟩) fun _=>wpS_pure ⟨sm,rfl,m6,zgA c,j4,pr5⟩
    ·obtain ⟨sm,h⟩:=hc
     obtain ⟨cn,ja,jb,out,mg',ac',bc'⟩:=c
     rcases h with ⟨c1,m,i1,i2,pr⟩ | ⟨r,c1,hr⟩
     ·dsimp only at c1 m i1 i2 pr
      subst c1
      exact wpS_bind (zhG fun st2 sm2=>wpS_pure ⟨sm.trans sm2,rfl,m,i1,i2,pr⟩)
     ·cases c1
      exact wpS_pure ⟨sm,_,rfl,hr⟩
   ·cases c1
    exact wpS_pure ⟨sm,_,rfl,hr⟩
 ·obtain ⟨sm,c1,m,i1,i2,pr⟩:=hI
  have:max 0 (a.size+b.size)=a.size+b.size:=by (first|lia|omega)
  rw [this] at pr
  (first|lia|omega)
 ·obtain ⟨sm,r,c1,hr⟩:=hc
  obtain ⟨cn,ja,jb,out,ac⟩:=c
  cases c1
  exact wpS_pure (q _ _ sm hr)
theorem zmb {M:Model} {σ:Type} {v st:σ} {Q:PUnit→σ→Prop} (q:Q () v):wpS M A E s (set v:StateT σ Sem PUnit) Q st:=wpS_modify (f:=fun _=>v) q
theorem zi2 {M:Model} {σ α:Type} {m:StateT σ Sem α} {v:σ} {Q:α→σ→Prop} (F:σ→Prop) (hv:F v) (h:∀ v,F v→wpS M A E s m Q v):wpS M A E s m Q v:=h v hv
theorem pend2 {n1 n2 m p z:Nat}:((#[(0,n1,p),(n1,n2,z)]:Array (Nat×Nat×Nat)).setIfInBounds 0 (0,m,p)).eraseIdxIfInBounds (0+1)=#[(0,m,p)]:=by
 rw [Array.eraseIdxIfInBounds,dif_pos (by simp)]
 apply Array.toList_inj.mp
 simp
theorem zhF:∀ (l:List Keyed) (arr:Array Keyed) (o j:Nat),o+j+l.length≤arr.size→((l.zipIdx j).foldl (fun a x=>match x with | (p,j)=>a.setIfInBounds (o+j) p) arr).toList=arr.toList.take (o+j)++l++arr.toList.drop (o+j+l.length)
 | [],arr,o,j,_=>by simp
 | x::l,arr,o,j,h=>by
  rw [List.length_cons] at h
  rw [List.zipIdx_cons,List.foldl_cons,zhF l _ o (j+1) (by rw [Array.size_setIfInBounds];(first|lia|omega)),Array.toList_setIfInBounds,List.length_cons]
  have hl:o+j<arr.toList.length:=by rw [Array.length_toList];(first|lia|omega)
  have e1:(arr.toList.set (o+j) x).take (o+(j+1))=arr.toList.take (o+j)++[x]:=by
   rw [← Nat.add_assoc,List.take_succ,List.getElem?_set_self hl,List.take_set_of_le (Nat.le_refl _)]
   rfl
  have e2:(arr.toList.set (o+j) x).drop (o+(j+1)+l.length)=arr.toList.drop (o+j+(l.length+1)):=by
   rw [List.drop_set_of_lt (by (first|lia|omega))]
   congr 1
   (first|lia|omega)
  rw [e1,e2]
  simp
structure Arr (κ:SortKind) (rk:Keyed→Int) (a₀:Array Keyed) (st:SortSt):Prop where
 kd:kindOf st=κ
 pm:(arrOf st).toList.Perm a₀.toList
 fl:failedOf st=none
theorem zfV (O:Okk prog w A s κ rk S) {a₀:Array Keyed} {st:SortSt} {n1 n2 p:Nat} (hA:Arr κ rk a₀ st) (hS:∀ x∈a₀.toList,S x) (ds:a₀.toList.Pairwise fun x y=>rk x≠rk y) (hp:pendingOf st=#[(0,n1,p),(n1,n2,0)]) (h1:0<n1) (h2:0<n2) (hn:n1+n2=a₀.size)
  (s1:So rk ((arrOf st).toList.take n1)) (s2:So rk ((arrOf st).toList.drop n1)) {Q:Bool→SortSt→Prop} (q:∀ st',Arr κ rk a₀ st'→pendingOf st'=#[(0,n1+n2,p)]→So rk (arrOf st').toList→Q true st'):wpS (model prog w) A E s (mergeAt' 0) Q st:=by
 unfold mergeAt'
 fail_if_success skip
 have ls:(arrOf st).toList.length=n1+n2:=by rw [hA.pm.length_eq,Array.length_toList,hn]
 have lz:(arrOf st).size=n1+n2:=by rw [← Array.length_toList];exact ls
 have hS:∀ x∈(arrOf st).toList,S x:=fun x hx=>hS x (hA.pm.mem_iff.mp hx)
 have ds:(arrOf st).toList.Pairwise fun x y=>rk x≠rk y:=hA.pm.symm.pairwise ds fun h=>h.symm
 have split:∀ k,(arrOf st).toList=(arrOf st).toList.take k++(arrOf st).toList.drop k:=fun k=>(List.take_append_drop k _).symm
 have c12:∀ x∈(arrOf st).toList.take n1,∀ y∈(arrOf st).toList.drop n1,rk x≠rk y:=by
  have:=ds
  rw [split n1] at this
  exact (List.pairwise_append.mp this).2.2
 refine wpS_bind (wpS_get ?_)
 obtain ⟨y0,ey,fy⟩:=zbD (a:=arrOf st) (i:=n1) (by (first|lia|omega))
 obtain ⟨x0,ex,fx⟩:=zbD (a:=arrOf st) (i:=n1 - 1) (by (first|lia|omega))
 have hp':(sortPriv% PySem.Builtin.SortState.pending) st=#[(0,n1,p),(n1,n2,0)]:=hp
 rw [hp']
 refine wpS_bind (zmb ?_)
 refine wpS_bind (zar fy ?_)
 have my:y0∈(arrOf st).toList:=List.mem_of_getElem? ey
 have mx:x0∈(arrOf st).toList:=List.mem_of_getElem? ex
 refine zi2 (F:=fun x=>kindOf x=κ∧arrOf x=arrOf st∧failedOf x=none∧pendingOf x=#[(0,n1+n2,p)]) ⟨hA.kd,rfl,hA.fl,pend2⟩ fun st2 hQ'=>?_
 obtain ⟨k2,a2,f2,p2⟩:=hQ'
 have pa:=hA.pm
 have ey':((arrOf st).toList.drop n1)[0]?=some y0:=by rw [List.getElem?_drop];exact ey
 have ex':((arrOf st).toList.take n1)[n1 - 1]?=some x0:=by rw [List.getElem?_take_of_lt (by (first|lia|omega))];exact ex
 have my2:y0∈(arrOf st).toList.drop n1:=List.mem_of_getElem? ey'
 have mx2:x0∈(arrOf st).toList.take n1:=List.mem_of_getElem? ex'
 have yl:∀ y∈(arrOf st).toList.drop n1,rk y0≤rk y:=fun y hy=>least s2 ey' y (by rw [List.drop_zero];exact hy)
 have xm:∀ x∈(arrOf st).toList.take n1,rk x≤rk x0:=znb s1 h1 (by exact ex') |> fun h x hx=>h x (by rw [List.take_take,Nat.min_self];exact hx)
 have tn:((arrOf st).toList.drop n1).take n2=(arrOf st).toList.drop n1:=List.take_of_length_le (by rw [List.length_drop,ls];(first|lia|omega))
 refine wpS_bind (galS (base:=0) (n:=n1) (hint:=0) O (by (first|lia|omega)) h1 (by rw [List.drop_zero];exact s1) hS (hS y0 my) (fun x hx=>c12 x (by rw [List.drop_zero] at hx;exact hx) y0 my2) k2 fun k hk1 hk2 hk3=>?_)
 rw [List.drop_zero] at hk2 hk3
 refine zal (fun c=>wpS_pure (q st2 ⟨k2,by rw [a2];exact pa,f2⟩ p2 ?_)) fun c=>?_
 ·have e:k=n1:=by
   have c:(n1 - k == 0)=true:=c
   simp at c;(first|lia|omega)
  subst e
  rw [a2,split k]
  exact List.pairwise_append.mpr ⟨s1,s2,fun x hx y hy=>Int.lt_of_lt_of_le (hk2 x hx) (yl y hy)⟩
 have kl:k<n1:=by
  have c:¬ (n1 - k == 0)=true:=c
  simp at c;(first|lia|omega)
 refine wpS_bind (zar (x:=x0) (by rw [show 0+k+(n1 - k) - 1=n1 - 1 by (first|lia|omega)];exact fx) ?_)
 refine wpS_bind (galS (base:=n1) (n:=n2) (hint:=n2 - 1) O (by (first|lia|omega)) (by (first|lia|omega)) (by rw [tn];exact s2) hS (hS x0 mx) (fun y hy e=>c12 x0 mx2 y (by rw [tn] at hy;exact hy) e.symm) k2 fun m hm1 hm2 hm3=>?_)
 rw [tn] at hm3
 refine zal (fun c=>wpS_pure (q st2 ⟨k2,by rw [a2];exact pa,f2⟩ p2 ?_)) fun c=>?_
 ·have e:m=0:=by simpa using c
  subst e
  rw [a2,split n1]
  exact List.pairwise_append.mpr ⟨s1,s2,fun x hx y hy=>Int.lt_of_le_of_lt (xm x hx) (hm3 y hy)⟩
 have ml:0<m:=zgA c
 have eX:((arrOf st).extract (0+k) n1).toList=((arrOf st).toList.take n1).drop k:=by rw [zeA,Nat.zero_add]
 have eY:((arrOf st).extract n1 (n1+m)).toList=((arrOf st).toList.drop n1).take m:=zfc _ _ _
 have lX:((arrOf st).extract (0+k) n1).size=n1 - k:=by rw [← Array.length_toList,eX,List.length_drop,List.length_take,ls];(first|lia|omega)
 have lY:((arrOf st).extract n1 (n1+m)).size=m:=by rw [← Array.length_toList,eY,List.length_take,List.length_drop,ls];(first|lia|omega)
 have iX:∀ x∈((arrOf st).extract (0+k) n1).toList,x∈(arrOf st).toList.take n1:=fun x hx=>by rw [eX] at hx;exact List.mem_of_mem_drop hx
 have iY:∀ x∈((arrOf st).extract n1 (n1+m)).toList,x∈(arrOf st).toList.drop n1:=fun x hx=>by rw [eY] at hx;exact List.mem_of_mem_take hx
 have sX:So rk ((arrOf st).extract (0+k) n1).toList:=by rw [eX];exact s1.sublist (List.drop_sublist _ _)
 have sY:So rk ((arrOf st).extract n1 (n1+m)).toList:=by rw [eY];exact s2.sublist (List.take_sublist _ _)
 have e0:((arrOf st).extract n1 (n1+m)).toList[0]?=some y0:=by rw [eY,List.getElem?_take_of_lt ml];exact ey'
 have e1:((arrOf st).extract (0+k) n1).toList[((arrOf st).extract (0+k) n1).size - 1]?=some x0:=by rw [lX,eX,List.getElem?_drop,show k+(n1 - k - 1)=n1 - 1 by (first|lia|omega)];exact ex'
 have g0:∀ x∈((arrOf st).extract (0+k) n1).toList,rk y0<rk x:=fun x hx=>hk3 x (by rw [eX] at hx;exact hx)
 have g1:∀ y∈((arrOf st).extract n1 (n1+m)).toList,rk y<rk x0:=fun y hy=>hm2 y (by rw [eY] at hy;exact hy)
 have hSS:∀ x,x∈((arrOf st).extract (0+k) n1).toList∨x∈((arrOf st).extract n1 (n1+m)).toList→S x:=fun x hx=>hx.elim (fun h=>hS x (List.mem_of_mem_take (iX x h))) fun h=>hS x (List.mem_of_mem_drop (iY x h))
 refine zal (fun _=>wpS_bind (zgn O k2 hSS sX sY (fun x hx y hy=>c12 x (iX x hx) y (iY y hy)) e0 g0 e1 g1 fun r st3 sm hr=>?_)) fun _=>wpS_bind (zf3 O k2 hSS sX sY (fun x hx y hy=>c12 x (iX x hx) y (iY y hy)) e0 g0 e1 g1 fun r st3 sm hr=>?_)
 all_goals
  refine wpS_bind (wpS_modify (zi2 (F:=fun x=>kindOf x=κ∧(arrOf x).toList=(arrOf st).toList.take k++r.toList++(arrOf st).toList.drop (n1+m)∧failedOf x=none∧pendingOf x=#[(0,n1+n2,p)]) ⟨sm.1.trans k2,?_,sm.2.2.2.trans f2,sm.2.2.1.trans p2⟩ fun st4 ⟨k4,a4,f4,p4⟩=>wpS_bind (wpS_get (wpS_pure ?_))))
  ·have lr:r.toList.length=n1 - k+m:=by rw [hr.1.length_eq,List.length_append,Array.length_toList,Array.length_toList,lX,lY]
   have e3:arrOf st3=arrOf st:=sm.2.1.trans a2
   have:=zhF r.toList (arrOf st) (0+k) 0 (by rw [lr];(first|lia|omega))
   rw [lr,show 0+k+0=k by (first|lia|omega),show k+(n1 - k+m)=n1+m by (first|lia|omega)] at this
   rw [← e3] at this ⊢
   exact this
  ·have f4':(sortPriv% PySem.Builtin.SortState.failed) st4=none:=f4
   rw [f4']
   have ep:(arrOf st).toList=(arrOf st).toList.take k++((((arrOf st).toList.take n1).drop k++((arrOf st).toList.drop n1).take m)++(arrOf st).toList.drop (n1+m)):=by
    rw [← List.drop_drop,List.append_assoc,List.take_append_drop]
    conv=>lhs;rw [split n1]
    rw [← List.append_assoc]
    congr 1
    have:=List.take_append_drop k ((arrOf st).toList.take n1)
    rw [List.take_take,Nat.min_eq_left (by (first|lia|omega))] at this
    exact this.symm
   have hr1:=hr.1
   rw [eX,eY] at hr1
   refine q st4 ⟨k4,List.Perm.trans ?_ pa,f4⟩ p4 ?_
   ·rw [a4,List.append_assoc]
    conv=>rhs;rw [ep]
    exact List.Perm.append_left _ (List.Perm.append_right _ hr1)
   ·rw [a4,List.append_assoc]
    have s1':=s1
    rw [← List.take_append_drop k ((arrOf st).toList.take n1),List.take_take,Nat.min_eq_left (by (first|lia|omega))] at s1'
    have s2':=s2
    rw [← List.take_append_drop m ((arrOf st).toList.drop n1),List.drop_drop] at s2'
    have q1:=List.pairwise_append.mp s1'
    have q2:=List.pairwise_append.mp s2'
    have tk:∀ x∈(arrOf st).toList.take k,rk x<rk y0:=fun x hx=>hk2 x hx
    have dk:∀ y∈(arrOf st).toList.drop (n1+m),rk x0<rk y:=fun y hy=>hm3 y (by rw [List.drop_drop];exact hy)
    have rin:∀ z∈r.toList,z∈((arrOf st).toList.take n1).drop k∨z∈((arrOf st).toList.drop n1).take m:=fun z hz=>List.mem_append.mp (hr1.mem_iff.mp hz)
    refine List.pairwise_append.mpr ⟨q1.1,List.pairwise_append.mpr ⟨hr.2,q2.2.1,fun z hz y hy=>?_⟩,fun x hx z hz=>?_⟩
    ·rcases rin z hz with h | h
     ·exact Int.lt_of_le_of_lt (xm z (List.mem_of_mem_drop h)) (dk y hy)
     ·exact q2.2.2 z h y hy
    ·rcases List.mem_append.mp hz with hz | hz
     ·rcases rin z hz with h | h
      ·exact q1.2.2 x hx z h
      ·exact Int.lt_of_lt_of_le (tk x hx) (yl z (List.mem_of_mem_take h))
     ·exact Int.lt_trans (tk x hx) (Int.lt_of_lt_of_le (g0 x0 (List.mem_of_getElem? e1)) (Int.le_of_lt (dk z hz)))
def R (rk:Keyed→Int) (a:Array Keyed) (i:Nat):Int:=match a[i]? with
 | some x=>rk x
 | none=>0
def Sg (rk:Keyed→Int) (a:Array Keyed) (lo n:Nat):Prop:=∀ i j,lo≤i→i<j→j<lo+n→R rk a i<R rk a j
def Dg (rk:Keyed→Int) (a:Array Keyed) (lo n:Nat):Prop:=∀ i j,lo≤i→i<j→j<lo+n→R rk a j<R rk a i
structure Ag (κ:SortKind) (rk:Keyed→Int) (a₀:Array Keyed) (p:Array (Nat×Nat×Nat)) (T:Array Keyed) (lo:Nat) (st:SortSt):Prop where
 ar:Arr κ rk a₀ st
 pd:pendingOf st=p
 pf:∀ i,i<lo→(arrOf st)[i]?=T[i]?
section
variable {a₀ T:Array Keyed} {p:Array (Nat×Nat×Nat)} {lo:Nat} {st:SortSt}
theorem Ag.size (h:Ag κ rk a₀ p T lo st):(arrOf st).size=a₀.size:=by
 have:=h.ar.pm.length_eq
 simpa using this
theorem Ag.dis (h:Ag κ rk a₀ p T lo st) (ds:a₀.toList.Pairwise fun x y=>rk x≠rk y) {i j:Nat} (hij:i<j) (hj:j<a₀.size):R rk (arrOf st) i≠R rk (arrOf st) j:=by
 have d:(arrOf st).toList.Pairwise fun x y=>rk x≠rk y:=h.ar.pm.symm.pairwise ds fun h=>h.symm
 have sz:=h.size
 have:=(List.pairwise_iff_getElem.mp d) i j (by simp;(first|lia|omega)) (by simp;(first|lia|omega)) hij
 unfold R
 rw [Array.getElem?_eq_getElem (by (first|lia|omega)),Array.getElem?_eq_getElem (by (first|lia|omega))]
 simpa using this
theorem zcf (O:Okk prog w A s κ rk S) (hS:∀ x∈a₀.toList,S x) (h:Ag κ rk a₀ p T lo st) {i j:Nat} (hi:i<a₀.size) (hj:j<a₀.size) {Q:Option Bool→SortSt→Prop} (q:Q (some (decide (R rk (arrOf st) i<R rk (arrOf st) j))) st):wpS (model prog w) A E s (ltAt' i j) Q st:=by
 rw [ltAt'_eq]
 have sz:=h.size
 obtain ⟨x,ex,fx⟩:=zbD (a:=arrOf st) (i:=i) (by (first|lia|omega))
 obtain ⟨y,ey,fy⟩:=zbD (a:=arrOf st) (i:=j) (by (first|lia|omega))
 unfold R at q
 rw [fx,fy] at q
 exact wpS_bind (wpS_get (wpS_bind (zar fx (wpS_bind (zar fy (zeI O (hS x (h.ar.pm.mem_iff.mp (List.mem_of_getElem? ex))) (hS y (h.ar.pm.mem_iff.mp (List.mem_of_getElem? ey))) h.ar.kd q))))))
theorem Sg.one (a:Array Keyed) (lo:Nat):Sg rk a lo 1:=fun i j h1 h2 h3=>by (first|lia|omega)
theorem Sg.more {a:Array Keyed} {lo n:Nat} (h:Sg rk a lo n) (hn:1≤n) (l:R rk a (lo+n - 1)<R rk a (lo+n)):Sg rk a lo (n+1):=fun i j h1 h2 h3=>by
 rcases Nat.lt_or_ge j (lo+n) with z | z
 ·exact h i j h1 h2 z
 ·obtain rfl:j=lo+n:=by (first|lia|omega)
  rcases Nat.lt_or_ge i (lo+n - 1) with y | y
  ·exact Int.lt_trans (h i (lo+n - 1) h1 y (by (first|lia|omega))) l
  ·obtain rfl:i=lo+n - 1:=by (first|lia|omega)
   exact l
theorem Ag.set (h:Ag κ rk a₀ p T lo st) {xs:Array Keyed} (pm:Array.Perm xs (arrOf st)) (pf:∀ i,i<lo→xs[i]?=(arrOf st)[i]?):Ag κ rk a₀ p T lo (setArr st xs) :=
 ⟨⟨h.ar.kd,(Array.perm_iff_toList_perm.mp pm).trans h.ar.pm,h.ar.fl⟩,h.pd,fun i hi=>(pf i hi).trans (h.pf i hi)⟩
theorem zkV (O:Okk prog w A s κ rk S) (hS:∀ x∈a₀.toList,S x) (ds:a₀.toList.Pairwise fun x y=>rk x≠rk y) {nrem:Nat} (hl:lo+nrem≤a₀.size) (h1:1≤nrem) (h:Ag κ rk a₀ p T lo st) {Q:Option Nat→SortSt→Prop}
  (q:∀ m st',Ag κ rk a₀ p T lo st'→1≤m→m≤nrem→Sg rk (arrOf st') lo m→Q (some m) st'):wpS (model prog w) A E s (countRun' lo nrem) Q st:=by
 rw [countRun'_eq]
 have up:∀ {st:SortSt} {n:Nat},Ag κ rk a₀ p T lo st→1≤n→n<nrem→Sg rk (arrOf st) lo n→¬ decide (R rk (arrOf st) (lo+n)<R rk (arrOf st) (lo+n - 1))=true→Sg rk (arrOf st) lo (n+1):=fun {st n} h hn hm sg c=>sg.more hn (by
  have:=h.dis ds (i:=lo+n - 1) (j:=lo+n) (by (first|lia|omega)) (by (first|lia|omega))
  simp at c
  (first|lia|omega))
 refine wpS_bind (wpS_mono (wpS_forRange (I:=fun i (c:Option (Option Nat)×Nat) (st':SortSt)=>st=st'∧c.1=none∧c.2=i∧Sg rk (arrOf st) lo i)
  (Q:=fun (c:Option (Option Nat)×Nat) (st':SortSt)=>st=st'∧c.1=none∧1≤c.2∧c.2≤nrem∧Sg rk (arrOf st) lo c.2∧(c.2=nrem∨R rk (arrOf st) (lo+c.2)<R rk (arrOf st) (lo+c.2 - 1))) (fun i c st' hi0 hi hI=>?_) (fun c st' hI=>?_) ⟨rfl,rfl,rfl,Sg.one _ _⟩) fun c st' hc=>?_)
 ·obtain ⟨rfl,c1,c2,c3⟩:=hI
  obtain ⟨cn,n⟩:=c
  dsimp only at c1 c2
  subst c1 c2
  refine wpS_bind (zcf O hS h (by (first|lia|omega)) (by (first|lia|omega)) ?_)
  exact zal (fun c=>wpS_pure ⟨rfl,rfl,hi0,Nat.le_of_lt hi,c3,.inr (by simpa using c)⟩) fun c=>wpS_pure ⟨rfl,rfl,rfl,up h hi0 hi c3 c⟩
 ·obtain ⟨rfl,c1,c2,c3⟩:=hI
  have e:max 1 nrem=nrem:=by (first|lia|omega)
  rw [e] at c2 c3
  exact ⟨rfl,c1,by (first|lia|omega),by (first|lia|omega),by rw [c2];exact c3,.inl c2⟩
 ·obtain ⟨rfl,c1,c2,c3,c4,c5⟩:=hc
  obtain ⟨cn,n⟩:=c
  dsimp only at c1 c2 c3 c4 c5
  subst c1
  refine zal (fun c=>wpS_pure (q n st h c2 c3 c4)) fun c=>?_
  have nl:n<nrem:=by simp at c;(first|lia|omega)
  refine zal (fun n1=>wpS_bind (zcf O hS h (by (first|lia|omega)) (by (first|lia|omega)) (zal (fun _=>wpS_pure (q n st h c2 c3 c4)) fun z=>absurd (c4 lo (lo+n - 1) (Nat.le_refl _) (by (first|lia|omega)) (by (first|lia|omega))) (by simpa using z)))) fun n1=>?_
  obtain rfl:n=1:=by (first|lia|omega)
  have c5:R rk (arrOf st) (lo+1)<R rk (arrOf st) lo:=c5.resolve_left (by (first|lia|omega))
  refine wpS_bind (zhX (wpS_bind (wpS_mono (wpS_forRange (I:=fun i (c:Option (Option Nat)×Nat×Nat) (st':SortSt)=>st=st'∧c.1=none∧c.2.1=i∧c.2.2=0∧Dg rk (arrOf st) lo i)
   (Q:=fun (c:Option (Option Nat)×Nat×Nat) (st':SortSt)=>st=st'∧c.1=none∧2≤c.2.1∧c.2.1≤nrem∧c.2.2=0∧Dg rk (arrOf st) lo c.2.1) (fun i c st' hi0 hi hI=>?_) (fun c st' hI=>?_) ⟨rfl,rfl,rfl,rfl,fun i j h1 h2 h3=>?_⟩) fun c st' hc=>?_)))
  ·obtain ⟨rfl,c1,c2,c3,c4⟩:=hI
   obtain ⟨cn,n,neq⟩:=c
   dsimp only at c1 c2 c3
   subst c1 c2 c3
   have hi0:2≤n:=hi0
   refine wpS_bind (zcf (i:=lo+n) (j:=lo+n - 1) O hS h (by (first|lia|omega)) (by (first|lia|omega)) ?_)
   refine zal (fun c=>zal (fun z=>absurd z (Nat.lt_irrefl 0)) fun _=>wpS_pure ⟨rfl,rfl,rfl,rfl,fun i j h1 h2 h3=>?_⟩) fun c=>wpS_bind (zcf (i:=lo+n - 1) (j:=lo+n) O hS h (by (first|lia|omega)) (by (first|lia|omega)) (zal (fun _=>wpS_pure ⟨rfl,rfl,hi0,Nat.le_of_lt hi,rfl,c4⟩) fun z=>?_))
   ·have c:R rk (arrOf st) (lo+n)<R rk (arrOf st) (lo+n - 1):=by simpa using c
    rcases Nat.lt_or_ge j (lo+n) with z | z
    ·exact c4 i j h1 h2 z
    ·obtain rfl:j=lo+n:=by (first|lia|omega)
     rcases Nat.lt_or_ge i (lo+n - 1) with y | y
     ·exact Int.lt_trans c (c4 i (lo+n - 1) h1 y (by (first|lia|omega)))
     ·obtain rfl:i=lo+n - 1:=by (first|lia|omega)
      exact c
   ·have:=h.dis ds (i:=lo+n - 1) (j:=lo+n) (by (first|lia|omega)) (by (first|lia|omega))
    simp at c z
    (first|lia|omega)
  ·obtain ⟨rfl,c1,c2,c3,c4⟩:=hI
   have e:max (1+1) nrem=nrem:=by (first|lia|omega)
   rw [e] at c2 c4
   exact ⟨rfl,c1,by (first|lia|omega),by (first|lia|omega),c3,by rw [c2];exact c4⟩
  ·obtain rfl:i=lo:=by (first|lia|omega)
   obtain rfl:j=i+1:=by (first|lia|omega)
   exact c5
  ·obtain ⟨rfl,c1,c2,c3,c4,c6⟩:=hc
   obtain ⟨cn,n,neq⟩:=c
   dsimp only at c1 c2 c3 c4 c6
   subst c1 c4
   refine zal (fun z=>absurd z (Nat.lt_irrefl 0)) fun _=>?_
   rw [reverseSlice'_eq]
   have sz:=h.size
   have gm:=fun k=>getElem?_mirror_all (xs:=arrOf st) (i:=lo) (j:=lo+n) (by (first|lia|omega)) k
   refine wpS_bind (wpS_modify (zi2 (F:=fun x=>Ag κ rk a₀ p T lo x∧Sg rk (arrOf x) lo n) ⟨h.set (mirror_perm _ _ _ _) fun k hk=>by rw [gm,if_neg (by (first|lia|omega))],fun i j h1 h2 h3=>?_⟩ fun st2 ⟨h2,sg⟩=>?_))
   ·have e:∀ k,lo≤k→k<lo+n→R rk (mirror (arrOf st) lo (lo+n) ((lo+n - lo) / 2)) k=R rk (arrOf st) (lo+(lo+n) - 1 - k):=fun k k1 k2=>by
     unfold R
     rw [gm,if_pos ⟨k1,k2⟩]
    show R rk (mirror (arrOf st) lo (lo+n) ((lo+n - lo) / 2)) i<R rk (mirror (arrOf st) lo (lo+n) ((lo+n - lo) / 2)) j
    rw [e i h1 (by (first|lia|omega)),e j (by (first|lia|omega)) h3]
    exact c6 _ _ (by (first|lia|omega)) (by (first|lia|omega)) (by (first|lia|omega))
   ·refine wpS_bind (wpS_mono (wpS_forRange (I:=fun i (c:Option (Option Nat)×Nat) (st':SortSt)=>st2=st'∧c.1=none∧c.2=i∧Sg rk (arrOf st2) lo i)
     (Q:=fun (c:Option (Option Nat)×Nat) (st':SortSt)=>st2=st'∧c.1=none∧1≤c.2∧c.2≤nrem∧Sg rk (arrOf st2) lo c.2) (fun i c st' hi0 hi hI=>?_) (fun c st' hI=>?_) ⟨rfl,rfl,rfl,sg⟩) fun c st' hc=>?_)
    ·obtain ⟨rfl,c1,c2,c3⟩:=hI
     obtain ⟨cn,n'⟩:=c
     dsimp only at c1 c2
     subst c1 c2
     have hi0:n≤n':=hi0
     refine wpS_bind (zcf O hS h2 (by (first|lia|omega)) (by (first|lia|omega)) ?_)
     exact zal (fun c=>wpS_pure ⟨rfl,rfl,(by (first|lia|omega):1≤n'),Nat.le_of_lt hi,c3⟩) fun c=>wpS_pure ⟨rfl,rfl,rfl,up h2 (by (first|lia|omega)) hi c3 c⟩
    ·obtain ⟨rfl,c1,c2',c3'⟩:=hI
     have e:max n nrem=nrem:=by (first|lia|omega)
     rw [e] at c2' c3'
     exact ⟨rfl,c1,by (first|lia|omega),by (first|lia|omega),by rw [c2'];exact c3'⟩
    ·obtain ⟨rfl,c1,c2,c3,c4⟩:=hc
     obtain ⟨cn,n'⟩:=c
     dsimp only at c1 c2 c3 c4
     subst c1
     exact wpS_pure (q n' st2 h2 c2 c3 c4)
theorem zkm (O:Okk prog w A s κ rk S) (hS:∀ x∈a₀.toList,S x) (ds:a₀.toList.Pairwise fun x y=>rk x≠rk y) {n ok:Nat} (hl:lo+n≤a₀.size) (h1:1≤ok) (hk:ok≤n) (h:Ag κ rk a₀ p T lo st) (sg:Sg rk (arrOf st) lo ok) {Q:Bool→SortSt→Prop}
  (q:∀ st',Ag κ rk a₀ p T lo st'→Sg rk (arrOf st') lo n→Q true st'):wpS (model prog w) A E s (binarySort' lo n ok) Q st:=by
 rw [binarySort'_eq]
 have e0:max ok 1=ok:=by (first|lia|omega)
 rw [e0]
 refine wpS_bind (wpS_mono (wpS_forRange (I:=fun k (c:Option Bool×Unit) (st':SortSt)=>c.1=none∧Ag κ rk a₀ p T lo st'∧Sg rk (arrOf st') lo k) (Q:=fun (c:Option Bool×Unit) (st':SortSt)=>c.1=none∧Ag κ rk a₀ p T lo st'∧Sg rk (arrOf st') lo n) (fun k c st hk0 hkn hI=>?_) (fun c st' hI=>?_) ⟨rfl,h,sg⟩) fun c st' hc=>?_)
 ·obtain ⟨c1,h,sg⟩:=hI
  refine wpS_bind (wpS_mono (wpS_forRange (I:=fun i (c:Option Bool×Nat×Nat) (st':SortSt)=>st=st'∧c.1=none∧c.2.1≤c.2.2∧c.2.2≤k∧c.2.2≤c.2.1+(k - i)∧(∀ i,i<c.2.1→R rk (arrOf st) (lo+i)<R rk (arrOf st) (lo+k))∧∀ i,c.2.2≤i→i<k→R rk (arrOf st) (lo+k)<R rk (arrOf st) (lo+i))
   (Q:=fun (c:Option Bool×Nat×Nat) (st':SortSt)=>st=st'∧c.1=none∧c.2.1≤k∧(∀ i,i<c.2.1→R rk (arrOf st) (lo+i)<R rk (arrOf st) (lo+k))∧∀ i,c.2.1≤i→i<k→R rk (arrOf st) (lo+k)<R rk (arrOf st) (lo+i)) (fun i c st' _ hik hI=>?_) (fun c st' hI=>?_) ⟨rfl,rfl,Nat.zero_le _,Nat.le_refl _,(by (first|lia|omega):k≤0+(k - 0)),fun i hi=>absurd hi (Nat.not_lt_zero i),fun i h1 h2=>absurd h2 (Nat.not_lt.mpr h1)⟩) fun c st' hc=>?_)
  ·obtain ⟨rfl,c1,c2,c3,c4,c5,c6⟩:=hI
   obtain ⟨cn,l,r⟩:=c
   dsimp only at c1 c2 c3 c4 c5 c6
   refine zal (fun z=>wpS_pure ⟨rfl,rfl,Nat.le_trans c2 c3,c5,fun i h1 h2=>c6 i (Nat.le_trans z h1) h2⟩) fun z=>?_
   have z:l<r:=Nat.lt_of_not_le z
   have m1:(l+r) / 2<r:=by (first|lia|omega)
   refine wpS_bind (zcf (i:=lo+k) (j:=lo+(l+r) / 2) O hS h (by (first|lia|omega)) (by (first|lia|omega)) (zal (fun c=>wpS_pure ⟨rfl,rfl,(by (first|lia|omega):l≤(l+r) / 2),(by (first|lia|omega):(l+r) / 2≤k),(by (first|lia|omega):(l+r) / 2≤l+(k - (i+1))),c5,fun j h1 h2=>?_⟩) fun c=>wpS_pure ⟨rfl,rfl,(by (first|lia|omega):(l+r) / 2+1≤r),c3,(by (first|lia|omega):r≤(l+r) / 2+1+(k - (i+1))),fun j h1=>?_,c6⟩))
   ·have c:R rk (arrOf st) (lo+k)<R rk (arrOf st) (lo+(l+r) / 2):=by simpa using c
    have h1:(l+r) / 2≤j:=h1
    rcases Nat.eq_or_lt_of_le h1 with y | y
    ·rw [← y];exact c
    ·exact Int.lt_trans c (sg _ _ (by (first|lia|omega)) (by (first|lia|omega)) (by (first|lia|omega)))
   ·have c:R rk (arrOf st) (lo+(l+r) / 2)<R rk (arrOf st) (lo+k):=by
     have:=h.dis ds (i:=lo+(l+r) / 2) (j:=lo+k) (by (first|lia|omega)) (by (first|lia|omega))
     simp at c
     (first|lia|omega)
    have h1:j<(l+r) / 2+1:=h1
    rcases Nat.lt_or_ge j ((l+r) / 2) with y | y
    ·exact Int.lt_trans (sg _ _ (by (first|lia|omega)) (by (first|lia|omega)) (by (first|lia|omega))) c
    ·rw [show j=(l+r) / 2 by (first|lia|omega)];exact c
  ·obtain ⟨rfl,c1,c2,c3,c4,c5,c6⟩:=hI
   have c4:c.2.2≤c.2.1:=by simpa using c4
   exact ⟨rfl,c1,Nat.le_trans c2 c3,c5,fun i h1 h2=>c6 i (Nat.le_trans c4 h1) h2⟩
  ·obtain ⟨rfl,c1,c2,c3,c4⟩:=hc
   obtain ⟨cn,l,r⟩:=c
   dsimp only at c1 c2 c3 c4
   subst c1
   have sz:=h.size
   have gb:=fun i=>getElem?_bubble (xs:=arrOf st) (src:=lo+k) (by (first|lia|omega)) (lo+k - (lo+l)) (by (first|lia|omega)) i
   dsimp only
   rw [moveDown'_eq]
   refine wpS_bind (wpS_modify (wpS_pure ⟨rfl,h.set (bubble_perm _ _ _) fun i hi=>by rw [gb,if_neg (by (first|lia|omega)),if_neg (by (first|lia|omega))],fun i j g1 g2 g3=>?_⟩))
   have eR:∀ i,R rk (bubble (arrOf st) (lo+k) (lo+k - (lo+l))) i=if i=lo+l then R rk (arrOf st) (lo+k) else if lo+l<i∧i≤lo+k then R rk (arrOf st) (i - 1) else R rk (arrOf st) i:=fun i=>by
    unfold R
    rw [gb,show lo+k - (lo+k - (lo+l))=lo+l by (first|lia|omega)]
    by_cases z1:i=lo+l
    ·rw [if_pos z1,if_pos z1]
    ·rw [if_neg z1,if_neg z1]
     by_cases z2:lo+l<i∧i≤lo+k
     ·rw [if_pos z2,if_pos z2]
     ·rw [if_neg z2,if_neg z2]
   show R rk (bubble (arrOf st) (lo+k) (lo+k - (lo+l))) i<R rk (bubble (arrOf st) (lo+k) (lo+k - (lo+l))) j
   rw [eR i,eR j]
   by_cases a1:i=lo+l
   ·rw [if_pos a1,if_neg (by (first|lia|omega)),if_pos (by (first|lia|omega))]
    have:=c4 (j - 1 - lo) (by (first|lia|omega)) (by (first|lia|omega))
    rwa [show lo+(j - 1 - lo)=j - 1 by (first|lia|omega)] at this
   ·rw [if_neg a1]
    by_cases a2:i<lo+l
    ·rw [if_neg (by (first|lia|omega))]
     by_cases b1:j=lo+l
     ·rw [if_pos b1]
      have:=c3 (i - lo) (by (first|lia|omega))
      rwa [show lo+(i - lo)=i by (first|lia|omega)] at this
     ·rw [if_neg b1]
      by_cases b2:lo+l<j
      ·rw [if_pos (by (first|lia|omega))]
       rcases Nat.eq_or_lt_of_le (show i≤j - 1 by (first|lia|omega)) with y | y
       ·(first|lia|omega)
       ·exact sg _ _ g1 y (by (first|lia|omega))
      ·rw [if_neg (by (first|lia|omega))]
       exact sg _ _ g1 g2 (by (first|lia|omega))
    ·rw [if_pos (by (first|lia|omega)),if_neg (by (first|lia|omega)),if_pos (by (first|lia|omega))]
     exact sg _ _ (by (first|lia|omega)) (by (first|lia|omega)) (by (first|lia|omega))
 ·obtain ⟨c1,h,sg⟩:=hI
  have e:max ok n=n:=by (first|lia|omega)
  rw [e] at sg
  exact ⟨c1,h,sg⟩
 ·obtain ⟨c1,h,sg⟩:=hc
  obtain ⟨cn,u⟩:=c
  dsimp only at c1
  subst c1
  exact wpS_pure (q st' h sg)
theorem zgP {a:Array Keyed} {lo n:Nat} (h:Sg rk a lo n) (hl:lo+n≤a.size):So rk ((a.toList.drop lo).take n):=by
 refine List.pairwise_iff_getElem.mpr fun i j hi hj hij=>?_
 rw [List.length_take,List.length_drop,Array.length_toList] at hi hj
 have:=h (lo+i) (lo+j) (by (first|lia|omega)) (by (first|lia|omega)) (by (first|lia|omega))
 unfold R at this
 rw [Array.getElem?_eq_getElem (by (first|lia|omega)),Array.getElem?_eq_getElem (by (first|lia|omega))] at this
 simpa using this
theorem Sg.same {a b:Array Keyed} {n:Nat} (h:Sg rk a 0 n) (e:∀ i,i<n→b[i]?=a[i]?):Sg rk b 0 n:=fun i j h1 h2 h3=>by
 have:=h i j h1 h2 h3
 unfold R at this ⊢
 rw [e i (by (first|lia|omega)),e j (by (first|lia|omega))]
 exact this
def Two (κ:SortKind) (rk:Keyed→Int) (a₀:Array Keyed) (st:SortSt):Prop:=Arr κ rk a₀ st∧∃ n1 n2 pw,0<n1∧0<n2∧n1+n2=a₀.size∧pendingOf st=#[(0,n1,pw),(n1,n2,0)]∧Sg rk (arrOf st) 0 n1∧Sg rk (arrOf st) n1 n2
def Fin1 (κ:SortKind) (rk:Keyed→Int) (a₀:Array Keyed) (st:SortSt):Prop:=Arr κ rk a₀ st∧(∃ pw,pendingOf st=#[(0,a₀.size,pw)])∧So rk (arrOf st).toList
theorem zm4 {N:Nat} (h1:64≤N) (h2:N<128):minRun' N N 0=N / 2+N % 2:=by
 obtain ⟨f,rfl⟩:∃ f,N=f+1+1:=⟨N - 2,by (first|lia|omega)⟩
 rw [minRun'_succ,if_neg (by (first|lia|omega)),minRun'_succ,if_pos (by (first|lia|omega))]
 (first|lia|omega)
theorem ziw (O:Okk prog w A s κ rk S) (hS:∀ x∈a₀.toList,S x) (ds:a₀.toList.Pairwise fun x y=>rk x≠rk y) (n1:64≤a₀.size) (n2:a₀.size<128) (hA:Arr κ rk a₀ st) (hp:pendingOf st=#[]) {Q:Unit→SortSt→Prop}
  (q:∀ st',Arr κ rk a₀ st'→So rk (arrOf st').toList→Q () st'):wpS (model prog w) A E s sortRuns' Q st:=by
 rw [sortRuns'_eq]
 have sz:(arrOf st).size=a₀.size:=by have:=hA.pm.length_eq;simpa using this
 refine wpS_bind (wpS_get ?_)
 rw [sz]
 have hm:=zm4 n1 n2
 refine wpS_bind (wpS_mono (wpS_forRange (I:=fun i (c:Option Unit×Nat) (st':SortSt)=>c.1=none∧Arr κ rk a₀ st'∧((i=0∧c.2=0∧pendingOf st'=#[])∨(i=1∧a₀.size / 2+a₀.size % 2≤c.2∧c.2≤a₀.size∧pendingOf st'=#[(0,c.2,0)]∧Sg rk (arrOf st') 0 c.2)∨(i=2∧c.2=a₀.size∧Two κ rk a₀ st')))
  (Q:=fun (c:Option Unit×Nat) (st':SortSt)=>c.1=none∧(Fin1 κ rk a₀ st'∨Two κ rk a₀ st')) (fun i c st hi0 hi hI=>?_) (fun c st' hI=>?_) ⟨rfl,hA,.inl ⟨rfl,rfl,hp⟩⟩) fun c st' hc=>?_)
 ·obtain ⟨c1,hA,hI⟩:=hI
  obtain ⟨cn,lo⟩:=c
  dsimp only at c1 hI
  refine zal (fun z=>?_) fun z=>?_
  ·have z:a₀.size≤lo:=z
   rcases hI with ⟨_,h2,_⟩ | ⟨_,h1,h2,h3,h4⟩ | ⟨_,_,h2⟩
   ·(first|lia|omega)
   ·obtain rfl:lo=a₀.size:=by (first|lia|omega)
    have sz:(arrOf st).size=a₀.size:=by have:=hA.pm.length_eq;simpa using this
    have:=zgP h4 (by (first|lia|omega))
    rw [List.drop_zero,List.take_of_length_le (by rw [Array.length_toList];(first|lia|omega))] at this
    exact wpS_pure ⟨rfl,.inl ⟨hA,⟨_,h3⟩,this⟩⟩
   ·exact wpS_pure ⟨rfl,.inr h2⟩
  ·have z:lo<a₀.size:=Nat.lt_of_not_le z
   have hG:Ag κ rk a₀ (pendingOf st) (arrOf st) lo st:=⟨hA,rfl,fun _ _=>rfl⟩
   have sz0:(arrOf st).size=a₀.size:=hG.size
   refine wpS_bind (zkV O hS ds (by (first|lia|omega)) (by (first|lia|omega)) hG fun m st2 g2 m1 m2 sg=>?_)
   have tail:∀ n st3,Ag κ rk a₀ (pendingOf st) (arrOf st) lo st3→Sg rk (arrOf st3) lo n→min (a₀.size - lo) (a₀.size / 2+a₀.size % 2)≤n→lo+n≤a₀.size→0<n→(pendingOf st=#[]→Arr κ rk a₀ (setPending st3 #[(lo,n,0)])∧((i+1=0∧lo+n=0∧#[(lo,n,0)]=(#[]:Array (Nat×Nat×Nat)))∨(i+1=1∧a₀.size / 2+a₀.size % 2≤lo+n∧lo+n≤a₀.size∧#[(lo,n,0)]=#[(0,lo+n,0)]∧Sg rk (arrOf st3) 0 (lo+n))∨(i+1=2∧lo+n=a₀.size∧Two κ rk a₀ (setPending st3 #[(lo,n,0)])))) ∧
     (pendingOf st=#[(0,lo,0)]→∀ pw g,i+1=2∧lo+n=a₀.size∧Two κ rk a₀ (SortSt.mk' (kindOf st3) (arrOf st3) #[(0,lo,pw),(lo,n,0)] g (failedOf st3)))∧(pendingOf st=#[]∨pendingOf st=#[(0,lo,0)]):=by
    intro n st3 g3 sg3 f1 f2 f3
    refine ⟨fun hp=>?_,fun hp pw g=>?_,?_⟩
    ·rcases hI with ⟨h1,h2,_⟩ | ⟨_,_,_,h3,_⟩ | ⟨_,h2,_⟩
     ·subst h1 h2
      exact ⟨⟨g3.ar.kd,g3.ar.pm,g3.ar.fl⟩,.inr (.inl ⟨rfl,by (first|lia|omega),f2,by rw [Nat.zero_add],by rw [Nat.zero_add];exact sg3⟩)⟩
     ·rw [hp] at h3
      cases h3
     ·(first|lia|omega)
    ·rcases hI with ⟨_,_,h3⟩ | ⟨h1,h2,_,_,h4⟩ | ⟨_,h2,_⟩
     ·rw [hp] at h3
      cases h3
     ·refine ⟨by (first|lia|omega),by (first|lia|omega),⟨g3.ar.kd,g3.ar.pm,g3.ar.fl⟩,lo,n,pw,by (first|lia|omega),f3,by (first|lia|omega),rfl,h4.same g3.pf,sg3⟩
     ·(first|lia|omega)
    ·rcases hI with ⟨_,_,h3⟩ | ⟨_,_,_,h3,_⟩ | ⟨_,h2,_⟩
     ·exact .inl h3
     ·exact .inr h3
     ·(first|lia|omega)
   refine zal (fun c=>wpS_bind (zhX (wpS_bind (zkm (n:=min (a₀.size - lo) (minRun' a₀.size a₀.size 0)) O hS ds (by (first|lia|omega)) m1 ?_ g2 sg fun st3 g3 sg3=>zal (fun z=>absurd z (by simp)) fun _=>?_)))) fun c=>?_
   ·have c:m<minRun' a₀.size a₀.size 0:=c
    (first|lia|omega)
   ·have T:=tail _ st3 g3 sg3 (by rw [hm];exact Nat.le_refl _) (by (first|lia|omega)) (by (first|lia|omega))
    obtain ⟨T1,T2,T3⟩:=T
    refine wpS_bind (wpS_get ?_)
    have gp:=g3.pd
    rcases T3 with hp | hp
    ·rw [hp] at gp
     rw [gp]
     refine wpS_bind (wpS_modify ?_)
     rw [gp]
     exact wpS_pure ⟨rfl,(T1 hp).1,(T1 hp).2⟩
    ·rw [hp] at gp
     rw [gp]
     refine wpS_bind (wpS_mono (wpS_forRange (I:=fun _ (c:Option Unit×Unit) (st':SortSt)=>st3=st'∧c.1=none) (Q:=fun (c:Option Unit×Unit) (st':SortSt)=>st3=st'∧c.1=none) (fun j c st' _ _ hI=>?_) (fun c st' hI=>hI) ⟨rfl,rfl⟩) fun c st' hc=>?_)
     ·obtain ⟨rfl,c1⟩:=hI
      refine wpS_bind (wpS_get ?_)
      rw [gp]
      exact wpS_pure ⟨rfl,rfl⟩
     ·obtain ⟨rfl,c1⟩:=hc
      obtain ⟨cn,u⟩:=c
      dsimp only at c1
      subst c1
      refine wpS_bind (wpS_modify (wpS_bind (wpS_modify ?_)))
      rw [gp]
      obtain ⟨t1,t2,t3⟩:=T2 hp (power' a₀.size _ _ _) (gallopOf st3)
      exact wpS_pure ⟨rfl,t3.1,.inr (.inr ⟨t1,t2,t3⟩)⟩
   ·have c:¬ m<minRun' a₀.size a₀.size 0:=c
    have T:=tail _ st2 g2 sg (by (first|lia|omega)) (by (first|lia|omega)) (by (first|lia|omega))
    obtain ⟨T1,T2,T3⟩:=T
    refine wpS_bind (wpS_get ?_)
    have gp:=g2.pd
    rcases T3 with hp | hp
    ·rw [hp] at gp
     rw [gp]
     refine wpS_bind (wpS_modify ?_)
     rw [gp]
     exact wpS_pure ⟨rfl,(T1 hp).1,(T1 hp).2⟩
    ·rw [hp] at gp
     rw [gp]
     refine wpS_bind (wpS_mono (wpS_forRange (I:=fun _ (c:Option Unit×Unit) (st':SortSt)=>st2=st'∧c.1=none) (Q:=fun (c:Option Unit×Unit) (st':SortSt)=>st2=st'∧c.1=none) (fun j c st' _ _ hI=>?_) (fun c st' hI=>hI) ⟨rfl,rfl⟩) fun c st' hc=>?_)
     ·obtain ⟨rfl,c1⟩:=hI
      refine wpS_bind (wpS_get ?_)
      rw [gp]
      exact wpS_pure ⟨rfl,rfl⟩
     ·obtain ⟨rfl,c1⟩:=hc
      obtain ⟨cn,u⟩:=c
      dsimp only at c1
      subst c1
      refine wpS_bind (wpS_modify (wpS_bind (wpS_modify ?_)))
      rw [gp]
      obtain ⟨t1,t2,t3⟩:=T2 hp (power' a₀.size _ _ _) (gallopOf st2)
      exact wpS_pure ⟨rfl,t3.1,.inr (.inr ⟨t1,t2,t3⟩)⟩
 ·obtain ⟨c1,hA,hI⟩:=hI
  have e:max 0 a₀.size=a₀.size:=by (first|lia|omega)
  rw [e] at hI
  rcases hI with ⟨h,_⟩ | ⟨h,_⟩ | ⟨h,_⟩ <;> (first|lia|omega)
 ·obtain ⟨c1,hc⟩:=hc
  obtain ⟨cn,lo⟩:=c
  dsimp only at c1
  subst c1
  refine wpS_bind (wpS_mono (wpS_forRange (I:=fun i (c:Option Unit×Unit) (st':SortSt)=>c.1=none∧(Fin1 κ rk a₀ st'∨(i=0∧Two κ rk a₀ st'))) (Q:=fun (c:Option Unit×Unit) (st':SortSt)=>c.1=none∧Fin1 κ rk a₀ st') (fun i c st hi0 hi hI=>?_) (fun c st' hI=>?_) ⟨rfl,hc.imp id fun h=>⟨rfl,h⟩⟩) fun c st' hc=>?_)
  ·obtain ⟨c1,hI⟩:=hI
   refine wpS_bind (wpS_get ?_)
   rcases hI with hI | ⟨_,hA,k1,k2,pw,p1,p2,pn,hp,s1,s2⟩
   ·obtain ⟨pw,hp⟩:=hI.2.1
    rw [hp]
    exact zal (fun _=>wpS_pure ⟨rfl,hI⟩) fun z=>absurd (by simp) z
   ·rw [hp]
    have sz:(arrOf st).size=a₀.size:=by have:=hA.pm.length_eq;simpa using this
    refine zal (fun z=>absurd z (by simp)) fun _=>?_
    refine wpS_bind (zfV O hA hS ds hp p1 p2 pn (by have:=zgP s1 (by (first|lia|omega));rwa [List.drop_zero] at this) (by have:=zgP s2 (by (first|lia|omega));rwa [List.take_of_length_le (by rw [List.length_drop,Array.length_toList];(first|lia|omega))] at this) fun st' a1 a2 a3=>?_)
    exact zal (fun z=>absurd z (by simp)) fun _=>wpS_pure ⟨rfl,.inl ⟨a1,⟨pw,by rw [a2,pn]⟩,a3⟩⟩
  ·obtain ⟨c1,hI⟩:=hI
   have e:max 0 a₀.size=a₀.size:=by (first|lia|omega)
   rw [e] at hI
   rcases hI with h | ⟨h,_⟩
   ·exact ⟨c1,h⟩
   ·(first|lia|omega)
  ·obtain ⟨c1,hc⟩:=hc
   obtain ⟨cn,u⟩:=c
   dsimp only at c1
   subst c1
   exact wpS_pure (q st' hc.1 hc.2.2)
end
end
section
variable {prog:Program} {w:World} {A:Around} {E:Value→Shared→Prop} {s:Shared} {κ:SortKind}
theorem zkF {α β:Type} {f:α→β} {l m':List β} (h:l.Perm m'):∀ m:List α,m'=m.map f→∃ l',List.Perm l' m∧l=l'.map f:=by
 induction h with
 | nil=>intro m e;exact ⟨[],by cases m <;> simp_all,rfl⟩
 | @cons x l1 l2 _ ih =>
  intro m e
  cases m with
  | nil=>cases e
  | cons a m =>
   rw [List.map_cons] at e
   injection e with e1 e2
   obtain ⟨l',h1,h2⟩:=ih m e2
   exact ⟨a::l',h1.cons a,by rw [List.map_cons,h2,e1]⟩
 | swap x y l =>
  intro m e
  cases m with
  | nil=>cases e
  | cons a m =>
   cases m with
   | nil=>cases e
   | cons b m =>
    simp only [List.map_cons,List.cons.injEq] at e
    exact ⟨b::a::m,.swap a b m,by simp [e.1,e.2.1,e.2.2]⟩
 | trans _ _ ih1 ih2 =>
  intro m e
  obtain ⟨l2,h1,h2⟩:=ih2 m e
  obtain ⟨l1,h3,h4⟩:=ih1 l2 h2
  exact ⟨l1,h3.trans h1,h4⟩
theorem run_big {us:List Value} {Rk:Nat→Int} (l1:64≤us.length) (l2:us.length<128) (nd:us.Nodup) (dr:∀ i j,i<j→j<us.length→Rk i≠Rk j) (hask:Srt.Asks (PySem.W.kas_ask prog w A κ us) Rk us.length s) :
  wpAny (model prog w) A (StateT.run sortRuns' (SortSt.mk' κ (us.toArray.zip us.toArray) #[] 7 none)) (fun r s'=>s'=s∧failedOf r.2=none∧∃ p:Array Nat,arrOf r.2=p.map (PySem.W.kas_item (us.toArray.zip us.toArray))∧Srt.Rg us.length p∧Srt.So Rk p us.length) E s:=by
 classical
 have uq:∀ i j v,us[i]?=some v→us[j]?=some v→i=j:=fun i j v h1 h2=>by
  obtain ⟨a1,rfl⟩:=List.getElem?_eq_some_iff.mp h1
  obtain ⟨a2,e⟩:=List.getElem?_eq_some_iff.mp h2
  exact ((List.getElem_inj nd).mp e).symm
 obtain ⟨rk,hrk⟩:∃ rk:Keyed→Int,∀ i v,us[i]?=some v→rk (v,v)=Rk i:=⟨fun x=>if h:∃ i,us[i]?=some x.1 then Rk h.choose else 0,fun i v h=>by
  have hx:∃ i,us[i]?=some v:=⟨i,h⟩
  show (if h:∃ i,us[i]?=some v then Rk h.choose else 0)=_
  rw [dif_pos hx,uq _ _ _ hx.choose_spec h]⟩
 have it:∀ i,i<us.length→∃ v,us[i]?=some v∧PySem.W.kas_item (us.toArray.zip us.toArray) i=(v,v):=fun i hi=>by
  have e:=PySem.W.kas_item_eq us i
  refine ⟨us[i],List.getElem?_eq_getElem hi,?_⟩
  rw [List.getD_eq_getElem?_getD,List.getElem?_eq_getElem hi] at e
  have pe:us.toArray.zip us.toArray=pairsOf us:=by
   apply Array.toList_inj.mp
   rw [ksk_zip,pairsOf_toList]
  rw [pe]
  exact e
 have kl:(us.toArray.zip us.toArray).toList=(List.range us.length).map (PySem.W.kas_item (us.toArray.zip us.toArray)):=by
  apply List.ext_getElem?
  intro i
  rw [ksk_zip]
  by_cases hi:i<us.length
  ·obtain ⟨v,h1,h2⟩:=it i hi
   rw [List.getElem?_map,List.getElem?_range hi,Option.map_some,h2]
   simp [List.getElem?_zip_eq_some,h1]
  ·rw [List.getElem?_eq_none (by simp;(first|lia|omega)),List.getElem?_eq_none (by simp;(first|lia|omega))]
 have mem:∀ x∈(us.toArray.zip us.toArray).toList,∃ i v,us[i]?=some v∧x=(v,v):=fun x hx=>by
  rw [kl] at hx
  obtain ⟨i,hi,rfl⟩:=List.mem_map.mp hx
  obtain ⟨v,h1,h2⟩:=it i (List.mem_range.mp hi)
  exact ⟨i,v,h1,h2⟩
 have sz:(us.toArray.zip us.toArray).size=us.length:=by simp
 have O:Okk prog w A s κ rk (fun x=>∃ i v,us[i]?=some v∧x=(v,v)):=fun x y hx hy C hc=>by
  obtain ⟨i,v,hi,ex⟩:=hx
  obtain ⟨j,u,hj,ey⟩:=hy
  subst ex ey
  rw [hrk i v hi,hrk j u hj] at hc
  have:=hask i j C (List.getElem?_eq_some_iff.mp hi).1 (List.getElem?_eq_some_iff.mp hj).1 hc
  unfold PySem.W.kas_ask at this
  rw [List.getD_eq_getElem?_getD,List.getD_eq_getElem?_getD,hi,hj] at this
  exact this
 have ds:(us.toArray.zip us.toArray).toList.Pairwise fun x y=>rk x≠rk y:=by
  rw [kl]
  refine List.pairwise_iff_getElem.mpr fun i j hi hj hij=>?_
  rw [List.length_map,List.length_range] at hi hj
  obtain ⟨v,h1,h2⟩:=it i hi
  obtain ⟨u,g1,g2⟩:=it j hj
  rw [List.getElem_map,List.getElem_map,List.getElem_range,List.getElem_range,h2,g2,hrk i v h1,hrk j u g1]
  exact dr i j hij hj
 refine wpAny_mono (ziw (E:=E) (a₀:=us.toArray.zip us.toArray) (st:=SortSt.mk' κ (us.toArray.zip us.toArray) #[] 7 none) (Q:=fun _ st'=>failedOf st'=none∧∃ p:Array Nat,arrOf st'=p.map (PySem.W.kas_item (us.toArray.zip us.toArray))∧Srt.Rg us.length p∧Srt.So Rk p us.length) O mem ds (by (first|lia|omega)) (by (first|lia|omega)) ⟨rfl,.refl _,rfl⟩ rfl fun st' hA so=>⟨hA.fl,?_⟩) (fun r s' h=>h) fun _ _ h=>h
 obtain ⟨l',q1,q2⟩:=zkF hA.pm _ kl
 refine ⟨l'.toArray,?_,Array.perm_iff_toList_perm.mpr q1,fun i j hij hj=>?_⟩
 ·apply Array.toList_inj.mp
  rw [Array.toList_map]
  exact q2
 ·rcases Nat.eq_or_lt_of_le hij with z | z
  ·rw [z];exact Int.le_refl _
  ·have hl:l'.length=us.length:=by rw [q1.length_eq,List.length_range]
   rw [q2] at so
   have:=(List.pairwise_iff_getElem.mp so) i j (by rw [List.length_map];(first|lia|omega)) (by rw [List.length_map];(first|lia|omega)) z
   rw [List.getElem_map,List.getElem_map] at this
   have b1:l'[i]<us.length:=List.mem_range.mp (q1.mem_iff.mp (List.getElem_mem (by (first|lia|omega))))
   have b2:l'[j]<us.length:=List.mem_range.mp (q1.mem_iff.mp (List.getElem_mem (by (first|lia|omega))))
   obtain ⟨v,h1,h2⟩:=it _ b1
   obtain ⟨u,g1,g2⟩:=it _ b2
   rw [h2,g2,hrk _ v h1,hrk _ u g1] at this
   unfold Srt.kr
   simp only [Array.getD_eq_getD_getElem?,List.getElem?_toArray,List.getElem?_eq_getElem (show i<l'.length by (first|lia|omega)),List.getElem?_eq_getElem (show j<l'.length by (first|lia|omega)),Option.getD_some]
   (first|lia|omega)
end
end L2.Tim
namespace L2
open PySem PySem.Spec PyProof.Rows PySem.W
section
variable {prog:Program} {w:World} {A:Around} {E:Value→Shared→Prop} {s:Shared}
theorem zit {α β:Type} {f:α→β}:∀ {l:List α},(l.map f).Nodup→l.Pairwise fun x y=>f x≠f y
 | [],_=>.nil
 | a::l,h=>by
  rw [List.map_cons,List.nodup_cons] at h
  exact .cons (fun b hb e=>h.1 (e ▸ List.mem_map.mpr ⟨b,hb,rfl⟩)) (zit h.2)
theorem zc0 {a:Addr} {xs:List SAd} {n:Nat} {P:PySem.Fin→Shared→Prop} (hu:A.units+1<cLine) (ho:s.heap.get? a=some (seqObj "list" (xs.map zct).toArray n)) (h128:xs.length<128) (hh:∀ x∈xs,zb1 prog w s.heap x.1 x.2∧Sml x.1) (nd:(xs.map (·.1)).Nodup)
  (h:∀ xs',List.Perm xs' xs→(xs'.Pairwise fun x y=>stR x.1≤stR y.1)→P (.done (.ret .none)) { s with heap:=sortedHeap s.heap a (xs.map zct) (xs'.map zct).toArray }):wpAny (model prog w) A (Builtin.«list.sort» ⟨[.ref a],[]⟩) P E s:=by
 rcases Nat.lt_or_ge xs.length 64 with l | l
 ·exact zfe hu ho l hh h
 have pd:=zit nd
 have na:∀ o,s.heap.get? a=some o→o.cls=.type "list":=fun o e=>by rw [ho] at e;cases e;rfl
 refine Srt.list_sort_core (κ:=tuples' false) (Rk:=fun i=>stR (xs.getD i (([],0),0)).1) ho (by rw [List.length_map,sizeLine_eq];(first|lia|omega)) (fun h' kp Q h2 q=>zhu (s:={ s with heap:=h' }) (fun x hx=>(hh x hx).1.kp na kp) (by rw [List.length_map] at h2;(first|lia|omega)) q) (fun h' kp _=>Tim.run_big (s:={ s with heap:=h' }) (by rw [List.length_map];exact l) (by rw [List.length_map];exact h128) ?_ (fun i j hij hj=>?_) (by rw [List.length_map];exact zhn (s:={ s with heap:=h' }) hu fun x hx=>⟨(hh x hx).1.kp na kp,(hh x hx).2⟩)) fun p r1 r2=>?_
 ·refine List.pairwise_map.mpr (List.Pairwise.imp_of_mem (fun {x y} hx hy n e=>n ?_) pd)
  have e:x.2=y.2:=by injection e
  exact (hh x hx).1.inj (by rw [e];exact (hh y hy).1)
 ·rw [List.length_map] at hj
  show stR (xs.getD i (([],0),0)).1≠stR (xs.getD j (([],0),0)).1
  rw [List.getD_eq_getElem?_getD,List.getD_eq_getElem?_getD,List.getElem?_eq_getElem (by (first|lia|omega)),List.getElem?_eq_getElem hj]
  exact fun e=>(List.pairwise_iff_getElem.mp pd) i j (by (first|lia|omega)) hj hij (zfo (hh _ (List.getElem_mem _)).2 (hh _ (List.getElem_mem _)).2 e)
 ·rw [List.length_map] at r1 r2
  obtain ⟨xs',q1,q2,q3⟩:=Srt.by_rank (f:=zct) (g:=fun x:SAd=>stR x.1) r1 r2
  rw [q3]
  exact h xs' q1 q2
end
def zdy (K:PySem.W.Frag):List V→Hp→VK→Prop:=fun vs H Q=>∃ (d:Addr) (kvs:Prs),vs=[.ref d]∧DS K H d kvs∧kvs.length<128∧(kvs.map (·.1)).Nodup∧(∀ x∈kvs,Sml x.1)∧∀ (l:Addr) (xs:List SAd),H l=none→List.Perm xs (kvs.map fun x=>(x.1,x.2.1))→(xs.Pairwise fun x y=>stR x.1≤stR y.1)→Q (.ref l) (upd H l (.lst (xs.map fun x=>V.ref x.2)))
def zch (K:PySem.W.Frag):List V→Hp→VK→Prop:=fun vs H Q=>∃ (p:Addr) (xs:List SAd),vs=[.ref p]∧H p=some (.lst (xs.map fun x=>V.ref x.2))∧xs.length<128∧(xs.map (·.1)).Nodup∧(∀ x∈xs,StH K H x.1 x.2∧Sml x.1)∧∀ (l:Addr) (ys:List SAd),H l=none→List.Perm ys xs→(ys.Pairwise fun x y=>stR x.1≤stR y.1)→Q (.ref l) (upd H l (.lst (ys.map fun x=>V.ref x.2)))
section
variable {X:Cx}
set_option maxHeartbeats 1000000 in
theorem zfI (hu:X.A.units+64<cLine) (hc:X.calm=true):zdv X (.builtin "sorted") (zdy X.K):=by
 intro pins s σ H vs us Q I r h
 obtain ⟨d,kvs,rfl,dd,h128,nd,hs,q⟩:=h
 obtain ⟨u,rfl,rx⟩:=zeK r
 cases rx
 obtain ⟨hd,xs,es,ep,rk,m,he⟩:=dd.ent I.hok
 have hl:es.size=kvs.length:=by rw [← Array.length_toList,he,List.length_map,Paired.length rk]
 refine Calls.call_function_entry kind_sorted plain_sorted entry_sorted (args_sorted1 _) ?_
 unfold Builtin.«sorted»
 refine wpAny_bind (m:=checkCount "sorted" 1 1 _) (wpAny_pure ?_)
 refine wpAny_bind (PySem.W.kdu_collect (A:=X.A.in1) (zij (ep:=ep) hd) (I.ok.hd hc) m (by rw [hl,sizeLine_eq];(first|lia|omega)) fun h' tk acc hkp ha=>?_)
 have ea:acc.toList=(kvs.map fun x=>(x.1,x.2.1)).map zct:=by
  rw [← zi8 rk]
  refine List.ext_getElem? fun j=>?_
  by_cases lt:j<acc.size
  ·obtain ⟨e1,e2,e3⟩:=ha.2 j _ (Array.getElem?_eq_getElem lt)
   rw [Array.getElem?_toList,Array.getElem?_eq_getElem lt,e3]
   rw [← Array.getElem?_toList,he,List.getElem?_map] at e2
   obtain ⟨x,hx,rfl⟩:=Option.map_eq_some_iff.mp e2
   rw [List.getElem?_map,hx];rfl
  ·rw [List.getElem?_eq_none (by rw [Array.length_toList];(first|lia|omega)),List.getElem?_eq_none (by rw [List.length_map,← Paired.length rk,← hl,← ha.1];(first|lia|omega))]
 rw [ea]
 have hlen:((kvs.map fun x=>(x.1,x.2.1)).map zct).length=kvs.length:=by rw [List.length_map,List.length_map]
 have I':Inv X pins σ H { s with heap:=h',toks:=tk }:=I.kept (t':=tk) hkp
 refine wpAny_bind (wpAny_newList ?_ (by rw [hlen,sizeLine_eq];(first|lia|omega)))
 have hoL:(h'.push (seqObj "list" ((kvs.map fun x=>(x.1,x.2.1)).map zct).toArray 0)).get? h'.objs.size=some (seqObj "list" ((kvs.map fun x=>(x.1,x.2.1)).map zct).toArray 0):=Heap.get?_push_size _ rfl
 have I2:Inv X pins σ H { s with heap:=h'.push (seqObj "list" ((kvs.map fun x=>(x.1,x.2.1)).map zct).toArray 0),toks:=tk }:=I'.kept (t':=tk) fun b o z=>Heap.get?_push_of_some _ z
 refine wpAny_bind (wpAny_holding (wpAny_call_entry slot_list_sort ⟨_,hoL,rfl⟩ entry_list_sort (zc0 (s:={ s with heap:=h'.push (seqObj "list" ((kvs.map fun x=>(x.1,x.2.1)).map zct).toArray 0),toks:=tk }) (by show X.A.units+1+1+1<cLine;(first|lia|omega)) hoL (by rw [List.length_map];exact h128) (fun x hx=>?_) (by rw [List.map_map];exact nd) fun xs' q1 q2=>⟨_,rfl,?_⟩) (args_list_sort _)))
 ·obtain ⟨y,hy,rfl⟩:=List.mem_map.mp hx
  exact ⟨(dd.ks y hy).is I2,hs y hy⟩
 ·obtain ⟨e,he2⟩:=sortedHeap_at (out:=(xs'.map zct).toArray) hoL
  refine wpAny_pure ⟨_,rfl,.ref h'.objs.size,_,I'.laid (t':=tk) (o:=.lst (xs'.map fun x=>V.ref x.2)) (fun b o hb=>?_) (Nat.le_refl _) ⟨?_,xs'.map zct,e,?_,he2⟩,rfl,q _ xs' (I'.hok.fresh (Nat.le_refl _)) q1 q2⟩
  ·have hlt:=Heap.lt_size hb
   rw [sortedHeap_old (Nat.ne_of_lt hlt) (by rw [size_push'];exact Nat.lt_succ_of_lt hlt)]
   exact Heap.get?_push_of_some _ hb
  ·rw [List.length_map,q1.length_eq,List.length_map,sizeLine_eq];(first|lia|omega)
  ·clear q1 q2 he2 hoL
   induction xs' with
   | nil=>exact .nil
   | cons x l ih=>exact .cons rfl ih
theorem zgu {xs:List SAd}:zbr (xs.map fun x=>V.ref x.2) (xs.map zct):=by
 induction xs with
 | nil=>exact .nil
 | cons x l ih=>exact .cons rfl ih
theorem zdU:∀ {xs:List SAd} {us:List Value},zbr (xs.map fun x=>V.ref x.2) us→us=xs.map zct
 | [],_,.nil=>rfl
 | x::xs,_,.cons a r=>by
  rw [zdU r,List.map_cons]
  cases a
  rfl
theorem zdl (hu:X.A.units+64<cLine):zdv X (.builtin "sorted") (zch X.K):=by
 intro pins s σ H vs us Q I r h
 obtain ⟨p,xs,rfl,hp,h128,nd,hh,q⟩:=h
 obtain ⟨u,rfl,rx⟩:=zeK r
 cases rx
 obtain ⟨its,rv,pl,hz⟩:=I.list (SqL.of hp)
 obtain rfl:=zdU rv
 have hlen:(xs.map zct).length=xs.length:=by rw [List.length_map]
 refine Calls.call_function_entry kind_sorted plain_sorted entry_sorted (args_sorted1 _) ?_
 unfold Builtin.«sorted»
 refine wpAny_bind (m:=checkCount "sorted" 1 1 _) (wpAny_pure ?_)
 refine wpAny_bind (collect_list pl.isList ?_ (by rw [hlen,sizeLine_eq];(first|lia|omega)))
 have hsz:((s.heap.push (seqObj "list" #[] 0)).update s.heap.objs.size (Obj.mapSeq (·++(xs.map zct).toArray))).objs.size=s.heap.objs.size+1:=by
  rw [Heap.size_update,size_push']
 have old:∀ b o,s.heap.get? b=some o→((s.heap.push (seqObj "list" #[] 0)).update s.heap.objs.size (Obj.mapSeq (·++(xs.map zct).toArray))).get? b=some o:=fun b o e=>by
  have lt:=Heap.lt_size e
  rw [Heap.get?_update_ne _ _ _ _ (Nat.ne_of_lt lt)]
  exact Heap.get?_push_of_some _ e
 generalize (s.heap.push (seqObj "list" #[] 0)).update s.heap.objs.size (Obj.mapSeq (·++(xs.map zct).toArray))=h' at hsz old ⊢
 have I':Inv X pins σ H { s with heap:=h' }:=I.kept (t':=s.toks) old
 refine wpAny_bind (wpAny_newList ?_ (by rw [hlen,sizeLine_eq];(first|lia|omega)))
 have hoL:(h'.push (seqObj "list" (xs.map zct).toArray 0)).get? h'.objs.size=some (seqObj "list" (xs.map zct).toArray 0):=Heap.get?_push_size _ rfl
 have I2:Inv X pins σ H { s with heap:=h'.push (seqObj "list" (xs.map zct).toArray 0) }:=I'.kept (t':=s.toks) fun b o z=>Heap.get?_push_of_some _ z
 refine wpAny_bind (wpAny_holding (wpAny_call_entry slot_list_sort ⟨_,hoL,rfl⟩ entry_list_sort (zc0 (s:={ s with heap:=h'.push (seqObj "list" (xs.map zct).toArray 0) }) (by show X.A.units+1+1+1<cLine;(first|lia|omega)) hoL h128 (fun x hx=>⟨(hh x hx).1.is I2,(hh x hx).2⟩) nd fun xs' q1 q2=>⟨_,rfl,?_⟩) (args_list_sort _)))
 obtain ⟨e,he2⟩:=sortedHeap_at (out:=(xs'.map zct).toArray) hoL
 refine wpAny_pure ⟨_,rfl,.ref h'.objs.size,_,I'.laid (t':=s.toks) (o:=.lst (xs'.map fun x=>V.ref x.2)) (fun b o hb=>?_) (Nat.le_refl _) ⟨?_,xs'.map zct,e,zgu,he2⟩,rfl,q _ xs' (I'.hok.fresh (Nat.le_refl _)) q1 q2⟩
 ·have hlt:=Heap.lt_size hb
  rw [sortedHeap_old (Nat.ne_of_lt hlt) (by rw [size_push'];exact Nat.lt_succ_of_lt hlt)]
  exact Heap.get?_push_of_some _ hb
 ·rw [List.length_map,q1.length_eq,sizeLine_eq];(first|lia|omega)
end
end L2
namespace L2
open PySem PySem.Spec PyProof.Rows PySem.W
theorem zkr:plainId "proto.collect"=true:=by decide +kernel
theorem zhj:plainId "list.__iadd__"=true:=by decide +kernel
section
variable {prog:Program} {w:World} {A:Around} {E:Value→Shared→Prop} {s:Shared}
theorem zj2 {K:Type} [DecidableEq K] {knd:PySem.KeyKind prog w K} {r d:Addr} {kvs:List (K×Value)} {ep:Nat} {Q₁:Value→Shared→Prop} (hh:A.handled=none) (hv:s.heap.IsItemsView r d) (m:s.heap.DictAt knd d kvs ep) (hz:kvs.length≤sizeLine)
  (q:∀ (h':Heap) (tk:Nat) (as:List Addr) c,(∀ b o,s.heap.get? b=some o→h'.get? b=some o)→as.length=kvs.length→KdxG knd kvs s.heap.objs.size h' as→h'.get? s.heap.objs.size=some { cls:=.type "list",data:=.seq (as.map Value.ref).toArray c }→Q₁ (.ref s.heap.objs.size) { s with heap:=h',toks:=tk }) :
  wpAny (model prog w) A (runValue (.builtin "proto.collect" ⟨[.ref r],[]⟩)) Q₁ E s:=by
 have lr:r<s.heap.objs.size:=let ⟨_,e,_⟩:=hv;Heap.lt_size e
 have ld:d<s.heap.objs.size:=let ⟨_,_,e,_⟩:=m;Heap.lt_size e
 refine wpAny_runValue (codeAny_builtin entry_proto_collect' ?_)
 rw [Around.under_plainId zkr]
 show wpAny _ A.in1 (newList [] >>= fun l=>pure (Fin.again (.builtin "list.__iadd__" ⟨[l,.ref r],[]⟩))) _ _ s
 refine wpAny_bind (wpAny_newList ?_ (Nat.zero_le _))
 refine wpAny_pure ⟨plainId_quiet zhj _,codeAny_builtin entry_list_iadd' ?_⟩
 rw [Around.under_plainId zhj]
 have hv':(s.heap.push { cls:=.type "list",data:=.seq ([]:List Value).toArray }).IsItemsView r d:=let ⟨o,e,x⟩:=hv;⟨o,Heap.get?_push_of_some _ e,x⟩
 have m':(s.heap.push { cls:=.type "list",data:=.seq ([]:List Value).toArray }).DictAt knd d kvs ep:=let ⟨o,es,e,x⟩:=m;⟨o,es,Heap.get?_push_of_some _ e,x⟩
 unfold Builtin.«list.__iadd__»
 refine wpAny_bind (wpAny_of_eq (a:=(Value.ref s.heap.objs.size,[Value.ref r])) rfl ?_)
 refine kdx_extend (A:=A) (s:={ s with heap:=s.heap.push { cls:=.type "list",data:=.seq ([]:List Value).toArray } }) (R:=fun r s'=>match r with | .ok (.ret v)=>Q₁ v s' | .ok _=>False | .error e=>E e s') hh hv' m' s.heap.objs.size (Nat.ne_of_gt lr) (Nat.ne_of_lt ld) _ 0 (Heap.get?_push_size _ rfl) (fun h' tk acc c as k1 k2 k3 k4 k5=>?_) hz
 refine q h' tk as c (fun b o e=>k1 b o (Nat.ne_of_lt (Heap.lt_size e)) (Heap.get?_push_of_some _ e)) k3 ⟨k4.rise,fun a ha=>?_,k4.pairs⟩ (by rw [k2,← k5])
 have z:(s.heap.push { cls:=.type "list",data:=.seq ([]:List Value).toArray }).objs.size<a:=k4.above a ha
 rw [show (s.heap.push { cls:=.type "list",data:=.seq ([]:List Value).toArray }).objs.size=s.heap.objs.size+1 from Heap.size_push ..] at z
 exact Nat.lt_of_succ_lt z
theorem zhY {K:Type} [DecidableEq K] {knd:PySem.KeyKind prog w K} {r d:Addr} {kvs:List (K×Value)} {ep:Nat} {Q:List Value→Shared→Prop} (hh:A.handled=none) (hv:s.heap.IsItemsView r d) (m:s.heap.DictAt knd d kvs ep) (hz:kvs.length≤sizeLine)
  (q:∀ (h':Heap) (tk:Nat) (as:List Addr),(∀ b o,s.heap.get? b=some o→h'.get? b=some o)→as.length=kvs.length→KdxG knd kvs s.heap.objs.size h' as→Q (as.map Value.ref) { s with heap:=h',toks:=tk }):wpAny (model prog w) A (collect (.ref r)) Q E s:=by
 unfold collect
 refine wpAny_bind (zj2 hh hv m hz fun h' tk as c k1 k2 k3 k4=>wpAny_bind (wpAny_load k4 (wpAny_pure ?_)))
 exact q h' tk as k1 k2 k3
end
def zgQ:V→List V→Hp→VK→Prop:=fun x vs H Q=>∃ d kvs,x=.ref d∧vs=[]∧H d=some (.dK kvs)∧∀ v,H v=none→Q (.ref v) (upd H v (ItV v d))
theorem zjl {X:Cx}:MtR X "dict.items" zgQ:=by
 intro pins s σ H x xs u us Q I rx rs h
 obtain ⟨d,kvs,rfl,rfl,e,q⟩:=h
 cases rx
 have hus:=rs.zero
 subst hus
 obtain ⟨_,hd,xs,r,o,es,ep,g1,g2,g3,_⟩:=zk6 I.hok e
 have m:zcn s.heap d es ep:=⟨o,g1,g2,g3⟩
 refine wpAny_call_entry F.slot_dict_items m.ty F.entry_dict_items (wpAny_bind ?_) (F.args_dict_items_1 _);unfold Builtin.Dict.noArgs
 refine wpAny_bind (wpAny_notOrdered_dict m.ty ?_);show wpAny _ _ (pure d) _ _ s;refine wpAny_pure ?_;show wpAny _ _ (Builtin.Dict.showsAll d >>= _) _ _ s;unfold Builtin.Dict.showsAll
 rw [if_neg (by rw [hd];exact Bool.false_ne_true)];refine wpAny_bind (wpAny_pure (wpAny_bind (wpAny_newObj_type (wpAny_pure ⟨_,rfl,?_⟩))))
 exact ⟨.ref s.heap.objs.size,_,I.laid (t':=s.toks) (o:=ItV s.heap.objs.size d) (fun b o z=>Heap.get?_push_of_some _ z) (Nat.le_refl _) (zhH _ ⟨_,Heap.get?_push_size _ rfl,rfl,rfl⟩ ⟨_,Heap.get?_push_size _ rfl⟩ fun h1 h2 ⟨o,a1,a2⟩ k=>⟨o,k o a1,a2⟩),rfl,q _ (I.hok.fresh (Nat.le_refl _))⟩
def zdS:List V→Hp→VK→Prop:=fun vs H Q=>∃ (v d:Addr) (ns:List (Int×Int)),vs=[.ref v]∧H v=some (ItV v d)∧H d=some (.dK (ns.map fun x=>(Sum.inl x.1,V.int x.2)))∧ns.length<64∧(∀ x∈ns,0≤x.1∧x.1<63∧0≤x.2∧x.2<63) ∧
 ∀ (l:Addr) (H1:Hp) (xs:List ((Int×Int)×Addr)),zba H H1→H1 l=none→(∀ x∈xs,H x.2=none∧H1 x.2=some (.tup [.int x.1.1,.int x.1.2]))→List.Perm (xs.map (·.1)) ns→(xs.Pairwise fun x y=>x.1.1<y.1.1)→Q (.ref l) (upd H1 l (.lst (xs.map fun x=>V.ref x.2)))
section
variable {X:Cx} {pins:List (Addr×Obj)} {σ:St} {H:Hp} {s:Shared}
theorem Inv.tupsL {s0:Shared} (I0:Inv X pins σ H s0):∀ (as:List (Addr×List V)) (H1:Hp),Inv X pins σ H1 s→zba H H1→(∀ x∈as,H1 x.1=none∧s0.heap.objs.size≤x.1∧x.2.length≤sizeLine∧∃ its:List Value,zbr x.2 its∧IsTup s.heap x.1 its.toArray)→(as.map (·.1)).Nodup →
  ∃ H2,Inv X pins σ H2 s∧zba H1 H2∧∀ x∈as,H2 x.1=some (.tup x.2)
 | [],H1,I,_,_,_=>⟨H1,I,fun _ _ e=>e,fun x hx=>nomatch hx⟩
 | a::as,H1,I,sm,h,nd=>by
  rw [List.map_cons,List.nodup_cons] at nd
  obtain ⟨h1,h2,h3,its,h4,h5⟩:=h a List.mem_cons_self
  obtain ⟨f0,f1,f2,f3,f4,f5⟩:=I0.fpOk (H':=H1) h2 h1
  have hs:X.s₀.heap.get? a.1=none:=by
   cases z:X.s₀.heap.get? a.1 with
   | none=>rfl
   | some o=>exact absurd (Nat.lt_of_lt_of_le (Heap.lt_size z) (Nat.le_trans I0.sz h2)) (Nat.lt_irrefl _)
  have J:=I.track h1 hs f1 f4 f5 (o:=.tup a.2) (show zaP X.prog X.w _ s.heap a.1 (.tup a.2) from ⟨h3,its,h4,h5⟩)
  have S1:zba H1 (upd H1 a.1 (.tup a.2)):=zah h1 _
  obtain ⟨H2,J2,S2,e2⟩:=I0.tupsL as _ J (fun b o e=>S1 b o (sm b o e)) (fun x hx=>⟨by
   rw [zaj (fun z=>nd.1 (List.mem_map.mpr ⟨x,hx,z⟩))]
   exact (h x (List.mem_cons_of_mem _ hx)).1,(h x (List.mem_cons_of_mem _ hx)).2⟩) nd.2
  refine ⟨H2,J2,fun b o e=>S2 b o (S1 b o e),fun x hx=>?_⟩
  rcases List.mem_cons.mp hx with rfl | hx
  ·exact S2 _ _ zad
  ·exact e2 x hx
end
section
variable {X:Cx}
set_option maxHeartbeats 1000000 in
theorem zeQ (hu:X.A.units+64<cLine) (hc:X.calm=true):zdv X (.builtin "sorted") zdS:=by
 intro pins s σ H vs us Q I r h
 obtain ⟨v,d,ns,rfl,hv,hd,h64,hb,q⟩:=h
 obtain ⟨u,rfl,rx⟩:=zeK r
 cases rx
 obtain ⟨z,hsys,vv,rel,m⟩:=zk6 I.hok hd
 obtain ⟨ob,es,ep,g1,g2,g3,g4,g5,g6⟩:=m
 have hview:s.heap.IsItemsView v d:=(show zaP X.prog X.w H s.heap v (ItV v d) from I.hok v _ hv).1
 have lv:vv.length=ns.length:=by rw [← Paired.length rel,List.length_map]
 have at':∀ (j:Nat) n,ns[j]?=some n→∃ k x,vv[j]?=some (k,x)∧k=Sum.inl n.1∧za9 (.int n.2) x:=fun j n hn=>by
  obtain ⟨y,e,e1,e2⟩:=zjN rel (show (ns.map fun x=>((Sum.inl x.1:Key),V.int x.2))[j]?=some (Sum.inl n.1,V.int n.2) by rw [List.getElem?_map,hn];rfl)
  exact ⟨y.1,y.2,e,e1.symm,e2⟩
 have ndk:(ns.map (·.1)).Nodup:=by
  have e:vv.map (·.1)=(ns.map (·.1)).map fun k=>(Sum.inl k:Key):=by
   apply List.ext_getElem?
   intro j
   rw [List.getElem?_map,List.getElem?_map,List.getElem?_map]
   cases hn:ns[j]? with
   | none =>
    rw [List.getElem?_eq_none (by rw [lv];exact List.getElem?_eq_none_iff.mp hn)];rfl
   | some n =>
    obtain ⟨k,x,e1,e2,_⟩:=at' j n hn
    rw [e1,e2];rfl
  have g6:(vv.map (·.1)).Nodup:=g6
  rw [e] at g6
  exact (List.pairwise_map.mp g6).imp fun h e=>h (by rw [e])
 refine Calls.call_function_entry kind_sorted plain_sorted entry_sorted (args_sorted1 _) ?_
 unfold Builtin.«sorted»
 refine wpAny_bind (m:=checkCount "sorted" 1 1 _) (wpAny_pure ?_)
 refine wpAny_bind (zhY (A:=X.A.in1) (I.ok.hd hc) hview ⟨ob,es,g1,g2,g3,g4,g5,g6⟩ (by rw [lv,sizeLine_eq];(first|lia|omega)) fun h' tk as k1 k2 k3=>?_)
 rw [lv] at k2
 have I':Inv X pins σ H { s with heap:=h',toks:=tk }:=I.kept (t':=tk) k1
 obtain ⟨xs,e1,e2,e3⟩:∃ xs:List IA,xs.map zgM=as.map Value.ref∧xs.map (·.1)=ns.map (fun n=>[n.1,n.2])∧xs.map (·.2)=as:=by
  refine ⟨(ns.zip as).map fun p=>([p.1.1,p.1.2],p.2),?_,?_,?_⟩
  ·rw [List.map_map,show (zgM ∘ fun p:(Int×Int)×Addr=>(([p.1.1,p.1.2],p.2):IA))=(fun p=>Value.ref p.2) from rfl]
   rw [show (fun p:(Int×Int)×Addr=>Value.ref p.2)=Value.ref ∘ Prod.snd from rfl,← List.map_map,List.map_snd_zip (by (first|lia|omega))]
  ·rw [List.map_map,show ((fun x:IA=>x.1) ∘ fun p:(Int×Int)×Addr=>(([p.1.1,p.1.2],p.2):IA))=(fun n:Int×Int=>[n.1,n.2]) ∘ Prod.fst from rfl,← List.map_map,List.map_fst_zip (by (first|lia|omega))]
  ·rw [List.map_map,show ((fun x:IA=>x.2) ∘ fun p:(Int×Int)×Addr=>(([p.1.1,p.1.2],p.2):IA))=Prod.snd from rfl,List.map_snd_zip (by (first|lia|omega))]
 rw [← e1]
 have lx:xs.length=ns.length:=by have:=congrArg List.length e2;simpa using this
 have tup:∀ x∈xs,∃ n∈ns,x.1=[n.1,n.2]∧x.2∈as∧∃ t0 t1,h'.get? x.2=some { cls:=.type "tuple",data:=.seq #[.int n.1 t0,.int n.2 t1] }:=fun x hx=>by
  obtain ⟨j,ej⟩:=List.getElem?_of_mem hx
  have a1:as[j]?=some x.2:=by rw [← e3,List.getElem?_map,ej];rfl
  have hj:j<ns.length:=by rw [← lx];exact (List.getElem?_eq_some_iff.mp ej).1
  have a2:(xs.map (·.1))[j]?=some x.1:=by rw [List.getElem?_map,ej];rfl
  rw [e2,List.getElem?_map,List.getElem?_eq_getElem hj] at a2
  obtain ⟨key,k,y,b1,b2,b3⟩:=k3.pairs j x.2 a1
  obtain ⟨k',y',c1,c2,c3⟩:=at' j ns[j] (List.getElem?_eq_getElem hj)
  rw [b1] at c1
  cases c1
  subst c2
  obtain ⟨t1,rfl⟩:=c3
  obtain ⟨t0,rfl⟩:∃ t,key=.int ns[j].1 t:=Value.isInt_shape b2
  exact ⟨ns[j],List.getElem_mem hj,(Option.some.inj a2).symm,List.mem_of_getElem? a1,t0,t1,b3⟩
 have isT:∀ {h2:Heap},(∀ b o,h'.get? b=some o→h2.get? b=some o)→∀ x∈xs,IsTupleKey (intKind X.prog X.w) h2 x.1 x.2∧SmT x.1:=fun {h2} kp x hx=>by
  obtain ⟨n,hn,en,_,t0,t1,et⟩:=tup x hx
  have b:=hb n hn
  rw [en]
  exact ⟨⟨_,_,_,kp _ _ et,rfl,rfl,.cons (intKind_is _ _ _ _) (.cons (intKind_is _ _ _ _) .nil)⟩,fun p hp=>by simp at hp;rcases hp with rfl | rfl <;> (first|lia|omega),by simp,by simp⟩
 refine wpAny_bind (wpAny_newList ?_ (by rw [List.length_map,lx,sizeLine_eq];(first|lia|omega)))
 have hoL:(h'.push (seqObj "list" (xs.map zgM).toArray 0)).get? h'.objs.size=some (seqObj "list" (xs.map zgM).toArray 0):=Heap.get?_push_size _ rfl
 refine wpAny_bind (wpAny_holding (wpAny_call_entry slot_list_sort ⟨_,hoL,rfl⟩ entry_list_sort (zfA (s:={ s with heap:=h'.push (seqObj "list" (xs.map zgM).toArray 0),toks:=tk }) hoL (by (first|lia|omega)) (isT fun b o z=>Heap.get?_push_of_some _ z) fun xs' q1 q2=>⟨_,rfl,?_⟩) (args_list_sort _)))
 obtain ⟨e,he⟩:=sortedHeap_at (out:=(xs'.map zgM).toArray) hoL
 have nda:as.Nodup:=k3.rise.imp fun h=>Nat.ne_of_lt h
 obtain ⟨H2,J,S2,T2⟩:=I.tupsL (xs.map fun x=>(x.2,x.1.map V.int)) H I' (fun _ _ e=>e) (fun y hy=>by
  obtain ⟨x,hx,rfl⟩:=List.mem_map.mp hy
  obtain ⟨n,hn,en,ha,t0,t1,et⟩:=tup x hx
  refine ⟨I.hok.fresh (Nat.le_of_lt (k3.above _ ha)),Nat.le_of_lt (k3.above _ ha),by rw [en,sizeLine_eq];simp,[.int n.1 t0,.int n.2 t1],by rw [en];exact .cons ⟨_,rfl⟩ (.cons ⟨_,rfl⟩ .nil),⟨_,et,rfl,_,rfl⟩⟩) (by rw [List.map_map];show (xs.map fun x=>x.2).Nodup;rw [e3];exact nda)
 have pair:∀ x∈xs,x.1=[x.1.getD 0 0,x.1.getD 1 0]:=fun x hx=>by
  obtain ⟨n,_,en,_⟩:=tup x hx
  rw [en];rfl
 have hq:∀ x∈xs',x∈xs:=fun x hx=>q1.mem_iff.mp hx
 have Q2:=q h'.objs.size H2 (xs'.map fun x=>((x.1.getD 0 0,x.1.getD 1 0),x.2)) S2 (J.hok.fresh (Nat.le_refl _)) (fun y hy=>by
  obtain ⟨x,hx,rfl⟩:=List.mem_map.mp hy
  obtain ⟨n,_,_,ha,_⟩:=tup x (hq x hx)
  refine ⟨I.hok.fresh (Nat.le_of_lt (k3.above _ ha)),?_⟩
  have:=T2 _ (List.mem_map.mpr ⟨x,hq x hx,rfl⟩)
  rw [pair x (hq x hx)] at this
  exact this) ?_ ?_
 ·rw [List.map_map] at Q2
  refine wpAny_pure ⟨_,rfl,.ref h'.objs.size,_,J.laid (t':=tk) (o:=.lst (xs'.map fun x:IA=>V.ref x.2)) (fun b o hb=>?_) (Nat.le_refl _) ⟨?_,xs'.map zgM,e,?_,he⟩,rfl,Q2⟩
  ·have hlt:=Heap.lt_size hb
   rw [sortedHeap_old (Nat.ne_of_lt hlt) (by rw [size_push'];exact Nat.lt_succ_of_lt hlt)]
   exact Heap.get?_push_of_some _ hb
  ·rw [List.length_map,q1.length_eq,lx,sizeLine_eq];(first|lia|omega)
  ·clear q1 q2 he hoL hq Q2
   induction xs' with
   | nil=>exact .nil
   | cons x l ih=>exact .cons rfl ih
 ·rw [List.map_map]
  refine (q1.map _).trans (.of_eq ?_)
  have:xs.map ((fun x:(Int×Int)×Addr=>x.1) ∘ fun x:IA=>((x.1.getD 0 0,x.1.getD 1 0),x.2))=(xs.map (·.1)).map fun l=>(l.getD 0 0,l.getD 1 0):=by rw [List.map_map];rfl
  rw [this,e2,List.map_map]
  exact List.map_id _
 ·rw [List.pairwise_map]
  have nd2:(xs'.map fun x=>x.1.getD 0 0).Nodup:=by
   refine (q1.map _).nodup_iff.mpr ?_
   have:xs.map (fun x:IA=>x.1.getD 0 0)=(xs.map (·.1)).map fun l=>l.getD 0 0:=by rw [List.map_map];rfl
   rw [this,e2,List.map_map]
   exact ndk
  refine List.Pairwise.imp_of_mem (fun {x y} hx hy h=>?_) (q2.and (zit nd2))
  have sx:=(isT (fun _ _ z=>z) x (hq x hx)).2
  have sy:=(isT (fun _ _ z=>z) y (hq y hy)).2
  have lx:=(zeD 8 y.1 x.1 sy.1 sx.1 sy.2.1 sx.2.1).1
  rw [decide_eq_false (by have:=h.1;(first|lia|omega)),pair x (hq x hx),pair y (hq y hy)] at lx
  have ne:=h.2
  simp only [zhL] at lx
  rw [if_neg (fun z=>ne z.symm)] at lx
  have:=of_decide_eq_false lx
  show x.1.getD 0 0<y.1.getD 0 0
  (first|lia|omega)
end
def zdu (K:PySem.W.Frag):R2:=fun x y H Q=>∃ (c q:Addr) (k:Std) (xs:List SAd),x=.ref c∧y=.ref q∧StH K H k c∧H q=some (.lst (xs.map fun x=>V.ref x.2))∧(∀ x∈xs,StH K H x.1 x.2)∧Q (.bl (!decide (k∈xs.map (·.1)))) H
section
variable {X:Cx} {pins:List (Addr×Obj)} {σ:St} {H:Hp} {s:Shared}
theorem zgT (hu:X.A.units+64<cLine):OpR X (compareOp .NotIn) (zdu X.K):=by
 intro pins s σ H x y v u Q I rx ry h
 obtain ⟨c,q,k,xs,rfl,rfl,hc,hq,hx,q'⟩:=h
 cases rx
 cases ry
 obtain ⟨its,r,pl,_⟩:=I.list (SqL.of hq)
 obtain rfl:=zdU r
 refine SeqAt.notIn_listAt (fun v=>decide (∃ x∈xs,v=.ref x.2∧x.1=k)) pl.isList (fun y hy=>?_) ⟨.bl _,H,I,rfl,?_⟩
 ·obtain ⟨x,hx',rfl⟩:=List.mem_map.mp (show y∈xs.map zct by simpa using hy)
  intro P w E Q h
  have sx:=(hx x hx').is I
  have sk:=hc.is I
  refine zeS (show X.A.units+1+1<cLine by (first|lia|omega)) (x:=x.1) (y:=k) ?_ ?_ ?_
  ·obtain ⟨o,n,b,t,g1,g2,g3,o2,i2,n2,g4,g5,g6,g7⟩:=sx
   exact ⟨o,n,b,t,g1,g2,g3,o2,i2,n2,g4,g5,g6,L2.ItemsAre.any g7⟩
  ·obtain ⟨o,n,b,t,g1,g2,g3,o2,i2,n2,g4,g5,g6,g7⟩:=sk
   exact ⟨o,n,b,t,g1,g2,g3,o2,i2,n2,g4,g5,g6,L2.ItemsAre.any g7⟩
  ·have:decide (x.1=k)=decide (∃ z∈xs,Value.ref x.2=.ref z.2∧z.1=k):=by
    refine decide_eq_decide.mpr ⟨fun e=>⟨x,hx',rfl,e⟩,fun hQ'=>?_⟩
    obtain ⟨z,hz,e1,e2⟩:=hQ'
    have e3:x.2=z.2:=by injection e1
    rw [← e2]
    exact sx.inj (by rw [e3];exact (hx z hz).is I)
   rw [this]
   exact h
 ·have e:(xs.map zct).toArray.any (fun v=>decide (∃ x∈xs,v=.ref x.2∧x.1=k))=decide (k∈xs.map (·.1)):=by
   rw [Bool.eq_iff_iff]
   simp only [List.any_toArray,List.any_eq_true,decide_eq_true_eq,List.mem_map]
   constructor
   ·rintro ⟨v,_,x,hx,_,e⟩
    exact ⟨x,hx,e⟩
   ·rintro ⟨x,hx,e⟩
    exact ⟨_,⟨x,hx,rfl⟩,x,hx,rfl,e⟩
  rw [e]
  exact q'
end
def zhC:List V→Hp→VK→Prop:=fun vs H Q=>∃ b:Bool,vs=[.bl b]∧Q (.int (if b=true then 1 else 0)) H
theorem zif {X:Cx}:zdv X (.type "int") zhC:=by
 intro pins s σ H vs us Q I r h
 obtain ⟨b,rfl,q⟩:=h
 obtain ⟨u,rfl,rx⟩:=zeK r
 obtain rfl:u=.bool b:=rx
 exact call_int_bool ⟨.int _,H,I.tok (s.toks+1),⟨_,rfl⟩,q⟩
def zhh (K:PySem.W.Frag):List V→Hp→VK→Prop:=fun vs H Q=>∃ (d:Addr) (kvs:List (Std×Addr×V)),vs=[.ref d]∧DS K H d kvs∧kvs.length<1000∧∀ l,H l=none→Q (.ref l) (upd H l (.lst (kvs.map fun x=>V.ref x.2.1)))
theorem zfS {X:Cx} (hc:X.calm=true):zdv X (.type "list") (zhh X.K):=by
 intro pins s σ H vs us Q I r h
 obtain ⟨d,kvs,rfl,dd,h128,q⟩:=h
 obtain ⟨u,rfl,rx⟩:=zeK r
 cases rx
 obtain ⟨hd,xs,es,ep,rk,m,he⟩:=dd.ent I.hok
 have hl:es.size=kvs.length:=by rw [← Array.length_toList,he,List.length_map,Paired.length rk]
 refine PySem.W.kdl_call (zij (ep:=ep) hd) (I.ok.hd hc) m (by rw [hl,sizeLine_eq];(first|lia|omega)) fun h' tk acc c k hD ha=>?_
 refine ⟨.ref s.heap.objs.size,_,I.laid (t':=tk) (o:=.lst (kvs.map fun x=>V.ref x.2.1)) k (Nat.le_refl _) ⟨by rw [List.length_map,sizeLine_eq];(first|lia|omega),acc.toList,c,?_,by rw [Array.toArray_toList];exact hD⟩,rfl,q _ (I.hok.fresh (Nat.le_refl _))⟩
 have ea:acc.toList=(kvs.map fun x=>(x.1,x.2.1)).map zct:=by
  rw [← zi8 rk]
  refine List.ext_getElem? fun j=>?_
  by_cases lt:j<acc.size
  ·obtain ⟨e1,e2,e3⟩:=ha.2 j _ (Array.getElem?_eq_getElem lt)
   rw [Array.getElem?_toList,Array.getElem?_eq_getElem lt,e3]
   rw [← Array.getElem?_toList,he,List.getElem?_map] at e2
   obtain ⟨x,hx,rfl⟩:=Option.map_eq_some_iff.mp e2
   rw [List.getElem?_map,hx];rfl
  ·rw [List.getElem?_eq_none (by rw [Array.length_toList];(first|lia|omega)),List.getElem?_eq_none (by rw [List.length_map,← Paired.length rk,← hl,← ha.1];(first|lia|omega))]
 rw [ea]
 have:=zgu (xs:=kvs.map fun x=>(x.1,x.2.1))
 rw [List.map_map] at this
 exact this
end L2
set_option maxHeartbeats 4000000
local macro_rules
 | `(tactic| simp_all only [$xs,*])=>do
  let ds ← ("zlZ zmz zmd zl2 zl7 zl3 zl4 zlJ zmM zmD zk9 zkv zkz zk7 zkb rI_c rI0_c znA znE ex_bl zno znC znB znw zj8 zko zkt zlb zk4 zk8 zkS zkJ zjL zjJ zin ziV zjf zdS zgQ zjD ze4 zlu zla zdQ zaU rCat tBM zlG zg4 zjP zcd zaK zbp zbm zd4 zau zdW tCB zab zam tC tOp za2 zcv zdC zbA zes zcj rEq rNe zj6 zch zdu zhC zcx zlP rIn zhe zio zlD tB tOr zgx tIf za8 zkp zdy rPop zib zfE zlN zhk ziJ zlL zjh zfk zcL tTru ziB zh1 zkn zeT zmT zlU zg6 zej zms".splitOn " ").toArray.mapM fun s=>`(Lean.Parser.Tactic.simpLemma| ↓ $(Lean.mkIdent s.toName):ident)
  let ps ← ("zd5 zmP Option.bind_some Option.bind_none Option.join_some Option.map_some List.getElem?_cons_zero List.getElem?_cons_succ V.str.injEq V.ty.injEq zac rI rI0 zcs ze1 L2.zbE zj7 zmF zkH zlX List.map_cons List.map_nil List.length_cons List.length_nil List.replicate List.cons_append List.nil_append List.append_nil Option.some.injEq exists_eq_left' exists_eq_left exists_and_left List.cons.injEq V.int.injEq V.ref.injEq V.bl.injEq and_true true_and List.set_cons_zero List.set_cons_succ Nat.reduceAdd Nat.reduceSub Int.reduceToNat Int.reducePow Int.reduceNeg Int.reduceMul Int.reduceAdd Int.reduceSub decide_eq_true_eq Bool.not_eq_true' decide_eq_false_iff_not exists_const and_assoc exists_eq exists_eq' if_true if_false Bool.false_eq_true Bool.true_eq_false reduceCtorEq not_true_eq_false not_false_eq_true zkX".splitOn " ").toArray.mapM fun s=>`(Lean.Parser.Tactic.simpLemma| $(Lean.mkIdent s.toName):ident)
  `(tactic| simp only [$xs,*,$ds,*,$ps,*])
namespace My
local macro_rules | `(tactic| omega)=>`(tactic| lia)
open PySem L2
def top (i:Nat):Stmt:=PySem.Challenge.pw_hideworth_k40_standings.main.body.getD i (.Pass ⟨0,0,0,0⟩)
abbrev zdP:Stmt:=top 6
abbrev zdc:Stmt:=top 7
abbrev zey:Stmt:=top 10
abbrev zcm:Stmt:=top 11
abbrev zcN:Stmt:=top 12
abbrev zaN:Stmt:=top 13
abbrev zee:Stmt:=top 20
abbrev zbR:Stmt:=top 21
abbrev zdM:Stmt:=top 22
abbrev zdd:Stmt:=top 23
abbrev zcG:Stmt:=top 24
abbrev zbS:Stmt:=top 25
abbrev zdb:Stmt:=top 27
abbrev zcE:Stmt:=top 29
abbrev zdJ:Stmt:=top 30
abbrev zcA:Stmt:=top 31
abbrev zdg:Stmt:=top 32
abbrev zmE:Stmt:=top 33
set_option genInjectivity false in
set_option genSizeOf false in
structure Ad where
 f_is_whole:Addr
 d_is_whole:FuncData
 f_is_within:Addr
 d_is_within:FuncData
 f_is_step:Addr
 d_is_step:FuncData
 f_behind_step:Addr
 d_behind_step:FuncData
 f_steps_from:Addr
 d_steps_from:FuncData
 f_steps_by_standing:Addr
 d_steps_by_standing:FuncData
 f_is_road:Addr
 d_is_road:FuncData
 f_places_come_to:Addr
 d_places_come_to:FuncData
 f_look_web:Addr
 d_look_web:FuncData
 f_look_kind:Addr
 d_look_kind:FuncData
 f_look_small:Addr
 d_look_small:FuncData
 f_shortest_roads:Addr
 d_shortest_roads:FuncData
 f_standings:Addr
 d_standings:FuncData
 f__law_draws:Addr
 d__law_draws:FuncData
 f__law_web:Addr
 d__law_web:FuncData
 f__law_roads:Addr
 d__law_roads:FuncData
 f__law_next:Addr
 d__law_next:FuncData
 f_law:Addr
 d_law:FuncData
 k_MOST_PLACES:Tok
 k_MOST_SMALL:Tok
 k_MOST_ROADS:Tok
 k_MOST_LENGTH:Tok
 t_FIRST:Addr
 w_FIRST:Addr
 t_KINDS:Addr
structure Txt (K:PySem.W.Frag) (mg:Str→Option Value) (a:Ad):Prop where
 F_is_whole:Fun K "is_whole" "is_whole" zdP a.f_is_whole a.d_is_whole
 b_is_whole:zb0 K a.d_is_whole ["thing"] []
 m_is_whole:mg "is_whole"=some (.ref a.f_is_whole)
 F_is_within:Fun K "is_within" "is_within" zdc a.f_is_within a.d_is_within
 b_is_within:zb0 K a.d_is_within ["thing","least","most"] []
 m_is_within:mg "is_within"=some (.ref a.f_is_within)
 F_is_step:Fun K "is_step" "is_step" zey a.f_is_step a.d_is_step
 b_is_step:zb0 K a.d_is_step ["kind","standing","a","b"] []
 m_is_step:mg "is_step"=some (.ref a.f_is_step)
 F_behind_step:Fun K "behind_step" "behind_step" zcm a.f_behind_step a.d_behind_step
 b_behind_step:zb0 K a.d_behind_step ["kind","standing","b"] []
 m_behind_step:mg "behind_step"=some (.ref a.f_behind_step)
 F_steps_from:Fun K "steps_from" "steps_from" zcN a.f_steps_from a.d_steps_from
 b_steps_from:zb0 K a.d_steps_from ["lengths","kind","standing"] []
 m_steps_from:mg "steps_from"=some (.ref a.f_steps_from)
 F_steps_by_standing:Fun K "steps_by_standing" "steps_by_standing" zaN a.f_steps_by_standing a.d_steps_by_standing
 b_steps_by_standing:zb0 K a.d_steps_by_standing ["lengths","kind"] []
 m_steps_by_standing:mg "steps_by_standing"=some (.ref a.f_steps_by_standing)
 F_is_road:Fun K "is_road" "is_road" zee a.f_is_road a.d_is_road
 b_is_road:zb0 K a.d_is_road ["thing","many"] []
 m_is_road:mg "is_road"=some (.ref a.f_is_road)
 F_places_come_to:Fun K "places_come_to" "places_come_to" zbR a.f_places_come_to a.d_places_come_to
 b_places_come_to:zb0 K a.d_places_come_to ["roads"] []
 m_places_come_to:mg "places_come_to"=some (.ref a.f_places_come_to)
 F_look_web:Fun K "look_web" "look_web" zdM a.f_look_web a.d_look_web
 b_look_web:zb0 K a.d_look_web ["web"] []
 m_look_web:mg "look_web"=some (.ref a.f_look_web)
 F_look_kind:Fun K "look_kind" "look_kind" zdd a.f_look_kind a.d_look_kind
 b_look_kind:zb0 K a.d_look_kind ["kind"] []
 m_look_kind:mg "look_kind"=some (.ref a.f_look_kind)
 F_look_small:Fun K "look_small" "look_small" zcG a.f_look_small a.d_look_small
 b_look_small:zb0 K a.d_look_small ["web","kind"] []
 m_look_small:mg "look_small"=some (.ref a.f_look_small)
 F_shortest_roads:Fun K "shortest_roads" "shortest_roads" zbS a.f_shortest_roads a.d_shortest_roads
 b_shortest_roads:zb0 K a.d_shortest_roads ["web"] []
 m_shortest_roads:mg "shortest_roads"=some (.ref a.f_shortest_roads)
 F_standings:Fun K "standings" "standings" zdb a.f_standings a.d_standings
 b_standings:zb0 K a.d_standings ["web","kind"] []
 m_standings:mg "standings"=some (.ref a.f_standings)
 F__law_draws:Fun K "_law_draws" "_law_draws" zcE a.f__law_draws a.d__law_draws
 b__law_draws:zb0 K a.d__law_draws ["_law_script","_law_many"] []
 m__law_draws:mg "_law_draws"=some (.ref a.f__law_draws)
 F__law_web:Fun K "_law_web" "_law_web" zdJ a.f__law_web a.d__law_web
 b__law_web:zb0 K a.d__law_web ["_law_draws_here","_law_at","_law_most"] []
 m__law_web:mg "_law_web"=some (.ref a.f__law_web)
 F__law_roads:Fun K "_law_roads" "_law_roads" zcA a.f__law_roads a.d__law_roads
 b__law_roads:zb0 K a.d__law_roads ["_law_web_here","_law_place"] []
 m__law_roads:mg "_law_roads"=some (.ref a.f__law_roads)
 F__law_next:Fun K "_law_next" "_law_next" zdg a.f__law_next a.d__law_next
 b__law_next:zb0 K a.d__law_next ["_law_web_here","_law_kind","_law_places","_law_here"] []
 m__law_next:mg "_law_next"=some (.ref a.f__law_next)
 F_law:Fun K "law" "law" zmE a.f_law a.d_law
 b_law:zb0 K a.d_law ["_law_script"] []
 m_law:mg "law"=some (.ref a.f_law)
 z_isinstance:mg "isinstance"=none
 z_int:mg "int"=none
 z_bool:mg "bool"=none
 z_list:mg "list"=none
 z_tuple:mg "tuple"=none
 z_dict:mg "dict"=none
 z_set:mg "set"=none
 z_sorted:mg "sorted"=none
 z_len:mg "len"=none
 z_all:mg "all"=none
 z_min:mg "min"=none
 z_range:mg "range"=none
 z_enumerate:mg "enumerate"=none
 m_MOST_PLACES:mg "MOST_PLACES"=some (.int 60 a.k_MOST_PLACES)
 m_MOST_SMALL:mg "MOST_SMALL"=some (.int 7 a.k_MOST_SMALL)
 m_MOST_ROADS:mg "MOST_ROADS"=some (.int 120 a.k_MOST_ROADS)
 m_MOST_LENGTH:mg "MOST_LENGTH"=some (.int 1000000 a.k_MOST_LENGTH)
 m_FIRST:mg "FIRST"=some (.ref a.t_FIRST)
 u_FIRST:zlr K a.t_FIRST [.ref a.w_FIRST,.int 0]
 v_FIRST:zlr K a.w_FIRST [.int 0]
 m_KINDS:mg "KINDS"=some (.ref a.t_KINDS)
 u_KINDS:zlr K a.t_KINDS [.str "walk",.str "spread"]
theorem znm:zmX 10 18:=⟨by decide,by decide,by decide⟩
theorem logA:(0:Int)<1000000000000000000∧(Int.natAbs 1000000000000000000).log2<9000:=by decide +kernel
def zff:Sp:=fun vs H Q _=>∃ a:Int,vs=[.int a]∧Q (.bl true) H
def zlP (K:PySem.W.Frag) (tl:TE):TI:=fun σ H R=>tl σ H fun x H1=>∃ a,x=.ref a∧((∃ xs,SqL K H1 a xs)∧R (Itl K a) H1∨(∃ xs,SqT K H1 a xs)∧R (Itt K a) H1)
open PySem PySem.Spec PyProof.Rows in
theorem zmj {X:Cx} {tg l:Expr} {tl:TE} (hl:PE X l tl):PI X tg l (zlP X.K tl):=by
 intro pins s σ H R I h
 refine thn (hl pins s σ H _ I h) fun v s1 hQ'=>?_
 obtain ⟨x,H1,I1,r1,q1⟩:=hQ'
 obtain ⟨a,e,q1⟩:=q1
 subst e
 cases r1
 rcases q1 with ⟨⟨xs,hq⟩,q⟩ | ⟨⟨xs,hq⟩,q⟩
 ·obtain ⟨its,rv,p,hz⟩:=I1.list hq
  refine wpAny_pyIter_list p.isList ?_
  refine ⟨s1.heap.objs.size,[s1.heap.objs.size],_,_,H1,rfl,I1.kept (t':=s1.toks) fun b o e=>Heap.get?_push_of_some _ e,zf1 a _,⟨_,Heap.get?_push_size _ rfl,rfl,rfl⟩,fun b hb=>?_,q⟩
  have e:b=s1.heap.objs.size:=by simpa using hb
  subst e
  exact I1.fpOk (Nat.le_refl _) (I1.hok.fresh (Nat.le_refl _))
 ·obtain ⟨its,rv,p,hz⟩:=I1.tuple hq
  refine wpAny_pyIter_tuple (show s1.heap.IsTuple a its.toArray from p) ?_
  refine ⟨s1.heap.objs.size,[s1.heap.objs.size],_,_,H1,rfl,I1.kept (t':=s1.toks) fun b o e=>Heap.get?_push_of_some _ e,zh4 a _,⟨_,Heap.get?_push_size _ rfl,rfl,rfl⟩,fun b hb=>?_,q⟩
  have e:b=s1.heap.objs.size:=by simpa using hb
  subst e
  exact I1.fpOk (Nat.le_refl _) (I1.hok.fresh (Nat.le_refl _))
theorem zcZ {α β:Type} {f:α→β} {l:List α} {i:Nat} {y:β} (h:(l.map f)[i]?=some y):∃ x,l[i]?=some x∧y=f x:=by
 rw [List.getElem?_map] at h
 obtain ⟨x,h1,h2⟩:=Option.map_eq_some_iff.mp h
 exact ⟨x,h1,h2.symm⟩
def Tps {α:Type} (f:α→List V) (H:Hp) (ts:List Addr) (bs:List α):Prop:=ts.length=bs.length∧∀ (i:Nat) t b,ts[i]?=some t→bs[i]?=some b→H t=some (.tup (f b))
theorem Tps.same {α:Type} {f:α→List V} {H H':Hp} {ts:List Addr} {bs:List α} (h:Tps f H ts bs) (s:zba H H'):Tps f H' ts bs:=⟨h.1,fun i t b e1 e2=>s _ _ (h.2 i t b e1 e2)⟩
theorem Tps.nil {α:Type} {f:α→List V} {H:Hp}:Tps f H [] ([]:List α):=⟨rfl,fun i t b e=>by simp at e⟩
theorem Tps.put {α:Type} {f:α→List V} {H H':Hp} {ts:List Addr} {bs:List α} {t:Addr} {b:α} (h:Tps f H ts bs) (s:∀ (x:Addr) (u:List V),H x=some (.tup u)→H' x=some (.tup u)) (e:H' t=some (.tup (f b))):Tps f H' (ts++[t]) (bs++[b]):=by
 refine ⟨by rw [List.length_append,List.length_append,h.1];rfl,fun i x y e1 e2=>?_⟩
 by_cases c:i<ts.length
 ·rw [List.getElem?_append_left c] at e1
  rw [List.getElem?_append_left (by rw [← h.1];exact c)] at e2
  exact s _ _ (h.2 i x y e1 e2)
 ·have c1:ts.length≤i:=by omega
  rw [List.getElem?_append_right c1] at e1
  rw [List.getElem?_append_right (by rw [← h.1];exact c1),← h.1] at e2
  have z:i - ts.length=0:=by
   have:=(List.getElem?_eq_some_iff.mp e1).1
   simp only [List.length_cons,List.length_nil] at this
   omega
  rw [z] at e1 e2
  simp only [List.getElem?_cons_zero,Option.some.injEq] at e1 e2
  rw [← e1,← e2]
  exact e
theorem Tps.at {α:Type} {f:α→List V} {H:Hp} {ts:List Addr} {bs:List α} (h:Tps f H ts bs) {i:Nat} {t:Addr} (e:ts[i]?=some t):∃ b,bs[i]?=some b∧H t=some (.tup (f b)):=by
 have hi:=(List.getElem?_eq_some_iff.mp e).1
 rw [h.1] at hi
 exact ⟨bs[i],List.getElem?_eq_getElem hi,h.2 i t _ e (List.getElem?_eq_getElem hi)⟩
theorem zca {α:Type} {l:List α} {i:Nat} {x:α} (e:l[i]?=some x):x∈l:=List.mem_of_getElem? e
theorem zgL {c:TT} {tb:TS} {D:zbY} {σ:St} {H:Hp} (W:Nat→St→Hp→Prop) {m:Nat} (h0:W m σ H)
  (hs:∀ m σ H,W m σ H→c σ H fun b H1=>if b=true then ∃ N:St→Hp→Prop,(∀ σ' H',N σ' H'→∃ m',m'<m∧W m' σ' H')∧tb { D with nx:=N,ct:=N,bk:=D.nx } σ H1 else D.nx σ H1):ze9 c tb D σ H:=⟨W,⟨m,h0⟩,hs⟩
abbrev zbb:=Int×Int×Int
abbrev rdv (r:zbb):List V:=[.int r.1,.int r.2.1,.int r.2.2]
def GR (m:Int) (r:zbb):Prop:=0≤r.1∧r.1<m∧0≤r.2.1∧r.2.1<m∧r.1≠r.2.1∧1≤r.2.2∧r.2.2≤1000000
instance (m:Int) (r:zbb):Decidable (GR m r):=by unfold GR;infer_instance
def zm8 (m:Int) (rs:List zbb):Prop:=∀ S:Int→Prop,S 0→(∀ r∈rs,S r.1∨S r.2.1→S r.1∧S r.2.1)→∀ x,0≤x→x<m→S x
structure GW (m:Int) (rs:List zbb):Prop where
 m1:1≤m
 m60:m≤60
 l120:rs.length≤120
 gr:∀ r∈rs,GR m r
 conn:zm8 m rs
structure zeU (H:Hp) (w rl:Addr) (ts:List Addr) (m:Int) (rs:List zbb):Prop where
 hw:H w=some (.tup [.int m,.ref rl])
 hl:H rl=some (.lst (ts.map V.ref))
 ht:Tps rdv H ts rs
theorem zeU.same {H H':Hp} {w rl:Addr} {ts:List Addr} {m:Int} {rs:List zbb} (h:zeU H w rl ts m rs) (s:zba H H'):zeU H' w rl ts m rs:=⟨s _ _ h.hw,s _ _ h.hl,h.ht.same s⟩
def shs (f:Int→Int→Option Int) (r:zbb):Int→Int→Option Int:=fun x y =>
 if x=r.2.1∧y=r.1 then some (min ((f r.1 r.2.1).getD r.2.2) r.2.2) else if x=r.1∧y=r.2.1 then some (min ((f r.1 r.2.1).getD r.2.2) r.2.2) else f x y
def sh (rs:List zbb):Int→Int→Option Int:=rs.foldl shs fun _ _=>none
theorem zlW {rs:List zbb} {i:Nat} {r:zbb} (e:rs[i]?=some r):sh (rs.take (i+1))=shs (sh (rs.take i)) r:=by
 unfold sh
 rw [List.take_add_one,e,List.foldl_append]
 rfl
theorem zi9 (rs:List zbb):∀ x y,sh rs x y=sh rs y x:=by
 have z:∀ (rs:List zbb) (f:Int→Int→Option Int),(∀ x y,f x y=f y x)→∀ x y,rs.foldl shs f x y=rs.foldl shs f y x:=by
  intro rs
  induction rs with
  | nil=>intro f h;exact h
  | cons r rs ih =>
   intro f h
   refine ih _ fun x y=>?_
   unfold shs
   by_cases c1:x=r.2.1∧y=r.1
   ·obtain ⟨rfl,rfl⟩:=c1
    rw [if_pos ⟨rfl,rfl⟩]
    split
    ·rfl
    ·rw [if_pos ⟨rfl,rfl⟩]
   ·rw [if_neg c1]
    by_cases c2:x=r.1∧y=r.2.1
    ·obtain ⟨rfl,rfl⟩:=c2
     rw [if_pos ⟨rfl,rfl⟩,if_pos ⟨rfl,rfl⟩]
    ·rw [if_neg c2,if_neg fun z=>c2 ⟨z.2,z.1⟩,if_neg fun z=>c1 ⟨z.2,z.1⟩,h x y]
 exact z rs _ fun _ _=>rfl
abbrev Edg:=Int×Int×Int
def zfO (b:Int):List Int→List Int
 | []=>[b]
 | x::r=>if b<x then b::x::r else if b=x then x::r else x::zfO b r
theorem zbK {b y:Int}:∀ {l:List Int},y∈zfO b l↔y=b∨y∈l
 | []=>by simp [zfO]
 | x::r=>by
  unfold zfO
  split
  ·simp
  ·split
   ·rename_i h;subst h;simp
   ·rw [List.mem_cons,zbK,List.mem_cons]
    constructor
    ·rintro (h | h | h)
     ·exact .inr (.inl h)
     ·exact .inl h
     ·exact .inr (.inr h)
    ·rintro (h | h | h)
     ·exact .inr (.inl h)
     ·exact .inl h
     ·exact .inr (.inr h)
theorem zcK {b:Int}:∀ {l:List Int},l.Pairwise (·<·)→(zfO b l).Pairwise (·<·)
 | [],_=>by simp [zfO]
 | x::r,h=>by
  obtain ⟨h1,h2⟩:=List.pairwise_cons.mp h
  unfold zfO
  split
  ·rename_i c
   refine List.pairwise_cons.mpr ⟨fun y hy=>?_,h⟩
   rcases List.mem_cons.mp hy with rfl | hy
   ·exact c
   ·exact Int.lt_trans c (h1 y hy)
  ·split
   ·exact h
   ·refine List.pairwise_cons.mpr ⟨fun y hy=>?_,zcK h2⟩
    rcases zbK.mp hy with rfl | hy
    ·omega
    ·exact h1 y hy
theorem zfF:∀ {l m:List Int},l.Pairwise (·<·)→m.Pairwise (·<·)→(∀ x,x∈l↔x∈m)→l=m
 | [],[],_,_,_=>rfl
 | [],y::m,_,_,h=>by have:=(h y).mpr List.mem_cons_self;cases this
 | x::l,[],_,_,h=>by have:=(h x).mp List.mem_cons_self;cases this
 | x::l,y::m,hl,hm,h=>by
  obtain ⟨h1,h2⟩:=List.pairwise_cons.mp hl
  obtain ⟨h3,h4⟩:=List.pairwise_cons.mp hm
  have e:x=y:=by
   rcases List.mem_cons.mp ((h x).mp List.mem_cons_self) with e | e
   ·exact e
   ·rcases List.mem_cons.mp ((h y).mpr List.mem_cons_self) with f | f
    ·exact f.symm
    ·have:=h3 x e;have:=h1 y f;omega
  subst e
  refine congrArg (x::·) (zfF h2 h4 fun z=>⟨fun hz=>?_,fun hz=>?_⟩)
  ·rcases List.mem_cons.mp ((h z).mp (List.mem_cons_of_mem _ hz)) with e | e
   ·have:=h1 z hz;omega
   ·exact e
  ·rcases List.mem_cons.mp ((h z).mpr (List.mem_cons_of_mem _ hz)) with e | e
   ·have:=h3 z hz;omega
   ·exact e
def zhx (wk:Bool) (s:Std) (a b:Int):Bool:=if wk then a == s.2 else decide (a∈s.1)&&!decide (b∈s.1)
def bhd (wk:Bool) (s:Std) (b:Int):Std:=(zfO b s.1,if wk then b else 0)
abbrev zjZ:=Int×Int×Int×Std
def zeM (wk:Bool) (E:List Edg) (s:Std):List zjZ:=(E.filter fun e=>zhx wk s e.1 e.2.1).map fun e=>(e.1,e.2.1,e.2.2,bhd wk s e.2.1)
def st0:Std:=([0],0)
inductive Rch (wk:Bool) (E:List Edg):Std→Prop
 | first:Rch wk E st0
 | step {s:Std} {x:zjZ} (h:Rch wk E s) (hx:x∈zeM wk E s):Rch wk E x.2.2.2
theorem zfC {wk:Bool} {E:List Edg} {s:Std} {x:zjZ}:x∈zeM wk E s↔∃ e∈E,zhx wk s e.1 e.2.1=true∧x=(e.1,e.2.1,e.2.2,bhd wk s e.2.1):=by
 unfold zeM
 rw [List.mem_map]
 constructor
 ·rintro ⟨e,he,rfl⟩
  obtain ⟨h1,h2⟩:=List.mem_filter.mp he
  exact ⟨e,h1,h2,rfl⟩
 ·rintro ⟨e,h1,h2,rfl⟩
  exact ⟨e,List.mem_filter.mpr ⟨h1,h2⟩,rfl⟩
structure ziq (m:Int) (E:List Edg):Prop where
 gr:∀ e∈E,0≤e.1∧e.1<m∧0≤e.2.1∧e.2.1<m∧e.1≠e.2.1∧1≤e.2.2∧e.2.2≤1000000
 sym:∀ e∈E,(e.2.1,e.1,e.2.2)∈E
 one:E.Pairwise fun e f=>¬ (e.1=f.1∧e.2.1=f.2.1)
 conn:∀ S:Int→Prop,S 0→(∀ e∈E,S e.1→S e.2.1)→∀ x,0≤x→x<m→S x
structure zfi (wk:Bool) (m:Int) (s:Std):Prop where
 rise:s.1.Pairwise (·<·)
 zero:(0:Int)∈s.1
 bd:∀ p∈s.1,0≤p∧p<m
 here:if wk then s.2∈s.1 else s.2=0
section
variable {wk:Bool} {m:Int} {E:List Edg} {s:Std}
theorem Rch.ok (hE:ziq m E) (m1:1≤m) (h:Rch wk E s):zfi wk m s:=by
 induction h with
 | first=>exact ⟨by simp [st0],by simp [st0],fun p hp=>by simp [st0] at hp;omega,by cases wk <;> simp [st0]⟩
 | @step s x h hx ih =>
  obtain ⟨e,he,ho,rfl⟩:=zfC.mp hx
  obtain ⟨g1,g2,g3,g4,_⟩:=hE.gr e he
  refine ⟨zcK ih.rise,zbK.mpr (.inr ih.zero),fun p hp=>?_,?_⟩
  ·rcases zbK.mp hp with rfl | hp
   ·exact ⟨g3,g4⟩
   ·exact ih.bd p hp
  ·unfold bhd
   cases wk
   ·rfl
   ·simp only [if_true];exact zbK.mpr (.inl rfl)
theorem zfi.hereb (h:zfi wk m s) (m1:1≤m):0≤s.2∧s.2<m:=by
 have:=h.here
 cases wk
 ·simp only [Bool.false_eq_true,if_false] at this;omega
 ·simp only [if_true] at this;exact h.bd _ this
end
def zjQ:Nat→Int→List (List Int)
 | 0,_=>[[]]
 | n+1,lo=>(zjQ n (lo+1)).map (lo::·)++zjQ n (lo+1)
theorem zdp:∀ (n:Nat) (lo:Int) (l:List Int),l.Pairwise (·<·)→(∀ p∈l,lo≤p∧p<lo+n)→l∈zjQ n lo
 | 0,lo,[],_,_=>List.mem_singleton.mpr rfl
 | 0,lo,x::l,_,h=>by have:=h x List.mem_cons_self;omega
 | n+1,lo,[],_,_=>List.mem_append_right _ (zdp n (lo+1) [] .nil fun p hp=>nomatch hp)
 | n+1,lo,x::l,hr,h=>by
  obtain ⟨h1,h2⟩:=List.pairwise_cons.mp hr
  have hx:=h x List.mem_cons_self
  unfold zjQ
  by_cases c:x=lo
  ·subst c
   refine List.mem_append_left _ (List.mem_map.mpr ⟨l,zdp n (x+1) l h2 fun p hp=>?_,rfl⟩)
   have:=h1 p hp;have:=h p (List.mem_cons_of_mem _ hp);omega
  ·refine List.mem_append_right _ (zdp n (lo+1) (x::l) hr fun p hp=>?_)
   rcases List.mem_cons.mp hp with rfl | hp'
   ·omega
   ·have:=h1 p hp';have:=h p hp;omega
def zgw (n:Nat):List Std:=((zjQ (n - 1) 1).map (0::·)).flatMap fun l=>l.map fun x=>(l,x)
theorem ze3 {wk:Bool} {n:Nat} {s:Std} (h:zfi wk n s) (n1:1≤n):s∈zgw n:=by
 have hs:s.2∈s.1:=by
  have:=h.here
  cases wk
  ·simp only [Bool.false_eq_true,if_false] at this;rw [this];exact h.zero
  ·simpa using this
 obtain ⟨l,e⟩:∃ l,s.1=0::l:=by
  cases c:s.1 with
  | nil=>have:=h.zero;rw [c] at this;cases this
  | cons x l =>
   have h0:=h.zero;have hr:=h.rise;have hb:=h.bd
   rw [c] at h0 hr hb
   rcases List.mem_cons.mp h0 with e | e
   ·rw [← e];exact ⟨l,rfl⟩
   ·have:=(List.pairwise_cons.mp hr).1 0 e;have:=hb x List.mem_cons_self;omega
 unfold zgw
 refine List.mem_flatMap.mpr ⟨s.1,List.mem_map.mpr ⟨l,?_,e.symm⟩,List.mem_map.mpr ⟨s.2,hs,rfl⟩⟩
 have hr:=h.rise;have hb:=h.bd
 rw [e] at hr hb
 obtain ⟨h1,h2⟩:=List.pairwise_cons.mp hr
 refine zdp _ _ _ h2 fun p hp=>?_
 have:=h1 p hp;have:=hb p (List.mem_cons_of_mem _ hp);omega
theorem zhW {n:Nat} (h:n≤5):(zgw n).length≤48:=by
 match n,h with
 | 0,_=>decide
 | 1,_=>decide
 | 2,_=>decide
 | 3,_=>decide
 | 4,_=>decide
 | 5,_=>decide
theorem zdt {α:Type} [DecidableEq α]:∀ {l L:List α},l.Nodup→(∀ x∈l,x∈L)→l.length≤L.length
 | [],_,_,_=>Nat.zero_le _
 | x::l,L,hn,hs=>by
  obtain ⟨h1,h2⟩:=List.nodup_cons.mp hn
  have hx:=hs x List.mem_cons_self
  have:=zdt (l:=l) (L:=L.erase x) h2 fun y hy=>(List.mem_erase_of_ne (fun z:y=x=>h1 (z ▸ hy))).mpr (hs y (List.mem_cons_of_mem _ hy))
  rw [List.length_erase_of_mem hx] at this
  have:=List.length_pos_of_mem hx
  rw [List.length_cons]
  omega
def zcl:Sp:=fun vs H Q _=>∃ x l m:Int,vs=[.int x,.int l,.int m]∧Q (.bl (decide (l≤x∧x≤m))) H
def zfp:Sp:=fun vs H Q _=>∃ (t:Addr) (r:zbb) (m:Int),vs=[.ref t,.int m]∧H t=some (.tup (rdv r))∧Q (.bl (decide (GR m r))) H
def ziO:Sp:=fun vs H Q _=>∃ (rl:Addr) (ts:List Addr) (rs:List zbb) (m:Int),vs=[.ref rl]∧H rl=some (.lst (ts.map V.ref))∧Tps rdv H ts rs∧1≤m∧m≤60∧(∀ r∈rs,GR m r)∧∀ (d:Addr) (kvs:List (Key×V)) (H':Hp),zba H H'→H' d=some (.dK kvs)→(m≤(kvs.length:Int)↔zm8 m rs)→Q (.ref d) H'
def zfP:Sp:=fun vs H Q _=>∃ (w rl:Addr) (ts:List Addr) (m:Int) (rs:List zbb),vs=[.ref w]∧zeU H w rl ts m rs∧GW m rs∧∀ H',zba H H'→Q .non H'
abbrev zfs (e:Edg):List Key×V:=([.inl e.1,.inl e.2.1],.int e.2.2)
structure zmk (kvs:List (List Key×V)) (rs:List zbb):Prop where
 val:∀ x y:Int,zbM kvs [.inl x,.inl y]=(sh rs x y).map V.int
 len:kvs.length≤2*rs.length
 ent:∃ E:List Edg,kvs=E.map zfs∧E.Pairwise fun e f=>¬ (e.1=f.1∧e.2.1=f.2.1)
def ziH:Sp:=fun vs H Q _=>∃ (w rl:Addr) (ts:List Addr) (m:Int) (rs:List zbb),vs=[.ref w]∧zeU H w rl ts m rs∧rs.length≤120∧∀ (d:Addr) (kvs:List (List Key×V)) (H':Hp),zba H H'→H' d=some (.dT kvs)→zmk kvs rs→H d=none→Q (.ref d) H'
def kdW:Bool→Str
 | true=>"walk"
 | false=>"spread"
structure zj4 (K:PySem.W.Frag) (H:Hp) (l:Addr) (ts:List Addr) (cs:List Addr) (sts:List zjZ):Prop where
 h:H l=some (.lst (ts.map V.ref))
 lt:ts.length=sts.length
 lc:cs.length=sts.length
 at':∀ (j:Nat) t c x,ts[j]?=some t→cs[j]?=some c→sts[j]?=some x→H t=some (.tup [.int x.1,.int x.2.1,.int x.2.2.1,.ref c])∧StH K H x.2.2.2 c
def zlz (K:PySem.W.Frag) (H:Hp) (l:Addr) (sts:List zjZ):Prop:=∃ ts cs,zj4 K H l ts cs sts
theorem zdZ {K:PySem.W.Frag} {H H':Hp} {k:Std} {c:Addr} (h:StH K H k c) (s:zba H H'):StH K H' k c:=h.same fun b ys e=>s b _ e
theorem zj4.mono {K:PySem.W.Frag} {H H':Hp} {l:Addr} {ts cs:List Addr} {sts:List zjZ} (h:zj4 K H l ts cs sts) (hl:H' l=some (.lst (ts.map V.ref))) (ht:∀ b ys,H b=some (.tup ys)→H' b=some (.tup ys)):zj4 K H' l ts cs sts :=
 ⟨hl,h.lt,h.lc,fun j t c x e1 e2 e3=>⟨ht _ _ (h.at' j t c x e1 e2 e3).1,(h.at' j t c x e1 e2 e3).2.same ht⟩⟩
theorem zj4.snoc {K:PySem.W.Frag} {H H':Hp} {l t c:Addr} {ts cs:List Addr} {sts:List zjZ} {x:zjZ} (h:zj4 K H l ts cs sts) (hl:H' l=some (.lst ((ts++[t]).map V.ref))) (ht:∀ b ys,H b=some (.tup ys)→H' b=some (.tup ys)) (e:H' t=some (.tup [.int x.1,.int x.2.1,.int x.2.2.1,.ref c])) (k:StH K H' x.2.2.2 c):zj4 K H' l (ts++[t]) (cs++[c]) (sts++[x]):=by
 refine ⟨hl,by rw [List.length_append,List.length_append,h.lt];rfl,by rw [List.length_append,List.length_append,h.lc];rfl,fun j t' c' x' e1 e2 e3=>?_⟩
 by_cases cj:j<sts.length
 ·rw [List.getElem?_append_left (by rw [h.lt];exact cj)] at e1
  rw [List.getElem?_append_left (by rw [h.lc];exact cj)] at e2
  rw [List.getElem?_append_left cj] at e3
  exact ⟨ht _ _ (h.at' j _ _ _ e1 e2 e3).1,(h.at' j _ _ _ e1 e2 e3).2.same ht⟩
 ·have z:j - sts.length=0:=by
   have:=(List.getElem?_eq_some_iff.mp e3).1
   rw [List.length_append,List.length_singleton] at this
   omega
  rw [List.getElem?_append_right (by rw [h.lt];omega),h.lt,z] at e1
  rw [List.getElem?_append_right (by rw [h.lc];omega),h.lc,z] at e2
  rw [List.getElem?_append_right (by omega),z] at e3
  cases e1;cases e2;cases e3
  exact ⟨e,k⟩
theorem ziy {wk:Bool} {E:List Edg} {s:Std} {i:Nat} {e:Edg} (h:E[i]?=some e):zeM wk (E.take (i+1)) s=if zhx wk s e.1 e.2.1=true then zeM wk (E.take i) s++[(e.1,e.2.1,e.2.2,bhd wk s e.2.1)] else zeM wk (E.take i) s:=by
 unfold zeM
 rw [List.take_add_one,h,List.filter_append,List.map_append]
 show _++(List.filter _ [e]).map _=_
 rw [List.filter_cons]
 split <;> simp
theorem zlz.sm {K:PySem.W.Frag} {H H':Hp} {l:Addr} {sts:List zjZ} (h:zlz K H l sts) (s:zba H H'):zlz K H' l sts:=let ⟨ts,cs,x⟩:=h;⟨ts,cs,x.mono (s _ _ x.h) fun b ys e=>s b _ e⟩
structure StpD (K:PySem.W.Frag) (H:Hp) (d:Addr) (kvs:Prs) (wk:Bool) (E:List Edg):Prop where
 ds:DS K H d kvs
 nd:(kvs.map (·.1)).Nodup
 key:∀ s,(∃ p∈kvs,p.1=s)↔Rch wk E s
 val:∀ p∈kvs,∃ l,p.2.2=.ref l∧zlz K H l (zeM wk E p.1)
 sm:∀ p∈kvs,Sml p.1
 len:kvs.length<128
theorem dsSm {K:PySem.W.Frag} {H H':Hp} {d:Addr} {kvs:Prs} (h:DS K H d kvs) (s:zba H H'):DS K H' d kvs:=⟨s _ _ h.h,fun x hx=>zdZ (h.ks x hx) s⟩
def zfw (K:PySem.W.Frag):Sp:=fun vs H Q _=>∃ (wk:Bool) (s:Std) (c:Addr) (x y:Int),vs=[.str (kdW wk),.ref c,.int x,.int y]∧StH K H s c∧Q (.bl (zhx wk s x y)) H
def zfj (K:PySem.W.Frag):Sp:=fun vs H Q _=>∃ (wk:Bool) (s:Std) (c:Addr) (y:Int),vs=[.str (kdW wk),.ref c,.int y]∧StH K H s c∧s.1.Pairwise (·<·)∧s.1≠[]∧s.1.length<60∧∀ (r:Addr) (H':Hp),zba H H'→H r=none→StH K H' (bhd wk s y) r→Q (.ref r) H'
def zdi (K:PySem.W.Frag):Sp:=fun vs H Q _=>∃ (wk:Bool) (s:Std) (c ld:Addr) (E:List Edg),vs=[.ref ld,.str (kdW wk),.ref c]∧H ld=some (.dT (E.map zfs))∧StH K H s c∧s.1.Pairwise (·<·)∧s.1≠[]∧s.1.length<60∧E.length≤1000∧∀ (l:Addr) (H':Hp),zba H H'→H l=none→zlz K H' l (zeM wk E s)→Q (.ref l) H'
def zlj (K:PySem.W.Frag):Sp:=fun vs H Q _=>∃ (wk:Bool) (ld:Addr) (E:List Edg) (m:Nat),vs=[.ref ld,.str (kdW wk)]∧H ld=some (.dT (E.map zfs))∧ziq m E∧1≤m∧m≤6∧E.length≤1000∧∀ (d:Addr) (kvs:Prs) (H':Hp),zba H H'→H d=none→StpD K H' d kvs wk E→(kvs.map (·.1)).Pairwise (fun x y=>stR x≤stR y)→Q (.ref d) H'
theorem zeF {n:Nat} (h:n≤6):(zgw n).length≤112:=by
 rcases Nat.lt_or_ge n 6 with h | h'
 ·exact Nat.le_trans (zhW (by omega)) (by decide)
 ·have:n=6:=by omega
  subst this
  decide
section
variable {P:Program} {w:World} {mg:Str→Option Value} {base:Heap}
variable {K:PySem.W.Frag} {H:Hp} {Q:VK} {a:Ad}
def zdV (K:PySem.W.Frag):TS :=
 (zdC (zej (tCB (zgY K) (zab (zac 0) (zab (tC (.ty "int")) zam))) (zms (tCB (zgY K) (zab (zac 0) (zab (tC (.ty "bool")) zam))))))
theorem zgy {x:Int} (q:Q (.bl true) H):zdV K { nx:=fun _ H'=>Q .non H',rt:=Q } (L2.zbE ["thing"] [.int x]) H:=by
 unfold zdV
 simp_all only [zac]
 refine zgH ⟨_,rfl,iteT ?_⟩
 exact zge ⟨_,rfl,q⟩
theorem zgG:zaW ["thing"] ["thing"] (zas zdP):=⟨rfl,rfl,rfl,by decide +kernel,rfl,by decide +kernel,by decide +kernel⟩
theorem zeE (T:Txt K mg a):zd2 P w K mg base CX0 1 a.f_is_whole a.d_is_whole ["thing"] zff:=by
 refine T.F_is_whole.ok zgG (fun vs H Q E h=>?_) (fun cdv A outer s H vs Q E hr h=>?_)
 ·obtain ⟨x,rfl,q⟩:=h
  rfl
 obtain ⟨x,rfl,q⟩:=h
 exact ⟨zdV K,(zai (zbx (zeY (zat zbC rfl T.z_isinstance PyProof.Rows.boot_isinstance (zaa (pv 0) (zaa (zdI rfl T.z_int zhK rfl) zaf))) (zhv (zm3 (zat zbC rfl T.z_isinstance PyProof.Rows.boot_isinstance (zaa (pv 0) (zaa (zdI rfl T.z_bool ziR rfl) zaf)))))))),
  zgy q⟩
def zde:TS :=
 (zdC (zej (za8 zff [] E0 (zab (zac 0) zam)) (zeT (rI0 fun i j=>.bl (decide (i≤j))) (rI0 fun i j=>.bl (decide (i≤j))) (zac 1) (zac 0) (zac 2))))
theorem zgi {x l m:Int} (q:Q (.bl (decide (l≤x∧x≤m))) H):zde { nx:=fun _ H'=>Q .non H',rt:=Q } (L2.zbE ["thing","least","most"] [.int x,.int l,.int m]) H:=by
 unfold zde
 simp_all only [zac]
 refine ⟨x,rfl,true,rfl,iteT ?_⟩
 refine zci (fun c=>?_) (fun c=>?_)
 ·rw [show decide (l≤x∧x≤m)=decide (x≤m) from by simp [c]] at q
  exact q
 ·rw [show decide (l≤x∧x≤m)=false from by simp [c]] at q
  exact q
theorem zgj:zaW ["thing","least","most"] ["thing","least","most"] (zas zdc):=⟨rfl,rfl,rfl,by decide +kernel,rfl,by decide +kernel,by decide +kernel⟩
theorem zga (T:Txt K mg a):zd2 P w K mg base CX0 2 a.f_is_within a.d_is_within ["thing","least","most"] zcl:=by
 have G_is_whole:=zeE (P:=P) (w:=w) (base:=base) T
 refine T.F_is_within.ok zgj (fun vs H Q E h=>?_) (fun cdv A outer s H vs Q E hr h=>?_)
 ·obtain ⟨x,l,m,rfl,q⟩:=h
  rfl
 obtain ⟨x,l,m,rfl,q⟩:=h
 exact ⟨zde,(zai (zbx (zeY (zaT G_is_whole (hr.mono (by decide)) rfl T.m_is_whole T.F_is_whole.kp T.b_is_whole .nil zb7 (zaa (pv 0) zaf)) (zhv (zkg zkG zkG (pv 1) (pv 0) (pv 2)))))),
  zgi q⟩
def zex (K:PySem.W.Frag):TS :=
 (zaK (zbm (zac 0) (zd4 K 3 (zau (zag 2) (zau (zag 3) (zau (zag 4) zdW)))))
 (zdC (zej (za8 zcl [] E0 (zab (zac 2) (zab (tC (.int 0)) (zab (tOp (rI0 fun i j=>.int (i - j)) (zac 1) (tC (.int 1))) zam)))) (zej (za8 zcl [] E0 (zab (zac 3) (zab (tC (.int 0)) (zab (tOp (rI0 fun i j=>.int (i - j)) (zac 1) (tC (.int 1))) zam)))) (zej (tOp rNe (zac 2) (zac 3)) (za8 zcl [] E0 (zab (zac 4) (zab (tC (.int 1)) (zab (tC (.int 1000000)) zam)))))))))
theorem zbJ (K:PySem.W.Frag) (D:zbY) (σ:St) (H:Hp):zex K D σ H=(zaK (zbm (zac 0) (zd4 K 3 (zau (zag 2) (zau (zag 3) (zau (zag 4) zdW)))))
 (zdC (zej (za8 zcl [] E0 (zab (zac 2) (zab (tC (.int 0)) (zab (tOp (rI0 fun i j=>.int (i - j)) (zac 1) (tC (.int 1))) zam)))) (zej (za8 zcl [] E0 (zab (zac 3) (zab (tC (.int 0)) (zab (tOp (rI0 fun i j=>.int (i - j)) (zac 1) (tC (.int 1))) zam)))) (zej (tOp rNe (zac 2) (zac 3)) (za8 zcl [] E0 (zab (zac 4) (zab (tC (.int 1)) (zab (tC (.int 1000000)) zam))))))))) D σ H:=rfl
def zeB (K:PySem.W.Frag):TS :=
 (zcv (tOr (zgx (tB (tCB (zgY K) (zab (zac 0) (zab (tC (.ty "tuple")) zam))))) (za2 (tOp rNe (tCB (fun xs H Q=>∃ p ys,xs=[.ref p]∧(SqL K H p ys∨SqT K H p ys)∧Q (.int ys.length) H) (zab (zac 0) zam)) (tC (.int 3))))) (zdC (tC (.bl false))) zbp)
theorem zbI (K:PySem.W.Frag) (D:zbY) (σ:St) (H:Hp):zeB K D σ H=(zcv (tOr (zgx (tB (tCB (zgY K) (zab (zac 0) (zab (tC (.ty "tuple")) zam))))) (za2 (tOp rNe (tCB (fun xs H Q=>∃ p ys,xs=[.ref p]∧(SqL K H p ys∨SqT K H p ys)∧Q (.int ys.length) H) (zab (zac 0) zam)) (tC (.int 3))))) (zdC (tC (.bl false))) zbp) D σ H:=rfl
def zez (K:PySem.W.Frag):TS :=
 (zaK (zlt (zeB K))
 (zex K))
theorem zie {t:Addr} {r:zbb} {m:Int} (ht:H t=some (.tup (rdv r))) (q:Q (.bl (decide (GR m r))) H):zez K { nx:=fun _ H'=>Q .non H',rt:=Q } (L2.zbE ["thing","many","a","b","length"] [.ref t,.int m]) H:=by
 unfold zez
 simp_all only [zbJ,zbI,zac]
 refine ⟨fun σ H'=>H'=H∧σ=[some (.ref t),some (.int m),none,none,none],?_,?_⟩
 ·simp_all only [zbJ,zbI,zac]
  refine zeJ ht ⟨true,rfl,?_⟩
  refine zci (fun z=>absurd z (by decide)) (fun _=>?_)
  refine ⟨_,.inr (SqT.of ht),?_⟩
  exact zci (fun z=>absurd rfl z) (fun _=>rfl)
 ·rintro σ H' ⟨e,rfl⟩
  rw [e]
  simp_all only [zbJ,zbI,zac]
  refine ⟨_,SqT.of ht,rfl,_,_,rfl,_,_,rfl,_,_,rfl,rfl,?_⟩
  refine ⟨_,_,_,rfl,_,rfl,zci (fun c1=>?_) (fun c1=>?_)⟩
  ·have c1:=of_decide_eq_true c1
   refine ⟨_,_,_,rfl,_,rfl,zci (fun c2=>?_) (fun c2=>?_)⟩
   ·have c2:=of_decide_eq_true c2
    simp_all only [zbJ,zbI,zac]
    refine zci (fun c3=>?_) (fun c3=>?_)
    ·refine ⟨_,_,_,rfl,?_⟩
     rw [show decide (GR m r)=decide (1≤r.2.2∧r.2.2≤1000000) from decide_eq_decide.mpr ⟨fun z=>z.2.2.2.2.2,fun z=>⟨by omega,by omega,by omega,by omega,c3,z⟩⟩] at q
     exact q
    ·rw [decide_eq_false (p:=GR m r) fun z=>c3 z.2.2.2.2.1] at q
     exact q
   ·rw [decide_eq_false (p:=GR m r) fun z=>c2 (decide_eq_true ⟨z.2.2.1,by have:=z.2.2.2.1;omega⟩)] at q
    exact q
  ·rw [decide_eq_false (p:=GR m r) fun z=>c1 (decide_eq_true ⟨z.1,by have:=z.2.1;omega⟩)] at q
   exact q
theorem zcS:zaW ["thing","many","a","b","length"] ["thing","many"] (zas zee):=⟨rfl,rfl,rfl,by decide +kernel,rfl,by decide +kernel,by decide +kernel⟩
theorem zhS (T:Txt K mg a):zd2 P w K mg base CX0 3 a.f_is_road a.d_is_road ["thing","many"] zfp:=by
 have G_is_within:=zga (P:=P) (w:=w) (base:=base) T
 refine T.F_is_road.ok zcS (fun vs H Q E h=>?_) (fun cdv A outer s H vs Q E hr h=>?_)
 ·obtain ⟨t,r,m,rfl,ht,q⟩:=h
  rfl
 obtain ⟨t,r,m,rfl,ht,q⟩:=h
 exact ⟨zez K,(zae (ze0 (zcr (PW.pt (zeR (zeC (zem (zat zbC rfl T.z_isinstance PyProof.Rows.boot_isinstance (zaa (pv 0) (zaa (zdI rfl T.z_tuple zcV rfl) zaf))))) (zeW (zaS zkA (zat zaQ rfl T.z_len PySem.boot_len (zaa (pv 0) zaf)) zak (zbq _))))) (zai (zbx zgU)) zbe))
 (zae (zhd (pv 0) (zce rfl (zao (zan (i:=2) zcS.nd rfl (Or.inl rfl)) (zao (zan (i:=3) zcS.nd rfl (Or.inl rfl)) (zao (zan (i:=4) zcS.nd rfl (Or.inl rfl)) zbF)))))
 (zai (zbx (zeY (zaT G_is_within (hr.mono (by decide)) rfl T.m_is_within T.F_is_within.kp T.b_is_within .nil zb7 (zaa (pv 2) (zaa zak (zaa (zav zly (pv 1) zak) zaf)))) (zeY (zaT G_is_within (hr.mono (by decide)) rfl T.m_is_within T.F_is_within.kp T.b_is_within .nil zb7 (zaa (pv 3) (zaa zak (zaa (zav zly (pv 1) zak) zaf)))) (zeY (zel zkA (pv 2) (pv 3) (zbq _)) (zhv (zaT G_is_within (hr.mono (by decide)) rfl T.m_is_within T.F_is_within.kp T.b_is_within .nil zb7 (zaa (pv 4) (zaa zak (zaa (zdH rfl T.m_MOST_LENGTH ⟨_,rfl⟩) zaf)))))))))))),
  zie ht q⟩
theorem zdm {α:Type} [DecidableEq α]:∀ (a b:List α),a.Nodup→(∀ x∈a,x∈b)→a.length≤b.length
 | [],b,_,_=>Nat.zero_le _
 | x::a,b,nd,h=>by
  obtain ⟨n1,n2⟩:=List.nodup_cons.mp nd
  have hx:=h x (by simp)
  have ih:=zdm a (b.erase x) n2 fun y hy=>(List.mem_erase_of_ne fun (e:y=x)=>n1 (e ▸ hy)).mpr (h y (by simp [hy]))
  rw [List.length_erase_of_mem hx] at ih
  have:=List.length_pos_of_mem hx
  rw [List.length_cons]
  omega
def Dm (kvs:List (Key×V)) (x:Int):Prop:=zbM kvs (.inl x)≠none
def zbO {κ:Type} (kvs:List (κ×V)):List κ:=kvs.map (·.1)
theorem zg2 {κ:Type} [DecidableEq κ] (kvs:List (κ×V)) (k:κ):zbM kvs k≠none↔k∈zbO kvs:=by
 induction kvs with
 | nil=>simp [zbM,zbO]
 | cons p r ih =>
  by_cases e:p.1=k
  ·rw [zaY e]
   simp [zbO,e]
  ·rw [zaR e,ih]
   unfold zbO
   rw [List.map_cons,List.mem_cons]
   exact ⟨.inr,fun h=>h.resolve_left fun z=>e z.symm⟩
theorem zfH {κ:Type} [DecidableEq κ] (kvs:List (κ×V)) (k:κ) (v:V):zbO (zcT kvs k v)=if zbM kvs k=none then zbO kvs++[k] else zbO kvs:=by
 by_cases c:zbM kvs k=none
 ·rw [if_pos c,zkT v c]
  simp [zbO]
 ·rw [if_neg c]
  unfold zcT
  rw [zck,if_pos (Option.isSome_iff_ne_none.mpr c)]
  unfold zbO
  rw [List.map_map]
  refine List.map_congr_left fun p _=>?_
  simp only [Function.comp]
  split <;> rfl
theorem zcP {κ:Type} (kvs:List (κ×V)):(zbO kvs).length=kvs.length:=List.length_map ..
theorem ziQ {κ:Type} [DecidableEq κ] (kvs:List (κ×V)) (k:κ) (v:V):(zcT kvs k v).length=if zbM kvs k=none then kvs.length+1 else kvs.length:=by
 rw [← zcP,zfH]
 split
 ·rw [List.length_append,zcP]
  rfl
 ·rw [zcP]
theorem zgg (kvs:List (Key×V)) (y x:Int) (v:V):Dm (zcT kvs (.inl y) v) x↔x=y∨Dm kvs x:=by
 unfold Dm
 rw [zfl]
 by_cases e:x=y
 ·subst e
  simp
 ·rw [if_neg fun z=>e (Sum.inl.inj z)]
  exact ⟨.inr,fun h=>h.resolve_left e⟩
def Clo (rs:List zbb) (S:Int→Prop):Prop:=∀ r∈rs,S r.1∨S r.2.1→S r.1∧S r.2.1
structure Cm (m:Int) (rs:List zbb) (kvs:List (Key×V)):Prop where
 nd:(zbO kvs).Nodup
 inR:∀ k∈zbO kvs,∃ x:Int,k=.inl x∧0≤x∧x<m
 zero:Dm kvs 0
 least:∀ S:Int→Prop,S 0→Clo rs S→∀ x,Dm kvs x→S x
theorem Cm.put {m:Int} {rs:List zbb} {kvs:List (Key×V)} (h:Cm m rs kvs) {y:Int} (v:V) (y0:0≤y) (y1:y<m) (hy:∀ S:Int→Prop,S 0→Clo rs S→S y):Cm m rs (zcT kvs (.inl y) v):=by
 refine ⟨?_,?_,(zgg ..).mpr (.inr h.zero),fun S s0 sc x hx=>?_⟩
 ·rw [zfH]
  split
  ·rename_i c
   refine List.nodup_append.mpr ⟨h.nd,by simp,fun a ha b hb e=>?_⟩
   have:b=.inl y:=by simpa using hb
   subst this
   subst e
   exact (zg2 ..).mpr ha c
  ·exact h.nd
 ·rw [zfH]
  split
  ·intro k hk
   rcases List.mem_append.mp hk with z | z
   ·exact h.inR k z
   ·exact ⟨y,by simpa using z,y0,y1⟩
  ·exact h.inR
 ·rcases (zgg ..).mp hx with rfl | z
  ·exact hy S s0 sc
  ·exact h.least S s0 sc x z
theorem Cm.le {m:Int} {rs:List zbb} {kvs:List (Key×V)} (h:Cm m rs kvs) (m0:0≤m):(kvs.length:Int)≤m:=by
 have:=zdm (zbO kvs) ((List.range m.toNat).map fun k:Nat=>(Sum.inl (k:Int):Key)) h.nd fun k hk=>by
  obtain ⟨x,rfl,x0,x1⟩:=h.inR k hk
  exact List.mem_map.mpr ⟨x.toNat,List.mem_range.mpr (by omega),by rw [Int.toNat_of_nonneg x0]⟩
 rw [zcP,List.length_map,List.length_range] at this
 omega
theorem Cm.all {m:Int} {rs:List zbb} {kvs:List (Key×V)} (h:Cm m rs kvs) (m0:0≤m):m≤(kvs.length:Int)↔∀ x,0≤x→x<m→Dm kvs x:=by
 constructor
 ·intro hl x x0 x1
  refine Classical.byContradiction fun c=>?_
  have hx:(Sum.inl x:Key)∉zbO kvs:=fun z=>c ((zg2 ..).mpr z)
  have:=zdm (Sum.inl x::zbO kvs) ((List.range m.toNat).map fun k:Nat=>(Sum.inl (k:Int):Key)) (List.nodup_cons.mpr ⟨hx,h.nd⟩) fun k hk=>by
   have:∃ y:Int,k=.inl y∧0≤y∧y<m:=by
    rcases List.mem_cons.mp hk with z | z
    ·exact ⟨x,z,x0,x1⟩
    ·exact h.inR k z
   obtain ⟨y,rfl,y0,y1⟩:=this
   exact List.mem_map.mpr ⟨y.toNat,List.mem_range.mpr (by omega),by rw [Int.toNat_of_nonneg y0]⟩
  rw [List.length_cons,zcP,List.length_map,List.length_range] at this
  omega
 ·intro hx
  have:=zdm ((List.range m.toNat).map fun k:Nat=>(Sum.inl (k:Int):Key)) (zbO kvs) ?_ fun k hk=>?_
  ·rw [zcP,List.length_map,List.length_range] at this
   omega
  ·refine List.nodup_iff_pairwise_ne.mpr (List.pairwise_map.mpr ((List.nodup_iff_pairwise_ne.mp List.nodup_range).imp fun h e=>h ?_))
   have:=Sum.inl.inj e
   omega
  ·obtain ⟨x,hx1,rfl⟩:=List.mem_map.mp hk
   have:=List.mem_range.mp hx1
   exact (zg2 ..).mp (hx x (by omega) (by omega))
theorem Cm.conn {m:Int} {rs:List zbb} {kvs:List (Key×V)} (h:Cm m rs kvs) (m0:0≤m) (c:Clo rs (Dm kvs)):m≤(kvs.length:Int)↔zm8 m rs:=by
 rw [h.all m0]
 exact ⟨fun z S s0 sc x x0 x1=>h.least S s0 sc x (z x x0 x1),fun z x x0 x1=>z (Dm kvs) h.zero c x x0 x1⟩
def zbv:TS :=
 (zcv (tOr (tB (zmT (zac 3) (zac 1))) (tB (zmT (zac 4) (zac 1)))) (zaK (zd5 (zac 1) (zac 3) (tC (.bl true)))
 (zd5 (zac 1) (zac 4) (tC (.bl true)))) zbp)
theorem zbd (D:zbY) (σ:St) (H:Hp):zbv D σ H=(zcv (tOr (tB (zmT (zac 3) (zac 1))) (tB (zmT (zac 4) (zac 1)))) (zaK (zd5 (zac 1) (zac 3) (tC (.bl true)))
 (zd5 (zac 1) (zac 4) (tC (.bl true)))) zbp) D σ H:=rfl
def zb4 (K:PySem.W.Frag):TS :=
 (zaK (zbm (tCB zh1 (zab (zac 1) zam)) (zag 2))
 (zdB (zcd K (zac 0)) (zd4 K 3 (zau (zag 3) (zau (zag 4) (zau (zag 5) zdW))))
 (zbv)))
theorem zbf (K:PySem.W.Frag) (D:zbY) (σ:St) (H:Hp):zb4 K D σ H=(zaK (zbm (tCB zh1 (zab (zac 1) zam)) (zag 2))
 (zdB (zcd K (zac 0)) (zd4 K 3 (zau (zag 3) (zau (zag 4) (zau (zag 5) zdW))))
 (zbv))) D σ H:=rfl
def zbQ (K:PySem.W.Frag):TS :=
 (zaK (zbm (zlU (((tC (.int 0)),(tC (.bl true)))::[])) (zag 1))
 (zaK (zbm (tC (.int 0)) (zag 2))
 (zaK (ze9 (za2 (tOp (rI0 fun i j=>.bl (decide (i<j))) (zac 2) (tCB zh1 (zab (zac 1) zam)))) (zb4 K))
 (zdC (zac 1)))))
theorem zdN {rl:Addr} {ts:List Addr} {rs:List zbb} {m:Int} (hl:H rl=some (.lst (ts.map V.ref))) (ht:Tps rdv H ts rs) (m1:1≤m) (m60:m≤60) (gr:∀ r∈rs,GR m r)
  (q:∀ (d:Addr) (kvs:List (Key×V)) (H':Hp),zba H H'→H' d=some (.dK kvs)→(m≤(kvs.length:Int)↔zm8 m rs)→Q (.ref d) H') :
  zbQ K { nx:=fun _ H'=>Q .non H',rt:=Q } (L2.zbE ["roads","come","before","a","b","length"] [.ref rl]) H:=by
 unfold zbQ
 simp_all only [zbd,zbf,zac]
 refine fun d hd=>⟨zad,[(.inl 0,.bl true)],rfl,by decide,?_⟩
 refine zgL (m:=100) (fun n σ H'=>∃ (kvs:List (Key×V)) (bf:Int) (x y z:Option V),σ=[some (.ref rl),some (.ref d),some (.int bf),x,y,z]∧zba H H'∧H' d=some (.dK kvs)∧Cm m rs kvs∧0≤bf∧bf≤(kvs.length:Int)∧(bf=(kvs.length:Int)→Clo rs (Dm kvs))∧n=(100 - bf).toNat) ?_ ?_
 ·refine ⟨[(.inl 0,.bl true)],0,_,_,_,rfl,?_,zad,⟨by decide,?_,(fun z=>nomatch z),fun S s0 _ x hx=>?_⟩,by decide,by decide,(fun z=>absurd z (by decide)),by decide⟩
  ·rw [zgz]
   exact zah hd _
  ·intro k hk
   have:k=.inl 0:=by simpa [zbO] using hk
   exact ⟨0,this,by decide,by omega⟩
  ·have:x=0:=by
    refine Classical.byContradiction fun c=>hx ?_
    exact zaR (p:=(Sum.inl 0,V.bl true)) fun z=>c (Sum.inl.inj z).symm
   subst this
   exact s0
 ·rintro n σ H1 ⟨kvs,bf,x,y,z,rfl,s1,h1,C,b0,b1,bc,rfl⟩
  simp_all only [zbd,zbf,zac]
  refine ⟨_,h1,?_⟩
  have hle:=C.le (by omega)
  refine zci (fun c=>?_) (fun c=>?_)
  ·refine ⟨_,fun _ _ h=>h,_,h1,?_⟩
   refine ⟨⟨_,SqL.of (s1 _ _ hl)⟩,?_⟩
   refine zbw (K:=K) (xs:=ts.map V.ref) (fun i σ H'=>∃ (kv:List (Key×V)) (x y z:Option V),σ=[some (.ref rl),some (.ref d),some (.int kvs.length),x,y,z]∧zba H H'∧H' d=some (.dK kv)∧Cm m rs kv∧kvs.length≤kv.length∧(kv.length=kvs.length→Clo (rs.take i) (Dm kv))) ⟨kvs,_,_,_,rfl,s1,h1,C,Nat.le_refl _,fun _ r hr=>by simp at hr⟩ ?_ ?_ ?_
   ·rintro i σ H' _ ⟨kv,x,y,z,rfl,s,_⟩
    exact SqL.of (s _ _ hl)
   ·rintro i t σ H2 hx ⟨kv,x,y,z,rfl,s2,h2,C2,l2,c2⟩
    obtain ⟨t,et,rfl⟩:=zcZ hx
    obtain ⟨r,er,hr0⟩:=ht.at et
    have hr2:=s2 _ _ hr0
    have gr':=gr r (zca er)
    have mr:=zca er
    have stepc:∀ {kv':List (Key×V)},(∀ x,Dm kv' x↔Dm kv x)→kv.length=kvs.length→(Dm kv r.1∨Dm kv r.2.1→Dm kv r.1∧Dm kv r.2.1)→Clo (rs.take (i+1)) (Dm kv'):=by
     intro kv' e el hr' r' hr1
     rw [List.take_add_one,er] at hr1
     rw [e,e]
     rcases List.mem_append.mp hr1 with w | w
     ·exact c2 el r' w
     ·have:r'=r:=by simpa using w
      subst this
      exact hr'
    simp_all only [zbd,zbf,zac]
    refine ⟨_,SqT.of hr2,rfl,_,_,rfl,_,_,rfl,_,_,rfl,rfl,?_⟩
    refine ⟨_,zih.k (k:=.inl r.1) h2,?_⟩
    have yes:Dm kv r.1∨Dm kv r.2.1→∀ (H3:Hp),H3=H2→∃ (H4:Hp),zh6 H3 d (.int r.1) (.bl true) H4∧∃ (H5:Hp),zh6 H4 d (.int r.2.1) (.bl true) H5∧zba H H5∧∃ (kv:List (Key×V)),H5 d=some (.dK kv)∧Cm m rs kv∧kvs.length≤kv.length∧(kv.length=kvs.length→Clo (rs.take (i+1)) (Dm kv)):=by
     rintro hor H3 rfl
     have hS:∀ S:Int→Prop,S 0→Clo rs S→S r.1∧S r.2.1:=fun S s0 sc=>sc r mr (hor.imp (C2.least S s0 sc _) (C2.least S s0 sc _))
     have C3:=C2.put (.bl true) gr'.1 gr'.2.1 fun S s0 sc=>(hS S s0 sc).1
     have C4:=C3.put (.bl true) gr'.2.2.1 gr'.2.2.2.1 fun S s0 sc=>(hS S s0 sc).2
     have le2:=C2.le (by omega)
     have le3:=C3.le (by omega)
     have big:(100:Nat)<sizeLine:=by decide
     have e3:=ziQ kv (.inl r.1) (.bl true)
     have e4:=ziQ (zcT kv (.inl r.1) (.bl true)) (.inl r.2.1) (.bl true)
     refine ⟨_,zh6.k (k:=.inl r.1) h2 (by omega),_,zh6.k (k:=.inl r.2.1) zad (by omega),?_,_,zad,C4,?_,fun el=>?_⟩
     ·exact (s2.put hd).put hd
     ·rw [e4,e3]
      split <;> split <;> omega
     ·have k3:zbM kv (.inl r.1)≠none:=fun z=>by
       rw [if_pos z] at e3
       rw [el] at e4
       split at e4 <;> omega
      rw [if_neg k3] at e3
      have k4:zbM (zcT kv (.inl r.1) (.bl true)) (.inl r.2.1)≠none:=fun z=>by
       rw [if_pos z,el] at e4
       omega
      have d4:Dm kv r.2.1:=by
       have:=(zgg kv r.1 r.2.1 (.bl true)).mp k4
       rcases this with z | z
       ·exact absurd z.symm gr'.2.2.2.2.1
       ·exact z
      refine stepc (fun x=>?_) ?_ fun _=>⟨k3,d4⟩
      ·rw [zgg,zgg]
       exact ⟨fun z=>z.elim (fun e=>by rw [e];exact d4) (fun z=>z.elim (fun e=>by rw [e];exact k3) id),fun z=>.inr (.inr z)⟩
      ·rw [if_neg k4,el] at e4
       omega
    refine zci (fun c3=>?_) (fun c3=>?_)
    ·exact yes (.inl (Option.isSome_iff_ne_none.mp c3)) H2 rfl
    refine ⟨_,zih.k (k:=.inl r.2.1) h2,?_⟩
    refine zci (fun c4=>?_) (fun c4=>?_)
    ·exact yes (.inr (Option.isSome_iff_ne_none.mp c4)) H2 rfl
    refine ⟨s2,kv,h2,C2,l2,fun el=>stepc (fun _=>Iff.rfl) el fun z=>?_⟩
    exact (z.elim (fun z=>c3 (Option.isSome_iff_ne_none.mpr z)) (fun z=>c4 (Option.isSome_iff_ne_none.mpr z))).elim
   ·rintro σ H2 ⟨kv,x,y,z,rfl,s2,h2,C2,l2,c2⟩
    have e:(rs.take (ts.map V.ref).length)=rs:=List.take_of_length_le (by rw [List.length_map,ht.1];exact Nat.le_refl _)
    rw [e] at c2
    refine ⟨_,?_,kv,_,_,_,_,rfl,s2,h2,C2,by omega,by omega,fun z=>c2 (by omega),rfl⟩
    omega
  ·refine q d kvs H1 s1 h1 (C.conn (by omega) (bc (by omega)))
theorem zaF:zaW ["roads","come","before","a","b","length"] ["roads"] (zas zbR):=⟨rfl,rfl,rfl,by decide +kernel,rfl,by decide +kernel,by decide +kernel⟩
theorem zdE (T:Txt K mg a):zd2 P w K mg base CX0 1 a.f_places_come_to a.d_places_come_to ["roads"] ziO:=by
 refine T.F_places_come_to.ok zaF (fun vs H Q E h=>?_) (fun cdv A outer s H vs Q E hr h=>?_)
 ·obtain ⟨rl,ts,rs,m,rfl,hl,ht,m1,m60,gr,q⟩:=h
  rfl
 obtain ⟨rl,ts,rs,m,rfl,hl,ht,m1,m60,gr,q⟩:=h
 exact ⟨zbQ K,(zae (zaD (i:=1) zaF.nd rfl (Or.inl rfl) (zlV (zj1 zak zgU zl8) rfl rfl (fun z=>nomatch z) (by decide)))
 (zae (zaD (i:=2) zaF.nd rfl (Or.inl rfl) zak)
 (zae (zfx PassesOwn.never (zaS zmx (pv 2) (zat zew rfl T.z_len PySem.boot_len (zaa (pv 1) zaf)) (zbq _)) (zae (zaD (i:=2) zaF.nd rfl (Or.inl rfl) (zat zew rfl T.z_len PySem.boot_len (zaa (pv 1) zaf)))
 (zai (zbU PassesOwn.never rfl (zb8 (pv 0)) (zce rfl (zao (zan (i:=3) zaF.nd rfl (Or.inl rfl)) (zao (zan (i:=4) zaF.nd rfl (Or.inl rfl)) (zao (zan (i:=5) zaF.nd rfl (Or.inl rfl)) zbF))))
 (zai (zcr (PW.pt (zeR (ziv (zlh (zfd hr) (pv 3) (pv 1))) (zeW (ziv (zlh (zfd hr) (pv 4) (pv 1)))))) (zae (zef (zfd hr) (pv 1) (pv 3) zgU rfl)
 (zai (zef (zfd hr) (pv 1) (pv 4) zgU rfl))) zbe))))))
 (zai (zbx (pv 1)))))),
  zdN hl ht m1 m60 gr q⟩
theorem zet {K:PySem.W.Frag} {H:Hp} {Q:VK} {r:Addr} {xs:List V} (h:H r=some (.lst xs)) (q:Q (.bl true) H):zgY K [.ref r,.ty "list"] H Q:=⟨_,_,_,_,true,rfl,rfl,.of (.lst h),rfl,q⟩
def zcD (K:PySem.W.Frag):TS :=
 (zcv (tOr (zgx (za2 (zeT (rI0 fun i j=>.bl (decide (i≤j))) (rI0 fun i j=>.bl (decide (i≤j))) (tC (.int 1)) (zac 1) (tC (.int 60))))) (tOr (za2 (tOp (rI0 fun i j=>.bl (decide (j<i))) (tCB (fun xs H Q=>∃ p ys,xs=[.ref p]∧(SqL K H p ys∨SqT K H p ys)∧Q (.int ys.length) H) (zab (zac 2) zam)) (tC (.int 120)))) (za2 (tOp (rI0 fun i j=>.bl (decide (i<j))) (tCB zh1 (zab (za8 ziO [] E0 (zab (zac 2) zam)) zam)) (zac 1))))) zdA zbp)
theorem zbc (K:PySem.W.Frag) (D:zbY) (σ:St) (H:Hp):zcD K D σ H=(zcv (tOr (zgx (za2 (zeT (rI0 fun i j=>.bl (decide (i≤j))) (rI0 fun i j=>.bl (decide (i≤j))) (tC (.int 1)) (zac 1) (tC (.int 60))))) (tOr (za2 (tOp (rI0 fun i j=>.bl (decide (j<i))) (tCB (fun xs H Q=>∃ p ys,xs=[.ref p]∧(SqL K H p ys∨SqT K H p ys)∧Q (.int ys.length) H) (zab (zac 2) zam)) (tC (.int 120)))) (za2 (tOp (rI0 fun i j=>.bl (decide (i<j))) (tCB zh1 (zab (za8 ziO [] E0 (zab (zac 2) zam)) zam)) (zac 1))))) zdA zbp) D σ H:=rfl
def zd1 (K:PySem.W.Frag):TS :=
 (zaK (zbm (zac 0) (zd4 K 2 (zau (zag 1) (zau (zag 2) zdW))))
 (zaK (zdB (zkn K (zab (zac 2) zam)) (zd4 K 2 (zau (zag 3) (zau (zag 4) zdW)))
 (zcv (zgx (tB (za8 zfp [] E0 (zab (zac 4) (zab (zac 1) zam))))) zdA zbp))
 (zcD K)))
theorem zbj (K:PySem.W.Frag) (D:zbY) (σ:St) (H:Hp):zd1 K D σ H=(zaK (zbm (zac 0) (zd4 K 2 (zau (zag 1) (zau (zag 2) zdW))))
 (zaK (zdB (zkn K (zab (zac 2) zam)) (zd4 K 2 (zau (zag 3) (zau (zag 4) zdW)))
 (zcv (zgx (tB (za8 zfp [] E0 (zab (zac 4) (zab (zac 1) zam))))) zdA zbp))
 (zcD K))) D σ H:=rfl
def zd3 (K:PySem.W.Frag):TS :=
 (zcv (tOr (zgx (tB (tCB (zgY K) (zab (zac 0) (zab (tC (.ty "tuple")) zam))))) (tOr (za2 (tOp rNe (tCB (fun xs H Q=>∃ p ys,xs=[.ref p]∧(SqL K H p ys∨SqT K H p ys)∧Q (.int ys.length) H) (zab (zac 0) zam)) (tC (.int 2)))) (tOr (zgx (tB (za8 zff [] E0 (zab (tOp (ze1 K) (zac 0) (tC (.int 0))) zam)))) (zgx (tB (tCB (zgY K) (zab (tOp (ze1 K) (zac 0) (tC (.int 1))) (zab (tC (.ty "list")) zam)))))))) zdA zbp)
theorem zbk (K:PySem.W.Frag) (D:zbY) (σ:St) (H:Hp):zd3 K D σ H=(zcv (tOr (zgx (tB (tCB (zgY K) (zab (zac 0) (zab (tC (.ty "tuple")) zam))))) (tOr (za2 (tOp rNe (tCB (fun xs H Q=>∃ p ys,xs=[.ref p]∧(SqL K H p ys∨SqT K H p ys)∧Q (.int ys.length) H) (zab (zac 0) zam)) (tC (.int 2)))) (tOr (zgx (tB (za8 zff [] E0 (zab (tOp (ze1 K) (zac 0) (tC (.int 0))) zam)))) (zgx (tB (tCB (zgY K) (zab (tOp (ze1 K) (zac 0) (tC (.int 1))) (zab (tC (.ty "list")) zam)))))))) zdA zbp) D σ H:=rfl
def zdT (K:PySem.W.Frag):TS :=
 (zaK (zlt (zd3 K))
 (zd1 K))
theorem zgI {w rl:Addr} {ts:List Addr} {m:Int} {rs:List zbb} (W:zeU H w rl ts m rs) (G:GW m rs) (q:∀ H',zba H H'→Q .non H') :
  zdT K { nx:=fun _ H'=>Q .non H',rt:=Q } (L2.zbE ["web","many","roads","k","road"] [.ref w]) H:=by
 unfold zdT
 have m1:=G.m1
 have m60:=G.m60
 have l120:=G.l120
 simp_all only [zbc,zbj,zbk,zac]
 refine ⟨fun σ H'=>H'=H∧σ=[some (.ref w),none,none,none,none],?_,?_⟩
 ·simp_all only [zbc,zbj,zbk,zac]
  refine zeJ W.hw ⟨true,rfl,?_⟩
  refine zci (fun z=>absurd z (by decide)) (fun _=>?_)
  refine ⟨_,.inr (SqT.of W.hw),?_⟩
  refine zci (fun z=>absurd rfl z) (fun _=>?_)
  refine ⟨_,SqT.of W.hw,_,rfl,m,rfl,true,rfl,?_⟩
  refine zci (fun z=>absurd z (by decide)) (fun _=>?_)
  refine ⟨_,SqT.of W.hw,_,rfl,zet W.hl ⟨true,rfl,?_⟩⟩
  exact zci (fun z=>absurd z (by decide)) (fun _=>rfl)
 ·rintro σ H' ⟨e,rfl⟩
  rw [e]
  simp_all only [zbc,zbj,zbk,zac]
  refine ⟨_,SqT.of W.hw,rfl,_,_,rfl,_,_,rfl,rfl,?_⟩
  refine ⟨_,rfl,⟨_,SqL.of W.hl⟩,?_⟩
  refine zjE (K:=K) (xs:=ts.map V.ref) (fun i σ H'=>zba H H'∧∃ x y,σ=[some (.ref w),some (.int m),some (.ref rl),x,y]) ⟨.refl _,_,_,rfl⟩ ?_ ?_ ?_
  ·rintro i σ H' _ ⟨s,_⟩
   exact SqL.of (s _ _ W.hl)
  ·rintro i t u σ H1 hx ⟨s,x,y,rfl⟩ hu
   obtain ⟨t,et,rfl⟩:=zcZ hx
   obtain ⟨r,er,hr0⟩:=W.ht.at et
   simp_all only [zbc,zbj,zbk,zac]
   refine ⟨_,SqT.of zad,rfl,_,_,rfl,_,_,rfl,rfl,?_⟩
   have s2:=s.add hu (o:=.tup [.int (i:Int),.ref t])
   refine ⟨t,r,m,rfl,s2 _ _ hr0,?_⟩
   rw [decide_eq_true (G.gr r (zca er))]
   exact ⟨true,rfl,zci (fun z=>absurd z (by decide)) (fun _=>s2)⟩
  ·rintro σ H1 ⟨s,x,y,rfl⟩
   simp_all only [zbc,zbj,zbk,zac]
   refine zci (fun z=>?_) (fun z=>absurd (show (1:Int)≤m from m1) z)
   refine zci (fun z=>absurd (show m≤60 from m60) z) (fun z=>?_)
   refine ⟨_,.inl (SqL.of (s _ _ W.hl)),?_⟩
   rw [List.length_map,W.ht.1]
   refine zci (fun z=>absurd z (by omega)) (fun z=>?_)
   refine ⟨rl,ts,rs,m,rfl,s _ _ W.hl,W.ht.same s,m1,m60,G.gr,fun d kvs H2 s2 h2 hc=>?_⟩
   refine ⟨_,rfl,kvs,h2,?_⟩
   have:=hc.mpr G.conn
   exact zci (fun z=>absurd z (by omega)) (fun z=>q _ (s.trans s2))
theorem zbX:zaW ["web","many","roads","k","road"] ["web"] (zas zdM):=⟨rfl,rfl,rfl,by decide +kernel,rfl,by decide +kernel,by decide +kernel⟩
theorem zgC (T:Txt K mg a):zd2 P w K mg base CX0 4 a.f_look_web a.d_look_web ["web"] zfP:=by
 have G_is_road:=zhS (P:=P) (w:=w) (base:=base) T
 have G_is_whole:=zeE (P:=P) (w:=w) (base:=base) T
 have G_places_come_to:=zdE (P:=P) (w:=w) (base:=base) T
 refine T.F_look_web.ok zbX (fun vs H Q E h=>?_) (fun cdv A outer s H vs Q E hr h=>?_)
 ·obtain ⟨w',rl,ts,m,rs,rfl,W,G,q⟩:=h
  rfl
 obtain ⟨w',rl,ts,m,rs,rfl,W,G,q⟩:=h
 exact ⟨zdT K,(zae (ze0 (zcr (PW.pt (zeR (zeC (zem (zat zbC rfl T.z_isinstance PyProof.Rows.boot_isinstance (zaa (pv 0) (zaa (zdI rfl T.z_tuple zcV rfl) zaf))))) (zeR (zaS zkA (zat zaQ rfl T.z_len PySem.boot_len (zaa (pv 0) zaf)) zak (zbq _)) (zeR (zeC (zem (zaT G_is_whole (hr.mono (by decide)) rfl T.m_is_whole T.F_is_whole.kp T.b_is_whole .nil zb7 (zaa (zbG zc4 (pv 0) zak (fun _ _=>rfl)) zaf)))) (zeW (zeC (zem (zat zbC rfl T.z_isinstance PyProof.Rows.boot_isinstance (zaa (zbG zc4 (pv 0) zak (fun _ _=>rfl)) (zaa (zdI rfl T.z_list zdz rfl) zaf)))))))))) (zai zdq) zbe))
 (zae (zhd (pv 0) (zce rfl (zao (zan (i:=1) zbX.nd rfl (Or.inl rfl)) (zao (zan (i:=2) zbX.nd rfl (Or.inl rfl)) zbF))))
 (zae (zbU PassesOwn.never rfl (zlK rfl T.z_enumerate (zaa (pv 2) zaf)) (zce rfl (zao (zan (i:=3) zbX.nd rfl (Or.inl rfl)) (zao (zan (i:=4) zbX.nd rfl (Or.inl rfl)) zbF)))
 (zai (zcr (zeC (zem (zaT G_is_road (hr.mono (by decide)) rfl T.m_is_road T.F_is_road.kp T.b_is_road .nil zb7 (zaa (pv 4) (zaa (pv 1) zaf))))) (zai zdq) zbe)))
 (zai (zcr (PW.pt (zeR (zeC (zkO zkG zkG zak (pv 1) (zdH rfl T.m_MOST_PLACES ⟨_,rfl⟩))) (zeR (zaS zlO (zat zaQ rfl T.z_len PySem.boot_len (zaa (pv 2) zaf)) (zdH rfl T.m_MOST_ROADS ⟨_,rfl⟩) (zbq _)) (zeW (zaS zmx (zat zew rfl T.z_len PySem.boot_len (zaa (zaT G_places_come_to (hr.mono (by decide)) rfl T.m_places_come_to T.F_places_come_to.kp T.b_places_come_to .nil zb7 (zaa (pv 2) zaf)) zaf)) (pv 1) (zbq _)))))) (zai zdq) zbe))))),
  zgI W G q⟩
theorem zkh {o:Option Int} {l:Int}:(o.map V.int).getD (.int l)=.int (o.getD l):=by cases o <;> rfl
theorem keyI {x y a b:Int}:(([.inl x,.inl y]:List Key)=[.inl a,.inl b])↔x=a∧y=b:=by
 simp only [List.cons.injEq,Sum.inl.injEq,and_true]
theorem putE (E:List Edg) (hE:E.Pairwise fun e f=>¬ (e.1=f.1∧e.2.1=f.2.1)) (x y v:Int):∃ E':List Edg,zcT (E.map zfs) [.inl x,.inl y] (.int v)=E'.map zfs∧E'.Pairwise fun e f=>¬ (e.1=f.1∧e.2.1=f.2.1):=by
 unfold zcT
 split
 ·refine ⟨E.map fun e=>if e.1=x∧e.2.1=y then (e.1,e.2.1,v) else e,?_,?_⟩
  ·rw [List.map_map,List.map_map]
   refine List.map_congr_left fun e _=>?_
   show (if ([.inl e.1,.inl e.2.1]:List Key)=[.inl x,.inl y] then _ else _)=zfs (if e.1=x∧e.2.1=y then (e.1,e.2.1,v) else e)
   by_cases c:e.1=x∧e.2.1=y
   ·rw [if_pos c,if_pos (keyI.mpr c)]
   ·rw [if_neg c,if_neg (fun z=>c (keyI.mp z))]
  ·rw [List.pairwise_map]
   refine hE.imp fun {e f} h=>?_
   have z:∀ g:Edg,(if g.1=x∧g.2.1=y then (g.1,g.2.1,v) else g).1=g.1∧(if g.1=x∧g.2.1=y then (g.1,g.2.1,v) else g).2.1=g.2.1:=fun g=>by split <;> exact ⟨rfl,rfl⟩
   rw [(z e).1,(z e).2,(z f).1,(z f).2]
   exact h
 ·rename_i no
  refine ⟨E++[(x,y,v)],by rw [List.map_append];rfl,List.pairwise_append.mpr ⟨hE,List.pairwise_singleton _ _,fun e he f hf=>?_⟩⟩
  rw [List.mem_singleton.mp hf]
  refine fun z=>no (List.any_eq_true.mpr ⟨zfs e,List.mem_map.mpr ⟨e,he,rfl⟩,decide_eq_true (keyI.mpr z)⟩)
theorem zmk.put {kvs:List (List Key×V)} {rs rs':List zbb} {r:zbb} (h:zmk kvs rs) (e:sh rs'=shs (sh rs) r) (el:rs'.length=rs.length+1):zmk (zcT (zcT kvs [.inl r.1,.inl r.2.1] (.int (min ((sh rs r.1 r.2.1).getD r.2.2) r.2.2))) [.inl r.2.1,.inl r.1] (.int (min ((sh rs r.1 r.2.1).getD r.2.2) r.2.2))) rs':=by
 have z:∀ x y a b:Int,(([.inl x,.inl y]:List Key)=[.inl a,.inl b])↔x=a∧y=b:=fun x y a b=>by
  constructor
  ·intro h
   simp only [List.cons.injEq,Sum.inl.injEq,and_true] at h
   exact h
  ·rintro ⟨rfl,rfl⟩
   rfl
 refine ⟨fun x y=>?_,?_,?_⟩
 ·rw [zfl,zfl,h.val,e]
  unfold shs
  simp only [z]
  split
  ·rfl
  ·split
   ·rfl
   ·rfl
 ·have h1:=zbB kvs [.inl r.1,.inl r.2.1] (.int (min ((sh rs r.1 r.2.1).getD r.2.2) r.2.2))
  have h2:=zbB (zcT kvs [.inl r.1,.inl r.2.1] (.int (min ((sh rs r.1 r.2.1).getD r.2.2) r.2.2))) [.inl r.2.1,.inl r.1] (.int (min ((sh rs r.1 r.2.1).getD r.2.2) r.2.2))
  have:=h.len
  omega
 ·obtain ⟨E,rfl,hE⟩:=h.ent
  obtain ⟨E1,e1,h1⟩:=putE E hE r.1 r.2.1 (min ((sh rs r.1 r.2.1).getD r.2.2) r.2.2)
  obtain ⟨E2,e2,h2⟩:=putE E1 h1 r.2.1 r.1 (min ((sh rs r.1 r.2.1).getD r.2.2) r.2.2)
  exact ⟨E2,by rw [e1,e2],h2⟩
def zb3:TS :=
 (zaK (zbm (tCB (fun xs H Q=>∃ i j,xs=[.int i,.int j]∧Q (.int (if j<i then j else i)) H) (zab (zac 4) (zab (ze4 (zac 1) (zcj (zab (zac 2) (zab (zac 3) zam))) (zac 4)) zam))) (zag 5))
 (zaK (zd5 (zac 1) (zcj (zab (zac 2) (zab (zac 3) zam))) (zac 5))
 (zd5 (zac 1) (zcj (zab (zac 3) (zab (zac 2) zam))) (zac 5))))
theorem zbh (D:zbY) (σ:St) (H:Hp):zb3 D σ H=(zaK (zbm (tCB (fun xs H Q=>∃ i j,xs=[.int i,.int j]∧Q (.int (if j<i then j else i)) H) (zab (zac 4) (zab (ze4 (zac 1) (zcj (zab (zac 2) (zab (zac 3) zam))) (zac 4)) zam))) (zag 5))
 (zaK (zd5 (zac 1) (zcj (zab (zac 2) (zab (zac 3) zam))) (zac 5))
 (zd5 (zac 1) (zcj (zab (zac 3) (zab (zac 2) zam))) (zac 5)))) D σ H:=rfl
def zbT (K:PySem.W.Frag):TS :=
 (zaK (zbm ziB (zag 1))
 (zaK (zdB (zcd K (tOp (ze1 K) (zac 0) (tC (.int 1)))) (zd4 K 3 (zau (zag 2) (zau (zag 3) (zau (zag 4) zdW))))
 (zb3))
 (zdC (zac 1))))
theorem zdR {w rl:Addr} {ts:List Addr} {m:Int} {rs:List zbb} (W:zeU H w rl ts m rs) (l120:rs.length≤120)
  (q:∀ (d:Addr) (kvs:List (List Key×V)) (H':Hp),zba H H'→H' d=some (.dT kvs)→zmk kvs rs→H d=none→Q (.ref d) H') :
  zbT K { nx:=fun _ H'=>Q .non H',rt:=Q } (L2.zbE ["web","lengths","a","b","length","least"] [.ref w]) H:=by
 unfold zbT
 simp_all only [zbh,zac]
 intro d hd
 have s0:=zah hd (.dT [])
 refine ⟨_,SqT.of (s0 _ _ W.hw),_,rfl,_,rfl,⟨_,SqL.of (s0 _ _ W.hl)⟩,?_⟩
 refine zbw (K:=K) (xs:=ts.map V.ref) (fun i σ H'=>zba H H'∧∃ (kvs:List (List Key×V)),H' d=some (.dT kvs)∧zmk kvs (rs.take i)∧∃ x1 x2 x3 x4,σ=[some (.ref w),some (.ref d),x1,x2,x3,x4]) ⟨s0,[],zad,⟨fun _ _=>rfl,Nat.zero_le _,[],rfl,.nil⟩,_,_,_,_,rfl⟩ ?_ ?_ ?_
 ·rintro i σ H' _ ⟨s,_⟩
  exact SqL.of (s _ _ W.hl)
 ·rintro i t σ H1 hx ⟨s1,kvs,h1,hL,x1,x2,x3,x4,rfl⟩
  obtain ⟨t,et,rfl⟩:=zcZ hx
  obtain ⟨r,er,hr0⟩:=W.ht.at et
  have li:=(List.getElem?_eq_some_iff.mp er).1
  have hlen:=hL.len
  rw [List.length_take] at hlen
  have big:(1000:Nat)<sizeLine:=by decide
  simp_all only [zbh,zac]
  refine ⟨_,SqT.of (s1 _ _ hr0),rfl,_,_,rfl,_,_,rfl,_,_,rfl,rfl,?_⟩
  refine ⟨.inr ⟨kvs,.inl h1⟩,by decide,fun u hu=>?_⟩
  have s2:=zah hu (.tup [.int r.1,.int r.2.1])
  have hu2:(L2.upd H1 u (.tup [.int r.1,.int r.2.1])) u=some (.tup (([.inl r.1,.inl r.2.1]:List Key).map kV)):=zad
  generalize L2.upd H1 u (.tup [.int r.1,.int r.2.1])=H2 at s2 hu2 ⊢
  refine ⟨_,zih.t (s2 _ _ h1) hu2,_,rfl,(sh (rs.take i) r.1 r.2.1).getD r.2.2,by rw [hL.val,zkh],by decide,fun u2 hu2=>?_⟩
  have ev:(if (sh (rs.take i) r.1 r.2.1).getD r.2.2<r.2.2 then (sh (rs.take i) r.1 r.2.1).getD r.2.2 else r.2.2)=min ((sh (rs.take i) r.1 r.2.1).getD r.2.2) r.2.2:=by
   split <;> omega
  rw [ev]
  have LL:=hL.put (zlW er) (by rw [List.length_take,List.length_take];omega)
  generalize min ((sh (rs.take i) r.1 r.2.1).getD r.2.2) r.2.2=v at LL ⊢
  have s3:=s2.add hu2 (o:=.tup [.int r.1,.int r.2.1])
  have hu3:(L2.upd H2 u2 (.tup [.int r.1,.int r.2.1])) u2=some (.tup (([.inl r.1,.inl r.2.1]:List Key).map kV)):=zad
  generalize L2.upd H2 u2 (.tup [.int r.1,.int r.2.1])=H3 at s3 hu3 ⊢
  refine ⟨_,zh6.t (s3 _ _ h1) hu3 (by omega),by decide,fun u4 hu4=>?_⟩
  refine ⟨_,zh6.t (k:=[.inl r.2.1,.inl r.1]) (by rw [zaj (zap zad hu4)];exact zad) zad (by have:=zbB kvs [.inl r.1,.inl r.2.1] (.int v);omega),?_,_,zad,LL⟩
  exact (((s1.trans s3).put hd).add hu4).put hd
 ·rintro σ H1 ⟨s1,kvs,h1,hL,x1,x2,x3,x4,rfl⟩
  simp_all only [zbh,zac]
  rw [List.take_of_length_le (by rw [List.length_map,W.ht.1];exact Nat.le_refl _)] at hL
  exact q d kvs H1 s1 h1 hL hd
theorem zaL:zaW ["web","lengths","a","b","length","least"] ["web"] (zas zbS):=⟨rfl,rfl,rfl,by decide +kernel,rfl,by decide +kernel,by decide +kernel⟩
theorem zdF (T:Txt K mg a):zd2 P w K mg base CX0 1 a.f_shortest_roads a.d_shortest_roads ["web"] ziH:=by
 refine T.F_shortest_roads.ok zaL (fun vs H Q E h=>?_) (fun cdv A outer s H vs Q E hr h=>?_)
 ·obtain ⟨w',rl,ts,m,rs,rfl,W,l120,q⟩:=h
  rfl
 obtain ⟨w',rl,ts,m,rs,rfl,W,l120,q⟩:=h
 exact ⟨zbT K,(zae (zaD (i:=1) zaL.nd rfl (Or.inl rfl) zk5)
 (zae (zbU PassesOwn.never rfl (zb8 (zbG zc4 (pv 0) zak (fun _ _=>rfl))) (zce rfl (zao (zan (i:=2) zaL.nd rfl (Or.inl rfl)) (zao (zan (i:=3) zaL.nd rfl (Or.inl rfl)) (zao (zan (i:=4) zaL.nd rfl (Or.inl rfl)) zbF))))
 (zae (zaD (i:=5) zaL.nd rfl (Or.inl rfl) (zat (zen rfl) rfl T.z_min PyProof.Rows.boot_min (zaa (pv 4) (zaa (zhi (zfd hr) (pv 1) (zby (zaa (pv 2) (zaa (pv 3) zaf))) (pv 4) ⟨rfl,rfl,rfl,rfl⟩) zaf))))
 (zae (zef (zfd hr) (pv 1) (zby (zaa (pv 2) (zaa (pv 3) zaf))) (pv 5) rfl)
 (zai (zef (zfd hr) (pv 1) (zby (zaa (pv 3) (zaa (pv 2) zaf))) (pv 5) rfl)))))
 (zai (zbx (pv 1))))),
  zdR W l120 q⟩
theorem stSq {s:Std} {c:Addr} (h:StH K H s c):∃ b,SqT K H c [.ref b,.int s.2]∧SqT K H b (s.1.map V.int):=let ⟨b,h1,h2⟩:=h;⟨b,h1.sq,h2.sq⟩
theorem zec {x:Int} {l:List Int}:inV (.int x) (l.map V.int)=decide (x∈l):=by
 unfold inV
 rw [List.any_map,Bool.eq_iff_iff,List.any_eq_true,decide_eq_true_eq]
 constructor
 ·rintro ⟨y,hy,e⟩
  have:(y == x)=true:=e
  rw [← beq_iff_eq.mp this];exact hy
 ·intro hx
  exact ⟨x,hx,show (x == x)=true from beq_self_eq_true x⟩
theorem zdn {l:List Int}:(l.map V.int).all zft=true:=by rw [List.all_map];exact List.all_eq_true.mpr fun _ _=>rfl
def zeh (K:PySem.W.Frag):TS :=
 (zaK (zbm (zac 1) (zd4 K 2 (zau (zag 4) (zau (zag 5) zdW))))
 (zaK (zlt (zcv (za2 (tOp rEq (zac 0) (tC (.str "walk")))) (zdC (tOp rEq (zac 2) (zac 5))) zbp))
 (zdC (zej (tOp (rIn K false) (zac 2) (zac 4)) (tOp (rIn K true) (zac 3) (zac 4))))))
theorem zhQ {wk:Bool} {s:Std} {c:Addr} {x y:Int} (h:StH K H s c) (q:Q (.bl (zhx wk s x y)) H):zeh K { nx:=fun _ H'=>Q .non H',rt:=Q } (L2.zbE ["kind","standing","a","b","places","here"] [.str (kdW wk),.ref c,.int x,.int y]) H:=by
 obtain ⟨b,h1,h2⟩:=stSq h
 unfold zeh
 simp_all only [zac]
 refine ⟨_,h1,rfl,_,_,rfl,_,_,rfl,rfl,fun σ H'=>wk=false∧H'=H∧σ=[some (.str (kdW wk)),some (.ref c),some (.int x),some (.int y),some (.ref b),some (.int s.2)],?_,?_⟩
 ·simp_all only [zac]
  refine ⟨rfl,zci (fun e=>?_) fun e=>?_⟩
  ·have ew:wk=true:=by cases wk;exact absurd e (by decide);rfl
   subst ew
   have:zhx true s x y=decide (x=s.2):=by show (x == s.2)=_;rw [Bool.eq_iff_iff,beq_iff_eq,decide_eq_true_eq]
   rw [← this]
   exact q
  ·cases wk;rfl;exact absurd rfl e
 ·rintro σ H' ⟨e0,e,rfl⟩
  subst e0
  rw [e]
  simp_all only [zac]
  refine ⟨_,.inr h2,rfl,zdn,?_⟩
  rw [zec]
  have e2:zhx false s x y=(decide (x∈s.1)&&!decide (y∈s.1)):=rfl
  rw [e2] at q
  refine zci (fun c=>?_) fun c=>?_
  ·refine ⟨_,.inr h2,rfl,zdn,?_⟩
   rw [zec]
   rw [c,Bool.true_and] at q
   exact q
  ·rw [Bool.eq_false_iff.mpr c,Bool.false_and] at q
   exact q
theorem zdK:zaW ["kind","standing","a","b","places","here"] ["kind","standing","a","b"] (zas zey):=⟨rfl,rfl,rfl,by decide +kernel,rfl,by decide +kernel,by decide +kernel⟩
theorem zh7 (T:Txt K mg a):zd2 P w K mg base CX0 1 a.f_is_step a.d_is_step ["kind","standing","a","b"] (zfw K):=by
 refine T.F_is_step.ok zdK (fun vs H Q E h=>?_) (fun cdv A outer s H vs Q E hr h=>?_)
 ·obtain ⟨wk,s,c,x,y,rfl,h,q⟩:=h
  rfl
 obtain ⟨wk,s,c,x,y,rfl,h,q⟩:=h
 exact ⟨zeh K,(zae (zhd (pv 1) (zce rfl (zao (zan (i:=4) zdK.nd rfl (Or.inl rfl)) (zao (zan (i:=5) zdK.nd rfl (Or.inl rfl)) zbF))))
 (zae (ze0 (zcr (zaS zgD (pv 0) zev (zbq _)) (zai (zbx (zel zgD (pv 2) (pv 5) (zbq _)))) zbe))
 (zai (zbx (zeY (zel zjU (pv 2) (pv 4) (by with_unfolding_all rfl)) (zhv (zel zcB (pv 3) (pv 4) (by with_unfolding_all rfl)))))))),
  zhQ h q⟩
def zco (K:PySem.W.Frag):TS :=
 (zaK (zbm (tCB (fun xs H Q=>∃ p ys,xs=[.ref p]∧((SqL K H p ys∧∀ l,H l=none→Q (.ref l) (upd H l (.tup ys)))∨(SqT K H p ys∧Q (.ref p) H))) (zab (tCB (zcx K) (zab (tOp (zio K) (tOp (ze1 K) (zac 1) (tC (.int 0))) (zcj (zab (zac 2) zam))) zam)) zam)) (zag 3))
 (zdC (zcj (zab (zac 3) (zab (tIf (za2 (tOp rEq (zac 0) (tC (.str "walk")))) (zac 2) (tC (.int 0))) zam)))))
theorem zeN {wk:Bool} {s:Std} {c:Addr} {y:Int} (h:StH K H s c) (hr:s.1.Pairwise (·<·)) (hne:s.1≠[]) (hl:s.1.length<60) (q:∀ (r:Addr) (H':Hp),zba H H'→H r=none→StH K H' (bhd wk s y) r→Q (.ref r) H') :
  zco K { nx:=fun _ H'=>Q .non H',rt:=Q } (L2.zbE ["kind","standing","b","places"] [.str (kdW wk),.ref c,.int y]) H:=by
 obtain ⟨b,h1,h2⟩:=h
 unfold zco
 simp_all only [zac]
 have big:(1000:Nat)<sizeLine:=by decide
 refine ⟨_,h1.sq,_,rfl,by decide,fun p hp=>?_⟩
 have s1:=zah hp (.tup [.int y])
 have e1:(L2.upd H p (.tup [.int y])) p=some (.tup [.int y]):=zad
 generalize L2.upd H p (.tup [.int y])=H1 at s1 e1 ⊢
 refine ⟨_,rfl,_,s1.tup h2.sq,_,SqT.of e1,by simpa using hne,by rw [List.length_map];show s.1.length+1≤_;omega,(fun z=>nomatch z),fun _ p2 hp2=>?_⟩
 have s2:=zah hp2 (.tup (s.1.map V.int++[.int y]))
 have e2:(L2.upd H1 p2 (.tup (s.1.map V.int++[.int y]))) p2=some (.tup (s.1.map V.int++[.int y])):=zad
 generalize L2.upd H1 p2 (.tup (s.1.map V.int++[.int y]))=H2 at s2 e2 ⊢
 refine ⟨s.1++[y],by rw [List.map_append];exact SqT.of e2,by rw [List.length_append];show s.1.length+1<64;omega,fun l ms hl' hm hs _=>?_⟩
 have s3:=zah hl' (.lst (ms.map V.int))
 have e3:(L2.upd H2 l (.lst (ms.map V.int))) l=some (.lst (ms.map V.int)):=zad
 generalize L2.upd H2 l (.lst (ms.map V.int))=H3 at s3 e3 ⊢
 have em:ms=zfO y s.1:=zfF hs (zcK hr) fun x=>by
  rw [hm,zbK,List.mem_append,List.mem_singleton]
  exact Or.comm
 subst em
 have s03:=(s1.trans s2).trans s3
 refine ⟨_,.inl ⟨SqL.of e3,fun t ht=>⟨rfl,?_⟩⟩⟩
 have s4:=zah ht (.tup ((zfO y s.1).map V.int))
 have e4:(L2.upd H3 t (.tup ((zfO y s.1).map V.int))) t=some (.tup ((zfO y s.1).map V.int)):=zad
 generalize L2.upd H3 t (.tup ((zfO y s.1).map V.int))=H4 at s4 e4 ⊢
 refine zci (fun e=>⟨by decide,fun r hr'=>?_⟩) fun e=>⟨by decide,fun r hr'=>?_⟩
 ·have ew:wk=true:=by cases wk;exact absurd e (by decide);rfl
  subst ew
  have sr:=zah hr' (.tup [.ref t,.int y])
  exact q r _ ((s03.trans s4).trans sr) ((s03.trans s4).free hr') ⟨t,.inl zad,.inl (sr _ _ e4)⟩
 ·have ew:wk=false:=by cases wk;rfl;exact absurd rfl e
  subst ew
  have sr:=zah hr' (.tup [.ref t,.int 0])
  exact q r _ ((s03.trans s4).trans sr) ((s03.trans s4).free hr') ⟨t,.inl zad,.inl (sr _ _ e4)⟩
theorem zc6:zaW ["kind","standing","b","places"] ["kind","standing","b"] (zas zcm):=⟨rfl,rfl,rfl,by decide +kernel,rfl,by decide +kernel,by decide +kernel⟩
theorem zeP (T:Txt K mg a):zd2 P w K mg base CX0 1 a.f_behind_step a.d_behind_step ["kind","standing","b"] (zfj K):=by
 refine T.F_behind_step.ok zc6 (fun vs H Q E h=>?_) (fun cdv A outer s H vs Q E hr h=>?_)
 ·obtain ⟨wk,s,c,y,rfl,h,hr',hne,hl,q⟩:=h
  rfl
 obtain ⟨wk,s,c,y,rfl,h,hr',hne,hl,q⟩:=h
 exact ⟨zco K,(zae (zaD (i:=3) zc6.nd rfl (Or.inl rfl) (zcb zdj rfl T.z_tuple zcV (zaa (zei rfl T.z_sorted rfl T.z_set (zaa (zav zjF (zbG zc4 (pv 1) zak (fun _ _=>rfl)) (zby (zaa (pv 2) zaf))) zaf)) zaf)))
 (zai (zbx (zby (zaa (pv 3) (zaa (zhr (zaS zgD (pv 0) zev (zbq _)) (pv 2) zak) zaf)))))),
  zeN h hr' hne hl q⟩
def zc3 (K:PySem.W.Frag):TS :=
 (zaK (zbm (zac 4) (zd4 K 2 (zau (zag 6) (zau (zag 7) zdW))))
 (zcv (tB (za8 (zfw K) [] E0 (zab (zac 1) (zab (zac 2) (zab (zac 6) (zab (zac 7) zam)))))) (zbA (tBM K "list" zaU (zac 3) (zab (zcj (zab (zac 6) (zab (zac 7) (zab (zac 5) (zab (za8 (zfj K) [] E0 (zab (zac 1) (zab (zac 2) (zab (zac 7) zam)))) zam))))) zam))) zbp))
theorem zbH (K:PySem.W.Frag) (D:zbY) (σ:St) (H:Hp):zc3 K D σ H=(zaK (zbm (zac 4) (zd4 K 2 (zau (zag 6) (zau (zag 7) zdW))))
 (zcv (tB (za8 (zfw K) [] E0 (zab (zac 1) (zab (zac 2) (zab (zac 6) (zab (zac 7) zam)))))) (zbA (tBM K "list" zaU (zac 3) (zab (zcj (zab (zac 6) (zab (zac 7) (zab (zac 5) (zab (za8 (zfj K) [] E0 (zab (zac 1) (zab (zac 2) (zab (zac 7) zam)))) zam))))) zam))) zbp)) D σ H:=rfl
def zcC (K:PySem.W.Frag):TS :=
 (zaK (zbm (zes zam) (zag 3))
 (zaK (zlL (zlu K "dict" ziJ (zac 0)) (zd4 K 2 (zau (zag 4) (zau (zag 5) zdW)))
 (zc3 K))
 (zdC (zac 3))))
theorem zfr {wk:Bool} {s:Std} {c ld:Addr} {E:List Edg} (hd:H ld=some (.dT (E.map zfs))) (h:StH K H s c) (hr:s.1.Pairwise (·<·)) (hne:s.1≠[]) (hl:s.1.length<60) (he:E.length≤1000) (q:∀ (l:Addr) (H':Hp),zba H H'→H l=none→zlz K H' l (zeM wk E s)→Q (.ref l) H') :
  zcC K { nx:=fun _ H'=>Q .non H',rt:=Q } (L2.zbE ["lengths","kind","standing","steps","ends","length","a","b"] [.ref ld,.str (kdW wk),.ref c]) H:=by
 unfold zcC
 simp_all only [zbH,zac]
 refine ⟨by decide,fun l hl0 F=>?_⟩
 have n1:ld≠l:=zap hd hl0
 have s1:=zah hl0 (.lst [])
 have e1:(L2.upd H l (.lst [])) l=some (.lst []):=zad
 generalize L2.upd H l (.lst [])=H1 at s1 e1 ⊢
 refine ⟨.inr (.inr (.inl ⟨rfl,.inr ⟨_,s1 _ _ hd⟩⟩)),_,s1 _ _ hd,fun v hv=>?_⟩
 have s2:=zah hv (ItV v ld)
 have e2:(L2.upd H1 v (ItV v ld)) v=some (ItV v ld):=zad
 generalize L2.upd H1 v (ItV v ld)=H2 at s2 e2 ⊢
 refine ⟨_,e2,_,s2 _ _ (s1 _ _ hd),fun o hF=>?_⟩
 have hd2:=s2 _ _ (s1 _ _ hd)
 have e1':=s2 _ _ e1
 have s02:=s1.trans s2
 refine zid (kvs:=E.map zfs) hF (fun i σ H'=>H' ld=some (.frz o (.dT (E.map zfs)))∧(∀ b u,b≠ld→b≠l→H2 b=some u→H' b=some u)∧(∃ ts cs,zj4 K H' l ts cs (zeM wk (E.take i) s))∧∃ x1 x2 x3 x4,σ=[some (.ref ld),some (.str (kdW wk)),some (.ref c),some (.ref l),x1,x2,x3,x4]) ?_ ?_ ?_ ?_
 ·refine ⟨zad,fun b u nb _ hb=>by rw [zaj nb];exact hb,⟨[],[],⟨by rw [zaj n1.symm];exact e1',rfl,rfl,fun j t c x e=>by simp at e⟩⟩,_,_,_,_,rfl⟩
 ·rintro i σ H' _ ⟨x,_⟩
  exact x
 ·rintro i p T k σ H' hp ⟨f1,f2,⟨ts,cs,St⟩,x1,x2,x3,x4,rfl⟩ hT hk
  obtain ⟨e,ee,rfl⟩:=zcZ hp
  have li:=(List.getElem?_eq_some_iff.mp ee).1
  have tk:∀ b ys,H b=some (.tup ys)→H' b=some (.tup ys):=fun b ys hb=>f2 b _ (zbZ hb hd (fun z=>nomatch z)) (zap hb hl0) (s02 _ _ hb)
  have hst:=h.same tk
  simp_all only [zbH,zac]
  have hk':H' k=some (.tup [.int e.1,.int e.2.1]):=hk
  have hld:l≠ld:=n1.symm
  have nT:T≠l:=(zap St.h hT).symm
  have g1:=zah hT (.tup [.ref k,.int e.2.2])
  have k1:(L2.upd H' T (.tup [.ref k,.int e.2.2])) T=some (.tup [.ref k,.int e.2.2]):=zad
  generalize L2.upd H' T (.tup [.ref k,.int e.2.2])=G1 at g1 k1 ⊢
  refine ⟨_,SqT.of k1,rfl,_,_,rfl,_,_,rfl,rfl,_,rfl,_,SqT.of (g1 _ _ hk'),rfl,_,_,rfl,_,_,rfl,rfl,wk,s,c,e.1,e.2.1,rfl,zdZ hst g1,_,rfl,?_⟩
  have es:=ziy (wk:=wk) (s:=s) ee
  refine zci (fun ho=>?_) fun ho=>?_
  ·rw [if_pos ho] at es
   refine ⟨.inl ⟨rfl,_,SqL.of (g1 _ _ St.h)⟩,wk,s,c,e.2.1,rfl,zdZ hst g1,hr,hne,hl,fun r G2 g2 hr0 kr=>⟨by decide,fun p hp0=>?_⟩⟩
   have np:l≠p:=zap (g2 _ _ (g1 _ _ St.h)) hp0
   have g3:=zah hp0 (.tup [.int e.1,.int e.2.1,.int e.2.2,.ref r])
   have k3:(L2.upd G2 p (.tup [.int e.1,.int e.2.1,.int e.2.2,.ref r])) p=some (.tup [.int e.1,.int e.2.1,.int e.2.2,.ref r]):=zad
   generalize L2.upd G2 p (.tup [.int e.1,.int e.2.1,.int e.2.2,.ref r])=G3 at g3 k3 ⊢
   have g03:=(g1.trans g2).trans g3
   have lz:ts.length≤1000:=by
    have:=St.lt
    unfold zeM at this
    rw [List.length_map] at this
    have:=List.length_filter_le (fun e:Edg=>zhx wk s e.1 e.2.1) (E.take i)
    rw [List.length_take] at this
    omega
   refine ⟨_,g03 _ _ St.h,zcc (by rw [List.length_map];exact lz),by rw [zaj hld.symm];exact g03 _ _ f1,fun b u n1 n2 hb=>by rw [zaj n2];exact g03 _ _ (f2 b u n1 n2 hb),ts++[p],cs++[r],?_⟩
   rw [es]
   have t3:∀ b ys,G3 b=some (.tup ys)→L2.upd G3 l (.lst (ts.map V.ref++[.ref p])) b=some (.tup ys):=fun b ys hb=>by rw [zaj (zbZ hb (g03 _ _ St.h) (fun z=>nomatch z))];exact hb
   refine St.snoc (by rw [List.map_append];exact zad) (fun b ys hb=>t3 _ _ (g03 _ _ hb)) (t3 _ _ k3) ((zdZ kr g3).same t3)
  ·rw [if_neg ho] at es
   refine ⟨g1 _ _ f1,fun b u n1 n2 hb=>g1 _ _ (f2 b u n1 n2 hb),ts,cs,?_⟩
   rw [es]
   exact St.mono (g1 _ _ St.h) fun b ys hb=>g1 _ _ hb
 ·rintro σ H' ⟨f1,f2,⟨ts,cs,St⟩,x1,x2,x3,x4,rfl⟩
  simp_all only [zbH,zac]
  rw [List.length_map,List.take_length] at St
  refine q l _ (fun b u hb=>?_) hl0 ⟨ts,cs,St.mono (by rw [zaj n1.symm];exact St.h) fun b ys hb=>?_⟩
  ·by_cases c:b=ld
   ·subst c
    rw [zad]
    rw [hd] at hb
    exact hb
   ·rw [zaj c]
    exact f2 b u c (zap hb hl0) (s02 _ _ hb)
  ·rw [zaj (zbZ hb f1 (fun z=>nomatch z))]
   exact hb
theorem zbo:zaW ["lengths","kind","standing","steps","ends","length","a","b"] ["lengths","kind","standing"] (zas zcN):=⟨rfl,rfl,rfl,by decide +kernel,rfl,by decide +kernel,by decide +kernel⟩
theorem zfn (T:Txt K mg a):zd2 P w K mg base CX0 2 a.f_steps_from a.d_steps_from ["lengths","kind","standing"] (zdi K):=by
 have G_behind_step:=zeP (P:=P) (w:=w) (base:=base) T
 have G_is_step:=zh7 (P:=P) (w:=w) (base:=base) T
 refine T.F_steps_from.ok zbo (fun vs H Q E h=>?_) (fun cdv A outer s H vs Q E hr h=>?_)
 ·obtain ⟨wk,s,c,ld,E,rfl,hd,h,hr',hne,hl,he,q⟩:=h
  rfl
 obtain ⟨wk,s,c,ld,E,rfl,hd,h,hr',hne,hl,he,q⟩:=h
 exact ⟨zcC K,(zae (zaD (i:=3) zbo.nd rfl (Or.inl rfl) (zb2 zaf))
 (zae (zl9 PassesOwn.never rfl (zhE PySem.F.plainAttrs_dict PySem.F.slot_dict_items PySem.F.type_dict_items zkR (pv 0)) (zce rfl (zao (zan (i:=4) zbo.nd rfl (Or.inl rfl)) (zao (zan (i:=5) zbo.nd rfl (Or.inl rfl)) zbF)))
 (zae (zhd (pv 4) (zce rfl (zao (zan (i:=6) zbo.nd rfl (Or.inl rfl)) (zao (zan (i:=7) zbo.nd rfl (Or.inl rfl)) zbF))))
 (zai (zcr (zem (zaT G_is_step (hr.mono (by decide)) rfl T.m_is_step T.F_is_step.kp T.b_is_step .nil zb7 (zaa (pv 1) (zaa (pv 2) (zaa (pv 6) (zaa (pv 7) zaf)))))) (zai (zbu (zeO PySem.F.plainAttrs_list PySem.F.slot_list_append PySem.F.type_list_append zbN (pv 3) (zaa (zby (zaa (pv 6) (zaa (pv 7) (zaa (pv 5) (zaa (zaT G_behind_step (hr.mono (by decide)) rfl T.m_behind_step T.F_behind_step.kp T.b_behind_step .nil zb7 (zaa (pv 1) (zaa (pv 2) (zaa (pv 7) zaf)))) zaf))))) zaf)))) zbe))))
 (zai (zbx (pv 3))))),
  zfr hd h hr' hne hl he q⟩
structure ByS (K:PySem.W.Frag) (H0 H:Hp) (d fl:Addr) (kvs:Prs) (fs:List SAd) (wk:Bool) (E:List Edg):Prop where
 s:zba H0 H
 d0:H0 d=none
 f0:H0 fl=none
 ds:DS K H d kvs
 hf:H fl=some (.lst (fs.map fun x=>V.ref x.2))
 fk:∀ x∈fs,StH K H x.1 x.2∧Rch wk E x.1
 nd:(kvs.map (·.1)).Nodup
 kr:∀ p∈kvs,Rch wk E p.1∧∃ l,p.2.2=.ref l∧l≠fl∧zlz K H l (zeM wk E p.1)
 c0:(∃ p∈kvs,p.1=st0)∨∃ x∈fs,x.1=st0
 cl:∀ p∈kvs,∀ x∈zeM wk E p.1,(∃ p'∈kvs,p'.1=x.2.2.2)∨∃ y∈fs,y.1=x.2.2.2
theorem zix {kvs:Prs} {k:Std}:(zbM (kvS kvs) k).isSome=true↔∃ p∈kvs,p.1=k:=by
 rw [← anyS,List.any_eq_true]
 exact ⟨fun ⟨x,h1,h2⟩=>⟨x,h1,by simpa using h2⟩,fun ⟨x,h1,h2⟩=>⟨x,h1,by simpa using h2⟩⟩
theorem zg7 {kvs:Prs} {k:Std} {c:Addr} {v:V} (h:¬ ∃ p∈kvs,p.1=k):zek kvs k c v=kvs++[(k,c,v)]:=by
 unfold zek
 rw [if_neg fun z=>h ?_]
 obtain ⟨x,h1,h2⟩:=List.any_eq_true.mp z
 exact ⟨x,h1,by simpa using h2⟩
theorem ziW {kvs:Prs} {p:Std×Addr×V} (nd:(kvs.map (·.1)).Nodup) (h:p∈kvs):zbM (kvS kvs) p.1=some p.2.2:=by
 induction kvs with
 | nil=>cases h
 | cons x kvs ih =>
  obtain ⟨h1,h2⟩:=List.nodup_cons.mp nd
  rcases List.mem_cons.mp h with e | h
  ·subst e
   exact zaY (p:=(p.1,p.2.2)) rfl
  ·rw [← ih h2 h]
   exact zaR (p:=(x.1,x.2.2)) fun z=>h1 (List.mem_map.mpr ⟨p,h,z.symm⟩)
theorem zln {wk:Bool} {E:List Edg} {m:Nat} {ks:List Std} (hE:ziq m E) (m1:1≤m) (m5:m≤6) (nd:ks.Nodup) (h:∀ k∈ks,Rch wk E k):ks.length≤112 :=
 Nat.le_trans (zdt nd fun k hk=>ze3 ((h k hk).ok hE (by omega)) m1) (zeF m5)
theorem zke {l D:Addr} {ts cs:List Addr} {sts:List zjZ} {zfK:St} {x0 x1 x2 x3:Option V} (St:zj4 K H l ts cs sts) (hz:sts.length≤1000) (hD:H D=none) (hq:∀ H',zba H H'→H' D=some (.lst (cs.map V.ref))→Q (.ref D) H') :
  zho (Itl K l) (zd4 K 4 (zau (zag 0) (zau (zag 1) (zau (zag 2) (zau (zag 3) zdW))))) zcL (zac 3) D Q (x0::x1::x2::x3::zfK) (L2.upd H D (.lst [])):=by
 refine ze7 (xs:=ts.map V.ref) (fun i ys σ H'=>zba H H'∧ys=(cs.take i).map V.ref∧∃ x0 x1 x2 x3,σ=x0::x1::x2::x3::zfK) ⟨zah hD _,rfl,_,_,_,_,rfl⟩ ?_ ?_ ?_
 ·rintro i ys σ H' _ ⟨s,_⟩
  exact SqL.of (s _ _ St.h)
 ·rintro i x ys σ H' hx hD' ⟨s,rfl,y0,y1,y2,y3,rfl⟩
  obtain ⟨t,et,rfl⟩:=zcZ hx
  have li:=(List.getElem?_eq_some_iff.mp et).1
  have lc:i<cs.length:=by rw [St.lc,← St.lt];exact li
  have ls:i<sts.length:=by rw [← St.lt];exact li
  obtain ⟨ht,_⟩:=St.at' i t _ _ et (List.getElem?_eq_getElem lc) (List.getElem?_eq_getElem ls)
  refine ⟨t,_,rfl,SqT.of (s _ _ ht),rfl,_,_,rfl,_,_,rfl,_,_,rfl,_,_,rfl,rfl,?_⟩
  refine ⟨_,rfl,D,_,_,rfl,rfl,hD',zcc (by rw [List.length_map,List.length_take,St.lc];omega),_,zad,s.put hD,?_,_,_,_,_,rfl⟩
  rw [List.take_add_one,List.getElem?_eq_getElem lc,List.map_append]
  rfl
 ·rintro ys σ H' hD' ⟨s,rfl,_⟩
  rw [List.length_map,St.lt,← St.lc,List.take_length] at hD'
  exact hq _ s hD'
theorem ze8:∀ (ps acc:Prs),((acc++ps).map (·.1)).Nodup→zeV acc ps=acc++ps
 | [],acc,_=>(List.append_nil acc).symm
 | p::ps,acc,h=>by
  have e:zek acc p.1 p.2.1 p.2.2=acc++[p]:=zg7 fun ⟨x,hx,ex⟩=>by
   rw [List.map_append,List.nodup_append] at h
   exact h.2.2 x.1 (List.mem_map.mpr ⟨x,hx,rfl⟩) p.1 (List.mem_map.mpr ⟨p,List.mem_cons_self,rfl⟩) ex
  show zeV (zek acc p.1 p.2.1 p.2.2) ps=_
  rw [e,ze8 ps (acc++[p]) (by rw [List.append_assoc];exact h),List.append_assoc]
  rfl
theorem zfi.len {wk:Bool} {m:Nat} {s:Std} (h:zfi wk m s):s.1.length≤m:=by
 have:=zdt (l:=s.1) (L:=(List.range m).map fun i:Nat=>(i:Int)) (h.rise.imp fun h=>by omega) fun p hp=>by
  have:=h.bd p hp
  exact List.mem_map.mpr ⟨p.toNat,List.mem_range.mpr (by omega),by omega⟩
 rw [List.length_map,List.length_range] at this
 exact this
theorem zfi.sml {wk:Bool} {m:Nat} {s:Std} (h:zfi wk m s) (m1:1≤m) (m5:m≤6):Sml s:=⟨fun p hp=>by have:=h.bd p hp;omega,by have:=h.len;omega,by have:=h.hereb (by omega);omega⟩
def zbL (K:PySem.W.Frag):TS :=
 (zaK (zbm (zlu K "list" rPop (zac 3)) (zag 4))
 (zcv (tB (zfE K (zac 4) (zac 2))) (zaK (zkX K (zac 2) (zac 4) (za8 (zdi K) [] E0 (zab (zac 0) (zab (zac 1) (zab (zac 4) zam)))))
 (zbA (tBM K "list" zfk (zac 3) (zab (zgW (zcd K (zib K (zac 2) (zac 4))) (zd4 K 4 (zau (zag 0) (zau (zag 1) (zau (zag 2) (zau (zag 3) zdW))))) zcL (zac 3) [none,none,none,none]) zam)))) zbp))
theorem zaJ (K:PySem.W.Frag) (D:zbY) (σ:St) (H:Hp):zbL K D σ H=(zaK (zbm (zlu K "list" rPop (zac 3)) (zag 4))
 (zcv (tB (zfE K (zac 4) (zac 2))) (zaK (zkX K (zac 2) (zac 4) (za8 (zdi K) [] E0 (zab (zac 0) (zab (zac 1) (zab (zac 4) zam)))))
 (zbA (tBM K "list" zfk (zac 3) (zab (zgW (zcd K (zib K (zac 2) (zac 4))) (zd4 K 4 (zau (zag 0) (zau (zag 1) (zau (zag 2) (zau (zag 3) zdW))))) zcL (zac 3) [none,none,none,none]) zam)))) zbp)) D σ H:=rfl
def zbP (K:PySem.W.Frag):TS :=
 (zdC (tCB (zhk K) (zab (zgW (zcd K (tCB (zdy K) (zab (zac 2) zam))) (zag 0) zcL (zcj (zab (zac 0) (zab (zib K (zac 1) (zac 0)) zam))) [none,some 2]) zam)))
theorem zaI (K:PySem.W.Frag) (D:zbY) (σ:St) (H:Hp):zbP K D σ H=(zdC (tCB (zhk K) (zab (zgW (zcd K (tCB (zdy K) (zab (zac 2) zam))) (zag 0) zcL (zcj (zab (zac 0) (zab (zib K (zac 1) (zac 0)) zam))) [none,some 2]) zam))) D σ H:=rfl
def zbs (K:PySem.W.Frag) (a:Ad):TS :=
 (zaK (zbm zlN (zag 2))
 (zaK (zbm (zes (zab (tC (.ref a.t_FIRST)) zam)) (zag 3))
 (zaK (ze9 (tTru K (zac 3)) (zbL K))
 (zbP K))))
theorem zk2 {H':Hp} {ts:List Addr} {ps:Prs} {t D c:Addr} {k:Std} {v:V} (P:PrH K H' ts ps) (hD:H' D=some (.lst (ts.map V.ref))) (ht:H' t=none) (hk:StH K H' k c):PrH K (L2.upd (L2.upd H' t (.tup [.ref c,v])) D (.lst (ts.map V.ref++[.ref t]))) (ts++[t]) (ps++[(k,c,v)]):=by
 have s2:=zah ht (.tup [.ref c,v])
 have tk:∀ b zs,L2.upd H' t (.tup [.ref c,v]) b=some (.tup zs)→L2.upd (L2.upd H' t (.tup [.ref c,v])) D (.lst (ts.map V.ref++[.ref t])) b=some (.tup zs):=fun b zs hb=>by rw [zaj (zbZ hb (s2 _ _ hD) (fun z=>nomatch z))];exact hb
 refine ⟨by rw [List.length_append,List.length_append,P.len];rfl,fun j t' p e1 e2=>?_⟩
 by_cases cj:j<ts.length
 ·rw [List.getElem?_append_left cj] at e1
  rw [List.getElem?_append_left (by rw [← P.len];exact cj)] at e2
  obtain ⟨a1,a2⟩:=P.at' j t' p e1 e2
  exact ⟨tk _ _ (s2 _ _ a1),(zdZ a2 s2).same tk⟩
 ·have z:j - ts.length=0:=by
   have:=(List.getElem?_eq_some_iff.mp e1).1
   rw [List.length_append,List.length_singleton] at this
   omega
  rw [List.getElem?_append_right (by omega),z] at e1
  rw [List.getElem?_append_right (by rw [← P.len];omega),← P.len,z] at e2
  cases e1;cases e2
  exact ⟨tk _ _ zad,(zdZ hk s2).same tk⟩
theorem zkk {l D:Addr} {xs:List SAd} {x0:Option V} {f:Std→V} {tv:TE} {zfK:St} (hl:H l=some (.lst (xs.map fun x=>V.ref x.2))) (hx:∀ x∈xs,StH K H x.1 x.2∧∀ (H':Hp) (R:VK),zba H H'→R (f x.1) H'→tv (some (.ref x.2)::zfK) H' R) (hz:xs.length<1000) (hD:H D=none)
  (hq:∀ H' ts,zba H H'→H' D=some (.lst (ts.map V.ref))→PrH K H' ts (xs.map fun x=>(x.1,x.2,f x.1))→Q (.ref D) H') :
  zho (Itl K l) (zag 0) zcL (zcj (zab (zac 0) (zab tv zam))) D Q (x0::zfK) (L2.upd H D (.lst [])):=by
 refine ze7 (xs:=xs.map fun x=>V.ref x.2) (fun i ys σ H'=>zba H H'∧(∃ ts,ys=ts.map V.ref∧PrH K H' ts ((xs.take i).map fun x=>(x.1,x.2,f x.1)))∧∃ x0,σ=x0::zfK) ⟨zah hD _,⟨[],rfl,rfl,fun j t p e=>by simp at e⟩,_,rfl⟩ ?_ ?_ ?_
 ·rintro i ys σ H' _ ⟨s,_⟩
  exact SqL.of (s _ _ hl)
 ·rintro i x ys σ H' hx' hD' ⟨s,⟨ts,rfl,P⟩,y0,rfl⟩
  obtain ⟨y,ey,rfl⟩:=zcZ hx'
  obtain ⟨h1,h2⟩:=hx y (zca ey)
  have lt:ts.length=min i xs.length:=by rw [P.len,List.length_map,List.length_take]
  simp_all only [zaJ,zaI,zac]
  refine h2 _ _ s ⟨by decide,fun t ht=>?_⟩
  have s2:=zah ht (.tup [.ref y.2,f y.1])
  refine ⟨_,s2 _ _ hD',zcc (by rw [List.length_map];omega),_,zad,(s.trans s2).put hD,ts++[t],by rw [List.map_append];rfl,?_⟩
  rw [List.take_add_one,ey,List.map_append]
  exact zk2 P hD' ht (zdZ h1 s)
 ·rintro ys σ H' hD' ⟨s,⟨ts,rfl,P⟩,_⟩
  rw [List.length_map,List.take_length] at P
  exact hq H' ts s hD' P
theorem zcW {wk:Bool} {ld:Addr} {E:List Edg} {m:Nat} (hK1:zlr K a.t_FIRST [.ref a.w_FIRST,.int 0]) (hK2:zlr K a.w_FIRST [.int 0]) (hd:H ld=some (.dT (E.map zfs))) (hE:ziq m E) (m1:1≤m) (m5:m≤6) (he:E.length≤1000) (q:∀ (d:Addr) (kvs:Prs) (H':Hp),zba H H'→H d=none→StpD K H' d kvs wk E→(kvs.map (·.1)).Pairwise (fun x y=>stR x≤stR y)→Q (.ref d) H') :
  zbs K a { nx:=fun _ H'=>Q .non H',rt:=Q } (L2.zbE ["lengths","kind","found","fresh","standing"] [.ref ld,.str (kdW wk)]) H:=by
 have hF:∀ H',StH K H' st0 a.t_FIRST:=fun H'=>⟨_,.inr hK1,.inr hK2⟩
 unfold zbs
 simp_all only [zaJ,zaI,zac]
 intro d hd0
 refine ⟨by decide,fun fl hf0=>?_⟩
 have big:(1000000:Nat)<sizeLine:=by decide
 refine zgL (fun n σ H'=>∃ kvs fs,ByS K H H' d fl kvs fs wk E∧n=(112 - kvs.length)*1001+fs.length∧n≤112113∧∃ x,σ=[some (.ref ld),some (.str (kdW wk)),some (.ref d),some (.ref fl),x]) (m:=112*1001+1) ⟨[],[(st0,a.t_FIRST)],?_,rfl,by decide,_,rfl⟩ ?_
 ·have n1:d≠fl:=fun z=>by rw [z,zad] at hf0;cases hf0
  have s1:=zah hd0 (dSO d [])
  have s2:=zah hf0 (.lst [.ref a.t_FIRST])
  exact ⟨s1.trans s2,hd0,s1.free hf0,⟨s2 _ _ zad,(fun x hx=>nomatch hx)⟩,zad,fun x hx=>by cases List.mem_singleton.mp hx;exact ⟨hF _,.first⟩,.nil,(fun p hp=>nomatch hp),.inr ⟨_,List.mem_singleton.mpr rfl,rfl⟩,(fun p hp=>nomatch hp)⟩
 ·rintro n σ H1 ⟨kvs,fs,B,hn,hn2,x,rfl⟩
  simp_all only [zaJ,zaI,zac]
  have nfd:fl≠d:=zbZ B.hf B.ds.h (fun z=>nomatch z)
  have lk:kvs.length≤112:=by
   have:=zln hE m1 m5 B.nd fun k hk=>by
    obtain ⟨p,hp,rfl⟩:=List.mem_map.mp hk
    exact (B.kr p hp).1
   rw [List.length_map] at this
   exact this
  refine ⟨_,.inl ⟨_,SqL.of B.hf,rfl⟩,?_⟩
  refine zci (fun ne=>?_) fun ne=>?_
  ·refine ⟨fun σ' H'=>∃ m',m'<n∧∃ kvs fs,ByS K H H' d fl kvs fs wk E∧m'=(112 - List.length kvs)*1001+fs.length∧m'≤112113∧∃ x,σ'=[some (V.ref ld),some (V.str (kdW wk)),some (V.ref d),some (V.ref fl),x],fun _ _ h=>h,.inl ⟨rfl,_,SqL.of B.hf⟩,_,B.hf,?_⟩
   obtain ⟨fs',y,rfl⟩:∃ fs' y,fs=fs'++[y]:=by
    rcases List.eq_nil_or_concat fs with e | ⟨fs',y,e⟩
    ·rw [e] at ne;simp at ne
    ·exact ⟨fs',y,by rw [e,List.concat_eq_append]⟩
   have hy:=B.fk y (List.mem_append_right _ (List.mem_singleton.mpr rfl))
   have hyok:=hy.2.ok hE (by omega)
   refine ⟨.ref y.2,by rw [List.map_append,List.length_append];simp,?_⟩
   have edl:((fs'++[y]).map fun x=>V.ref x.2).dropLast=fs'.map fun x=>V.ref x.2:=by rw [List.map_append];exact List.dropLast_concat
   rw [edl]
   rw [List.length_append] at hn
   have tk1:∀ b ys,H1 b=some (.tup ys)→L2.upd H1 fl (.lst (fs'.map fun x=>V.ref x.2)) b=some (.tup ys):=fun b ys hb=>by rw [zaj (zbZ hb B.hf (fun z=>nomatch z))];exact hb
   have s1:zba H (L2.upd H1 fl (.lst (fs'.map fun x=>V.ref x.2))):=B.s.put B.f0
   have ds1:DS K (L2.upd H1 fl (.lst (fs'.map fun x=>V.ref x.2))) d kvs:=⟨by rw [zaj nfd.symm];exact B.ds.h,fun x hx=>(B.ds.ks x hx).same tk1⟩
   have kr1:∀ p∈kvs,Rch wk E p.1∧∃ l,p.2.2=.ref l∧l≠fl∧zlz K (L2.upd H1 fl (.lst (fs'.map fun x=>V.ref x.2))) l (zeM wk E p.1):=fun p hp=>by
    obtain ⟨h1,l,e,nl,ts,cs,St⟩:=B.kr p hp
    exact ⟨h1,l,e,nl,ts,cs,St.mono (by rw [zaj nl];exact St.h) tk1⟩
   have fk1:∀ x∈fs',StH K (L2.upd H1 fl (.lst (fs'.map fun x=>V.ref x.2))) x.1 x.2∧Rch wk E x.1:=fun x hx=>⟨(B.fk x (List.mem_append_left _ hx)).1.same tk1,(B.fk x (List.mem_append_left _ hx)).2⟩
   have st1:=hy.1.same tk1
   have hf1:L2.upd H1 fl (.lst (fs'.map fun x=>V.ref x.2)) fl=some (.lst (fs'.map fun x=>V.ref x.2)):=zad
   generalize L2.upd H1 fl (.lst (fs'.map fun x=>V.ref x.2))=G1 at s1 ds1 kr1 fk1 st1 hf1 tk1 ⊢
   refine ⟨_,⟨kvs,y.1,y.2,ds1,rfl,st1,rfl⟩,zci (fun hno=>?_) fun hyes=>?_⟩
   ·have hno':¬ ∃ p∈kvs,p.1=y.1:=fun z=>by rw [zix.mpr z] at hno;cases hno
    refine ⟨wk,y.1,y.2,ld,E,rfl,s1 _ _ hd,st1,hyok.rise,(fun z=>by have:=hyok.zero;rw [z] at this;cases this),?_,he,fun l G2 g2 hl0 hst=>?_⟩
    ·have:=zdt (l:=y.1.1) (L:=(List.range m).map fun i:Nat=>(i:Int)) (hyok.rise.imp fun h=>by omega) fun p hp=>by
      have:=hyok.bd p hp
      exact List.mem_map.mpr ⟨p.toNat,List.mem_range.mpr (by omega),by omega⟩
     rw [List.length_map,List.length_range] at this
     omega
    have ds2:=dsSm ds1 g2
    have st2:=zdZ st1 g2
    have nl:l≠fl:=fun z=>by rw [z,hf1] at hl0;cases hl0
    refine ⟨_,⟨kvs,y.1,y.2,ds2,rfl,st2,by omega,rfl⟩,?_⟩
    have nd':(zek kvs y.1 y.2 (.ref l))=kvs++[(y.1,y.2,.ref l)]:=zg7 hno'
    have ds3:=ds2.put (v:=.ref l) st2
    have tk3:∀ b ys,G2 b=some (.tup ys)→L2.upd G2 d (dSO d (zek kvs y.1 y.2 (.ref l))) b=some (.tup ys):=fun b ys hb=>by rw [zaj (zbZ hb ds2.h (fun z=>nomatch z))];exact hb
    have nld:l≠d:=fun z=>by obtain ⟨ts,cs,St⟩:=hst;exact zbZ St.h ds2.h (fun z=>nomatch z) z
    have kp3:∀ b u,b≠d→G2 b=some u→L2.upd G2 d (dSO d (zek kvs y.1 y.2 (.ref l))) b=some u:=fun b u nb hb=>by rw [zaj nb];exact hb
    have s3:zba H (L2.upd G2 d (dSO d (zek kvs y.1 y.2 (.ref l)))):=(s1.trans g2).put B.d0
    have hf3:L2.upd G2 d (dSO d (zek kvs y.1 y.2 (.ref l))) fl=some (.lst (fs'.map fun x=>V.ref x.2)):=kp3 _ _ nfd (g2 _ _ hf1)
    have st3:=st2.same tk3
    rw [nd'] at ds3 tk3 kp3 s3 hf3 st3 ⊢
    generalize L2.upd G2 d (dSO d (kvs++[(y.1,y.2,.ref l)]))=G3 at ds3 tk3 kp3 s3 hf3 st3 ⊢
    obtain ⟨ts,cs,St⟩:=hst
    have St3:=St.mono (kp3 _ _ nld St.h) tk3
    have ndk:((kvs++[(y.1,y.2,V.ref l)]).map (·.1)).Nodup:=by
     rw [List.map_append,List.nodup_append]
     refine ⟨B.nd,by simp,fun k hk k' hk' e=>?_⟩
     obtain ⟨p,hp,rfl⟩:=List.mem_map.mp hk
     exact hno' ⟨p,hp,e.trans (List.mem_singleton.mp hk')⟩
    have ls:(zeM wk E y.1).length≤1000:=by
     unfold zeM
     rw [List.length_map]
     exact Nat.le_trans (List.length_filter_le _ _) he
    have vv:=ziW ndk (p:=(y.1,y.2,V.ref l)) (List.mem_append_right _ (List.mem_singleton.mpr rfl))
    refine ⟨.inl ⟨rfl,_,SqL.of hf3⟩,.ref l,⟨_,y.1,y.2,ds3,rfl,st3,vv.symm⟩,l,rfl,⟨_,SqL.of St3.h⟩,fun D hD=>?_⟩
    refine zke St3 ls hD fun G4 g4 hD4=>⟨D,rfl,_,g4 _ _ hf3,_,hD4,?_,?_⟩
    ·rw [List.length_map,List.length_map,St.lc]
     omega
    have lk2:(kvs++[(y.1,y.2,V.ref l)]).length≤112:=by
     have:=zln hE m1 m5 ndk fun k hk=>by
      obtain ⟨p,hp,rfl⟩:=List.mem_map.mp hk
      rcases List.mem_append.mp hp with hp | hp
      ·exact (B.kr p hp).1
      ·cases List.mem_singleton.mp hp;exact hy.2
     rw [List.length_map] at this
     exact this
    rw [List.length_append,List.length_singleton] at lk2
    have nf4:∀ b u,b≠fl→G4 b=some u→L2.upd G4 fl (.lst ((fs'.map fun x=>V.ref x.2)++cs.map V.ref)) b=some u:=fun b u nb hb=>by rw [zaj nb];exact hb
    have tk4:∀ b ys,G4 b=some (.tup ys)→L2.upd G4 fl (.lst ((fs'.map fun x=>V.ref x.2)++cs.map V.ref)) b=some (.tup ys):=fun b ys hb=>nf4 _ _ (zbZ hb (g4 _ _ hf3) (fun z=>nomatch z)) hb
    obtain ⟨zs,hz1,hz2⟩:∃ zs:List SAd,zs.map (·.2)=cs∧zs.map (·.1)=(zeM wk E y.1).map (·.2.2.2):=by
     refine ⟨((zeM wk E y.1).map (·.2.2.2)).zip cs,?_,?_⟩
     ·exact List.map_snd_zip (by rw [List.length_map,St.lc];exact Nat.le_refl _)
     ·exact List.map_fst_zip (by rw [List.length_map,St.lc];exact Nat.le_refl _)
    have lz:zs.length=(zeM wk E y.1).length:=by have:=congrArg List.length hz2;simpa using this
    have zk:∀ z∈zs,StH K G4 z.1 z.2∧Rch wk E z.1:=fun z hz=>by
     obtain ⟨j,hj,rfl⟩:=List.getElem_of_mem hz
     have hjs:j<(zeM wk E y.1).length:=by rw [← lz];exact hj
     have hjt:j<ts.length:=by rw [St.lt];exact hjs
     have e1:cs[j]?=some zs[j].2:=by rw [← hz1,List.getElem?_map,List.getElem?_eq_getElem hj];rfl
     have e2:(zeM wk E y.1)[j].2.2.2=zs[j].1:=by
      have:=congrArg (fun l=>l[j]?) hz2
      simp only [List.getElem?_map,List.getElem?_eq_getElem hj,List.getElem?_eq_getElem hjs,Option.map_some,Option.some.injEq] at this
      exact this.symm
     have:=(St3.at' j _ _ _ (List.getElem?_eq_getElem hjt) e1 (List.getElem?_eq_getElem hjs)).2
     rw [e2] at this
     refine ⟨zdZ this g4,?_⟩
     rw [← e2]
     exact hy.2.step (List.getElem_mem hjs)
    have ecs:cs.map V.ref=zs.map fun x=>V.ref x.2:=by rw [← hz1,List.map_map];rfl
    refine ⟨_,?_,kvs++[(y.1,y.2,V.ref l)],fs'++zs,⟨s3.trans g4 |>.put B.f0,B.d0,B.f0,⟨nf4 _ _ nfd.symm (g4 _ _ ds3.h),fun x hx=>(zdZ (ds3.ks x hx) g4).same tk4⟩,?_,fun x hx=>?_,ndk,fun p hp=>?_,?_,fun p hp x hx=>?_⟩,rfl,?_,_,rfl⟩
    ·rw [List.length_append,List.length_singleton,List.length_append,lz]
     simp only [List.length_singleton] at hn
     omega
    ·rw [List.map_append,← ecs];exact zad
    ·rcases List.mem_append.mp hx with hx | hx
     ·exact ⟨(zdZ (((zdZ (fk1 x hx).1 g2)).same tk3) g4).same tk4,(fk1 x hx).2⟩
     ·exact ⟨(zk x hx).1.same tk4,(zk x hx).2⟩
    ·rcases List.mem_append.mp hp with hp | hp
     ·obtain ⟨h1,l',e,nl',ts',cs',St'⟩:=kr1 p hp
      have nd2:l'≠d:=zbZ (g2 _ _ St'.h) ds2.h (fun z=>nomatch z)
      refine ⟨h1,l',e,nl',ts',cs',((St'.mono (g2 _ _ St'.h) (fun b ys hb=>g2 _ _ hb)).mono (kp3 _ _ nd2 (g2 _ _ St'.h)) tk3).mono ?_ (fun b ys hb=>tk4 _ _ (g4 _ _ hb))⟩
      exact nf4 _ _ nl' (g4 _ _ (kp3 _ _ nd2 (g2 _ _ St'.h)))
     ·cases List.mem_singleton.mp hp
      exact ⟨hy.2,l,rfl,nl,ts,cs,St3.mono (nf4 _ _ nl (g4 _ _ St3.h)) fun b ys hb=>tk4 _ _ (g4 _ _ hb)⟩
    ·rcases B.c0 with ⟨p,hp,e⟩ | ⟨x,hx,e⟩
     ·exact .inl ⟨p,List.mem_append_left _ hp,e⟩
     ·rcases List.mem_append.mp hx with hx | hx
      ·exact .inr ⟨x,List.mem_append_left _ hx,e⟩
      ·cases List.mem_singleton.mp hx
       exact .inl ⟨_,List.mem_append_right _ (List.mem_singleton.mpr rfl),e⟩
    ·rcases List.mem_append.mp hp with hp | hp
     ·rcases B.cl p hp x hx with ⟨p',hp',e⟩ | ⟨z,hz,e⟩
      ·exact .inl ⟨p',List.mem_append_left _ hp',e⟩
      ·rcases List.mem_append.mp hz with hz | hz
       ·exact .inr ⟨z,List.mem_append_left _ hz,e⟩
       ·cases List.mem_singleton.mp hz
        exact .inl ⟨_,List.mem_append_right _ (List.mem_singleton.mpr rfl),e⟩
     ·cases List.mem_singleton.mp hp
      have:x.2.2.2∈zs.map (·.1):=by rw [hz2];exact List.mem_map.mpr ⟨x,hx,rfl⟩
      obtain ⟨z,hz,e⟩:=List.mem_map.mp this
      exact .inr ⟨z,List.mem_append_right _ hz,e⟩
    ·rw [List.length_append,List.length_singleton,List.length_append,lz]
     simp only [List.length_singleton] at hn
     omega
   ·have hyes':∃ p∈kvs,p.1=y.1:=zix.mp (by cases c:(zbM (kvS kvs) y.1).isSome;exact absurd c hyes;rfl)
    refine ⟨_,?_,kvs,fs',⟨s1,B.d0,B.f0,ds1,hf1,fk1,B.nd,kr1,?_,fun p hp x hx=>?_⟩,rfl,?_,_,rfl⟩
    ·simp only [List.length_singleton] at hn;omega
    ·rcases B.c0 with h | ⟨x,hx,e⟩
     ·exact .inl h
     ·rcases List.mem_append.mp hx with hx | hx
      ·exact .inr ⟨x,hx,e⟩
      ·cases List.mem_singleton.mp hx
       obtain ⟨p,hp,ep⟩:=hyes'
       exact .inl ⟨p,hp,ep.trans e⟩
    ·rcases B.cl p hp x hx with h | ⟨z,hz,e⟩
     ·exact .inl h
     ·rcases List.mem_append.mp hz with hz | hz
      ·exact .inr ⟨z,hz,e⟩
      ·cases List.mem_singleton.mp hz
       obtain ⟨p,hp,ep⟩:=hyes'
       exact .inl ⟨p,hp,ep.trans e⟩
    ·simp only [List.length_singleton] at hn;omega
  ·have hfs:fs=[]:=by
    cases fs with
    | nil=>rfl
    | cons x l=>exact absurd rfl ne
   subst hfs
   have all:∀ s,Rch wk E s→∃ p∈kvs,p.1=s:=fun s h=>by
    induction h with
    | first=>rcases B.c0 with h | ⟨x,hx,_⟩;exact h;cases hx
    | step h hx ih =>
     obtain ⟨p,hp,e⟩:=ih
     rw [← e] at hx
     rcases B.cl p hp _ hx with h | ⟨z,hz,_⟩
     ·exact h
     ·cases hz
   refine ⟨kvs,B.ds,by omega,B.nd,fun p hp=>((B.kr p hp).1.ok hE (by omega)).sml m1 m5,fun l xs hl0 hp hs=>?_⟩
   have g1:=zah hl0 (.lst (xs.map fun x=>V.ref x.2))
   have k1:(L2.upd H1 l (.lst (xs.map fun x=>V.ref x.2))) l=some (.lst (xs.map fun x=>V.ref x.2)):=zad
   generalize L2.upd H1 l (.lst (xs.map fun x=>V.ref x.2))=G1 at g1 k1 ⊢
   refine ⟨⟨_,SqL.of k1⟩,fun D hD=>?_⟩
   have lx:xs.length=kvs.length:=by rw [hp.length_eq,List.length_map]
   have xk:∀ x∈xs,∃ p∈kvs,x=(p.1,p.2.1):=fun x hx=>by
    obtain ⟨p,h1,h2⟩:=List.mem_map.mp (hp.mem_iff.mp hx)
    exact ⟨p,h1,h2.symm⟩
   refine zkk (f:=fun k=>(zbM (kvS kvs) k).getD .non) k1 (fun x hx=>?_) (by omega) hD fun G2 ts g2 hD2 P=>?_
   ·obtain ⟨p,h1,rfl⟩:=xk x hx
    have h2:=zdZ (B.ds.ks p h1) g1
    refine ⟨h2,fun H' R s hR=>?_⟩
    simp_all only [zaJ,zaI,zac]
    refine ⟨_,⟨kvs,p.1,p.2.1,dsSm (dsSm B.ds g1) s,rfl,zdZ h2 s,?_⟩,hR⟩
    rw [ziW B.nd h1]
    rfl
   refine ⟨D,rfl,ts,hD2,_,P,by rw [P.len,List.length_map];omega,fun d' hd'=>?_⟩
   have ndx:((xs.map fun x=>(x.1,x.2,(zbM (kvS kvs) x.1).getD .non)).map fun x:Std×Addr×V=>x.1).Nodup:=by
    rw [List.map_map]
    have:=(hp.map (·.1))
    rw [List.map_map] at this
    exact this.nodup_iff.mpr B.nd
   rw [ze8 _ [] ndx,List.nil_append]
   have s3:=zah hd' (dSO d' (xs.map fun x=>(x.1,x.2,(zbM (kvS kvs) x.1).getD .non)))
   have g02:=g1.trans g2
   refine q d' _ _ ((B.s.trans g02).trans s3) ((B.s.trans g02).free hd') ⟨⟨zad,fun x hx=>?_⟩,ndx,fun s=>⟨fun ⟨x,hx,e⟩=>?_,fun h=>?_⟩,fun x hx=>?_,fun x hx=>?_,by rw [List.length_map];omega⟩ ?_
   ·obtain ⟨y,hy,rfl⟩:=List.mem_map.mp hx
    obtain ⟨p,h1,rfl⟩:=xk y hy
    exact zdZ (zdZ (B.ds.ks p h1) g02) s3
   ·obtain ⟨y,hy,rfl⟩:=List.mem_map.mp hx
    obtain ⟨p,h1,rfl⟩:=xk y hy
    rw [← e]
    exact (B.kr p h1).1
   ·obtain ⟨p,h1,e⟩:=all s h
    exact ⟨_,List.mem_map.mpr ⟨(p.1,p.2.1),hp.mem_iff.mpr (List.mem_map.mpr ⟨p,h1,rfl⟩),rfl⟩,e⟩
   ·obtain ⟨y,hy,rfl⟩:=List.mem_map.mp hx
    obtain ⟨p,h1,rfl⟩:=xk y hy
    obtain ⟨_,l',e,_,St⟩:=B.kr p h1
    refine ⟨l',?_,(St.sm g02).sm s3⟩
    show (zbM (kvS kvs) p.1).getD .non=_
    rw [ziW B.nd h1]
    exact e
   ·obtain ⟨y,hy,rfl⟩:=List.mem_map.mp hx
    obtain ⟨p,h1,rfl⟩:=xk y hy
    exact ((B.kr p h1).1.ok hE (by omega)).sml m1 m5
   ·rw [List.map_map,List.pairwise_map]
    exact hs
theorem zaX:zaW ["lengths","kind","found","fresh","standing"] ["lengths","kind"] (zas zaN):=⟨rfl,rfl,rfl,by decide +kernel,rfl,by decide +kernel,by decide +kernel⟩
theorem zcX (T:Txt K mg a):zd2 P w K mg base CX0 3 a.f_steps_by_standing a.d_steps_by_standing ["lengths","kind"] (zlj K):=by
 have G_steps_from:=zfn (P:=P) (w:=w) (base:=base) T
 refine T.F_steps_by_standing.ok zaX (fun vs H Q E h=>?_) (fun cdv A outer s H vs Q E hr h=>?_)
 ·obtain ⟨wk,ld,E,m,rfl,hd,hE,m1,m5,he,q⟩:=h
  rfl
 obtain ⟨wk,ld,E,m,rfl,hd,hE,m1,m5,he,q⟩:=h
 exact ⟨zbs K a,(zae (zaD (i:=2) zaX.nd rfl (Or.inr rfl) zmn)
 (zae (zaD (i:=3) zaX.nd rfl (Or.inl rfl) (zb2 (zaa (zdH rfl T.m_FIRST rfl) zaf)))
 (zae (zfx PassesOwn.never (zkQ (pv 3) (fun _=>rfl)) (zae (zaD (i:=4) zaX.nd rfl (Or.inl rfl) (zhE PySem.F.plainAttrs_list PySem.F.slot_list_pop PySem.F.type_list_pop zns (pv 3)))
 (zai (zcr (ziv (zjO hr.units (pv 4) (pv 2))) (zae (zml hr.units (pv 2) (pv 4) (zaT G_steps_from (hr.mono (by decide)) rfl T.m_steps_from T.F_steps_from.kp T.b_steps_from .nil zb7 (zaa (pv 0) (zaa (pv 1) (zaa (pv 4) zaf)))) rfl)
 (zai (zbu (zeO PySem.F.plainAttrs_list PySem.F.slot_list_extend PySem.F.type_list_extend zim (pv 3) (zaa (zjS (sc:=zas zaN) (N:=["lengths","kind","found","fresh","standing"]) (Nc:=["a","b","length","behind"]) (cap:=[none,none,none,none]) rfl rfl rfl (.of (by decide +kernel)) (zb8 (zil hr.units (pv 2) (pv 4) (fun _ _=>rfl))) (fun _ _ _ _=>(zce rfl (zao (zan (i:=0) (show List.Nodup (["a","b","length","behind"]:List Str) from by decide) rfl (Or.inl rfl)) (zao (zan (i:=1) (show List.Nodup (["a","b","length","behind"]:List Str) from by decide) rfl (Or.inl rfl)) (zao (zan (i:=2) (show List.Nodup (["a","b","length","behind"]:List Str) from by decide) rfl (Or.inl rfl)) (zao (zan (i:=3) (show List.Nodup (["a","b","length","behind"]:List Str) from by decide) rfl (Or.inl rfl)) zbF)))))) (fun _ _ _ _=>zjt) (fun _ _ _ _=>(pv 3))) zaf))))) zbe))))
 (zai (zbx (zcb (zhU hr.units rfl) rfl T.z_dict PyProof.Rows.boot_dict (zaa (zjS (sc:=zas zaN) (N:=["lengths","kind","found","fresh","standing"]) (Nc:=["standing","found"]) (cap:=[none,some 2]) rfl rfl rfl (.of (by decide +kernel)) (zb8 (zat (zfI hr.units rfl) rfl T.z_sorted PyProof.Rows.boot_sorted (zaa (pv 2) zaf))) (fun _ _ _ _=>(zan (i:=0) (show List.Nodup (["standing","found"]:List Str) from by decide) rfl (Or.inl rfl))) (fun _ _ _ _=>zjt) (fun _ _ _ _=>(zby (zaa (pv 0) (zaa (zil hr.units (pv 1) (pv 0) (fun _ _=>rfl)) zaf))))) zaf))))))),
  zcW T.u_FIRST T.v_FIRST hd hE m1 m5 he q⟩
theorem znc {m:Int}:∀ (rs:List zbb),(∀ r∈rs,GR m r)→∀ x y l,sh rs x y=some l→0≤x∧x<m∧0≤y∧y<m∧x≠y∧1≤l∧l≤1000000:=by
 have z:∀ (rs:List zbb) (f:Int→Int→Option Int),(∀ r∈rs,GR m r)→(∀ x y l,f x y=some l→0≤x∧x<m∧0≤y∧y<m∧x≠y∧1≤l∧l≤1000000)→∀ x y l,rs.foldl shs f x y=some l→0≤x∧x<m∧0≤y∧y<m∧x≠y∧1≤l∧l≤1000000:=by
  intro rs
  induction rs with
  | nil=>intro f _ h;exact h
  | cons r rs ih =>
   intro f g h
   refine ih _ (fun r' h'=>g r' (by simp [h'])) fun x y l e=>?_
   obtain ⟨g1,g2,g3,g4,g5,g6,g7⟩:=g r (by simp)
   have hv:1≤min ((f r.1 r.2.1).getD r.2.2) r.2.2∧min ((f r.1 r.2.1).getD r.2.2) r.2.2≤1000000:=by
    cases q:f r.1 r.2.1 with
    | none=>simp only [Option.getD_none];omega
    | some v =>
     have:=h _ _ _ q
     simp only [Option.getD_some]
     omega
   unfold shs at e
   split at e
   ·rename_i c
    cases e
    obtain ⟨rfl,rfl⟩:=c
    exact ⟨g3,g4,g1,g2,g5.symm,hv⟩
   ·split at e
    ·rename_i c
     cases e
     obtain ⟨rfl,rfl⟩:=c
     exact ⟨g1,g2,g3,g4,g5,hv⟩
    ·exact h x y l e
 exact fun rs g=>z rs _ g fun _ _ _ e=>nomatch e
theorem zjk {rs:List zbb} {r:zbb} (h:r∈rs):sh rs r.1 r.2.1≠none:=by
 have keep:∀ (rs:List zbb) (f:Int→Int→Option Int) (x y:Int),f x y≠none→rs.foldl shs f x y≠none:=by
  intro rs
  induction rs with
  | nil=>intro f x y h;exact h
  | cons r rs ih =>
   intro f x y h
   refine ih _ x y ?_
   unfold shs
   split
   ·exact fun z=>nomatch z
   ·split
    ·exact fun z=>nomatch z
    ·exact h
 obtain ⟨a,b,rfl⟩:=List.append_of_mem h
 unfold sh
 rw [List.foldl_append,List.foldl_cons]
 refine keep b _ _ _ ?_
 unfold shs
 split
 ·exact fun z=>nomatch z
 ·rw [if_pos ⟨rfl,rfl⟩]
  exact fun z=>nomatch z
def Nb (rs:List zbb) (x y:Int):Prop:=∃ r∈rs,(r.1=x∧r.2.1=y)∨(r.1=y∧r.2.1=x)
theorem sh_nb {x y l:Int}:∀ (rs:List zbb),sh rs x y=some l→Nb rs x y:=by
 have z:∀ (rs:List zbb) (f:Int→Int→Option Int),rs.foldl shs f x y=some l→Nb rs x y∨f x y=some l:=by
  intro rs
  induction rs with
  | nil=>intro f h;exact .inr h
  | cons r rs ih =>
   intro f h
   rcases ih _ h with ⟨r',hr,c⟩ | h
   ·exact .inl ⟨r',List.mem_cons_of_mem _ hr,c⟩
   ·unfold shs at h
    split at h
    ·rename_i c;exact .inl ⟨r,List.mem_cons_self,.inr ⟨c.2.symm,c.1.symm⟩⟩
    ·split at h
     ·rename_i c;exact .inl ⟨r,List.mem_cons_self,.inl ⟨c.1.symm,c.2.symm⟩⟩
     ·exact .inr h
 exact fun rs h=>(z rs _ h).elim id fun h=>nomatch h
theorem nb_sh {rs:List zbb} {x y:Int} (h:Nb rs x y):∃ l,sh rs x y=some l:=by
 obtain ⟨r,hr,c⟩:=h
 have z:=zjk hr
 cases e:sh rs r.1 r.2.1 with
 | none=>exact absurd e z
 | some l =>
  rcases c with ⟨rfl,rfl⟩ | ⟨rfl,rfl⟩
  ·exact ⟨l,e⟩
  ·exact ⟨l,by rw [zi9];exact e⟩
theorem zjA {E:List Edg} (pw:E.Pairwise fun e f=>¬ (e.1=f.1∧e.2.1=f.2.1)) (x y:Int):(∀ e∈E,e.1=x→e.2.1=y→zbM (E.map zfs) [.inl x,.inl y]=some (.int e.2.2))∧∀ v,zbM (E.map zfs) [.inl x,.inl y]=some v→∃ e∈E,e.1=x∧e.2.1=y∧v=.int e.2.2:=by
 induction E with
 | nil=>exact ⟨(fun e h=>nomatch h),fun v h=>nomatch h⟩
 | cons f E ih =>
  obtain ⟨p1,p2⟩:=List.pairwise_cons.mp pw
  obtain ⟨i1,i2⟩:=ih p2
  by_cases c:f.1=x∧f.2.1=y
  ·have b:zbM ((f::E).map zfs) [.inl x,.inl y]=some (.int f.2.2):=zaY (p:=zfs f) (by show [Sum.inl f.1,Sum.inl f.2.1]=_;rw [c.1,c.2])
   rw [b]
   refine ⟨fun e he e1 e2=>?_,fun v h=>⟨f,List.mem_cons_self,c.1,c.2,(Option.some.inj h).symm⟩⟩
   rcases List.mem_cons.mp he with rfl | he
   ·rfl
   ·exact absurd ⟨c.1.trans e1.symm,c.2.trans e2.symm⟩ (p1 e he)
  ·have b:zbM ((f::E).map zfs) [.inl x,.inl y]=zbM (E.map zfs) [.inl x,.inl y]:=zaR (p:=zfs f) (fun z=>c (by
    have z:[Sum.inl f.1,Sum.inl f.2.1]=([.inl x,.inl y]:List Key):=z
    simp only [List.cons.injEq,Sum.inl.injEq,and_true] at z
    exact z))
   rw [b]
   refine ⟨fun e he e1 e2=>?_,fun v h=>?_⟩
   ·rcases List.mem_cons.mp he with rfl | he
    ·exact absurd ⟨e1,e2⟩ c
    ·exact i1 e he e1 e2
   ·obtain ⟨e,he,h⟩:=i2 v h
    exact ⟨e,List.mem_cons_of_mem _ he,h⟩
theorem zkj {lk:List (List Key×V)} {rs:List zbb} {m:Int} (L:zmk lk rs) (G:GW m rs):∃ E:List Edg,lk=E.map zfs∧ziq m E∧E.length≤1000∧∀ x y l,(x,y,l)∈E↔sh rs x y=some l:=by
 obtain ⟨E,rfl,pw⟩:=L.ent
 have to:∀ e∈E,sh rs e.1 e.2.1=some e.2.2:=fun e he=>by
  have:=(zjA pw e.1 e.2.1).1 e he rfl rfl
  rw [L.val] at this
  obtain ⟨l,h1,h2⟩:=Option.map_eq_some_iff.mp this
  cases h2
  exact h1
 have back:∀ x y l,sh rs x y=some l→(x,y,l)∈E:=fun x y l h=>by
  have h2:=L.val x y
  rw [h] at h2
  obtain ⟨e,he,rfl,rfl,ev⟩:=(zjA pw x y).2 _ h2
  cases ev
  exact he
 have ll:=L.len
 have l1:=G.l120
 rw [List.length_map] at ll
 refine ⟨E,rfl,⟨fun e he=>?_,fun e he=>back _ _ _ (by rw [zi9];exact to e he),pw,fun S s0 cl=>?_⟩,by omega,fun x y l=>⟨fun he=>to _ he,back x y l⟩⟩
 ·have:=znc rs G.gr _ _ _ (to e he)
  omega
 ·refine G.conn S s0 fun r hr hS=>?_
  cases h:sh rs r.1 r.2.1 with
  | none=>exact absurd h (zjk hr)
  | some l =>
   have e1:=back _ _ _ h
   have e2:=back r.2.1 r.1 l (by rw [zi9];exact h)
   rcases hS with hS | hS
   ·exact ⟨hS,cl (r.1,r.2.1,l) e1 hS⟩
   ·exact ⟨cl (r.2.1,r.1,l) e2 hS,hS⟩
def ze5:Sp:=fun vs H Q _=>∃ kd:Str,vs=[.str kd]∧(kd="walk"∨kd="spread")∧Q .non H
def zda (K:PySem.W.Frag) (a:Ad):TS :=
 (zcv (za2 (tOp (rIn K true) (zac 0) (tC (.ref a.t_KINDS)))) zdA zbp)
theorem zfM {kd:Str} (hK:zlr K a.t_KINDS [.str "walk",.str "spread"]) (h:kd="walk"∨kd="spread") (q:Q .non H):zda K a { nx:=fun _ H'=>Q .non H',rt:=Q } (L2.zbE ["kind"] [.str kd]) H:=by
 unfold zda
 simp_all only [zac]
 refine ⟨_,.inr (SqT.ofK hK),rfl,rfl,?_⟩
 rcases h with rfl | rfl
 ·exact zci (fun z=>absurd z (by decide +kernel)) (fun _=>q)
 ·exact zci (fun z=>absurd z (by decide +kernel)) (fun _=>q)
theorem zgo:zaW ["kind"] ["kind"] (zas zdd):=⟨rfl,rfl,rfl,by decide +kernel,rfl,by decide +kernel,by decide +kernel⟩
theorem zfU (T:Txt K mg a):zd2 P w K mg base CX0 1 a.f_look_kind a.d_look_kind ["kind"] ze5:=by
 refine T.F_look_kind.ok zgo (fun vs H Q E h=>?_) (fun cdv A outer s H vs Q E hr h=>?_)
 ·obtain ⟨kd,rfl,h,q⟩:=h
  rfl
 obtain ⟨kd,rfl,h,q⟩:=h
 exact ⟨zda K a,(zai (zcr (zaS zcB (pv 0) (zdH rfl T.m_KINDS rfl) (by with_unfolding_all rfl)) (zai zdq) zbe)),
  zfM T.u_KINDS h q⟩
def zeq:Sp:=fun vs H Q _=>∃ (w rl:Addr) (ts:List Addr) (m:Int) (rs:List zbb) (wk:Bool),vs=[.ref w,.str (kdW wk)]∧zeU H w rl ts m rs∧GW m rs∧m≤7∧∀ H',zba H H'→Q .non H'
def zcI (K:PySem.W.Frag):TS :=
 (zaK (zbA (za8 zfP [] E0 (zab (zac 0) zam)))
 (zaK (zlt (zcv (za2 (tOp (rI0 fun i j=>.bl (decide (j<i))) (tOp (ze1 K) (zac 0) (tC (.int 0))) (tC (.int 7)))) zdA zbp))
 (zbA (za8 ze5 [] E0 (zab (zac 1) zam)))))
theorem zfb {w rl:Addr} {ts:List Addr} {m:Int} {rs:List zbb} {wk:Bool} (W:zeU H w rl ts m rs) (G:GW m rs) (m7:m≤7) (q:∀ H',zba H H'→Q .non H') :
  zcI K { nx:=fun _ H'=>Q .non H',rt:=Q } (L2.zbE ["web","kind"] [.ref w,.str (kdW wk)]) H:=by
 unfold zcI
 simp_all only [zac]
 refine ⟨w,rl,ts,m,rs,rfl,W,G,fun H1 s1=>⟨fun σ H'=>H'=H1∧σ=[some (.ref w),some (.str (kdW wk))],?_,?_⟩⟩
 ·simp_all only [zac]
  exact ⟨_,SqT.of (s1 _ _ W.hw),_,rfl,_,rfl,zci (fun c=>by omega) fun _=>True.intro⟩
 ·rintro σ H' ⟨rfl,rfl⟩
  simp_all only [zac]
  exact ⟨_,rfl,by cases wk;exact .inr rfl;exact .inl rfl,q _ s1⟩
theorem zfg:zaW ["web","kind"] ["web","kind"] (zas zcG):=⟨rfl,rfl,rfl,by decide +kernel,rfl,by decide +kernel,by decide +kernel⟩
theorem zfB (T:Txt K mg a):zd2 P w K mg base CX0 5 a.f_look_small a.d_look_small ["web","kind"] zeq:=by
 have G_look_kind:=zfU (P:=P) (w:=w) (base:=base) T
 have G_look_web:=zgC (P:=P) (w:=w) (base:=base) T
 refine T.F_look_small.ok zfg (fun vs H Q E h=>?_) (fun cdv A outer s H vs Q E hr h=>?_)
 ·obtain ⟨w',rl,ts,m,rs,wk,rfl,W,G,m7,q⟩:=h
  rfl
 obtain ⟨w',rl,ts,m,rs,wk,rfl,W,G,m7,q⟩:=h
 exact ⟨zcI K,(zae (zbu (zaT G_look_web (hr.mono (by decide)) rfl T.m_look_web T.F_look_web.kp T.b_look_web .nil zb7 (zaa (pv 0) zaf)))
 (zae (ze0 (zcr (zaS zlO (zbG zc4 (pv 0) zak (fun _ _=>rfl)) (zdH rfl T.m_MOST_SMALL ⟨_,rfl⟩) (zbq _)) (zai zdq) zbe))
 (zai (zbu (zaT G_look_kind (hr.mono (by decide)) rfl T.m_look_kind T.F_look_kind.kp T.b_look_kind .nil zb7 (zaa (pv 1) zaf)))))),
  zfb W G m7 q⟩
inductive Rc (rs:List zbb) (wk:Bool):Std→Prop
 | first:Rc rs wk st0
 | step {s:Std} {x y:Int} (h:Rc rs wk s) (hn:Nb rs x y) (ho:zhx wk s x y=true):Rc rs wk (bhd wk s y)
theorem znq {rs:List zbb} {wk:Bool} {E:List Edg} (hE:∀ x y l,(x,y,l)∈E↔sh rs x y=some l) (s:Std):Rch wk E s↔Rc rs wk s:=by
 constructor
 ·intro h
  induction h with
  | first=>exact .first
  | step h hx ih =>
   obtain ⟨e,he,ho,rfl⟩:=zfC.mp hx
   exact ih.step (sh_nb rs ((hE _ _ _).mp he)) ho
 ·intro h
  induction h with
  | first=>exact .first
  | @step s x y h hn ho ih =>
   obtain ⟨l,hl⟩:=nb_sh hn
   exact ih.step (zfC.mpr ⟨(x,y,l),(hE _ _ _).mpr hl,ho,rfl⟩)
structure StL (K:PySem.W.Frag) (H:Hp) (l:Addr) (xs:List SAd) (rs:List zbb) (wk:Bool):Prop where
 h:H l=some (.lst (xs.map fun x=>V.ref x.2))
 ks:∀ x∈xs,StH K H x.1 x.2
 mem:∀ s,s∈xs.map (·.1)↔Rc rs wk s
 up:(xs.map fun x=>stR x.1).Pairwise (·<·)
 sm:∀ x∈xs,Sml x.1
 len:xs.length<128
theorem zm9 {f:Std→Int} {l:List Std} (h:l.Pairwise fun x y=>f x≤f y) (nd:l.Nodup) (inj:∀ x∈l,∀ y∈l,f x=f y→x=y):(l.map f).Pairwise (·<·):=by
 rw [List.pairwise_map]
 refine List.pairwise_iff_getElem.mpr fun i j hi hj hij=>?_
 have h1:=List.pairwise_iff_getElem.mp h i j hi hj hij
 have h2:=List.pairwise_iff_getElem.mp (List.nodup_iff_pairwise_ne.mp nd) i j hi hj hij
 have h3:f l[i]≠f l[j]:=fun e=>h2 (inj _ (List.getElem_mem _) _ (List.getElem_mem _) e)
 omega
theorem zeX {f:Std→Int}:∀ {l m:List Std},(∀ x∈l,∀ y∈m,f x=f y→x=y)→l.map f=m.map f→l=m
 | [],[],_,_=>rfl
 | [],y::m,_,h=>nomatch h
 | x::l,[],_,h=>nomatch h
 | x::l,y::m,hi,h=>by
  obtain ⟨h1,h2⟩:=List.cons.inj h
  rw [hi x List.mem_cons_self y List.mem_cons_self h1,zeX (l:=l) (m:=m) (fun a ha b hb=>hi a (List.mem_cons_of_mem _ ha) b (List.mem_cons_of_mem _ hb)) h2]
def zbW (K:PySem.W.Frag):Sp:=fun vs H Q _=>∃ (w rl:Addr) (ts:List Addr) (m:Int) (rs:List zbb) (wk:Bool),vs=[.ref w,.str (kdW wk)]∧zeU H w rl ts m rs∧GW m rs∧m≤6∧∀ (l:Addr) (xs:List SAd) (H':Hp),zba H H'→H l=none→StL K H' l xs rs wk→Q (.ref l) H'
def zdf (K:PySem.W.Frag):TS :=
 (zaK (zbA (za8 zeq [] E0 (zab (zac 0) (zab (zac 1) zam))))
 (zdC (tCB (zhh K) (zab (za8 (zlj K) [] E0 (zab (za8 ziH [] E0 (zab (zac 0) zam)) (zab (zac 1) zam))) zam))))
theorem zgf {w rl:Addr} {ts:List Addr} {m:Int} {rs:List zbb} {wk:Bool} (W:zeU H w rl ts m rs) (G:GW m rs) (m6:m≤6) (q:∀ (l:Addr) (xs:List SAd) (H':Hp),zba H H'→H l=none→StL K H' l xs rs wk→Q (.ref l) H') :
  zdf K { nx:=fun _ H'=>Q .non H',rt:=Q } (L2.zbE ["web","kind"] [.ref w,.str (kdW wk)]) H:=by
 unfold zdf
 simp_all only [zac]
 have m1:=G.m1
 refine ⟨w,rl,ts,m,rs,wk,rfl,W,G,by omega,fun H1 s1=>?_⟩
 refine ⟨w,rl,ts,m,rs,rfl,W.same s1,G.l120,fun ld lk H2 s2 h2 L h20=>?_⟩
 obtain ⟨E,rfl,hE,lE,hv⟩:=zkj L G
 obtain ⟨n,rfl⟩:∃ n:Nat,m=n:=⟨m.toNat,by omega⟩
 refine ⟨wk,ld,E,n,rfl,h2,hE,by omega,by omega,lE,fun d kvs H3 s3 h30 D up=>?_⟩
 refine ⟨d,kvs,rfl,D.ds,by have:=D.len;omega,fun l hl=>?_⟩
 have s4:=zah hl (.lst (kvs.map fun x=>V.ref x.2.1))
 have s13:=(s1.trans s2).trans s3
 refine q l (kvs.map fun x=>(x.1,x.2.1)) _ (s13.trans s4) (s13.free hl) ⟨by rw [List.map_map];exact zad,fun x hx=>?_,fun s=>?_,?_,fun x hx=>?_,by rw [List.length_map];exact D.len⟩
 ·obtain ⟨y,hy,rfl⟩:=List.mem_map.mp hx
  exact zdZ (D.ds.ks y hy) s4
 ·rw [← znq hv s,← D.key s,List.map_map]
  exact List.mem_map
 ·rw [List.map_map]
  have:=zm9 up D.nd fun x hx y hy e=>by
   obtain ⟨a,ha,rfl⟩:=List.mem_map.mp hx
   obtain ⟨b,hb,rfl⟩:=List.mem_map.mp hy
   exact zfo (D.sm a ha) (D.sm b hb) e
  rw [List.map_map] at this
  exact this
 ·obtain ⟨y,hy,rfl⟩:=List.mem_map.mp hx
  exact D.sm y hy
theorem zgm:zaW ["web","kind"] ["web","kind"] (zas zdb):=⟨rfl,rfl,rfl,by decide +kernel,rfl,by decide +kernel,by decide +kernel⟩
theorem zf7 (T:Txt K mg a):zd2 P w K mg base CX0 6 a.f_standings a.d_standings ["web","kind"] (zbW K):=by
 have G_look_small:=zfB (P:=P) (w:=w) (base:=base) T
 have G_shortest_roads:=zdF (P:=P) (w:=w) (base:=base) T
 have G_steps_by_standing:=zcX (P:=P) (w:=w) (base:=base) T
 refine T.F_standings.ok zgm (fun vs H Q E h=>?_) (fun cdv A outer s H vs Q E hr h=>?_)
 ·obtain ⟨w',rl,ts,m,rs,wk,rfl,W,G,m6,q⟩:=h
  rfl
 obtain ⟨w',rl,ts,m,rs,wk,rfl,W,G,m6,q⟩:=h
 exact ⟨zdf K,(zae (zbu (zaT G_look_small (hr.mono (by decide)) rfl T.m_look_small T.F_look_small.kp T.b_look_small .nil zb7 (zaa (pv 0) (zaa (pv 1) zaf))))
 (zai (zbx (zcb (zfS rfl) rfl T.z_list zdz (zaa (zaT G_steps_by_standing (hr.mono (by decide)) rfl T.m_steps_by_standing T.F_steps_by_standing.kp T.b_steps_by_standing .nil zb7 (zaa (zaT G_shortest_roads (hr.mono (by decide)) rfl T.m_shortest_roads T.F_shortest_roads.kp T.b_shortest_roads .nil zb7 (zaa (pv 0) zaf)) (zaa (pv 1) zaf))) zaf))))),
  zgf W G m6 q⟩
def zlf (m:Int):List Int:=(List.range m.toNat).map fun k:Nat=>(k:Int)
theorem zhb {m x:Int}:x∈zlf m↔0≤x∧x<m:=by
 unfold zlf
 rw [List.mem_map]
 constructor
 ·rintro ⟨k,hk,rfl⟩
  have:=List.mem_range.mp hk
  omega
 ·rintro ⟨h0,h1⟩
  exact ⟨x.toNat,List.mem_range.mpr (by omega),by omega⟩
theorem zia {m:Int}:(zlf m).Nodup:=by
 unfold zlf
 refine List.nodup_iff_pairwise_ne.mpr (List.pairwise_map.mpr ((List.nodup_iff_pairwise_ne.mp List.nodup_range).imp fun h e=>h ?_))
 omega
theorem ziz {m:Int} (h:1≤m):zlf m=0::(List.range (m - 1).toNat).map fun k:Nat=>1+(k:Int):=by
 unfold zlf
 rw [show m.toNat=(m - 1).toNat+1 by omega,List.range_succ_eq_map,List.map_cons,List.map_map]
 refine congrArg (List.cons 0) (List.map_congr_left fun k _=>?_)
 simp only [Function.comp]
 omega
theorem zhD {α:Type} {l:List α} (nd:l.Nodup) {i j:Nat} {x y:α} (h1:l[i]?=some x) (h2:l[j]?=some y) (c:i<j):x≠y:=by
 obtain ⟨l1,e1⟩:=List.getElem?_eq_some_iff.mp h1
 obtain ⟨l2,e2⟩:=List.getElem?_eq_some_iff.mp h2
 rw [← e1,← e2]
 exact List.pairwise_iff_getElem.mp (List.nodup_iff_pairwise_ne.mp nd) i j l1 l2 c
theorem zjs {α:Type} {l:List α} (nd:l.Nodup) {i j:Nat} {x:α} (h1:l[i]?=some x) (h2:l[j]?=some x):i=j:=by
 rcases Nat.lt_trichotomy i j with c | c | c
 ·exact absurd rfl (zhD nd h1 h2 c)
 ·exact c
 ·exact absurd rfl (zhD nd h2 h1 c)
theorem at2 {x y:V} {r:Int} (h0:0≤r) (h1:r<2):∃ v,atI [x,y] r=some v∧(v=x∨v=y):=by
 have:r=0∨r=1:=by omega
 rcases this with rfl | rfl
 ·exact ⟨x,rfl,.inl rfl⟩
 ·exact ⟨y,rfl,.inr rfl⟩
def zmw (ls:List Int) (rs:List zbb) (n:Nat):Prop:=∀ k,1≤k→k≤n→∃ r∈rs,∃ j,j<k∧((ls[k]?=some r.1∧ls[j]?=some r.2.1)∨(ls[k]?=some r.2.1∧ls[j]?=some r.1))
theorem zmw.conn {ls:List Int} {rs:List zbb} {n:Nat} {m:Int} (h:zmw ls rs n) (hm:m=n+1) (hp:ls.Perm (zlf m)) (h0:ls[0]?=some 0):zm8 m rs:=by
 intro S s0 sc x x0 x1
 have hl:ls.length=n+1:=by
  rw [hp.length_eq]
  unfold zlf
  rw [List.length_map,List.length_range]
  omega
 have z:∀ (k:Nat) (y:Int),ls[k]?=some y→S y:=by
  intro k
  induction k using Nat.strongRecOn with
  | ind k ih =>
   intro y hy
   cases k with
   | zero =>
    rw [h0] at hy
    cases hy
    exact s0
   | succ k =>
    have lk:=(List.getElem?_eq_some_iff.mp hy).1
    obtain ⟨r,hr,j,hj,c⟩:=h (k+1) (by omega) (by omega)
    rcases c with ⟨c1,c2⟩ | ⟨c1,c2⟩
    ·rw [hy] at c1
     cases c1
     exact (sc r hr (.inr (ih j hj _ c2))).1
    ·rw [hy] at c1
     cases c1
     exact (sc r hr (.inl (ih j hj _ c2))).2
 have hx:x∈ls:=hp.mem_iff.mpr (zhb.mpr ⟨x0,x1⟩)
 obtain ⟨k,hk⟩:=List.getElem?_of_mem hx
 exact z k x hk
def zcY {α:Type} (l:List α) (k:Nat) (x:α):List α:=l.take k++x::l.drop k
theorem zgh {α β:Type} (f:α→β) (l:List α) (k:Nat) (x:α):(zcY l k x).map f=zcY (l.map f) k (f x):=by
 unfold zcY
 rw [List.map_append,List.map_cons,List.map_take,List.map_drop]
theorem zds {α:Type} {l:List α} {k:Nat} {x y:α}:y∈zcY l k x↔y=x∨y∈l:=by
 unfold zcY
 rw [List.mem_append,List.mem_cons]
 constructor
 ·rintro (h | h | h)
  ·exact .inr (List.mem_of_mem_take h)
  ·exact .inl h
  ·exact .inr (List.mem_of_mem_drop h)
 ·rintro (h | h)
  ·exact .inr (.inl h)
  ·rw [← List.take_append_drop k l] at h
   rcases List.mem_append.mp h with h | h
   ·exact .inl h
   ·exact .inr (.inr h)
theorem zeg {α:Type} {l:List α} {k:Nat} {x:α} (h:k≤l.length):(zcY l k x).length=l.length+1:=by
 unfold zcY
 rw [List.length_append,List.length_cons,List.length_take,List.length_drop]
 omega
theorem zha {α:Type} {l:List α} {k:Nat} {x:α} (h:k≤l.length) (i:Nat):(zcY l k x)[i]?=if i<k then l[i]? else if i=k then some x else l[i - 1]?:=by
 unfold zcY
 have lt:(l.take k).length=k:=by rw [List.length_take];omega
 by_cases c:i<k
 ·rw [if_pos c,List.getElem?_append_left (by omega),List.getElem?_take_of_lt c]
 ·rw [if_neg c,List.getElem?_append_right (by omega),lt]
  by_cases c2:i=k
  ·subst c2
   rw [if_pos rfl,Nat.sub_self]
   rfl
  ·rw [if_neg c2,show i - k=(i - k - 1)+1 by omega,List.getElem?_cons_succ,List.getElem?_drop]
   congr 1
   omega
theorem Tps.ins {α:Type} {f:α→List V} {H:Hp} {ts:List Addr} {bs:List α} {t:Addr} {b:α} {k:Nat} (h:Tps f H ts bs) (hk:k≤ts.length) (e:H t=some (.tup (f b))):Tps f H (zcY ts k t) (zcY bs k b):=by
 have hk':k≤bs.length:=by rw [← h.1];exact hk
 refine ⟨by rw [zeg hk,zeg hk',h.1],fun i x y e1 e2=>?_⟩
 rw [zha hk] at e1
 rw [zha hk'] at e2
 split at e1
 ·rename_i c
  rw [if_pos c] at e2
  exact h.2 i x y e1 e2
 ·rename_i c
  rw [if_neg c] at e2
  split at e1
  ·rename_i c2
   rw [if_pos c2] at e2
   cases e1
   cases e2
   exact e
  ·rename_i c2
   rw [if_neg c2] at e2
   exact h.2 _ x y e1 e2
theorem zhO {α:Type} (l:List α) (k:Nat) (x:α):(zcY l k x).Perm (x::l):=by
 unfold zcY
 refine List.perm_middle.trans ?_
 rw [List.take_append_drop]
def zjp (K:PySem.W.Frag):Sp:=fun vs H Q _=>∃ (s:Addr) (ns:List Int) (m:Int),vs=[.ref s,.int m]∧SqL K H s (ns.map V.int)∧0≤m∧m≤1000∧∀ (l:Addr) (ds:List Int) (H':Hp),zba H H'→H l=none→H' l=some (.lst (ds.map V.int))→(ds.length:Int)=m→(∀ d∈ds,0≤d∧d<2147483629)→Q (.ref l) H'
theorem zmJ:(0:Int)<5040∧(Int.natAbs 5040).log2<9000:=by decide +kernel
theorem znJ:(0:Int)<20∧(Int.natAbs 20).log2<9000:=by decide +kernel
theorem zdh {x y:Int} (h:0<y):0≤x.fmod y∧x.fmod y<y:=by
 rw [Int.fmod_eq_emod_of_nonneg x (Int.le_of_lt h)]
 exact ⟨Int.emod_nonneg x (by omega),Int.emod_lt_of_pos x h⟩
def zc5 (K:PySem.W.Frag):TS :=
 (zcv (za2 (tOp (rI0 fun i j=>.bl (decide (j≤i))) (zac 4) (tOp (rI zmX fun i j=>.int (i ^ j.toNat)) (tC (.int 10)) (tC (.int 18))))) (zaK (zbm (tOp (rI (fun _ j=>0<j∧j.natAbs.log2<9000) fun i j=>.int (i / j)) (zac 4) (tOp (rI zmX fun i j=>.int (i ^ j.toNat)) (tC (.int 10)) (tC (.int 18)))) (zag 4))
 (zaK (zdB (zg4 (zab (tOp (rI (fun _ j=>0<j) fun i j=>.int (i % j)) (zac 3) (tC (.int 20))) zam)) (zag 5)
 (zbm (tOp (rI (fun _ j=>0<j∧j.natAbs.log2<9000) fun i j=>.int (i / j)) (zac 4) (tC (.int 5040))) (zag 4)))
 (zbA (tBM K "list" zaU (zac 2) (zab (tOp (rI (fun _ j=>0<j) fun i j=>.int (i % j)) (zac 4) (tC (.int 5040))) zam))))) (zaK (zbm (tOp (rI (fun _ j=>0<j) fun i j=>.int (i % j)) (tOp (rI0 fun i j=>.int (i+j)) (zac 4) (tOp (rI IntMulOk fun i j=>.int (i*j)) (tC (.int 48271)) (tOp (rI0 fun i j=>.int (i+j)) (zac 3) (tC (.int 1))))) (tC (.int 2147483629))) (zag 6))
 (zaK (zbm (tOp (rI (fun _ j=>0<j) fun i j=>.int (i % j)) (tOp (rI0 fun i j=>.int (i+j)) (tOp (rI IntMulOk fun i j=>.int (i*j)) (zac 6) (zac 6)) (zac 3)) (tC (.int 2147483629))) (zag 6))
 (zbA (tBM K "list" zaU (zac 2) (zab (tOp (rI (fun _ j=>0<j) fun i j=>.int (i % j)) (tOp (rI IntMulOk fun i j=>.int (i*j)) (zac 6) (zac 6)) (tC (.int 2147483587))) zam))))))
theorem zaG (K:PySem.W.Frag) (D:zbY) (σ:St) (H:Hp):zc5 K D σ H=(zcv (za2 (tOp (rI0 fun i j=>.bl (decide (j≤i))) (zac 4) (tOp (rI zmX fun i j=>.int (i ^ j.toNat)) (tC (.int 10)) (tC (.int 18))))) (zaK (zbm (tOp (rI (fun _ j=>0<j∧j.natAbs.log2<9000) fun i j=>.int (i / j)) (zac 4) (tOp (rI zmX fun i j=>.int (i ^ j.toNat)) (tC (.int 10)) (tC (.int 18)))) (zag 4))
 (zaK (zdB (zg4 (zab (tOp (rI (fun _ j=>0<j) fun i j=>.int (i % j)) (zac 3) (tC (.int 20))) zam)) (zag 5)
 (zbm (tOp (rI (fun _ j=>0<j∧j.natAbs.log2<9000) fun i j=>.int (i / j)) (zac 4) (tC (.int 5040))) (zag 4)))
 (zbA (tBM K "list" zaU (zac 2) (zab (tOp (rI (fun _ j=>0<j) fun i j=>.int (i % j)) (zac 4) (tC (.int 5040))) zam))))) (zaK (zbm (tOp (rI (fun _ j=>0<j) fun i j=>.int (i % j)) (tOp (rI0 fun i j=>.int (i+j)) (zac 4) (tOp (rI IntMulOk fun i j=>.int (i*j)) (tC (.int 48271)) (tOp (rI0 fun i j=>.int (i+j)) (zac 3) (tC (.int 1))))) (tC (.int 2147483629))) (zag 6))
 (zaK (zbm (tOp (rI (fun _ j=>0<j) fun i j=>.int (i % j)) (tOp (rI0 fun i j=>.int (i+j)) (tOp (rI IntMulOk fun i j=>.int (i*j)) (zac 6) (zac 6)) (zac 3)) (tC (.int 2147483629))) (zag 6))
 (zbA (tBM K "list" zaU (zac 2) (zab (tOp (rI (fun _ j=>0<j) fun i j=>.int (i % j)) (tOp (rI IntMulOk fun i j=>.int (i*j)) (zac 6) (zac 6)) (tC (.int 2147483587))) zam)))))) D σ H:=rfl
def zc2 (K:PySem.W.Frag):TS :=
 (zcv (za2 (tOp (rI0 fun i j=>.bl (decide (j<i))) (tCB (fun xs H Q=>∃ p ys,xs=[.ref p]∧(SqL K H p ys∨SqT K H p ys)∧Q (.int ys.length) H) (zab (zac 0) zam)) (tC (.int 0)))) (zbm (tOp (zcs K) (zac 0) (tOp (rI (fun _ j=>j≠0) fun i j=>.int (i.fmod j)) (tOp (rI (fun _ j=>0<j∧j.natAbs.log2<9000) fun i j=>.int (i / j)) (zac 3) (tC (.int 20))) (tCB (fun xs H Q=>∃ i j,xs=[.int i,.int j]∧Q (.int (if j<i then j else i)) H) (zab (tC (.int 63)) (zab (tCB (fun xs H Q=>∃ p ys,xs=[.ref p]∧(SqL K H p ys∨SqT K H p ys)∧Q (.int ys.length) H) (zab (zac 0) zam)) zam))))) (zag 4)) zbp)
theorem zaE (K:PySem.W.Frag) (D:zbY) (σ:St) (H:Hp):zc2 K D σ H=(zcv (za2 (tOp (rI0 fun i j=>.bl (decide (j<i))) (tCB (fun xs H Q=>∃ p ys,xs=[.ref p]∧(SqL K H p ys∨SqT K H p ys)∧Q (.int ys.length) H) (zab (zac 0) zam)) (tC (.int 0)))) (zbm (tOp (zcs K) (zac 0) (tOp (rI (fun _ j=>j≠0) fun i j=>.int (i.fmod j)) (tOp (rI (fun _ j=>0<j∧j.natAbs.log2<9000) fun i j=>.int (i / j)) (zac 3) (tC (.int 20))) (tCB (fun xs H Q=>∃ i j,xs=[.int i,.int j]∧Q (.int (if j<i then j else i)) H) (zab (tC (.int 63)) (zab (tCB (fun xs H Q=>∃ p ys,xs=[.ref p]∧(SqL K H p ys∨SqT K H p ys)∧Q (.int ys.length) H) (zab (zac 0) zam)) zam))))) (zag 4)) zbp) D σ H:=rfl
def zcJ (K:PySem.W.Frag):TS :=
 (zaK (zbm (zes zam) (zag 2))
 (zaK (zdB (zg4 (zab (zac 1) zam)) (zag 3)
 (zaK (zbm (tC (.int 0)) (zag 4))
 (zaK (zlt (zc2 K))
 (zc5 K))))
 (zdC (zac 2))))
theorem zfu {s:Addr} {ns:List Int} {m:Int} (hS:SqL K H s (ns.map V.int)) (m0:0≤m) (m1:m≤1000)
  (q:∀ (l:Addr) (ds:List Int) (H':Hp),zba H H'→H l=none→H' l=some (.lst (ds.map V.int))→(ds.length:Int)=m→(∀ d∈ds,0≤d∧d<2147483629)→Q (.ref l) H') :
  zcJ K { nx:=fun _ H'=>Q .non H',rt:=Q } (L2.zbE ["_law_script","_law_many","_law_found","_law_k","_law_cell","_law_j","_law_number"] [.ref s,.int m]) H:=by
 unfold zcJ
 simp_all only [zaG,zaE,zac]
 refine ⟨by decide,fun l hl=>⟨by omega,by omega,?_⟩⟩
 refine zb9 (fun i σ H'=>∃ ds:List Int,zba H H'∧H' l=some (.lst (ds.map V.int))∧ds.length=i∧(∀ d∈ds,0≤d∧d<2147483629)∧∃ x1 x2 x3 x4,σ=[some (.ref s),some (.int m),some (.ref l),x1,x2,x3,x4]) ⟨[],zah hl _,zad,rfl,(fun d hd=>nomatch hd),_,_,_,_,rfl⟩ ?_ ?_
 ·rintro i σ H1 hi ⟨ds,s1,h1,ld,bd,x1,x2,x3,x4,rfl⟩
  simp_all only [zaG,zaE,zac]
  have put:∀ {r:Int} {y1 y2 y3 y4:Option V},0≤r→r<2147483629→∃ ds':List Int,zba H (L2.upd H1 l (.lst (ds.map V.int++[.int r])))∧L2.upd H1 l (.lst (ds.map V.int++[.int r])) l=some (.lst (ds'.map V.int))∧ds'.length=i+1∧(∀ d∈ds',0≤d∧d<2147483629)∧∃ x1 x2 x3 x4,[some (V.ref s),some (.int m),some (.ref l),y1,y2,y3,y4]=[some (V.ref s),some (.int m),some (.ref l),x1,x2,x3,x4]:=fun {r y1 y2 y3 y4} r0 r1=>⟨ds++[r],s1.put hl,by rw [List.map_append];exact zad,by rw [List.length_append,ld];rfl,fun d hd=>by
   rcases List.mem_append.mp hd with h | h
   ·exact bd d h
   ·rw [List.mem_singleton.mp h];exact ⟨r0,r1⟩,_,_,_,_,rfl⟩
  have sz:(ds.map V.int).length<sizeLine:=zcc (by rw [List.length_map];omega)
  refine ⟨fun σ H'=>H'=H1∧∃ c,σ=[some (.ref s),some (.int m),some (.ref l),some (.int i),some (.int c),x3,x4],?_,?_⟩
  ·simp_all only [zaG,zaE,zac]
   refine ⟨_,.inl (s1.seq hS),zci (fun c=>?_) fun c=>by omega⟩
   have pos:0<(if ((ns.map V.int).length:Int)<63 then ((ns.map V.int).length:Int) else 63):=by split <;> omega
   have le:(if ((ns.map V.int).length:Int)<63 then ((ns.map V.int).length:Int) else 63)≤((ns.map V.int).length:Int):=by split <;> omega
   obtain ⟨k0,k1⟩:=zdh (x:=(0+(i:Int)) / 20) pos
   rw [List.length_map] at le
   obtain ⟨v,hv,_⟩:=zhg (ns:=ns) k0 (by rw [List.length_map] at k1 ⊢;omega)
   exact ⟨znJ.1,znJ.2,_,.inl (s1.seq hS),by omega,_,s1.seq hS,_,hv,by omega,_,rfl⟩
  ·rintro σ H' ⟨rfl,c,rfl⟩
   simp_all only [zaG,zaE,zac]
   refine ⟨znm,zci (fun c18=>⟨znm,logA.1,logA.2,by decide,by omega,by omega,?_⟩) fun c18=>?_⟩
   ·refine zb9 (fun j σ H2=>H2=H'∧∃ c y1 y2,σ=[some (.ref s),some (.int m),some (.ref l),some (.int i),some (.int c),y1,y2]) ⟨rfl,_,_,_,rfl⟩ ?_ ?_
    ·rintro j σ H2 hj ⟨rfl,c,y1,y2,rfl⟩
     simp_all only [zaG,zaE,zac]
     exact zmJ
    ·rintro σ H2 ⟨rfl,c,y1,y2,rfl⟩
     simp_all only [zaG,zaE,zac]
     have:=zdh (x:=c) (y:=5040) (by decide)
     rw [Int.fmod_eq_emod_of_nonneg c (by decide)] at this
     obtain ⟨ds',e1,e2,e3,e4,_⟩:=put (r:=c % 5040) (y1:=none) (y2:=none) (y3:=none) (y4:=none) this.1 (by omega)
     exact ⟨.inl ⟨rfl,_,SqL.of h1⟩,by decide,_,h1,sz,e1,ds',e2,e3,e4⟩
   ·have b1:=zdh (x:=c+48271*((i:Int)+1)) (y:=2147483629) (by decide)
    rw [Int.fmod_eq_emod_of_nonneg _ (by decide)] at b1
    generalize (c+48271*((i:Int)+1)) % 2147483629=x at b1 ⊢
    have b2:=zdh (x:=x*x+i) (y:=2147483629) (by decide)
    rw [Int.fmod_eq_emod_of_nonneg _ (by decide)] at b2
    generalize (x*x+(i:Int)) % 2147483629=y at b2 ⊢
    have b3:=zdh (x:=y*y) (y:=2147483587) (by decide)
    rw [Int.fmod_eq_emod_of_nonneg _ (by decide)] at b3
    generalize (y*y) % 2147483587=z at b3 ⊢
    obtain ⟨ds',e1,e2,e3,e4,_⟩:=put (r:=z) (y1:=none) (y2:=none) (y3:=none) (y4:=none) b3.1 (by omega)
    exact ⟨mulR (by omega) (by omega),by decide,mulR (by omega) (by omega),by decide,.inl ⟨rfl,_,SqL.of h1⟩,mulR (by omega) (by omega),by decide,_,h1,sz,e1,ds',e2,e3,e4⟩
 ·rintro σ H1 ⟨ds,s1,h1,ld,bd,x1,x2,x3,x4,rfl⟩
  simp_all only [zaG,zaE,zac]
  exact q l ds H1 s1 hl h1 (by omega) bd
theorem zaH:zaW ["_law_script","_law_many","_law_found","_law_k","_law_cell","_law_j","_law_number"] ["_law_script","_law_many"] (zas zcE):=⟨rfl,rfl,rfl,by decide +kernel,rfl,by decide +kernel,by decide +kernel⟩
theorem zfz (T:Txt K mg a):zd2 P w K mg base CX0 1 a.f__law_draws a.d__law_draws ["_law_script","_law_many"] (zjp K):=by
 refine T.F__law_draws.ok zaH (fun vs H Q E h=>?_) (fun cdv A outer s H vs Q E hr h=>?_)
 ·obtain ⟨s,ns,m,rfl,hS,m0,m1,q⟩:=h
  rfl
 obtain ⟨s,ns,m,rfl,hS,m0,m1,q⟩:=h
 exact ⟨zcJ K,(zae (zaD (i:=2) zaH.nd rfl (Or.inl rfl) (zb2 zaf))
 (zae (zbU PassesOwn.never rfl (zeH rfl T.z_range (zaa (pv 1) zaf)) (zan (i:=3) zaH.nd rfl (Or.inl rfl))
 (zae (zaD (i:=4) zaH.nd rfl (Or.inl rfl) zak)
 (zae (ze0 (zcr (zaS zlO (zat zaQ rfl T.z_len PySem.boot_len (zaa (pv 0) zaf)) zak (zbq _)) (zai (zaD (i:=4) zaH.nd rfl (Or.inl rfl) (zbG zbi (pv 0) (zav zc9 (zav zcp (pv 3) zak) (zat (zen rfl) rfl T.z_min PyProof.Rows.boot_min (zaa zak (zaa (zat zaQ rfl T.z_len PySem.boot_len (zaa (pv 0) zaf)) zaf)))) (fun _ _=>rfl)))) zbe))
 (zai (zcr (zaS op_ge (pv 4) (zav zll zak zak) (zbq _)) (zae (zaD (i:=4) zaH.nd rfl (Or.inl rfl) (zav zcp (pv 4) (zav zll zak zak)))
 (zae (zbU PassesOwn.never rfl (zeH rfl T.z_range (zaa (zav zdk (pv 3) zak) zaf)) (zan (i:=5) zaH.nd rfl (Or.inl rfl))
 (zai (zaD (i:=4) zaH.nd rfl (Or.inl rfl) (zav zcp (pv 4) zak))))
 (zai (zbu (zeO PySem.F.plainAttrs_list PySem.F.slot_list_append PySem.F.type_list_append zbN (pv 2) (zaa (zav zdk (pv 4) zak) zaf)))))) (zae (zaD (i:=6) zaH.nd rfl (Or.inl rfl) (zav zdk (zav zbg (pv 4) (zav zfm zak (zav zbg (pv 3) zak))) zak))
 (zae (zaD (i:=6) zaH.nd rfl (Or.inl rfl) (zav zdk (zav zbg (zav zfm (pv 6) (pv 6)) (pv 3)) zak))
 (zai (zbu (zeO PySem.F.plainAttrs_list PySem.F.slot_list_append PySem.F.type_list_append zbN (pv 2) (zaa (zav zdk (zav zfm (pv 6) (pv 6)) zak) zaf)))))))))))
 (zai (zbx (pv 2))))),
  zfu hS m0 m1 q⟩
def zne:Sp:=fun vs H Q _=>∃ (dl:Addr) (ds:List Int) (o z:Int),vs=[.ref dl,.int o,.int z]∧H dl=some (.lst (ds.map V.int))∧0≤o∧o+16≤(ds.length:Int)∧1≤z∧z≤7∧(∀ d∈ds,0≤d∧d<2147483629)∧∀ (w rl:Addr) (ts:List Addr) (m:Int) (rs:List zbb) (H':Hp),zba H H'→zeU H' w rl ts m rs→GW m rs→m≤z→rs.length≤20→(∀ r∈rs,r.2.2≤12)→Q (.ref w) H'
theorem zkB:(0:Int)<16∧(Int.natAbs 16).log2<9000:=by decide +kernel
theorem zlw:(0:Int)<256∧(Int.natAbs 256).log2<9000:=by decide +kernel
theorem Tps.tup {α:Type} {f:α→List V} {H H':Hp} {ts:List Addr} {bs:List α} (h:Tps f H ts bs) (s:∀ (x:Addr) (u:List V),H x=some (.tup u)→H' x=some (.tup u)):Tps f H' ts bs:=⟨h.1,fun i t b e1 e2=>s _ _ (h.2 i t b e1 e2)⟩
def Jn (rs:List zbb) (n:Nat):Prop:=∀ k:Nat,1≤k→k≤n→∃ r∈rs,∃ j:Nat,j<k∧((r.1=k∧r.2.1=j)∨(r.1=j∧r.2.1=k))
structure WS (H0 H:Hp) (rl:Addr) (ts:List Addr) (rs:List zbb) (m:Int) (n:Nat):Prop where
 s:zba H0 H
 h:H rl=some (.lst (ts.map V.ref))
 t:Tps rdv H ts rs
 gr:∀ r∈rs,GR m r∧r.2.2≤12
 jn:Jn rs n
theorem WS.add {H0 H1 H2:Hp} {rl t:Addr} {ts:List Addr} {rs:List zbb} {m:Int} {n:Nat} {r:zbb} (W:WS H0 H1 rl ts rs m n) (h0:H0 rl=none) (s:zba H1 H2) (e:H2 t=some (.tup (rdv r))) (g:GR m r) (g12:r.2.2≤12):WS H0 (L2.upd H2 rl (.lst (ts.map V.ref++[.ref t]))) rl (ts++[t]) (rs++[r]) m n:=by
 have h2:=s _ _ W.h
 have tk:∀ (x:Addr) (u:List V),H2 x=some (.tup u)→L2.upd H2 rl (.lst (ts.map V.ref++[.ref t])) x=some (.tup u):=fun x u hx=>by rw [zaj (zbZ hx h2 (fun z=>nomatch z))];exact hx
 refine ⟨(W.s.trans s).put h0,by rw [List.map_append];exact zad,(W.t.same s).put tk (tk _ _ e),fun x hx=>?_,fun k k1 k2=>?_⟩
 ·rcases List.mem_append.mp hx with h | h
  ·exact W.gr x h
  ·rw [List.mem_singleton.mp h];exact ⟨g,g12⟩
 ·obtain ⟨x,hx,c⟩:=W.jn k k1 k2
  exact ⟨x,List.mem_append_left _ hx,c⟩
theorem WS.ins {H0 H1 H2:Hp} {rl t:Addr} {ts:List Addr} {rs:List zbb} {m:Int} {n:Nat} {r:zbb} (W:WS H0 H1 rl ts rs m n) (h0:H0 rl=none) (s:zba H1 H2) (e:H2 t=some (.tup (rdv r))) (g:GR m r) (g12:r.2.2≤12) {k:Nat} (hk:k≤ts.length):WS H0 (L2.upd H2 rl (.lst ((ts.map V.ref).take k++.ref t::(ts.map V.ref).drop k))) rl (zcY ts k t) (zcY rs k r) m n:=by
 have h2:=s _ _ W.h
 have tk:∀ (x:Addr) (u:List V),H2 x=some (.tup u)→L2.upd H2 rl (.lst ((ts.map V.ref).take k++.ref t::(ts.map V.ref).drop k)) x=some (.tup u):=fun x u hx=>by rw [zaj (zbZ hx h2 (fun z=>nomatch z))];exact hx
 refine ⟨(W.s.trans s).put h0,by rw [zgh];exact zad,((W.t.same s).tup tk).ins hk (tk _ _ e),fun x hx=>?_,fun k k1 k2=>?_⟩
 ·rcases zds.mp hx with h | h
  ·rw [h];exact ⟨g,g12⟩
  ·exact W.gr x h
 ·obtain ⟨x,hx,c⟩:=W.jn k k1 k2
  exact ⟨x,zds.mpr (.inr hx),c⟩
def zcz (K:PySem.W.Frag):TS :=
 (zaK (zbm (tOp (rI (fun _ j=>j≠0∧j.natAbs.log2<9000) fun i j=>.int (i.fdiv j)) (tOp (zcs K) (zac 0) (tOp (rI0 fun i j=>.int (i+j)) (zac 1) (tC (.int 15)))) (tOp (rI0 fun i j=>.int (i+j)) (tC (.int 1)) (tCB (fun xs H Q=>∃ p ys,xs=[.ref p]∧(SqL K H p ys∨SqT K H p ys)∧Q (.int ys.length) H) (zab (zac 11) zam)))) (zag 14))
 (zbA (tBM K "list" zdQ (zac 11) (zab (tOp (rI (fun _ j=>j≠0) fun i j=>.int (i.fmod j)) (zac 14) (tOp (rI0 fun i j=>.int (i+j)) (tCB (fun xs H Q=>∃ p ys,xs=[.ref p]∧(SqL K H p ys∨SqT K H p ys)∧Q (.int ys.length) H) (zab (zac 11) zam)) (tC (.int 1)))) (zab (zcj (zab (tOp (zcs K) (zac 10) (zac 12)) (zab (tOp (zcs K) (zac 10) (zac 13)) (zab (zac 7) zam)))) zam)))))
theorem zaB (K:PySem.W.Frag) (D:zbY) (σ:St) (H:Hp):zcz K D σ H=(zaK (zbm (tOp (rI (fun _ j=>j≠0∧j.natAbs.log2<9000) fun i j=>.int (i.fdiv j)) (tOp (zcs K) (zac 0) (tOp (rI0 fun i j=>.int (i+j)) (zac 1) (tC (.int 15)))) (tOp (rI0 fun i j=>.int (i+j)) (tC (.int 1)) (tCB (fun xs H Q=>∃ p ys,xs=[.ref p]∧(SqL K H p ys∨SqT K H p ys)∧Q (.int ys.length) H) (zab (zac 11) zam)))) (zag 14))
 (zbA (tBM K "list" zdQ (zac 11) (zab (tOp (rI (fun _ j=>j≠0) fun i j=>.int (i.fmod j)) (zac 14) (tOp (rI0 fun i j=>.int (i+j)) (tCB (fun xs H Q=>∃ p ys,xs=[.ref p]∧(SqL K H p ys∨SqT K H p ys)∧Q (.int ys.length) H) (zab (zac 11) zam)) (tC (.int 1)))) (zab (zcj (zab (tOp (zcs K) (zac 10) (zac 12)) (zab (tOp (zcs K) (zac 10) (zac 13)) (zab (zac 7) zam)))) zam))))) D σ H:=rfl
def zcy (K:PySem.W.Frag):TS :=
 (zbA (tBM K "list" zdQ (zac 10) (zab (tOp (rI (fun _ j=>j≠0) fun i j=>.int (i.fmod j)) (tOp (rI (fun _ j=>j≠0∧j.natAbs.log2<9000) fun i j=>.int (i.fdiv j)) (tOp (zcs K) (zac 0) (tOp (rI0 fun i j=>.int (i+j)) (zac 1) (tC (.int 14)))) (tOp (rI0 fun i j=>.int (i+j)) (tC (.int 1)) (tOp (rI IntMulOk fun i j=>.int (i*j)) (tC (.int 2)) (zac 8)))) (tOp (rI0 fun i j=>.int (i+j)) (tCB (fun xs H Q=>∃ p ys,xs=[.ref p]∧(SqL K H p ys∨SqT K H p ys)∧Q (.int ys.length) H) (zab (zac 10) zam)) (tC (.int 1)))) (zab (zac 8) zam))))
theorem zaw (K:PySem.W.Frag) (D:zbY) (σ:St) (H:Hp):zcy K D σ H=(zbA (tBM K "list" zdQ (zac 10) (zab (tOp (rI (fun _ j=>j≠0) fun i j=>.int (i.fmod j)) (tOp (rI (fun _ j=>j≠0∧j.natAbs.log2<9000) fun i j=>.int (i.fdiv j)) (tOp (zcs K) (zac 0) (tOp (rI0 fun i j=>.int (i+j)) (zac 1) (tC (.int 14)))) (tOp (rI0 fun i j=>.int (i+j)) (tC (.int 1)) (tOp (rI IntMulOk fun i j=>.int (i*j)) (tC (.int 2)) (zac 8)))) (tOp (rI0 fun i j=>.int (i+j)) (tCB (fun xs H Q=>∃ p ys,xs=[.ref p]∧(SqL K H p ys∨SqT K H p ys)∧Q (.int ys.length) H) (zab (zac 10) zam)) (tC (.int 1)))) (zab (zac 8) zam)))) D σ H:=rfl
def zcH (K:PySem.W.Frag):TS :=
 (zaK (zbm (tOp rCat (zes (zab (tC (.int 0)) zam)) (zac 10)) (zag 10))
 (zaK (zbm (zes zam) (zag 11))
 (zaK (zdB (zcd K (zac 4)) (zd4 K 3 (zau (zag 12) (zau (zag 13) (zau (zag 7) zdW))))
 (zcz K))
 (zdC (zcj (zab (zac 3) (zab (zac 11) zam)))))))
theorem zaC (K:PySem.W.Frag) (D:zbY) (σ:St) (H:Hp):zcH K D σ H=(zaK (zbm (tOp rCat (zes (zab (tC (.int 0)) zam)) (zac 10)) (zag 10))
 (zaK (zbm (zes zam) (zag 11))
 (zaK (zdB (zcd K (zac 4)) (zd4 K 3 (zau (zag 12) (zau (zag 13) (zau (zag 7) zdW))))
 (zcz K))
 (zdC (zcj (zab (zac 3) (zab (zac 11) zam))))))) D σ H:=rfl
def zcF (K:PySem.W.Frag):TS :=
 (zaK (zbm (tOp (rI (fun _ j=>j≠0) fun i j=>.int (i.fmod j)) (tOp (zcs K) (zac 0) (tOp (rI0 fun i j=>.int (i+j)) (tOp (rI0 fun i j=>.int (i+j)) (zac 1) (tC (.int 9))) (zac 8))) (zac 3)) (zag 9))
 (zaK (zbm (tOp (rI (fun _ j=>j≠0) fun i j=>.int (i.fmod j)) (tOp (rI (fun _ j=>0<j∧j.natAbs.log2<9000) fun i j=>.int (i / j)) (tOp (zcs K) (zac 0) (tOp (rI0 fun i j=>.int (i+j)) (tOp (rI0 fun i j=>.int (i+j)) (zac 1) (tC (.int 9))) (zac 8))) (tC (.int 16))) (zac 3)) (zag 6))
 (zcv (za2 (tOp rNe (zac 9) (zac 6))) (zbA (tBM K "list" zaU (zac 4) (zab (zcj (zab (zac 9) (zab (zac 6) (zab (tOp (rI0 fun i j=>.int (i+j)) (tC (.int 1)) (tOp (rI (fun _ j=>0<j) fun i j=>.int (i % j)) (tOp (rI (fun _ j=>0<j∧j.natAbs.log2<9000) fun i j=>.int (i / j)) (tOp (zcs K) (zac 0) (tOp (rI0 fun i j=>.int (i+j)) (tOp (rI0 fun i j=>.int (i+j)) (zac 1) (tC (.int 9))) (zac 8))) (tC (.int 256))) (tC (.int 12)))) zam)))) zam))) zbp)))
theorem zay (K:PySem.W.Frag) (D:zbY) (σ:St) (H:Hp):zcF K D σ H=(zaK (zbm (tOp (rI (fun _ j=>j≠0) fun i j=>.int (i.fmod j)) (tOp (zcs K) (zac 0) (tOp (rI0 fun i j=>.int (i+j)) (tOp (rI0 fun i j=>.int (i+j)) (zac 1) (tC (.int 9))) (zac 8))) (zac 3)) (zag 9))
 (zaK (zbm (tOp (rI (fun _ j=>j≠0) fun i j=>.int (i.fmod j)) (tOp (rI (fun _ j=>0<j∧j.natAbs.log2<9000) fun i j=>.int (i / j)) (tOp (zcs K) (zac 0) (tOp (rI0 fun i j=>.int (i+j)) (tOp (rI0 fun i j=>.int (i+j)) (zac 1) (tC (.int 9))) (zac 8))) (tC (.int 16))) (zac 3)) (zag 6))
 (zcv (za2 (tOp rNe (zac 9) (zac 6))) (zbA (tBM K "list" zaU (zac 4) (zab (zcj (zab (zac 9) (zab (zac 6) (zab (tOp (rI0 fun i j=>.int (i+j)) (tC (.int 1)) (tOp (rI (fun _ j=>0<j) fun i j=>.int (i % j)) (tOp (rI (fun _ j=>0<j∧j.natAbs.log2<9000) fun i j=>.int (i / j)) (tOp (zcs K) (zac 0) (tOp (rI0 fun i j=>.int (i+j)) (tOp (rI0 fun i j=>.int (i+j)) (zac 1) (tC (.int 9))) (zac 8))) (tC (.int 256))) (tC (.int 12)))) zam)))) zam))) zbp))) D σ H:=rfl
def zcw (K:PySem.W.Frag):TS :=
 (zaK (zbm (zes zam) (zag 10))
 (zaK (zdB (zjP (zab (tC (.int 1)) (zab (zac 3) zam))) (zag 8)
 (zcy K))
 (zcH K)))
theorem zaz (K:PySem.W.Frag) (D:zbY) (σ:St) (H:Hp):zcw K D σ H=(zaK (zbm (zes zam) (zag 10))
 (zaK (zdB (zjP (zab (tC (.int 1)) (zab (zac 3) zam))) (zag 8)
 (zcy K))
 (zcH K))) D σ H:=rfl
def zdX (K:PySem.W.Frag):TS :=
 (zaK (zbm (tOp (rI (fun _ j=>j≠0) fun i j=>.int (i.fmod j)) (tOp (zcs K) (zac 0) (tOp (rI0 fun i j=>.int (i+j)) (zac 1) (zac 5))) (zac 5)) (zag 6))
 (zaK (zbm (tOp (rI0 fun i j=>.int (i+j)) (tC (.int 1)) (tOp (rI (fun _ j=>0<j) fun i j=>.int (i % j)) (tOp (rI (fun _ j=>0<j∧j.natAbs.log2<9000) fun i j=>.int (i / j)) (tOp (zcs K) (zac 0) (tOp (rI0 fun i j=>.int (i+j)) (zac 1) (zac 5))) (tC (.int 16))) (tC (.int 9)))) (zag 7))
 (zbA (tBM K "list" zaU (zac 4) (zab (tOp (zcs K) (zes (zab (zcj (zab (zac 6) (zab (zac 5) (zab (zac 7) zam)))) (zab (zcj (zab (zac 5) (zab (zac 6) (zab (zac 7) zam)))) zam))) (tOp (rI (fun _ j=>0<j) fun i j=>.int (i % j)) (tOp (rI (fun _ j=>0<j∧j.natAbs.log2<9000) fun i j=>.int (i / j)) (tOp (zcs K) (zac 0) (tOp (rI0 fun i j=>.int (i+j)) (zac 1) (zac 5))) (tC (.int 256))) (tC (.int 2)))) zam)))))
theorem zax (K:PySem.W.Frag) (D:zbY) (σ:St) (H:Hp):zdX K D σ H=(zaK (zbm (tOp (rI (fun _ j=>j≠0) fun i j=>.int (i.fmod j)) (tOp (zcs K) (zac 0) (tOp (rI0 fun i j=>.int (i+j)) (zac 1) (zac 5))) (zac 5)) (zag 6))
 (zaK (zbm (tOp (rI0 fun i j=>.int (i+j)) (tC (.int 1)) (tOp (rI (fun _ j=>0<j) fun i j=>.int (i % j)) (tOp (rI (fun _ j=>0<j∧j.natAbs.log2<9000) fun i j=>.int (i / j)) (tOp (zcs K) (zac 0) (tOp (rI0 fun i j=>.int (i+j)) (zac 1) (zac 5))) (tC (.int 16))) (tC (.int 9)))) (zag 7))
 (zbA (tBM K "list" zaU (zac 4) (zab (tOp (zcs K) (zes (zab (zcj (zab (zac 6) (zab (zac 5) (zab (zac 7) zam)))) (zab (zcj (zab (zac 5) (zab (zac 6) (zab (zac 7) zam)))) zam))) (tOp (rI (fun _ j=>0<j) fun i j=>.int (i % j)) (tOp (rI (fun _ j=>0<j∧j.natAbs.log2<9000) fun i j=>.int (i / j)) (tOp (zcs K) (zac 0) (tOp (rI0 fun i j=>.int (i+j)) (zac 1) (zac 5))) (tC (.int 256))) (tC (.int 2)))) zam))))) D σ H:=rfl
def zd0 (K:PySem.W.Frag):TS :=
 (zaK (zdB (zg4 (zab (tOp (rI (fun _ j=>0<j) fun i j=>.int (i % j)) (tOp (zcs K) (zac 0) (tOp (rI0 fun i j=>.int (i+j)) (zac 1) (tC (.int 8)))) (tC (.int 5))) zam)) (zag 8)
 (zcF K))
 (zcw K))
theorem zaA (K:PySem.W.Frag) (D:zbY) (σ:St) (H:Hp):zd0 K D σ H=(zaK (zdB (zg4 (zab (tOp (rI (fun _ j=>0<j) fun i j=>.int (i % j)) (tOp (zcs K) (zac 0) (tOp (rI0 fun i j=>.int (i+j)) (zac 1) (tC (.int 8)))) (tC (.int 5))) zam)) (zag 8)
 (zcF K))
 (zcw K)) D σ H:=rfl
def zdL (K:PySem.W.Frag):TS :=
 (zaK (zbm (tOp (rI0 fun i j=>.int (i+j)) (tC (.int 1)) (tOp (rI (fun _ j=>j≠0) fun i j=>.int (i.fmod j)) (tOp (zcs K) (zac 0) (zac 1)) (zac 2))) (zag 3))
 (zaK (zbm (zes zam) (zag 4))
 (zaK (zdB (zjP (zab (tC (.int 1)) (zab (zac 3) zam))) (zag 5)
 (zdX K))
 (zd0 K))))
theorem zgE {dl:Addr} {ds:List Int} {o z:Int} (hd:H dl=some (.lst (ds.map V.int))) (o0:0≤o) (ol:o+16≤(ds.length:Int)) (z1:1≤z) (z7:z≤7) (bd:∀ d∈ds,0≤d∧d<2147483629)
  (q:∀ (w rl:Addr) (ts:List Addr) (m:Int) (rs:List zbb) (H':Hp),zba H H'→zeU H' w rl ts m rs→GW m rs→m≤z→rs.length≤20→(∀ r∈rs,r.2.2≤12)→Q (.ref w) H') :
  zdL K { nx:=fun _ H'=>Q .non H',rt:=Q } (L2.zbE ["_law_draws_here","_law_at","_law_most","_law_many","_law_roads_here","_law_place","_law_other","_law_length","_law_k","_law_one","_law_names","_law_found","_law_a","_law_b","_law_spot"] [.ref dl,.int o,.int z]) H:=by
 have dr:∀ j:Int,0≤j→j<16→∃ v:Int,atI (ds.map V.int) (o+j)=some (.int v)∧0≤v∧v<2147483629:=fun j j0 j1=>by
  obtain ⟨v,h1,h2⟩:=zhg (ns:=ds) (k:=o+j) (by omega) (by omega)
  exact ⟨v,h1,bd v (zca h2)⟩
 unfold zdL
 simp_all only [zaB,zaw,zaC,zay,zaz,zax,zaA,zac]
 obtain ⟨v0,hv0,v00,v01⟩:=dr 0 (by omega) (by omega)
 rw [Int.add_zero] at hv0
 obtain ⟨p0,p1⟩:=zdh (x:=v0) (y:=z) (by omega)
 refine ⟨_,SqL.of hd,_,hv0,_,rfl,by omega,?_⟩
 generalize hm:1+v0.fmod z=m
 refine ⟨by decide,fun rl hrl=>?_⟩
 have s0:=zah hrl (.lst [])
 refine ⟨by decide,by decide,by omega,by omega,?_⟩
 refine zb9 (fun i σ H'=>∃ ts rs,WS H H' rl ts rs m i∧rs.length=i∧∃ x1 x2 x3,σ=[some (.ref dl),some (.int o),some (.int z),some (.int m),some (.ref rl),x1,x2,x3,none,none,none,none,none,none,none]) ⟨[],[],⟨s0,zad,.nil,(fun r h=>nomatch h),fun k k1 k2=>by omega⟩,rfl,_,_,_,rfl⟩ ?_ ?_
 ·rintro i σ H1 hi ⟨ts,rs,W,lr,x1,x2,x3,rfl⟩
  simp_all only [zaB,zaw,zaC,zay,zaz,zax,zaA,zac]
  obtain ⟨v,hv,v0,v1⟩:=dr (1+(i:Int)) (by omega) (by omega)
  have hd1:=W.s _ _ hd
  refine ⟨_,SqL.of hd1,_,hv,_,rfl,by omega,_,SqL.of hd1,_,hv,_,rfl,zkB.1,zkB.2,by decide,.inl ⟨rfl,_,SqL.of W.h⟩,by decide,fun pa hpa=>⟨by decide,fun pb hpb=>⟨by decide,fun pl hpl=>?_⟩⟩⟩
  obtain ⟨a0,a1⟩:=zdh (x:=v) (y:=1+(i:Int)) (by omega)
  obtain ⟨l0,l1⟩:=zdh (x:=v / 16) (y:=9) (by decide)
  rw [Int.fmod_eq_emod_of_nonneg _ (by decide)] at l0 l1
  obtain ⟨b0,b1⟩:=zdh (x:=v / 256) (y:=2) (by decide)
  rw [Int.fmod_eq_emod_of_nonneg _ (by decide)] at b0 b1
  generalize v.fmod (1+(i:Int))=x at a0 a1 hpa hpb hpl ⊢
  generalize v / 16 % 9=le at l0 l1 hpa hpb hpl ⊢
  obtain ⟨n,rfl⟩:∃ n:Nat,x=n:=⟨x.toNat,by omega⟩
  have sa:=zah hpa (.tup [.int n,.int (1+(i:Int)),.int (1+le)])
  have ea:L2.upd H1 pa (.tup [.int n,.int (1+(i:Int)),.int (1+le)]) pa=_:=zad
  generalize L2.upd H1 pa (.tup [.int n,.int (1+(i:Int)),.int (1+le)])=G1 at sa ea hpb hpl ⊢
  have sb:=zah hpb (.tup [.int (1+(i:Int)),.int n,.int (1+le)])
  have eb:L2.upd G1 pb (.tup [.int (1+(i:Int)),.int n,.int (1+le)]) pb=_:=zad
  generalize L2.upd G1 pb (.tup [.int (1+(i:Int)),.int n,.int (1+le)])=G2 at sb eb hpl ⊢
  have sc:=zah hpl (.lst [.ref pa,.ref pb])
  have ec:L2.upd G2 pl (.lst [.ref pa,.ref pb]) pl=_:=zad
  generalize L2.upd G2 pl (.lst [.ref pa,.ref pb])=G3 at sc ec ⊢
  have s3:=(sa.trans sb).trans sc
  refine ⟨_,SqL.of (s3 _ _ hd1),_,hv,_,rfl,by decide,by decide,by decide,?_⟩
  obtain ⟨y,hy,hc⟩:=at2 (x:=V.ref pa) (y:=V.ref pb) b0 b1
  refine ⟨_,SqL.of ec,_,hy,?_⟩
  have lt:ts.length=i:=W.t.1.trans lr
  have fin:∀ (t:Addr) (r:zbb),y=.ref t→G3 t=some (.tup (rdv r))→GR m r→r.2.2≤12→((r.1=((i+1:Nat):Int)∧r.2.1=n)∨(r.1=n∧r.2.1=((i+1:Nat):Int)))→WS H (L2.upd G3 rl (.lst (ts.map V.ref++[.ref t]))) rl (ts++[t]) (rs++[r]) m (i+1):=fun t r e1 e2 g g12 c=>by
   have A:=W.add hrl s3 e2 g g12
   refine ⟨A.s,A.h,A.t,A.gr,fun k k1 k2=>?_⟩
   by_cases ck:k≤i
   ·exact A.jn k k1 ck
   ·have:k=i+1:=by omega
    subst this
    exact ⟨r,List.mem_append_right _ (List.mem_singleton.mpr rfl),n,by omega,c⟩
  have szr:(ts.map V.ref).length<sizeLine:=zcc (by rw [List.length_map];omega)
  rcases hc with rfl | rfl
  ·exact ⟨_,s3 _ _ W.h,szr,_,_,fin pa (n,1+i,1+le) rfl (sc _ _ (sb _ _ ea)) (by unfold GR;dsimp only;omega) (by dsimp only;omega) (.inr ⟨rfl,by dsimp only;omega⟩),by rw [List.length_append,lr];rfl⟩
  ·exact ⟨_,s3 _ _ W.h,szr,_,_,fin pb (1+i,n,1+le) rfl (sc _ _ eb) (by unfold GR;dsimp only;omega) (by dsimp only;omega) (.inl ⟨by dsimp only;omega,rfl⟩),by rw [List.length_append,lr];rfl⟩
 ·rintro σ H1 ⟨ts,rs,W,lr,x1,x2,x3,rfl⟩
  simp_all only [zaB,zaw,zaC,zay,zaz,zax,zaA,zac]
  obtain ⟨v,hv,v0,v1⟩:=dr 8 (by omega) (by omega)
  obtain ⟨c0,c1⟩:=zdh (x:=v) (y:=5) (by decide)
  rw [Int.fmod_eq_emod_of_nonneg _ (by decide)] at c0 c1
  refine ⟨_,SqL.of (W.s _ _ hd),_,hv,_,rfl,by decide,by omega,by omega,?_⟩
  refine zb9 (fun i σ H'=>∃ ts rs,WS H H' rl ts rs m (m - 1).toNat∧rs.length≤6+i∧∃ x1 x2 x3 x4 x5,σ=[some (.ref dl),some (.int o),some (.int z),some (.int m),some (.ref rl),x1,x2,x3,x4,x5,none,none,none,none,none]) ⟨ts,rs,W,by omega,_,_,_,_,_,rfl⟩ ?_ ?_
  ·rintro i σ H2 hi ⟨ts,rs,W,lr,x1,x2,x3,x4,x5,rfl⟩
   simp_all only [zaB,zaw,zaC,zay,zaz,zax,zaA,zac]
   obtain ⟨v,hv,v0,v1⟩:=dr (9+(i:Int)) (by omega) (by omega)
   rw [show o+(9+(i:Int))=o+9+(0+(i:Int)) by omega] at hv
   have hd2:=W.s _ _ hd
   refine ⟨_,SqL.of hd2,_,hv,_,rfl,by omega,_,SqL.of hd2,_,hv,_,rfl,zkB.1,zkB.2,by omega,zci (fun ne=>⟨.inl ⟨rfl,_,SqL.of W.h⟩,_,SqL.of hd2,_,hv,_,rfl,zlw.1,zlw.2,by decide,by decide,fun p hp=>?_⟩) fun _=>⟨ts,rs,W,by omega⟩⟩
   obtain ⟨a0,a1⟩:=zdh (x:=v) (y:=m) (by omega)
   obtain ⟨b0,b1⟩:=zdh (x:=v / 16) (y:=m) (by omega)
   obtain ⟨l0,l1⟩:=zdh (x:=v / 256) (y:=12) (by decide)
   rw [Int.fmod_eq_emod_of_nonneg _ (by decide)] at l0 l1
   have sp:=zah hp (.tup [.int (v.fmod m),.int ((v / 16).fmod m),.int (1+v / 256 % 12)])
   have A:=W.add hrl sp (t:=p) (r:=(v.fmod m,(v / 16).fmod m,1+v / 256 % 12)) zad (by unfold GR;dsimp only;omega) (by dsimp only;omega)
   exact ⟨_,sp _ _ W.h,zcc (by rw [List.length_map,W.t.1];omega),_,_,A,by rw [List.length_append];show _+1≤_;omega⟩
  ·rintro σ H2 ⟨ts,rs,W,lr,x1,x2,x3,x4,x5,rfl⟩
   simp_all only [zaB,zaw,zaC,zay,zaz,zax,zaA,zac]
   refine ⟨by decide,fun nl hnl=>⟨by decide,by decide,by omega,by omega,?_⟩⟩
   have s2:=zah hnl (.lst [])
   refine zb9 (fun i σ H'=>∃ ls:List Int,zba H2 H'∧H' nl=some (.lst (ls.map V.int))∧ls.Perm ((List.range i).map fun k:Nat=>1+(k:Int))∧∃ x4,σ=[some (.ref dl),some (.int o),some (.int z),some (.int m),some (.ref rl),x1,x2,x3,x4,x5,some (.ref nl),none,none,none,none]) ⟨[],s2,zad,.refl _,_,rfl⟩ ?_ ?_
   ·rintro i σ H3 hi ⟨ls,s3,h3,pm,x4,rfl⟩
    simp_all only [zaB,zaw,zaC,zay,zaz,zax,zaA,zac]
    obtain ⟨v,hv,v0,v1⟩:=dr 14 (by omega) (by omega)
    have hd3:=s3 _ _ (W.s _ _ hd)
    have ll:ls.length=i:=by rw [pm.length_eq,List.length_map,List.length_range]
    obtain ⟨k0,k1⟩:=zdh (x:=v.fdiv (1+2*(1+(i:Int)))) (y:=((ls.map V.int).length:Int)+1) (by omega)
    have big:(1000:Nat)<1000000:=by decide
    refine ⟨.inl ⟨rfl,_,SqL.of h3⟩,_,SqL.of hd3,_,hv,mulR (by omega) (by omega),_,rfl,by omega,zlm 10 (by omega) (by omega),_,.inl (SqL.of h3),by omega,_,h3,k0,by omega,by rw [List.length_map];omega,s3.put hnl,zcY ls (((v.fdiv (1+2*(1+(i:Int)))).fmod (((ls.map V.int).length:Int)+1))).toNat (1+(i:Int)),by rw [zgh];exact zad,?_⟩
    rw [List.range_succ,List.map_append]
    exact (zhO _ _ _).trans ((pm.cons _).trans (List.perm_append_comm (l₁:=[1+(i:Int)])))
   ·rintro σ H3 ⟨ls,s3,h3,pm,x4,rfl⟩
    simp_all only [zaB,zaw,zaC,zay,zaz,zax,zaA,zac]
    have pm':(0::ls).Perm (zlf m):=by rw [ziz (by omega)];exact pm.cons 0
    have ll:ls.length=(m - 1).toNat:=by rw [pm.length_eq,List.length_map,List.length_range]
    have gl:∀ x∈0::ls,0≤x∧x<m:=fun x hx=>zhb.mp (pm'.mem_iff.mp hx)
    have nd:(0::ls).Nodup:=pm'.nodup_iff.mpr zia
    have big:(1000:Nat)<sizeLine:=by decide
    refine ⟨by decide,fun pz hpz=>⟨_,zad,_,by rw [zaj (zap h3 hpz)];exact h3,by rw [List.length_map];show 1+ls.length≤_;omega,fun nn hnn=>⟨by decide,fun fl hfl=>?_⟩⟩⟩
    have sz:=zah hpz (.lst [.int 0])
    have sn:=zah hnn (.lst ([V.int 0]++ls.map V.int))
    have en:L2.upd (L2.upd H3 pz (.lst [.int 0])) nn (.lst ([V.int 0]++ls.map V.int)) nn=some (.lst ((0::ls).map V.int)):=zad
    have s4:=(s3.trans sz).trans sn
    have hfl':=hfl
    generalize L2.upd (L2.upd H3 pz (.lst [.int 0])) nn (.lst ([V.int 0]++ls.map V.int))=H4 at s4 en hfl hfl' ⊢
    have s5:=zah hfl (.lst [])
    have h4:=s4 _ _ W.h
    refine ⟨⟨_,SqL.of (s5 _ _ h4)⟩,?_⟩
    have t4:=W.t.same s4
    refine zbw (K:=K) (xs:=ts.map V.ref) (fun i σ H'=>∃ us qs,WS H4 H' fl us qs m 0∧qs.length=i∧(∀ (j:Nat) r,j<i→rs[j]?=some r→∃ q∈qs,(0::ls)[r.1.toNat]?=some q.1∧(0::ls)[r.2.1.toNat]?=some q.2.1)∧∃ y1 y2 y3 y4,σ=[some (.ref dl),some (.int o),some (.int z),some (.int m),some (.ref rl),x1,x2,y1,x4,x5,some (.ref nn),some (.ref fl),y2,y3,y4]) ⟨[],[],⟨s5,zad,.nil,(fun r h=>nomatch h),fun k k1 k2=>by omega⟩,rfl,(fun j r hj=>by omega),_,_,_,_,rfl⟩ ?_ ?_ ?_
    ·rintro i σ H' hi ⟨us,qs,U,lq,nm,y1,y2,y3,y4,rfl⟩
     exact SqL.of (U.s _ _ h4)
    ·rintro i w σ H5 hw ⟨us,qs,U,lq,nm,y1,y2,y3,y4,rfl⟩
     rw [List.getElem?_map] at hw
     obtain ⟨u,hu,rfl⟩:=Option.map_eq_some_iff.mp hw
     obtain ⟨r,hr,hro⟩:=t4.at hu
     obtain ⟨g1,g12⟩:=W.gr r (List.mem_of_getElem? hr)
     have hi:=(List.getElem?_eq_some_iff.mp hu).1
     simp_all only [zaB,zaw,zaC,zay,zaz,zax,zaA,zac]
     obtain ⟨v,hv,v0,v1⟩:=dr 15 (by omega) (by omega)
     have s45:=U.s
     have hu5:H5 u=some (.tup (rdv r)):=s45 _ _ hro
     have hd5:=s45 _ _ (s4 _ _ (W.s _ _ hd))
     have en5:=SqL.of (K:=K) (s45 _ _ en)
     have lus:us.length=i:=U.t.1.trans lq
     have ltr:=W.t.1
     have big2:(1000:Nat)<1000000:=by decide
     unfold GR at g1
     obtain ⟨na,ha,ha2⟩:=zhg (ns:=0::ls) (k:=r.1) g1.1 (by show r.1<((ls.length+1:Nat):Int);omega)
     obtain ⟨nb,hb,hb2⟩:=zhg (ns:=0::ls) (k:=r.2.1) g1.2.2.1 (by show r.2.1<((ls.length+1:Nat):Int);omega)
     have dif:na≠nb:=fun e=>by
      subst e
      have:=zjs nd ha2 hb2
      omega
     have gna:=gl na (zca ha2)
     have gnb:=gl nb (zca hb2)
     obtain ⟨k0,k1⟩:=zdh (x:=v.fdiv (1+((us.map V.ref).length:Int))) (y:=((us.map V.ref).length:Int)+1) (by omega)
     refine ⟨_,SqT.of hu5,rfl,_,_,rfl,_,_,rfl,_,_,rfl,rfl,_,SqL.of hd5,_,hv,_,.inl (SqL.of U.h),_,rfl,by omega,zlm 10 (by omega) (by rw [List.length_map];omega),.inl ⟨rfl,_,SqL.of U.h⟩,_,.inl (SqL.of U.h),by omega,_,_,rfl,en5,_,ha,_,_,rfl,en5,_,hb,by decide,fun p hp=>?_⟩
     have sp:=zah hp (.tup [.int na,.int nb,.int r.2.2])
     have A:=U.ins hfl sp (t:=p) (r:=(na,nb,r.2.2)) zad (by unfold GR;exact ⟨gna.1,gna.2,gnb.1,gnb.2,dif,g1.2.2.2.2.2⟩) g12 (k:=((v.fdiv (1+((us.map V.ref).length:Int))).fmod (((us.map V.ref).length:Int)+1)).toNat) (by rw [List.length_map] at k1 ⊢;omega)
     refine ⟨_,sp _ _ U.h,k0,by omega,by rw [List.length_map];omega,_,_,A,by rw [zeg (by rw [List.length_map] at k1 ⊢;omega),lq],fun j r' hj hr'=>?_⟩
     by_cases cj:j<i
     ·obtain ⟨q',h1,h2⟩:=nm j r' cj hr'
      exact ⟨q',zds.mpr (.inr h1),h2⟩
     ·have:j=i:=by omega
      subst this
      rw [hr] at hr'
      cases hr'
      exact ⟨_,zds.mpr (.inl rfl),ha2,hb2⟩
    ·rintro σ H5 ⟨us,qs,U,lq,nm,y1,y2,y3,y4,rfl⟩
     simp_all only [zaB,zaw,zaC,zay,zaz,zax,zaA,zac]
     rw [List.length_map] at lq nm
     refine ⟨by decide,fun w hw=>?_⟩
     have sw:=zah hw (.tup [.int m,.ref fl])
     have jn:zmw (0::ls) qs (m - 1).toNat:=fun k k1 k2=>by
      obtain ⟨r,hr,j,hj,c⟩:=W.jn k k1 k2
      obtain ⟨n,hn⟩:=List.getElem?_of_mem hr
      obtain ⟨q',h1,h2,h3⟩:=nm n r (by rw [W.t.1];exact (List.getElem?_eq_some_iff.mp hn).1) hn
      refine ⟨q',h1,j,hj,?_⟩
      rcases c with ⟨c1,c2⟩ | ⟨c1,c2⟩ <;> rw [c1,Int.toNat_natCast] at h2 <;> rw [c2,Int.toNat_natCast] at h3
      ·exact .inl ⟨h2,h3⟩
      ·exact .inr ⟨h3,h2⟩
     exact q w fl us m qs _ ((((W.s.trans s4).trans U.s)).trans sw) ⟨zad,sw _ _ U.h,U.t.same sw⟩ ⟨by omega,by omega,by rw [lq,W.t.1];omega,fun r hr=>(U.gr r hr).1,jn.conn (by omega) pm' rfl⟩ (by omega) (by rw [lq,W.t.1];omega) fun r hr=>(U.gr r hr).2
theorem zaq:zaW ["_law_draws_here","_law_at","_law_most","_law_many","_law_roads_here","_law_place","_law_other","_law_length","_law_k","_law_one","_law_names","_law_found","_law_a","_law_b","_law_spot"] ["_law_draws_here","_law_at","_law_most"] (zas zdJ):=⟨rfl,rfl,rfl,by decide +kernel,rfl,by decide +kernel,by decide +kernel⟩
theorem zg0 (T:Txt K mg a):zd2 P w K mg base CX0 1 a.f__law_web a.d__law_web ["_law_draws_here","_law_at","_law_most"] zne:=by
 refine T.F__law_web.ok zaq (fun vs H Q E h=>?_) (fun cdv A outer s H vs Q E hr h=>?_)
 ·obtain ⟨dl,ds,o,z,rfl,hd,o0,ol,z1,z7,bd,q⟩:=h
  rfl
 obtain ⟨dl,ds,o,z,rfl,hd,o0,ol,z1,z7,bd,q⟩:=h
 exact ⟨zdL K,(zae (zaD (i:=3) zaq.nd rfl (Or.inl rfl) (zav zbg zak (zav zc9 (zbG zbi (pv 0) (pv 1) (fun _ _=>rfl)) (pv 2))))
 (zae (zaD (i:=4) zaq.nd rfl (Or.inl rfl) (zb2 zaf))
 (zae (zbU PassesOwn.never rfl (zfL rfl T.z_range (zaa zak (zaa (pv 3) zaf))) (zan (i:=5) zaq.nd rfl (Or.inl rfl))
 (zae (zaD (i:=6) zaq.nd rfl (Or.inl rfl) (zav zc9 (zbG zbi (pv 0) (zav zbg (pv 1) (pv 5)) (fun _ _=>rfl)) (pv 5)))
 (zae (zaD (i:=7) zaq.nd rfl (Or.inl rfl) (zav zbg zak (zav zdk (zav zcp (zbG zbi (pv 0) (zav zbg (pv 1) (pv 5)) (fun _ _=>rfl)) zak) zak)))
 (zai (zbu (zeO PySem.F.plainAttrs_list PySem.F.slot_list_append PySem.F.type_list_append zbN (pv 4) (zaa (zbG zbi (zb2 (zaa (zby (zaa (pv 6) (zaa (pv 5) (zaa (pv 7) zaf)))) (zaa (zby (zaa (pv 5) (zaa (pv 6) (zaa (pv 7) zaf)))) zaf))) (zav zdk (zav zcp (zbG zbi (pv 0) (zav zbg (pv 1) (pv 5)) (fun _ _=>rfl)) zak) zak) (fun _ _=>rfl)) zaf)))))))
 (zae (zbU PassesOwn.never rfl (zeH rfl T.z_range (zaa (zav zdk (zbG zbi (pv 0) (zav zbg (pv 1) zak) (fun _ _=>rfl)) zak) zaf)) (zan (i:=8) zaq.nd rfl (Or.inl rfl))
 (zae (zaD (i:=9) zaq.nd rfl (Or.inl rfl) (zav zc9 (zbG zbi (pv 0) (zav zbg (zav zbg (pv 1) zak) (pv 8)) (fun _ _=>rfl)) (pv 3)))
 (zae (zaD (i:=6) zaq.nd rfl (Or.inl rfl) (zav zc9 (zav zcp (zbG zbi (pv 0) (zav zbg (zav zbg (pv 1) zak) (pv 8)) (fun _ _=>rfl)) zak) (pv 3)))
 (zai (zcr (zaS zkA (pv 9) (pv 6) (zbq _)) (zai (zbu (zeO PySem.F.plainAttrs_list PySem.F.slot_list_append PySem.F.type_list_append zbN (pv 4) (zaa (zby (zaa (pv 9) (zaa (pv 6) (zaa (zav zbg zak (zav zdk (zav zcp (zbG zbi (pv 0) (zav zbg (zav zbg (pv 1) zak) (pv 8)) (fun _ _=>rfl)) zak) zak)) zaf)))) zaf)))) zbe)))))
 (zae (zaD (i:=10) zaq.nd rfl (Or.inl rfl) (zb2 zaf))
 (zae (zbU PassesOwn.never rfl (zfL rfl T.z_range (zaa zak (zaa (pv 3) zaf))) (zan (i:=8) zaq.nd rfl (Or.inl rfl))
 (zai (zbu (zeO PySem.F.plainAttrs_list PySem.F.slot_list_insert PySem.F.type_list_insert zgc (pv 10) (zaa (zav zc9 (zav zht (zbG zbi (pv 0) (zav zbg (pv 1) zak) (fun _ _=>rfl)) (zav zbg zak (zav zfm zak (pv 8)))) (zav zbg (zat zaQ rfl T.z_len PySem.boot_len (zaa (pv 10) zaf)) zak)) (zaa (pv 8) zaf))))))
 (zae (zaD (i:=10) zaq.nd rfl (Or.inl rfl) (zav znO (zb2 (zaa zak zaf)) (pv 10)))
 (zae (zaD (i:=11) zaq.nd rfl (Or.inl rfl) (zb2 zaf))
 (zae (zbU PassesOwn.never rfl (zb8 (pv 4)) (zce rfl (zao (zan (i:=12) zaq.nd rfl (Or.inl rfl)) (zao (zan (i:=13) zaq.nd rfl (Or.inl rfl)) (zao (zan (i:=7) zaq.nd rfl (Or.inl rfl)) zbF))))
 (zae (zaD (i:=14) zaq.nd rfl (Or.inl rfl) (zav zht (zbG zbi (pv 0) (zav zbg (pv 1) zak) (fun _ _=>rfl)) (zav zbg zak (zat zaQ rfl T.z_len PySem.boot_len (zaa (pv 11) zaf)))))
 (zai (zbu (zeO PySem.F.plainAttrs_list PySem.F.slot_list_insert PySem.F.type_list_insert zgc (pv 11) (zaa (zav zc9 (pv 14) (zav zbg (zat zaQ rfl T.z_len PySem.boot_len (zaa (pv 11) zaf)) zak)) (zaa (zby (zaa (zbG zbi (pv 10) (pv 12) (fun _ _=>rfl)) (zaa (zbG zbi (pv 10) (pv 13) (fun _ _=>rfl)) (zaa (pv 7) zaf)))) zaf)))))))
 (zai (zbx (zby (zaa (pv 3) (zaa (pv 11) zaf)))))))))))))),
  zgE hd o0 ol z1 z7 bd q⟩
abbrev nsV (ns:List (Int×Int)):List (Key×V):=ns.map fun x=>(Sum.inl x.1,V.int x.2)
theorem zer {x:Int×Int} {b:Int}:((Sum.inl x.1:Key)=.inl b)↔x.1=b:=⟨fun h=>Sum.inl.inj h,fun h=>by rw [h]⟩
theorem zju {b l:Int}:∀ (ns:List (Int×Int)),∃ l',(zbM (nsV ns) (.inl b)).getD (.int l)=.int l'∧(l'=l∨∃ x∈ns,l'=x.2)
 | []=>⟨l,rfl,.inl rfl⟩
 | x::ns=>by
  obtain ⟨l',h1,h2⟩:=zju (b:=b) (l:=l) ns
  by_cases e:x.1=b
  ·exact ⟨x.2,by rw [show zbM (nsV (x::ns)) (.inl b)=some (.int x.2) from zaY (p:=((.inl x.1:Key),V.int x.2)) (zer.mpr e)];rfl,.inr ⟨x,List.mem_cons_self,rfl⟩⟩
  ·refine ⟨l',by rw [show zbM (nsV (x::ns)) (.inl b)=zbM (nsV ns) (.inl b) from zaR (p:=((.inl x.1:Key),V.int x.2)) fun z=>e (zer.mp z)];exact h1,h2.elim .inl fun ⟨y,hy,c⟩=>.inr ⟨y,List.mem_cons_of_mem _ hy,c⟩⟩
theorem zlH (ns:List (Int×Int)) (b l:Int):∃ ns',zcT (nsV ns) (.inl b) (.int l)=nsV ns'∧(∀ x∈ns',x∈ns∨x=(b,l))∧(∀ k,k∈ns'.map (·.1)↔k∈ns.map (·.1)∨k=b)∧ns'.length≤ns.length+1:=by
 unfold zcT
 split
 ·rename_i h
  obtain ⟨y,hy,e⟩:=List.any_eq_true.mp h
  obtain ⟨z,hz,rfl⟩:=List.mem_map.mp hy
  have ez:z.1=b:=zer.mp (of_decide_eq_true e)
  refine ⟨ns.map fun x=>if x.1=b then (x.1,l) else x,?_,fun x hx=>?_,fun k=>?_,by rw [List.length_map];omega⟩
  ·rw [List.map_map,nsV,List.map_map]
   refine List.map_congr_left fun x _=>?_
   show (if (Sum.inl x.1:Key)=.inl b then _ else _)=((Sum.inl (if x.1=b then (x.1,l) else x).1:Key),V.int (if x.1=b then (x.1,l) else x).2)
   by_cases c:x.1=b
   ·rw [if_pos c,if_pos (zer.mpr c)]
   ·rw [if_neg c,if_neg fun z=>c (zer.mp z)]
  ·obtain ⟨y,hy,rfl⟩:=List.mem_map.mp hx
   by_cases c:y.1=b
   ·rw [if_pos c,c];exact .inr rfl
   ·rw [if_neg c];exact .inl hy
  ·have:(ns.map fun x=>if x.1=b then (x.1,l) else x).map (·.1)=ns.map (·.1):=by
    rw [List.map_map]
    refine List.map_congr_left fun x _=>?_
    show (if x.1=b then (x.1,l) else x).1=x.1
    split <;> rfl
   rw [this]
   exact ⟨.inl,fun h=>h.elim id fun e=>e ▸ List.mem_map.mpr ⟨z,hz,ez⟩⟩
 ·refine ⟨ns++[(b,l)],by rw [nsV,nsV,List.map_append];rfl,fun x hx=>(List.mem_append.mp hx).imp id List.mem_singleton.mp,fun k=>?_,by rw [List.length_append];exact Nat.le_refl _⟩
  rw [List.map_append,List.mem_append]
  exact or_congr Iff.rfl List.mem_singleton
theorem zmG {rs:List zbb} {i:Nat} {r:zbb} (h:rs[i]?=some r) (p b:Int):Nb (rs.take (i+1)) p b↔Nb (rs.take i) p b∨(r.1=p∧b=r.2.1)∨(r.2.1=p∧b=r.1):=by
 rw [List.take_add_one,h]
 constructor
 ·rintro ⟨x,hx,c⟩
  rcases List.mem_append.mp hx with hx | hx
  ·exact .inl ⟨x,hx,c⟩
  ·cases List.mem_singleton.mp hx
   exact .inr (c.imp (fun c=>⟨c.1,c.2.symm⟩) fun c=>⟨c.2,c.1.symm⟩)
 ·rintro (⟨x,hx,c⟩ | c)
  ·exact ⟨x,List.mem_append_left _ hx,c⟩
  ·exact ⟨r,List.mem_append_right _ (List.mem_singleton.mpr rfl),c.imp (fun c=>⟨c.1,c.2.symm⟩) fun c=>⟨c.2.symm,c.1⟩⟩
structure RdI (H0 H:Hp) (d:Addr) (ns:List (Int×Int)) (N:Int→Prop) (n:Nat):Prop where
 s:zba H0 H
 h:H d=some (.dK (nsV ns))
 bd:∀ x∈ns,0≤x.1∧x.1<63∧0≤x.2∧x.2<63
 key:∀ b,b∈ns.map (·.1)↔N b
 len:ns.length≤n
def zfv:Sp:=fun vs H Q _=>∃ (w rl:Addr) (ts:List Addr) (m:Int) (rs:List zbb) (p:Int),vs=[.ref w,.int p]∧zeU H w rl ts m rs∧GW m rs∧rs.length≤20∧(∀ r∈rs,r.2.2≤12)∧∀ (l:Addr) (xs:List ((Int×Int)×Addr)) (H1:Hp),zba H H1→H l=none→H1 l=some (.lst (xs.map fun x=>V.ref x.2))→(∀ x∈xs,H1 x.2=some (.tup [.int x.1.1,.int x.1.2]))→(∀ b,b∈xs.map (fun x=>x.1.1)↔Nb rs p b)→xs.length≤40→Q (.ref l) H1
def zb5:TS :=
 (zcv (za2 (tOp rEq (zac 6) (zac 1))) (zd5 (zac 2) (zac 7) (tCB (fun xs H Q=>∃ i j,xs=[.int i,.int j]∧Q (.int (if j<i then j else i)) H) (zab (zac 5) (zab (ze4 (zac 2) (zac 7) (zac 5)) zam)))) zbp)
theorem zbn (D:zbY) (σ:St) (H:Hp):zb5 D σ H=(zcv (za2 (tOp rEq (zac 6) (zac 1))) (zd5 (zac 2) (zac 7) (tCB (fun xs H Q=>∃ i j,xs=[.int i,.int j]∧Q (.int (if j<i then j else i)) H) (zab (zac 5) (zab (ze4 (zac 2) (zac 7) (zac 5)) zam)))) zbp) D σ H:=rfl
def zc7 (K:PySem.W.Frag):TS :=
 (zdB (zcd K (zes (zab (zcj (zab (zac 3) (zab (zac 4) zam))) (zab (zcj (zab (zac 4) (zab (zac 3) zam))) zam)))) (zd4 K 2 (zau (zag 6) (zau (zag 7) zdW)))
 (zb5))
theorem zbl (K:PySem.W.Frag) (D:zbY) (σ:St) (H:Hp):zc7 K D σ H=(zdB (zcd K (zes (zab (zcj (zab (zac 3) (zab (zac 4) zam))) (zab (zcj (zab (zac 4) (zab (zac 3) zam))) zam)))) (zd4 K 2 (zau (zag 6) (zau (zag 7) zdW)))
 (zb5)) D σ H:=rfl
def zcM (K:PySem.W.Frag):TS :=
 (zaK (zbm zjD (zag 2))
 (zaK (zdB (zcd K (tOp (ze1 K) (zac 0) (tC (.int 1)))) (zd4 K 3 (zau (zag 3) (zau (zag 4) (zau (zag 5) zdW))))
 (zc7 K))
 (zdC (tCB zdS (zab (zlu K "dict" zgQ (zac 2)) zam)))))
theorem zfa {w rl:Addr} {ts:List Addr} {m:Int} {rs:List zbb} {p:Int} (W:zeU H w rl ts m rs) (G:GW m rs) (l20:rs.length≤20) (g12:∀ r∈rs,r.2.2≤12)
  (q:∀ (l:Addr) (xs:List ((Int×Int)×Addr)) (H1:Hp),zba H H1→H l=none→H1 l=some (.lst (xs.map fun x=>V.ref x.2))→(∀ x∈xs,H1 x.2=some (.tup [.int x.1.1,.int x.1.2]))→(∀ b,b∈xs.map (fun x=>x.1.1)↔Nb rs p b)→xs.length≤40→Q (.ref l) H1) :
  zcM K { nx:=fun _ H'=>Q .non H',rt:=Q } (L2.zbE ["_law_web_here","_law_place","_law_found","_law_a","_law_b","_law_length","_law_one","_law_other"] [.ref w,.int p]) H:=by
 unfold zcM
 simp_all only [zbn,zbl,zac]
 intro d hd0
 have sd:=zah hd0 (.dK [])
 refine ⟨_,SqT.of (sd _ _ W.hw),_,rfl,_,rfl,⟨_,SqL.of (sd _ _ W.hl)⟩,?_⟩
 refine zbw (K:=K) (xs:=ts.map V.ref) (fun i σ H'=>∃ ns,RdI H H' d ns (Nb (rs.take i) p) (2*i)∧∃ x3 x4 x5 x6 x7,σ=[some (.ref w),some (.int p),some (.ref d),x3,x4,x5,x6,x7]) ⟨[],⟨sd,zad,(fun x h=>nomatch h),(fun b=>⟨(fun h=>nomatch h),fun ⟨x,h,_⟩=>nomatch h⟩),Nat.le_refl _⟩,_,_,_,_,_,rfl⟩ ?_ ?_ ?_
 ·rintro i σ H' hi ⟨ns,I,x3,x4,x5,x6,x7,rfl⟩
  exact SqL.of (I.s _ _ W.hl)
 ·rintro i v σ H1 hv ⟨ns,I,x3,x4,x5,x6,x7,rfl⟩
  rw [List.getElem?_map] at hv
  obtain ⟨u,hu,rfl⟩:=Option.map_eq_some_iff.mp hv
  obtain ⟨r,hr,hro⟩:=W.ht.at hu
  simp_all only [zbn,zbl,zac]
  refine ⟨_,SqT.of (I.s _ _ hro),rfl,_,_,rfl,_,_,rfl,_,_,rfl,rfl,by decide,fun pa hpa=>⟨by decide,fun pb hpb=>⟨by decide,fun pl hpl=>?_⟩⟩⟩
  have sa:=zah hpa (.tup [.int r.1,.int r.2.1])
  have ea:L2.upd H1 pa (.tup [.int r.1,.int r.2.1]) pa=_:=zad
  generalize L2.upd H1 pa (.tup [.int r.1,.int r.2.1])=G1 at sa ea hpb hpl ⊢
  have sb:=zah hpb (.tup [.int r.2.1,.int r.1])
  have eb:L2.upd G1 pb (.tup [.int r.2.1,.int r.1]) pb=_:=zad
  generalize L2.upd G1 pb (.tup [.int r.2.1,.int r.1])=G2 at sb eb hpl ⊢
  have sc:=zah hpl (.lst [.ref pa,.ref pb])
  have ec:L2.upd G2 pl (.lst [.ref pa,.ref pb]) pl=_:=zad
  generalize L2.upd G2 pl (.lst [.ref pa,.ref pb])=G3 at sc ec ⊢
  have s3:=(sa.trans sb).trans sc
  have hd3:=s3 _ _ I.h
  have nl:pl≠d:=zbZ ec hd3 (fun z=>nomatch z)
  have li:=(List.getElem?_eq_some_iff.mp hr).1
  refine ⟨⟨_,SqL.of ec⟩,?_⟩
  refine zbw (K:=K) (xs:=[.ref pa,.ref pb]) (fun j σ H'=>∃ ns,RdI H H' d ns (fun b=>Nb (rs.take i) p b∨(0<j∧r.1=p∧b=r.2.1)∨(1<j∧r.2.1=p∧b=r.1)) (2*i+j)∧(∀ b u,b≠d→G3 b=some u→H' b=some u)∧∃ x6 x7,σ=[some (.ref w),some (.int p),some (.ref d),some (.int r.1),some (.int r.2.1),some (.int r.2.2),x6,x7]) ⟨ns,⟨I.s.trans s3,hd3,I.bd,fun b=>(I.key b).trans ⟨.inl,fun h=>h.elim id fun h=>h.elim (fun z=>absurd z.1 (by decide)) fun z=>absurd z.1 (by decide)⟩,I.len⟩,fun b u _ h=>h,_,_,rfl⟩ ?_ ?_ ?_
  ·rintro j σ H' hj ⟨ns,I,kp,x6,x7,rfl⟩
   exact SqL.of (kp _ _ nl ec)
  ·rintro j v σ H' hv ⟨ns,I,kp,x6,x7,rfl⟩
   obtain ⟨c,A,B,rfl,hc,nc,hAB⟩:∃ c A B,v=.ref c∧G3 c=some (.tup [.int A,.int B])∧c≠d∧((j=0∧A=r.1∧B=r.2.1)∨(j=1∧A=r.2.1∧B=r.1)):=by
    match j,hv with
    | 0,hv=>cases hv;exact ⟨pa,_,_,rfl,sc _ _ (sb _ _ ea),zbZ (sc _ _ (sb _ _ ea)) hd3 (fun z=>nomatch z),.inl ⟨rfl,rfl,rfl⟩⟩
    | 1,hv=>cases hv;exact ⟨pb,_,_,rfl,sc _ _ eb,zbZ (sc _ _ eb) hd3 (fun z=>nomatch z),.inr ⟨rfl,rfl,rfl⟩⟩
    | n+2,hv=>simp at hv
   simp_all only [zbn,zbl,zac]
   have gr:=G.gr r (zca hr)
   have m60:=G.m60
   have r12:=g12 r (zca hr)
   unfold GR at gr
   have big:(1000:Nat)<sizeLine:=by decide
   have ln:=I.len
   refine ⟨_,SqT.of (kp _ _ nc hc),rfl,_,_,rfl,_,_,rfl,rfl,rfl,zci (fun e=>?_) fun e=>?_⟩
   ·have eA:=V.int.inj e
    obtain ⟨l',g1,g2⟩:=zju (b:=B) (l:=r.2.2) ns
    refine ⟨.inl ⟨_,.inl I.h⟩,_,zih.k (k:=.inl B) I.h,l',g1,_,zh6.k (k:=.inl B) I.h (by rw [List.length_map];omega),?_⟩
    have bl:0≤l'∧l'<63:=by
     rcases g2 with rfl | ⟨x,hx,rfl⟩
     ·omega
     ·exact (I.bd x hx).2.2
    obtain ⟨ns',e1,e2,e3,e4⟩:=zlH ns B (if l'<r.2.2 then l' else r.2.2)
    rw [e1]
    refine ⟨ns',⟨I.s.put hd0,zad,fun x hx=>?_,fun b=>?_,by omega⟩,fun b u nb hb=>by rw [zaj nb];exact kp b u nb hb⟩
    ·rcases e2 x hx with h | rfl
     ·exact I.bd x h
     ·dsimp only
      split <;> omega
    ·rw [e3,I.key]
     rcases hAB with ⟨rfl,rfl,rfl⟩ | ⟨rfl,rfl,rfl⟩ <;> grind
   ·have eA:A≠p:=fun z=>e (by rw [z])
    exact ⟨ns,⟨I.s,I.h,I.bd,fun b=>(I.key b).trans (by rcases hAB with ⟨rfl,rfl,rfl⟩ | ⟨rfl,rfl,rfl⟩ <;> grind),by omega⟩,kp⟩
  ·rintro σ H' ⟨ns,I,kp,x6,x7,rfl⟩
   exact ⟨ns,⟨I.s,I.h,I.bd,fun b=>(I.key b).trans (((zmG hr p b).trans (or_congr Iff.rfl (or_congr ⟨fun z=>⟨by show 0<2;decide,z⟩,fun z=>z.2⟩ ⟨fun z=>⟨by show 1<2;decide,z⟩,fun z=>z.2⟩))).symm),by have:=I.len;simp only [List.length_cons,List.length_nil] at this;omega⟩,_,_,_,_,_,rfl⟩
 ·rintro σ H1 ⟨ns,I,x3,x4,x5,x6,x7,rfl⟩
  simp_all only [zbn,zbl,zac]
  have lt:=W.ht.1
  have ll:=I.len
  have key:=I.key
  rw [List.length_map] at ll
  rw [List.length_map,lt,List.take_length] at key
  refine ⟨.inr (.inr (.inl ⟨rfl,.inl ⟨_,I.h⟩⟩)),_,I.h,fun v hv=>⟨_,zad,ns,by rw [zaj (zap I.h hv)];exact I.h,by omega,I.bd,fun l G1 xs g1 hl hx pm _=>?_⟩⟩
  have sv:=zah hv (ItV v d)
  have sl:=zah hl (.lst (xs.map fun x=>V.ref x.2))
  refine q l xs _ (((I.s.trans sv).trans g1).trans sl) (((I.s.trans sv).trans g1).free hl) zad (fun x h=>sl _ _ (hx x h).2) (fun b=>?_) (by have:=pm.length_eq;rw [List.length_map] at this;omega)
  rw [← key b]
  have:=(pm.map (·.1)).mem_iff (a:=b)
  rw [List.map_map] at this
  exact this
theorem za5:zaW ["_law_web_here","_law_place","_law_found","_law_a","_law_b","_law_length","_law_one","_law_other"] ["_law_web_here","_law_place"] (zas zcA):=⟨rfl,rfl,rfl,by decide +kernel,rfl,by decide +kernel,by decide +kernel⟩
theorem zfq (T:Txt K mg a):zd2 P w K mg base CX0 1 a.f__law_roads a.d__law_roads ["_law_web_here","_law_place"] zfv:=by
 refine T.F__law_roads.ok za5 (fun vs H Q E h=>?_) (fun cdv A outer s H vs Q E hr h=>?_)
 ·obtain ⟨w',rl,ts,m,rs,p,rfl,W,G,l20,g12,q⟩:=h
  rfl
 obtain ⟨w',rl,ts,m,rs,p,rfl,W,G,l20,g12,q⟩:=h
 exact ⟨zcM K,(zae (zaD (i:=2) za5.nd rfl (Or.inl rfl) zj9)
 (zae (zbU PassesOwn.never rfl (zb8 (zbG zc4 (pv 0) zak (fun _ _=>rfl))) (zce rfl (zao (zan (i:=3) za5.nd rfl (Or.inl rfl)) (zao (zan (i:=4) za5.nd rfl (Or.inl rfl)) (zao (zan (i:=5) za5.nd rfl (Or.inl rfl)) zbF))))
 (zai (zbU PassesOwn.never rfl (zb8 (zb2 (zaa (zby (zaa (pv 3) (zaa (pv 4) zaf))) (zaa (zby (zaa (pv 4) (zaa (pv 3) zaf))) zaf)))) (zce rfl (zao (zan (i:=6) za5.nd rfl (Or.inl rfl)) (zao (zan (i:=7) za5.nd rfl (Or.inl rfl)) zbF)))
 (zai (zcr (zaS zgD (pv 6) (pv 1) (zbq _)) (zai (zef (zfd hr) (pv 2) (pv 7) (zat (zen rfl) rfl T.z_min PyProof.Rows.boot_min (zaa (pv 5) (zaa (zhi (zfd hr) (pv 2) (pv 7) (pv 5) ⟨rfl,rfl,rfl,rfl⟩) zaf))) rfl)) zbe)))))
 (zai (zbx (zat (zeQ hr.units rfl) rfl T.z_sorted PyProof.Rows.boot_sorted (zaa (zhE PySem.F.plainAttrs_dict PySem.F.slot_dict_items PySem.F.type_dict_items zjl (pv 2)) zaf)))))),
  zfa W G l20 g12 q⟩
structure NxI (K:PySem.W.Frag) (H0 H:Hp) (l:Addr) (xs:List SAd) (N:Std→Prop) (n:Nat):Prop where
 s:zba H0 H
 h:H l=some (.lst (xs.map fun x=>V.ref x.2))
 ks:∀ x∈xs,StH K H x.1 x.2
 mem:∀ t,t∈xs.map (·.1)↔N t
 len:xs.length≤n
def okT (wk:Bool) (s:Std) (y:Int):Prop:=wk=true∨y∉s.1
def nxP (wk:Bool) (s:Std):List Int:=if wk then [s.2] else s.1
theorem zfG {wk:Bool} {s:Std} {x y:Int}:zhx wk s x y=true↔x∈nxP wk s∧okT wk s y:=by
 unfold zhx nxP okT
 cases wk <;> simp
def zjr (K:PySem.W.Frag):Sp:=fun vs H Q _=>∃ (w rl:Addr) (ts:List Addr) (m:Int) (rs:List zbb) (wk:Bool) (s:Std) (b:Addr),vs=[.ref w,.str (kdW wk),.ref b,.int s.2]∧zeU H w rl ts m rs∧GW m rs∧rs.length≤20∧(∀ r∈rs,r.2.2≤12)∧SqT K H b (s.1.map V.int)∧s.1.Pairwise (·<·)∧s.1≠[]∧s.1.length≤20 ∧
 ∀ (l:Addr) (xs:List SAd) (H1:Hp),H l=none→NxI K H H1 l xs (fun t=>∃ x y,Nb rs x y∧zhx wk s x y=true∧t=bhd wk s y) 1000→Q (.ref l) H1
def zbV (K:PySem.W.Frag):TS :=
 (zcv (tOr (za2 (tOp rEq (zac 1) (tC (.str "walk")))) (za2 (tOp (rIn K true) (zac 6) (zac 2)))) (zaK (zbm (tCB (fun xs H Q=>∃ p ys,xs=[.ref p]∧((SqL K H p ys∧∀ l,H l=none→Q (.ref l) (upd H l (.tup ys)))∨(SqT K H p ys∧Q (.ref p) H))) (zab (tCB (zcx K) (zab (tOp (zio K) (zac 2) (zcj (zab (zac 6) zam))) zam)) zam)) (zag 8))
 (zbA (tBM K "list" zaU (zac 4) (zab (zcj (zab (zac 8) (zab (tOp (zcs K) (zes (zab (tC (.int 0)) (zab (zac 6) zam))) (tCB zhC (zab (tOp rEq (zac 1) (tC (.str "walk"))) zam))) zam))) zam)))) zbp)
theorem za7 (K:PySem.W.Frag) (D:zbY) (σ:St) (H:Hp):zbV K D σ H=(zcv (tOr (za2 (tOp rEq (zac 1) (tC (.str "walk")))) (za2 (tOp (rIn K true) (zac 6) (zac 2)))) (zaK (zbm (tCB (fun xs H Q=>∃ p ys,xs=[.ref p]∧((SqL K H p ys∧∀ l,H l=none→Q (.ref l) (upd H l (.tup ys)))∨(SqT K H p ys∧Q (.ref p) H))) (zab (tCB (zcx K) (zab (tOp (zio K) (zac 2) (zcj (zab (zac 6) zam))) zam)) zam)) (zag 8))
 (zbA (tBM K "list" zaU (zac 4) (zab (zcj (zab (zac 8) (zab (tOp (zcs K) (zes (zab (tC (.int 0)) (zab (zac 6) zam))) (tCB zhC (zab (tOp rEq (zac 1) (tC (.str "walk"))) zam))) zam))) zam)))) zbp) D σ H:=rfl
def zc8 (K:PySem.W.Frag):TS :=
 (zaK (zbm (zes zam) (zag 4))
 (zaK (zdB (zlP K (tIf (za2 (tOp rEq (zac 1) (tC (.str "walk")))) (zes (zab (zac 3) zam)) (zac 2))) (zag 5)
 (zdB (zcd K (za8 zfv [] E0 (zab (zac 0) (zab (zac 5) zam)))) (zd4 K 2 (zau (zag 6) (zau (zag 7) zdW)))
 (zbV K)))
 (zdC (zac 4))))
theorem zlM {D:zbY} {w rl b l:Addr} {ts:List Addr} {m:Int} {rs:List zbb} {wk:Bool} {s:Std} {x:Int} {xs:List SAd} {N:Std→Prop} {n:Nat} {H0:Hp} {x6 x7 x8:Option V} (W:zeU H0 w rl ts m rs) (G:GW m rs) (l20:rs.length≤20) (g12:∀ r∈rs,r.2.2≤12) (hb:SqT K H0 b (s.1.map V.int)) (hr:s.1.Pairwise (·<·)) (hne:s.1≠[]) (hl:s.1.length≤20) (h0:H0 l=none)
  (I:NxI K H0 H l xs N n) (hn:n≤960) (q:∀ xs' H' y6 y7 y8,(∀ a u,a≠l→H a=some u→H' a=some u)→NxI K H0 H' l xs' (fun t=>N t∨∃ y,Nb rs x y∧okT wk s y∧t=bhd wk s y) (n+40)→D.nx [some (.ref w),some (.str (kdW wk)),some (.ref b),some (.int s.2),some (.ref l),some (.int x),y6,y7,y8] H') :
  (zdB (zcd K (za8 zfv [] E0 (zab (zac 0) (zab (zac 5) zam)))) (zd4 K 2 (zau (zag 6) (zau (zag 7) zdW))) (zbV K)) D [some (.ref w),some (.str (kdW wk)),some (.ref b),some (.int s.2),some (.ref l),some (.int x),x6,x7,x8] H:=by
 simp_all only [za7,zac]
 refine ⟨w,rl,ts,m,rs,x,rfl,W.same I.s,G,l20,g12,fun rd ys H1 s1 hrd h1 ht hk ly=>⟨rd,rfl,⟨_,SqL.of h1⟩,?_⟩⟩
 have nrl:rd≠l:=fun z=>by rw [z,I.h] at hrd;cases hrd
 have hl1:=s1 _ _ I.h
 refine zbw (K:=K) (xs:=ys.map fun x=>V.ref x.2) (fun j σ H'=>∃ xs',NxI K H0 H' l xs' (fun t=>N t∨∃ y∈ys.take j,okT wk s y.1.1∧t=bhd wk s y.1.1) (n+j)∧(∀ a u,a≠l→H1 a=some u→H' a=some u)∧∃ y6 y7 y8,σ=[some (.ref w),some (.str (kdW wk)),some (.ref b),some (.int s.2),some (.ref l),some (.int x),y6,y7,y8]) ⟨xs,⟨I.s.trans s1,hl1,fun x hx=>zdZ (I.ks x hx) s1,fun t=>(I.mem t).trans ⟨.inl,fun h=>h.elim id fun ⟨y,h,_⟩=>nomatch h⟩,I.len⟩,fun _ _ _ h=>h,_,_,_,rfl⟩ ?_ ?_ ?_
 ·rintro j σ H' hj ⟨xs',I',kp,y6,y7,y8,rfl⟩
  exact SqL.of (kp _ _ nrl h1)
 ·rintro j v σ H' hv ⟨xs',I',kp,y6,y7,y8,rfl⟩
  rw [List.getElem?_map] at hv
  obtain ⟨y,hy,rfl⟩:=Option.map_eq_some_iff.mp hv
  have hy2:=ht y (zca hy)
  have hyl:=kp _ _ (zbZ hy2 hl1 (fun z=>nomatch z)) hy2
  simp_all only [za7,zac]
  have hb1:=I'.s.tup hb
  have hlt:=(List.getElem?_eq_some_iff.mp hy).1
  have kw:kdW wk=Str.ofString "walk"↔wk=true:=by cases wk <;> decide
  have nstep:∀ t,(N t∨∃ z∈ys.take (j+1),okT wk s z.1.1∧t=bhd wk s z.1.1)↔(N t∨∃ z∈ys.take j,okT wk s z.1.1∧t=bhd wk s z.1.1)∨(okT wk s y.1.1∧t=bhd wk s y.1.1):=fun t=>by
   rw [List.take_add_one,hy]
   constructor
   ·rintro (h | ⟨z,hz,c⟩)
    ·exact .inl (.inl h)
    ·rcases List.mem_append.mp hz with h | h
     ·exact .inl (.inr ⟨z,h,c⟩)
     ·rw [List.mem_singleton.mp h] at c;exact .inr c
   ·rintro ((h | ⟨z,hz,c⟩) | c)
    ·exact .inl h
    ·exact .inr ⟨z,List.mem_append_left _ hz,c⟩
    ·exact .inr ⟨y,List.mem_append_right _ (List.mem_singleton.mpr rfl),c⟩
  refine ⟨_,SqT.of hyl,rfl,_,_,rfl,_,_,rfl,rfl,rfl,?_⟩
  by_cases ok:okT wk s y.1.1
  ·refine zci (fun e=>?_) fun e=>⟨_,.inr hb1,rfl,zdn,zci (fun c=>?_) fun c=>absurd ok (fun z=>z.elim (fun z=>e (kw.mpr z)) fun z=>c (by rw [zec];exact decide_eq_false z))⟩
   all_goals
    have big:(2000:Nat)<sizeLine:=by decide
    refine ⟨by decide,fun p hp=>?_⟩
    have s2:=zah hp (.tup [.int y.1.1])
    have e2:L2.upd H' p (.tup [.int y.1.1]) p=_:=zad
    generalize L2.upd H' p (.tup [.int y.1.1])=H2 at s2 e2 ⊢
    refine ⟨_,s2.tup hb1,_,SqT.of e2,by simpa using hne,by rw [List.length_map];show s.1.length+1≤_;omega,(fun z=>nomatch z),fun _ p3 hp3=>?_⟩
    have s3:=zah hp3 (.tup (s.1.map V.int++[.int y.1.1]))
    have e3:L2.upd H2 p3 (.tup (s.1.map V.int++[.int y.1.1])) p3=_:=zad
    generalize L2.upd H2 p3 (.tup (s.1.map V.int++[.int y.1.1]))=H3 at s3 e3 ⊢
    refine ⟨s.1++[y.1.1],by rw [List.map_append];exact SqT.of e3,by rw [List.length_append];show s.1.length+1<64;omega,fun l1 ms hl1 hm hs _=>?_⟩
    have s4:=zah hl1 (.lst (ms.map V.int))
    have e4:L2.upd H3 l1 (.lst (ms.map V.int)) l1=_:=zad
    generalize L2.upd H3 l1 (.lst (ms.map V.int))=H4 at s4 e4 ⊢
    have em:ms=zfO y.1.1 s.1:=zfF hs (zcK hr) fun x=>by
     rw [hm,zbK,List.mem_append,List.mem_singleton]
     exact Or.comm
    subst em
    have s14:=(s2.trans s3).trans s4
    refine ⟨_,.inl ⟨SqL.of e4,fun t ht=>?_⟩⟩
    have s5:=zah ht (.tup ((zfO y.1.1 s.1).map V.int))
    have e5:L2.upd H4 t (.tup ((zfO y.1.1 s.1).map V.int)) t=_:=zad
    generalize L2.upd H4 t (.tup ((zfO y.1.1 s.1).map V.int))=H5 at s5 e5 ⊢
    have s15:=s14.trans s5
    refine ⟨.inl ⟨rfl,_,SqL.of (s15 _ _ I'.h)⟩,by decide,fun pl hpl=>?_⟩
    have s6:=zah hpl (.lst [.int 0,.int y.1.1])
    have e6:L2.upd H5 pl (.lst [.int 0,.int y.1.1]) pl=_:=zad
    generalize L2.upd H5 pl (.lst [.int 0,.int y.1.1])=H6 at s6 e6 ⊢
    have ev:atI [V.int 0,V.int y.1.1] (if kdW wk=Str.ofString "walk" then 1 else 0)=some (.int (if wk then y.1.1 else 0)):=by cases wk <;> rfl
    refine ⟨rfl,_,SqL.of e6,_,ev,by decide,fun pn hpn=>?_⟩
    have s7:=zah hpn (.tup [.ref t,.int (if wk then y.1.1 else 0)])
    have e7:L2.upd H6 pn (.tup [.ref t,.int (if wk then y.1.1 else 0)]) pn=_:=zad
    generalize L2.upd H6 pn (.tup [.ref t,.int (if wk then y.1.1 else 0)])=H7 at s7 e7 ⊢
    have s17:=(s15.trans s6).trans s7
    have h7:=s17 _ _ I'.h
    have tk:∀ b zs,H7 b=some (.tup zs)→L2.upd H7 l (.lst ((xs'.map fun x=>V.ref x.2)++[.ref pn])) b=some (.tup zs):=fun b zs hb=>by rw [zaj (zbZ hb h7 (fun z=>nomatch z))];exact hb
    have ln:=I'.len
    refine ⟨_,h7,by rw [List.length_map];omega,xs'++[(bhd wk s y.1.1,pn)],⟨(I'.s.trans s17).put h0,by rw [List.map_append];exact zad,fun x hx=>?_,fun t'=>?_,by rw [List.length_append];show _+1≤_;omega⟩,fun a u na ha=>by rw [zaj na];exact s17 _ _ (kp a u na ha)⟩
    ·rcases List.mem_append.mp hx with hx | hx
     ·exact (zdZ (I'.ks x hx) s17).same tk
     ·rw [List.mem_singleton.mp hx]
      exact ⟨t,.inl (tk _ _ e7),.inl (tk _ _ (s7 _ _ (s6 _ _ e5)))⟩
    ·rw [List.map_append,List.mem_append,I'.mem,nstep]
     exact or_congr Iff.rfl (List.mem_singleton.trans ⟨fun h=>⟨ok,h⟩,fun h=>h.2⟩)
  ·have I2:NxI K H0 H' l xs' (fun t=>N t∨∃ z∈ys.take (j+1),okT wk s z.1.1∧t=bhd wk s z.1.1) (n+(j+1)):=⟨I'.s,I'.h,I'.ks,fun t=>(I'.mem t).trans (((nstep t).trans ⟨fun h=>h.elim id fun h=>absurd h.1 ok,.inl⟩).symm),by have:=I'.len;omega⟩
   refine zci (fun e=>absurd (.inl (kw.mp e)) ok) fun e=>⟨_,.inr hb1,rfl,zdn,zci (fun c=>absurd (.inr (fun z=>by rw [zec] at c;exact of_decide_eq_false c z)) ok) fun c=>⟨xs',I2,kp⟩⟩
 ·rintro σ H' ⟨xs',I',kp,y6,y7,y8,rfl⟩
  refine q xs' H' y6 y7 y8 (fun a u na ha=>kp a u na (s1 _ _ ha)) ⟨I'.s,I'.h,I'.ks,fun t=>(I'.mem t).trans (or_congr Iff.rfl ?_),by have:=I'.len;rw [List.length_map] at this;omega⟩
  rw [List.length_map,List.take_length]
  constructor
  ·rintro ⟨z,hz,c⟩
   exact ⟨z.1.1,(hk _).mp (List.mem_map.mpr ⟨z,hz,rfl⟩),c⟩
  ·rintro ⟨b,hb,c⟩
   obtain ⟨z,hz,rfl⟩:=List.mem_map.mp ((hk b).mpr hb)
   exact ⟨z,hz,c⟩
theorem zfR {w rl b:Addr} {ts:List Addr} {m:Int} {rs:List zbb} {wk:Bool} {s:Std} (W:zeU H w rl ts m rs) (G':GW m rs) (l20:rs.length≤20) (g12:∀ r∈rs,r.2.2≤12) (hb:SqT K H b (s.1.map V.int)) (hr':s.1.Pairwise (·<·)) (hne:s.1≠[]) (hl:s.1.length≤20)
  (q:∀ (l:Addr) (xs:List SAd) (H1:Hp),H l=none→NxI K H H1 l xs (fun t=>∃ x y,Nb rs x y∧zhx wk s x y=true∧t=bhd wk s y) 1000→Q (.ref l) H1) :
  zc8 K { nx:=fun _ H'=>Q .non H',rt:=Q } (L2.zbE ["_law_web_here","_law_kind","_law_places","_law_here","_law_found","_law_place","_law_other","_law_length","_law_near"] [.ref w,.str (kdW wk),.ref b,.int s.2]) H:=by
 unfold zc8
 simp_all only [za7,zac]
 refine ⟨by decide,fun l hl0=>?_⟩
 have s0:=zah hl0 (.lst [])
 have I0:NxI K H (L2.upd H l (.lst [])) l [] (fun t=>∃ x∈(nxP wk s).take 0,∃ y,Nb rs x y∧okT wk s y∧t=bhd wk s y) (40*0):=⟨s0,zad,(fun x h=>nomatch h),fun t=>⟨fun h=>(nomatch h),fun ⟨x,h,_⟩=>nomatch h⟩,Nat.le_refl _⟩
 have stp:∀ {i:Nat} {x:Int} {N:Std→Prop},(nxP wk s)[i]?=some x→∀ t,((∃ x∈(nxP wk s).take i,∃ y,Nb rs x y∧okT wk s y∧t=bhd wk s y)∨∃ y,Nb rs x y∧okT wk s y∧t=bhd wk s y)↔∃ x∈(nxP wk s).take (i+1),∃ y,Nb rs x y∧okT wk s y∧t=bhd wk s y:=fun {i x _} hx t=>by
  rw [List.take_add_one,hx]
  constructor
  ·rintro (⟨z,hz,c⟩ | c)
   ·exact ⟨z,List.mem_append_left _ hz,c⟩
   ·exact ⟨x,List.mem_append_right _ (List.mem_singleton.mpr rfl),c⟩
  ·rintro ⟨z,hz,c⟩
   rcases List.mem_append.mp hz with h | h
   ·exact .inl ⟨z,h,c⟩
   ·rw [List.mem_singleton.mp h] at c;exact .inr c
 have fin:∀ {xs:List SAd} {H':Hp},NxI K H H' l xs (fun t=>∃ x∈(nxP wk s).take (nxP wk s).length,∃ y,Nb rs x y∧okT wk s y∧t=bhd wk s y) (40*(nxP wk s).length)→Q (.ref l) H':=fun {xs H'} I=>by
  refine q l xs H' hl0 ⟨I.s,I.h,I.ks,fun t=>(I.mem t).trans ?_,Nat.le_trans I.len ?_⟩
  ·rw [List.take_length]
   exact ⟨fun ⟨x,hx,y,h1,h2,h3⟩=>⟨x,y,h1,zfG.mpr ⟨hx,h2⟩,h3⟩,fun ⟨x,y,h1,h2,h3⟩=>⟨x,(zfG.mp h2).1,y,h1,(zfG.mp h2).2,h3⟩⟩
  ·unfold nxP
   split
   ·show 40*1≤1000;decide
   ·omega
 have wlk:∀ (i:Nat) v σ (H' G:Hp),((nxP wk s).map V.int)[i]?=some v→(∃ xs,NxI K H H' l xs (fun t=>∃ x∈(nxP wk s).take i,∃ y,Nb rs x y∧okT wk s y∧t=bhd wk s y) (40*i)∧(∀ a u,a≠l→G a=some u→H' a=some u)∧∃ y5 y6 y7 y8,σ=[some (.ref w),some (.str (kdW wk)),some (.ref b),some (.int s.2),some (.ref l),y5,y6,y7,y8])→∀ (D:zbY),(∀ σ H',(∃ xs,NxI K H H' l xs (fun t=>∃ x∈(nxP wk s).take (i+1),∃ y,Nb rs x y∧okT wk s y∧t=bhd wk s y) (40*(i+1))∧(∀ a u,a≠l→G a=some u→H' a=some u)∧∃ y5 y6 y7 y8,σ=[some (.ref w),some (.str (kdW wk)),some (.ref b),some (.int s.2),some (.ref l),y5,y6,y7,y8])→D.nx σ H') →
   zag 5 v σ H' ((zdB (zcd K (za8 zfv [] E0 (zab (zac 0) (zab (zac 5) zam)))) (zd4 K 2 (zau (zag 6) (zau (zag 7) zdW))) (zbV K)) D):=by
  rintro i v σ H' G hv ⟨xs,I,kp,y5,y6,y7,y8,rfl⟩ D hD
  obtain ⟨x,hx,rfl⟩:=zcZ hv
  have li:i<20:=by
   have:=(List.getElem?_eq_some_iff.mp hx).1
   unfold nxP at this
   split at this
   ·have:i<1:=this;omega
   ·omega
  exact zlM W G' l20 g12 hb hr' hne hl hl0 I (by omega) fun xs' H2 y6 y7 y8 k2 I2=>hD _ _ ⟨xs',⟨I2.s,I2.h,I2.ks,fun t=>(I2.mem t).trans (stp (N:=fun _=>True) hx t),I2.len⟩,fun a u na ha=>k2 a u na (kp a u na ha),_,_,_,_,rfl⟩
 refine ⟨rfl,zci (fun e=>⟨by decide,fun p hp=>.inl ⟨⟨_,SqL.of zad⟩,?_⟩⟩) fun e=>.inr ⟨⟨_,s0.tup hb⟩,?_⟩⟩
 ·have ew:wk=true:=by cases wk;exact absurd e (by decide);rfl
  have sp:=zah hp (.lst [.int s.2])
  have np:p≠l:=(zap I0.h hp).symm
  have e1:L2.upd (L2.upd H l (.lst [])) p (.lst [.int s.2]) p=some (.lst ((nxP wk s).map V.int)):=by rw [zad,ew];rfl
  refine zbw (K:=K) (xs:=(nxP wk s).map V.int) (fun i σ H'=>∃ xs,NxI K H H' l xs (fun t=>∃ x∈(nxP wk s).take i,∃ y,Nb rs x y∧okT wk s y∧t=bhd wk s y) (40*i)∧(∀ a u,a≠l→L2.upd (L2.upd H l (.lst [])) p (.lst [.int s.2]) a=some u→H' a=some u)∧∃ y5 y6 y7 y8,σ=[some (.ref w),some (.str (kdW wk)),some (.ref b),some (.int s.2),some (.ref l),y5,y6,y7,y8]) ⟨[],⟨I0.s.trans sp,sp _ _ I0.h,(fun x h=>nomatch h),I0.mem,I0.len⟩,fun _ _ _ h=>h,_,_,_,_,rfl⟩ ?_ ?_ ?_
  ·rintro i σ H' hi ⟨xs,I,kp,y5,y6,y7,y8,rfl⟩
   exact SqL.of (kp _ _ np e1)
  ·intro i v σ H' hv hP
   exact wlk i v σ H' _ hv hP _ fun _ _ h=>h
  ·rintro σ H' ⟨xs,I,kp,y5,y6,y7,y8,rfl⟩
   simp_all only [za7,zac]
   rw [List.length_map] at I
   exact fin I
 ·have ew:wk=false:=by cases wk;rfl;exact absurd rfl e
  have eb:s.1=nxP wk s:=by rw [ew];rfl
  refine zkN (K:=K) (xs:=(nxP wk s).map V.int) (fun i σ H'=>∃ xs,NxI K H H' l xs (fun t=>∃ x∈(nxP wk s).take i,∃ y,Nb rs x y∧okT wk s y∧t=bhd wk s y) (40*i)∧(∀ a u,a≠l→H a=some u→H' a=some u)∧∃ y5 y6 y7 y8,σ=[some (.ref w),some (.str (kdW wk)),some (.ref b),some (.int s.2),some (.ref l),y5,y6,y7,y8]) ⟨[],I0,fun _ _ _ h=>s0 _ _ h,_,_,_,_,rfl⟩ ?_ ?_ ?_
  ·rintro i σ H' hi ⟨xs,I,kp,y5,y6,y7,y8,rfl⟩
   rw [← eb]
   exact I.s.tup hb
  ·intro i v σ H' hv hP
   exact wlk i v σ H' _ hv hP _ fun _ _ h=>h
  ·rintro σ H' ⟨xs,I,kp,y5,y6,y7,y8,rfl⟩
   simp_all only [za7,zac]
   rw [List.length_map] at I
   exact fin I
theorem zbt:zaW ["_law_web_here","_law_kind","_law_places","_law_here","_law_found","_law_place","_law_other","_law_length","_law_near"] ["_law_web_here","_law_kind","_law_places","_law_here"] (zas zdg):=⟨rfl,rfl,rfl,by decide +kernel,rfl,by decide +kernel,by decide +kernel⟩
theorem zfQ (T:Txt K mg a):zd2 P w K mg base CX0 2 a.f__law_next a.d__law_next ["_law_web_here","_law_kind","_law_places","_law_here"] (zjr K):=by
 have G__law_roads:=zfq (P:=P) (w:=w) (base:=base) T
 refine T.F__law_next.ok zbt (fun vs H Q E h=>?_) (fun cdv A outer s H vs Q E hr h=>?_)
 ·obtain ⟨w',rl,ts,m,rs,wk,s,b,rfl,W,G,l20,g12,hb,hr',hne,hl,q⟩:=h
  rfl
 obtain ⟨w',rl,ts,m,rs,wk,s,b,rfl,W,G,l20,g12,hb,hr',hne,hl,q⟩:=h
 exact ⟨zc8 K,(zae (zaD (i:=4) zbt.nd rfl (Or.inl rfl) (zb2 zaf))
 (zae (zbU PassesOwn.never rfl (zmj (zhr (zaS zgD (pv 1) zev (zbq _)) (zb2 (zaa (pv 3) zaf)) (pv 2))) (zan (i:=5) zbt.nd rfl (Or.inl rfl))
 (zai (zbU PassesOwn.never rfl (zb8 (zaT G__law_roads (hr.mono (by decide)) rfl T.m__law_roads T.F__law_roads.kp T.b__law_roads .nil zb7 (zaa (pv 0) (zaa (pv 5) zaf)))) (zce rfl (zao (zan (i:=6) zbt.nd rfl (Or.inl rfl)) (zao (zan (i:=7) zbt.nd rfl (Or.inl rfl)) zbF)))
 (zai (zcr (PW.pt (zeR (zaS zgD (pv 1) zev (zbq _)) (zeW (zaS zcB (pv 6) (pv 2) (by with_unfolding_all rfl))))) (zae (zaD (i:=8) zbt.nd rfl (Or.inl rfl) (zcb zdj rfl T.z_tuple zcV (zaa (zei rfl T.z_sorted rfl T.z_set (zaa (zav zjF (pv 2) (zby (zaa (pv 6) zaf))) zaf)) zaf)))
 (zai (zbu (zeO PySem.F.plainAttrs_list PySem.F.slot_list_append PySem.F.type_list_append zbN (pv 4) (zaa (zby (zaa (pv 8) (zaa (zbG zbi (zb2 (zaa zak (zaa (pv 6) zaf))) (zcb zif rfl T.z_int zhK (zaa (zel zgD (pv 1) zev (zbq _)) zaf)) (fun _ _=>rfl)) zaf))) zaf))))) zbe)))))
 (zai (zbx (pv 4))))),
  zfR W G l20 g12 hb hr' hne hl q⟩
theorem Rc.ok {rs:List zbb} {wk:Bool} {m:Int} {s:Std} (G:GW m rs) (h:Rc rs wk s):zfi wk m s:=by
 have m1:=G.m1
 induction h with
 | first=>exact ⟨by simp [st0],by simp [st0],fun p hp=>by simp [st0] at hp;omega,by cases wk <;> simp [st0]⟩
 | @step s x y h hn ho ih =>
  obtain ⟨r,hr,c⟩:=hn
  have g:=G.gr r hr
  unfold GR at g
  have gy:0≤y∧y<m:=by rcases c with ⟨_,rfl⟩ | ⟨rfl,_⟩ <;> omega
  refine ⟨zcK ih.rise,zbK.mpr (.inr ih.zero),fun p hp=>?_,?_⟩
  ·rcases zbK.mp hp with rfl | hp
   ·exact gy
   ·exact ih.bd p hp
  ·unfold bhd
   cases wk
   ·rfl
   ·simp only [if_true];exact zbK.mpr (.inl rfl)
structure DuI (K:PySem.W.Frag) (H0 H:Hp) (l:Addr) (xs:List SAd) (rs:List zbb) (wk:Bool) (i:Nat):Prop where
 s:zba H0 H
 h:H l=some (.lst (xs.map fun x=>V.ref x.2))
 ks:∀ x∈xs,StH K H x.1 x.2
 rc:∀ x∈xs,Rc rs wk x.1
 nd:(xs.map (·.1)).Nodup
 st:st0∈xs.map (·.1)
 cl:∀ (j:Nat) x,j<i→xs[j]?=some x→∀ a b,Nb rs a b→zhx wk x.1 a b=true→bhd wk x.1 b∈xs.map (·.1)
theorem DuI.len {K:PySem.W.Frag} {H0 H:Hp} {l:Addr} {xs:List SAd} {rs:List zbb} {wk:Bool} {i:Nat} {m:Nat} (D:DuI K H0 H l xs rs wk i) (G:GW m rs) (m6:m≤6):xs.length≤112:=by
 have m1:=G.m1
 have:=zdt (l:=xs.map (·.1)) (L:=zgw m) D.nd fun k hk=>by
  obtain ⟨x,hx,rfl⟩:=List.mem_map.mp hk
  exact ze3 ((D.rc x hx).ok G) (by omega)
 rw [List.length_map] at this
 exact Nat.le_trans this (zeF m6)
theorem DuI.all {K:PySem.W.Frag} {H0 H:Hp} {l:Addr} {xs:List SAd} {rs:List zbb} {wk:Bool} (D:DuI K H0 H l xs rs wk xs.length) (s:Std):s∈xs.map (·.1)↔Rc rs wk s:=by
 constructor
 ·intro h
  obtain ⟨x,hx,rfl⟩:=List.mem_map.mp h
  exact D.rc x hx
 ·intro h
  induction h with
  | first=>exact D.st
  | @step s x y h hn ho ih =>
   obtain ⟨z,hz,rfl⟩:=List.mem_map.mp ih
   obtain ⟨j,hj,e⟩:=List.getElem_of_mem hz
   exact D.cl j z hj (by rw [← e];exact List.getElem?_eq_getElem hj) x y hn ho
theorem zf4 {K:PySem.W.Frag} {H:Hp} {l:Addr} {xs ys zs:List SAd} {rs:List zbb} {wk:Bool} (S:StL K H l xs rs wk) (hm:∀ s,s∈ys.map (·.1)↔Rc rs wk s) (nd:(ys.map (·.1)).Nodup) (sm:∀ y∈ys,Sml y.1) (pm:zs.Perm ys) (up:zs.Pairwise fun x y=>stR x.1≤stR y.1):xs.map (·.1)=zs.map (·.1):=by
 have mz:∀ s,s∈zs.map (·.1)↔Rc rs wk s:=fun s=>((pm.map (·.1)).mem_iff).trans (hm s)
 have sz:∀ s∈zs.map (·.1),Sml s:=fun s hs=>by
  obtain ⟨z,hz,rfl⟩:=List.mem_map.mp hs
  exact sm z (pm.mem_iff.mp hz)
 have sx:∀ s∈xs.map (·.1),Sml s:=fun s hs=>by
  obtain ⟨z,hz,rfl⟩:=List.mem_map.mp hs
  exact S.sm z hz
 refine zeX (f:=stR) (fun x hx y hy e=>zfo (sx x hx) (sz y hy) e) ?_
 have uz:=zm9 (f:=stR) (l:=zs.map (·.1)) (by rw [List.pairwise_map];exact up) ((pm.map (·.1)).nodup_iff.mpr nd) fun x hx y hy e=>zfo (sz x hx) (sz y hy) e
 have ux:((xs.map (·.1)).map stR).Pairwise (·<·):=by rw [List.map_map];exact S.up
 refine zfF ux uz fun r=>?_
 rw [List.mem_map,List.mem_map]
 exact ⟨fun ⟨s,h,e⟩=>⟨s,(mz s).mpr ((S.mem s).mp h),e⟩,fun ⟨s,h,e⟩=>⟨s,(S.mem s).mpr ((mz s).mp h),e⟩⟩
def stT (s:Std):Tr:=.tup [.tup (s.1.map Tr.int),.int s.2]
theorem zd6 {K:PySem.W.Frag} {H:Hp} {l:Addr} {xs:List SAd} {zs:List Std} (h:H l=some (.lst (xs.map fun x=>V.ref x.2))) (ks:∀ x∈xs,StH K H x.1 x.2) (e:xs.map (·.1)=zs):zcq K H 4 (.lst (zs.map stT)) (.ref l):=by
 subst e
 refine .lst (SqL.of h) (by rw [List.length_map,List.length_map,List.length_map]) fun i x t e1 e2=>?_
 obtain ⟨y,ey,rfl⟩:=zcZ e1
 rw [List.map_map,List.getElem?_map,ey] at e2
 cases e2
 obtain ⟨b,h1,h2⟩:=ks y (zca ey)
 refine .tup h1.sq rfl fun i x t e1 e2=>?_
 match i,e1,e2 with
 | 0,e1,e2 =>
  cases e1;cases e2
  refine .tup h2.sq (by rw [List.length_map,List.length_map]) fun i x t e1 e2=>?_
  obtain ⟨z,ez,rfl⟩:=zcZ e1
  rw [List.getElem?_map,ez] at e2
  cases e2
  exact .int _
 | 1,e1,e2=>cases e1;cases e2;exact .int _
 | n+2,e1,e2=>simp at e1
def rdT (r:zbb):Tr:=.tup [.int r.1,.int r.2.1,.int r.2.2]
theorem zfW {K:PySem.W.Frag} {H:Hp} {w rl:Addr} {ts:List Addr} {m:Int} {rs:List zbb} (W:zeU H w rl ts m rs):zcq K H 4 (.tup [.int m,.lst (rs.map rdT)]) (.ref w):=by
 refine .tup (SqT.of W.hw) rfl fun i x t e1 e2=>?_
 match i,e1,e2 with
 | 0,e1,e2=>cases e1;cases e2;exact .int _
 | 1,e1,e2 =>
  cases e1;cases e2
  refine .lst (SqL.of W.hl) (by rw [List.length_map,List.length_map,W.ht.1]) fun i x t e1 e2=>?_
  obtain ⟨y,ey,rfl⟩:=zcZ e1
  obtain ⟨r,hr,ho⟩:=W.ht.at ey
  rw [List.getElem?_map,hr] at e2
  cases e2
  refine .tup (SqT.of ho) rfl fun i x t e1 e2=>?_
  match i,e1,e2 with
  | 0,e1,e2=>cases e1;cases e2;exact .int _
  | 1,e1,e2=>cases e1;cases e2;exact .int _
  | 2,e1,e2=>cases e1;cases e2;exact .int _
  | n+3,e1,e2=>simp at e1
 | n+2,e1,e2=>simp at e1
def zkY (K:PySem.W.Frag):Sp:=fun vs H Q _=>∃ (p:Addr) (ns:List Int),vs=[.ref p]∧SqL K H p (ns.map V.int)∧ns.length≤63∧∀ H',Q (.bl true) H'
def zgX (K:PySem.W.Frag):TS :=
 (zaK (zbA (zlu K "list" zhe (zac 8)))
 (zcv (za2 (tOp (zlD K) (za8 (zbW K) [] E0 (zab (zac 7) (zab (zac 3) zam))) (tCB (zch K) (zab (zac 4) zam)))) (zdC (tC (.bl false))) zbp))
theorem za3 (K:PySem.W.Frag) (D:zbY) (σ:St) (H:Hp):zgX K D σ H=(zaK (zbA (zlu K "list" zhe (zac 8)))
 (zcv (za2 (tOp (zlD K) (za8 (zbW K) [] E0 (zab (zac 7) (zab (zac 3) zam))) (tCB (zch K) (zab (zac 4) zam)))) (zdC (tC (.bl false))) zbp)) D σ H:=rfl
def zgR (K:PySem.W.Frag):TS :=
 (zcv (tOr (zgx (tB (tCB (zgY K) (zab (zac 8) (zab (tC (.ty "list")) zam))))) (tOr (za2 (tOp (zlD K) (zac 8) (tCB (zch K) (zab (zac 4) zam)))) (za2 (tOp (zlD K) (zac 7) (zac 2))))) (zdC (tC (.bl false))) zbp)
theorem za1 (K:PySem.W.Frag) (D:zbY) (σ:St) (H:Hp):zgR K D σ H=(zcv (tOr (zgx (tB (tCB (zgY K) (zab (zac 8) (zab (tC (.ty "list")) zam))))) (tOr (za2 (tOp (zlD K) (zac 8) (tCB (zch K) (zab (zac 4) zam)))) (za2 (tOp (zlD K) (zac 7) (zac 2))))) (zdC (tC (.bl false))) zbp) D σ H:=rfl
def zgZ (K:PySem.W.Frag):TS :=
 (zaK (zdB (zcd K (za8 (zjr K) [] E0 (zab (zac 2) (zab (zac 3) (zab (tOp (ze1 K) (tOp (zcs K) (zac 4) (zac 5)) (tC (.int 0))) (zab (tOp (ze1 K) (tOp (zcs K) (zac 4) (zac 5)) (tC (.int 1))) zam)))))) (zag 6)
 (zcv (za2 (tOp (zdu K) (zac 6) (zac 4))) (zbA (tBM K "list" zaU (zac 4) (zab (zac 6) zam))) zbp))
 (zbm (tOp (rI0 fun i j=>.int (i+j)) (zac 5) (tC (.int 1))) (zag 5)))
theorem za4 (K:PySem.W.Frag) (D:zbY) (σ:St) (H:Hp):zgZ K D σ H=(zaK (zdB (zcd K (za8 (zjr K) [] E0 (zab (zac 2) (zab (zac 3) (zab (tOp (ze1 K) (tOp (zcs K) (zac 4) (zac 5)) (tC (.int 0))) (zab (tOp (ze1 K) (tOp (zcs K) (zac 4) (zac 5)) (tC (.int 1))) zam)))))) (zag 6)
 (zcv (za2 (tOp (zdu K) (zac 6) (zac 4))) (zbA (tBM K "list" zaU (zac 4) (zab (zac 6) zam))) zbp))
 (zbm (tOp (rI0 fun i j=>.int (i+j)) (zac 5) (tC (.int 1))) (zag 5))) D σ H:=rfl
def zgJ (K:PySem.W.Frag):TS :=
 (zaK (zbm (zcj (zab (tOp (ze1 K) (zac 2) (tC (.int 0))) (zab (tCB (fun xs H Q=>∃ p ys,xs=[.ref p]∧(SqL K H p ys∨SqT K H p ys)∧∀ l,H l=none→Q (.ref l) (upd H l (.lst ys))) (zab (tOp (ze1 K) (zac 2) (tC (.int 1))) zam)) zam))) (zag 7))
 (zaK (zbm (za8 (zbW K) [] E0 (zab (zac 7) (zab (zac 3) zam))) (zag 8))
 (zaK (zlt (zgR K))
 (zgX K))))
theorem za0 (K:PySem.W.Frag) (D:zbY) (σ:St) (H:Hp):zgJ K D σ H=(zaK (zbm (zcj (zab (tOp (ze1 K) (zac 2) (tC (.int 0))) (zab (tCB (fun xs H Q=>∃ p ys,xs=[.ref p]∧(SqL K H p ys∨SqT K H p ys)∧∀ l,H l=none→Q (.ref l) (upd H l (.lst ys))) (zab (tOp (ze1 K) (zac 2) (tC (.int 1))) zam)) zam))) (zag 7))
 (zaK (zbm (za8 (zbW K) [] E0 (zab (zac 7) (zab (zac 3) zam))) (zag 8))
 (zaK (zlt (zgR K))
 (zgX K)))) D σ H:=rfl
def zjq (K:PySem.W.Frag):TS :=
 (zaK (zbm (zes (zab (zcj (zab (zcj (zab (tC (.int 0)) zam)) (zab (tC (.int 0)) zam))) zam)) (zag 4))
 (zaK (zbm (tC (.int 0)) (zag 5))
 (zaK (ze9 (za2 (tOp (rI0 fun i j=>.bl (decide (i<j))) (zac 5) (tCB (fun xs H Q=>∃ p ys,xs=[.ref p]∧(SqL K H p ys∨SqT K H p ys)∧Q (.int ys.length) H) (zab (zac 4) zam)))) (zgZ K))
 (zgJ K))))
theorem zaZ (K:PySem.W.Frag) (D:zbY) (σ:St) (H:Hp):zjq K D σ H=(zaK (zbm (zes (zab (zcj (zab (zcj (zab (tC (.int 0)) zam)) (zab (tC (.int 0)) zam))) zam)) (zag 4))
 (zaK (zbm (tC (.int 0)) (zag 5))
 (zaK (ze9 (za2 (tOp (rI0 fun i j=>.bl (decide (i<j))) (zac 5) (tCB (fun xs H Q=>∃ p ys,xs=[.ref p]∧(SqL K H p ys∨SqT K H p ys)∧Q (.int ys.length) H) (zab (zac 4) zam)))) (zgZ K))
 (zgJ K)))) D σ H:=rfl
def zmp (K:PySem.W.Frag):TS :=
 (zaK (zbm (za8 (zjp K) [] E0 (zab (zac 0) (zab (tC (.int 20)) zam))) (zag 1))
 (zaK (zbm (za8 zne [] E0 (zab (zac 1) (zab (tC (.int 0)) (zab (tC (.int 6)) zam)))) (zag 2))
 (zaK (zdB (zcd K (zes (zab (tC (.str "walk")) (zab (tC (.str "spread")) zam)))) (zag 3)
 (zjq K))
 (zdC (tC (.bl true))))))
theorem zm1 {p:Addr} {ns:List Int} (hS:SqL K H p (ns.map V.int)) (q:∀ (H':Hp),Q (.bl true) H') :
  zmp K { nx:=fun _ H'=>Q .non H',rt:=Q } (L2.zbE ["_law_script","_law_draws_here","_law_web_here","_law_kind","_law_due","_law_at","_law_near","_law_handed","_law_found"] [.ref p]) H:=by
 unfold zmp
 simp_all only [za3,za1,za4,za0,zaZ,zac]
 refine ⟨p,ns,20,rfl,hS,by decide,by decide,fun dl ds H1 s1 _ h1 ld bd=>?_⟩
 simp_all only [za3,za1,za4,za0,zaZ,zac]
 refine ⟨dl,ds,0,6,rfl,h1,by decide,by omega,by decide,by decide,bd,fun w rl ts m' rs H2 s2 W2 G m6 l20 g12=>?_⟩
 simp_all only [za3,za1,za4,za0,zaZ,zac]
 obtain ⟨m,rfl⟩:∃ m:Nat,m'=m:=⟨m'.toNat,by have:=G.m1;omega⟩
 refine ⟨by decide,fun kl hkl=>?_⟩
 have sk:=zah hkl (.lst [.str "walk",.str "spread"])
 have ek:L2.upd H2 kl (.lst [.str "walk",.str "spread"]) kl=_:=zad
 have W3:=W2.same sk
 generalize L2.upd H2 kl (.lst [.str "walk",.str "spread"])=H3 at sk ek W3 ⊢
 refine ⟨⟨_,SqL.of ek⟩,?_⟩
 refine zbw (K:=K) (xs:=[.str "walk",.str "spread"]) (fun i σ H'=>zba H3 H'∧∃ x3 x4 x5 x6 x7 x8,σ=[some (.ref p),some (.ref dl),some (.ref w),x3,x4,x5,x6,x7,x8]) ⟨.refl _,_,_,_,_,_,_,rfl⟩ ?_ ?_ ?_
 ·rintro i σ H' hi ⟨s,_⟩
  exact SqL.of (s _ _ ek)
 ·rintro i v σ H4 hv ⟨s4,x3,x4,x5,x6,x7,x8,rfl⟩
  obtain ⟨wk,rfl⟩:∃ wk,v=.str (kdW wk):=by
   match i,hv with
   | 0,hv=>cases hv;exact ⟨true,rfl⟩
   | 1,hv=>cases hv;exact ⟨false,rfl⟩
   | n+2,hv=>simp at hv
  have W4:=W3.same s4
  simp_all only [za3,za1,za4,za0,zaZ,zac]
  refine ⟨by decide,fun pa hpa=>⟨by decide,fun pb hpb=>⟨by decide,fun du hdu=>?_⟩⟩⟩
  have sa:=zah hpa (.tup [.int 0])
  have ea:L2.upd H4 pa (.tup [.int 0]) pa=_:=zad
  generalize L2.upd H4 pa (.tup [.int 0])=G1 at sa ea hpb hdu ⊢
  have sb:=zah hpb (.tup [.ref pa,.int 0])
  have eb:L2.upd G1 pb (.tup [.ref pa,.int 0]) pb=_:=zad
  generalize L2.upd G1 pb (.tup [.ref pa,.int 0])=G2 at sb eb hdu ⊢
  have sd:=zah hdu (.lst [.ref pb])
  have W5:=W4.same (sa.trans sb)
  refine zgL (fun n σ H'=>∃ xs i,DuI K G2 H' du xs rs wk i∧n=113 - i∧i≤xs.length∧∃ x6 x7 x8,σ=[some (.ref p),some (.ref dl),some (.ref w),some (.str (kdW wk)),some (.ref du),some (.int (i:Int)),x6,x7,x8]) (m:=113) ⟨[(st0,pb)],0,⟨sd,zad,fun x hx=>?_,fun x hx=>?_,List.nodup_cons.mpr ⟨(fun z=>nomatch z),.nil⟩,List.mem_singleton.mpr rfl,fun j x hj=>by omega⟩,rfl,Nat.zero_le _,_,_,_,rfl⟩ ?_
  ·rw [List.mem_singleton.mp hx]
   exact ⟨pa,.inl (sd _ _ eb),.inl (sd _ _ (sb _ _ ea))⟩
  ·rw [List.mem_singleton.mp hx]
   exact .first
  rintro n σ H5 ⟨xs,i,D,hn,hi,x6,x7,x8,rfl⟩
  have l112:=D.len G (by omega)
  have W6:=W5.same D.s
  simp_all only [za3,za1,za4,za0,zaZ,zac]
  refine ⟨_,.inl (SqL.of D.h),zci (fun lt=>⟨fun σ' H'=>∃ m',m'<n∧∃ xs i,DuI K G2 H' du xs rs wk i∧m'=113 - i∧i≤xs.length∧∃ x6 x7 x8,σ'=[some (.ref p),some (.ref dl),some (.ref w),some (.str (kdW wk)),some (.ref du),some (.int (i:Int)),x6,x7,x8],fun _ _ h=>h,?_⟩) fun ge=>?_⟩
  ·have li:i<xs.length:=by rw [List.length_map] at lt;omega
   have hx:xs[i]?=some xs[i]:=List.getElem?_eq_getElem li
   generalize xs[i]=x at hx
   have hxm:=zca hx
   have sok:=(D.rc x hxm).ok G
   obtain ⟨b,hb1,hb2⟩:=D.ks x hxm
   have ev:atI (xs.map fun x=>V.ref x.2) (i:Int)=some (.ref x.2):=ziM (by rw [List.getElem?_map,hx];rfl)
   refine ⟨_,SqL.of D.h,_,ev,_,rfl,_,hb1.sq,_,rfl,_,SqL.of D.h,_,ev,_,rfl,_,hb1.sq,_,rfl,?_⟩
   refine ⟨w,rl,ts,m,rs,wk,x.1,b,rfl,W6,G,l20,g12,hb2.sq,sok.rise,(fun z=>by have:=sok.zero;rw [z] at this;cases this),by have:=sok.len;omega,fun nl ys H6 hnl N=>⟨nl,rfl,⟨_,SqL.of N.h⟩,?_⟩⟩
   have nnl:nl≠du:=fun z=>by rw [z,D.h] at hnl;cases hnl
   have d6:=N.s _ _ D.h
   refine zbw (K:=K) (xs:=ys.map fun x=>V.ref x.2) (fun j σ H'=>∃ xs',DuI K G2 H' du xs' rs wk i∧(∃ zs,xs'=xs++zs)∧(∀ y∈ys.take j,y.1∈xs'.map (·.1))∧(∀ a u,a≠du→H6 a=some u→H' a=some u)∧∃ x6 x7 x8,σ=[some (.ref p),some (.ref dl),some (.ref w),some (.str (kdW wk)),some (.ref du),some (.int (i:Int)),x6,x7,x8]) ⟨xs,⟨D.s.trans N.s,d6,fun x hx=>zdZ (D.ks x hx) N.s,D.rc,D.nd,D.st,D.cl⟩,⟨[],(List.append_nil _).symm⟩,(fun y h=>nomatch h),fun _ _ _ h=>h,_,_,_,rfl⟩ ?_ ?_ ?_
   ·rintro j σ H' hj ⟨xs',D',_,_,kp,y6,y7,y8,rfl⟩
    exact SqL.of (kp _ _ nnl N.h)
   ·rintro j v σ H' hv ⟨xs',D',⟨zs,ez⟩,inn,kp,y6,y7,y8,rfl⟩
    rw [List.getElem?_map] at hv
    obtain ⟨y,hy,rfl⟩:=Option.map_eq_some_iff.mp hv
    have hym:=zca hy
    have sty:StH K H' y.1 y.2:=(N.ks y hym).same fun b zs hb=>kp b _ (zbZ hb d6 (fun z=>nomatch z)) hb
    have l112:=D'.len G (by omega)
    have big:(2000:Nat)<sizeLine:=by decide
    obtain ⟨ya,yb,yn,yo,ye⟩:=(N.mem y.1).mp (List.mem_map.mpr ⟨y,hym,rfl⟩)
    simp_all only [za3,za1,za4,za0,zaZ,zac]
    refine ⟨y.1,sty,xs',D'.h,D'.ks,zci (fun c=>?_) fun c=>?_⟩
    ·have c':y.1∉xs'.map (·.1):=by simpa using c
     have tk:∀ b zs,H' b=some (.tup zs)→L2.upd H' du (.lst ((xs'.map fun x=>V.ref x.2)++[.ref y.2])) b=some (.tup zs):=fun b zs hb=>by rw [zaj (zbZ hb D'.h (fun z=>nomatch z))];exact hb
     refine ⟨.inl ⟨rfl,_,SqL.of D'.h⟩,_,D'.h,by rw [List.length_map];omega,xs'++[y],⟨D'.s.put hdu,by rw [List.map_append];exact zad,fun x hx=>?_,fun x hx=>?_,?_,?_,fun j x hj hx a b h1 h2=>?_⟩,⟨zs++[y],by rw [ez,List.append_assoc]⟩,fun z hz=>?_,fun a u na ha=>by rw [zaj na];exact kp a u na ha⟩
     ·rcases List.mem_append.mp hx with hx | hx
      ·exact (D'.ks x hx).same tk
      ·rw [List.mem_singleton.mp hx];exact sty.same tk
     ·rcases List.mem_append.mp hx with hx | hx
      ·exact D'.rc x hx
      ·rw [List.mem_singleton.mp hx,ye];exact (D.rc _ hxm).step yn yo
     ·rw [List.map_append,List.nodup_append]
      refine ⟨D'.nd,by simp,fun k hk k' hk' e=>c' ?_⟩
      have e2:k'=y.1:=List.mem_singleton.mp hk'
      rw [← e2,← e];exact hk
     ·rw [List.map_append];exact List.mem_append_left _ D'.st
     ·rw [List.map_append]
      have lx:i<xs'.length:=by rw [ez,List.length_append];omega
      rw [List.getElem?_append_left (by omega)] at hx
      exact List.mem_append_left _ (D'.cl j x hj hx a b h1 h2)
     ·rw [List.map_append]
      rw [List.take_add_one,hy] at hz
      rcases List.mem_append.mp hz with hz | hz
      ·exact List.mem_append_left _ (inn z hz)
      ·rw [List.mem_singleton.mp hz];exact List.mem_append_right _ (List.mem_singleton.mpr rfl)
    ·have c':y.1∈xs'.map (·.1):=by simpa using c
     refine ⟨xs',D',⟨zs,ez⟩,fun z hz=>?_,kp⟩
     rw [List.take_add_one,hy] at hz
     rcases List.mem_append.mp hz with hz | hz
     ·exact inn z hz
     ·rw [List.mem_singleton.mp hz];exact c'
   ·rintro σ H' ⟨xs',D',⟨zs,ez⟩,inn,kp,y6,y7,y8,rfl⟩
    rw [List.length_map,List.take_length] at inn
    simp_all only [za3,za1,za4,za0,zaZ,zac]
    have lx:i<xs'.length:=by rw [ez,List.length_append];omega
    have l112:=D'.len G (by omega)
    refine ⟨113 - (i+1),by omega,xs',i+1,⟨D'.s,D'.h,D'.ks,D'.rc,D'.nd,D'.st,fun j z hj hz a b h1 h2=>?_⟩,rfl,lx,rfl⟩
    by_cases cj:j<i
    ·exact D'.cl j z cj hz a b h1 h2
    ·have:j=i:=by omega
     subst this
     rw [ez,List.getElem?_append_left li,hx] at hz
     cases hz
     obtain ⟨y,hy,ey⟩:=List.mem_map.mp ((N.mem _).mpr ⟨a,b,h1,h2,rfl⟩)
     rw [← ey]
     exact inn y hy
  ·have ei:i=xs.length:=by rw [List.length_map] at ge;omega
   subst ei
   have smx:∀ z∈xs,Sml z.1:=fun z hz=>((D.rc z hz).ok G).sml (by have:=G.m1;omega) (by omega)
   refine ⟨_,SqT.of W6.hw,_,rfl,_,SqT.of W6.hw,_,rfl,_,rfl,_,.inl (SqL.of W6.hl),fun l hl=>⟨by decide,fun hd hhd=>?_⟩⟩
   have s6:=zah hl (.lst (ts.map V.ref))
   have s7:=zah hhd (.tup [.int m,.ref l])
   have D7:zeU (L2.upd (L2.upd H5 l (.lst (ts.map V.ref))) hd (.tup [.int m,.ref l])) hd l ts m rs:=⟨zad,s7 _ _ zad,(W6.ht.same s6).same s7⟩
   have s67:=s6.trans s7
   generalize L2.upd (L2.upd H5 l (.lst (ts.map V.ref))) hd (.tup [.int m,.ref l])=H7 at s67 D7 ⊢
   refine ⟨hd,l,ts,m,rs,wk,rfl,D7,G,by omega,fun f ys H8 s8 hf S=>?_⟩
   simp_all only [za3,za1,za4,za0,zaZ,zac]
   refine ⟨fun σ H'=>zba H8 H'∧σ=[some (.ref p),some (.ref dl),some (.ref w),some (.str (kdW wk)),some (.ref du),some (.int (xs.length:Int)),x6,some (.ref hd),some (.ref f)],?_,?_⟩
   ·simp_all only [za3,za1,za4,za0,zaZ,zac]
    refine zet S.h ⟨true,rfl,zci (fun c=>nomatch c) fun _=>?_⟩
    refine ⟨xs,(s67.trans s8) _ _ D.h,by omega,D.nd,fun z hz=>⟨zdZ (D.ks z hz) (s67.trans s8),smx z hz⟩,fun r zs hr pm up=>?_⟩
    have sr:=zah hr (.lst (zs.map fun x=>V.ref x.2))
    exact ⟨3,by decide,_,.inl ⟨zd6 (sr _ _ S.h) (fun x hx=>zdZ (S.ks x hx) sr) rfl,zd6 zad (fun z hz=>zdZ (D.ks z (pm.mem_iff.mp hz)) ((s67.trans s8).trans sr)) (zf4 S D.all D.nd smx pm up).symm⟩,3,by decide,_,.inr ⟨zfW ((D7.same s8).same sr),zfW ((W6.same (s67.trans s8)).same sr)⟩,sr⟩
   ·rintro σ H' ⟨s9,rfl⟩
    simp_all only [za3,za1,za4,za0,zaZ,zac]
    refine ⟨.inl ⟨rfl,_,SqL.of (s9 _ _ S.h)⟩,_,s9 _ _ S.h,?_⟩
    have sC:=(s8.trans s9).put (o:=.lst []) hf
    generalize L2.upd H' f (.lst [])=HC at sC ⊢
    refine ⟨hd,l,ts,m,rs,wk,rfl,D7.same sC,G,by omega,fun f2 ys2 HA sA hf2 S2=>?_⟩
    have s7A:=(s67.trans sC).trans sA
    refine ⟨xs,s7A _ _ D.h,by omega,D.nd,fun z hz=>⟨zdZ (D.ks z hz) s7A,smx z hz⟩,fun r zs hr pm up=>?_⟩
    have sr:=zah hr (.lst (zs.map fun x=>V.ref x.2))
    exact ⟨3,by decide,_,.inl ⟨zd6 (sr _ _ S2.h) (fun x hx=>zdZ (S2.ks x hx) sr) rfl,zd6 zad (fun z hz=>zdZ (D.ks z (pm.mem_iff.mp hz)) (s7A.trans sr)) (zf4 S2 D.all D.nd smx pm up).symm⟩,((((s4.trans (sa.trans sb)).trans D.s).trans s7A).trans sr)⟩
 ·rintro σ H' ⟨s,x3,x4,x5,x6,x7,x8,rfl⟩
  simp_all only [za3,za1,za4,za0,zaZ,zac]
  exact q H'
theorem zc1:zaW ["_law_script","_law_draws_here","_law_web_here","_law_kind","_law_due","_law_at","_law_near","_law_handed","_law_found"] ["_law_script"] (zas zmE):=⟨rfl,rfl,rfl,by decide +kernel,rfl,by decide +kernel,by decide +kernel⟩
theorem znz (T:Txt K mg a):zd2 P w K mg base CX0 9 a.f_law a.d_law ["_law_script"] (zkY K):=by
 have G__law_draws:=zfz (P:=P) (w:=w) (base:=base) T
 have G__law_next:=zfQ (P:=P) (w:=w) (base:=base) T
 have G__law_web:=zg0 (P:=P) (w:=w) (base:=base) T
 have G_standings:=zf7 (P:=P) (w:=w) (base:=base) T
 refine T.F_law.ok zc1 (fun vs H Q E h=>?_) (fun cdv A outer s H vs Q E hr h=>?_)
 ·obtain ⟨p,ns,rfl,hS,hl,q⟩:=h
  rfl
 obtain ⟨p,ns,rfl,hS,hl,q⟩:=h
 exact ⟨zmp K,(zae (zaD (i:=1) zc1.nd rfl (Or.inl rfl) (zaT G__law_draws (hr.mono (by decide)) rfl T.m__law_draws T.F__law_draws.kp T.b__law_draws .nil zb7 (zaa (pv 0) (zaa zak zaf))))
 (zae (zaD (i:=2) zc1.nd rfl (Or.inl rfl) (zaT G__law_web (hr.mono (by decide)) rfl T.m__law_web T.F__law_web.kp T.b__law_web .nil zb7 (zaa (pv 1) (zaa zak (zaa zak zaf)))))
 (zae (zbU PassesOwn.never rfl (zb8 (zb2 (zaa zev (zaa zev zaf)))) (zan (i:=3) zc1.nd rfl (Or.inl rfl))
 (zae (zaD (i:=4) zc1.nd rfl (Or.inl rfl) (zb2 (zaa (zby (zaa (zby (zaa zak zaf)) (zaa zak zaf))) zaf)))
 (zae (zaD (i:=5) zc1.nd rfl (Or.inl rfl) zak)
 (zae (zfx PassesOwn.never (zaS zmx (pv 5) (zat zaQ rfl T.z_len PySem.boot_len (zaa (pv 4) zaf)) (zbq _)) (zae (zbU PassesOwn.never rfl (zb8 (zaT G__law_next (hr.mono (by decide)) rfl T.m__law_next T.F__law_next.kp T.b__law_next .nil zb7 (zaa (pv 2) (zaa (pv 3) (zaa (zbG zc4 (zbG zbi (pv 4) (pv 5) (fun _ _=>rfl)) zak (fun _ _=>rfl)) (zaa (zbG zc4 (zbG zbi (pv 4) (pv 5) (fun _ _=>rfl)) zak (fun _ _=>rfl)) zaf)))))) (zan (i:=6) zc1.nd rfl (Or.inl rfl))
 (zai (zcr (zaS (zgT hr.units) (pv 6) (pv 4) (by with_unfolding_all rfl)) (zai (zbu (zeO PySem.F.plainAttrs_list PySem.F.slot_list_append PySem.F.type_list_append zbN (pv 4) (zaa (pv 6) zaf)))) zbe)))
 (zai (zaD (i:=5) zc1.nd rfl (Or.inl rfl) (zav zbg (pv 5) zak)))))
 (zae (zaD (i:=7) zc1.nd rfl (Or.inl rfl) (zby (zaa (zbG zc4 (pv 2) zak (fun _ _=>rfl)) (zaa (zcb zgr rfl T.z_list zdz (zaa (zbG zc4 (pv 2) zak (fun _ _=>rfl)) zaf)) zaf))))
 (zae (zaD (i:=8) zc1.nd rfl (Or.inl rfl) (zaT G_standings (hr.mono (by decide)) rfl T.m_standings T.F_standings.kp T.b_standings .nil zb7 (zaa (pv 7) (zaa (pv 3) zaf))))
 (zae (ze0 (zcr (PW.pt (zeR (zeC (zem (zat zbC rfl T.z_isinstance PyProof.Rows.boot_isinstance (zaa (pv 8) (zaa (zdI rfl T.z_list zdz rfl) zaf))))) (zeR (zaS (zik hr.units) (pv 8) (zat (zdl hr.units) rfl T.z_sorted PyProof.Rows.boot_sorted (zaa (pv 4) zaf)) (zbq _)) (zeW (zaS (zik hr.units) (pv 7) (pv 2) (zbq _)))))) (zai (zbx zgU)) zbe))
 (zae (zbu (zhE PySem.F.plainAttrs_list PySem.F.slot_list_clear PySem.F.type_list_clear zkl (pv 8)))
 (zai (zcr (zaS (zik hr.units) (zaT G_standings (hr.mono (by decide)) rfl T.m_standings T.F_standings.kp T.b_standings .nil zb7 (zaa (pv 7) (zaa (pv 3) zaf))) (zat (zdl hr.units) rfl T.z_sorted PyProof.Rows.boot_sorted (zaa (pv 4) zaf)) (zbq _)) (zai (zbx zgU)) zbe))))))))))
 (zai (zbx zgU))))),
  zm1 hS q⟩
end
theorem zj0 {us:List Value} {n:Nat} (h:us.length=n+1):∃ a t,us=a::t∧t.length=n:=by
 cases us with
 | nil=>cases h
 | cons a t=>exact ⟨a,t,rfl,Nat.succ.inj h⟩
theorem zmS {us:List Value} (h:us.length=1):∃ a0,us=[a0]:=by
 obtain ⟨a0,u0,rfl,h0⟩:=zj0 h
 cases List.eq_nil_of_length_eq_zero h0
 exact ⟨a0,rfl⟩
theorem zmO {us:List Value} (h:us.length=2):∃ a0,∃ a1,us=[a0,a1]:=by
 obtain ⟨a0,u0,rfl,h0⟩:=zj0 h
 obtain ⟨a1,u1,rfl,h1⟩:=zj0 h0
 cases List.eq_nil_of_length_eq_zero h1
 exact ⟨a0,a1,rfl⟩
theorem lst3 {us:List Value} (h:us.length=3):∃ a0,∃ a1,∃ a2,us=[a0,a1,a2]:=by
 obtain ⟨a0,u0,rfl,h0⟩:=zj0 h
 obtain ⟨a1,u1,rfl,h1⟩:=zj0 h0
 obtain ⟨a2,u2,rfl,h2⟩:=zj0 h1
 cases List.eq_nil_of_length_eq_zero h2
 exact ⟨a0,a1,a2,rfl⟩
theorem lst4 {us:List Value} (h:us.length=4):∃ a0,∃ a1,∃ a2,∃ a3,us=[a0,a1,a2,a3]:=by
 obtain ⟨a0,u0,rfl,h0⟩:=zj0 h
 obtain ⟨a1,u1,rfl,h1⟩:=zj0 h0
 obtain ⟨a2,u2,rfl,h2⟩:=zj0 h1
 obtain ⟨a3,u3,rfl,h3⟩:=zj0 h2
 cases List.eq_nil_of_length_eq_zero h3
 exact ⟨a0,a1,a2,a3,rfl⟩
theorem znv {K:PySem.W.Frag} {h:Heap} {mg:Str→Option Value} (X:K.In h) (G:h.Ns mainGlobals mg)
  {f0 f1 f2 f3 f4 f5 f6 f7 f8 f9 f10 f11 f12 f13 f14 f15 f16 f17:Addr} {d0 d1 d2 d3 d4 d5 d6 d7 d8 d9 d10 d11 d12 d13 d14 d15 d16 d17:FuncData}
  (F0:Fun K "is_whole" "is_whole" zdP f0 d0) (m0:mg "is_whole"=some (.ref f0))
  (F1:Fun K "is_within" "is_within" zdc f1 d1) (m1:mg "is_within"=some (.ref f1))
  (F2:Fun K "is_step" "is_step" zey f2 d2) (m2:mg "is_step"=some (.ref f2))
  (F3:Fun K "behind_step" "behind_step" zcm f3 d3) (m3:mg "behind_step"=some (.ref f3))
  (F4:Fun K "steps_from" "steps_from" zcN f4 d4) (m4:mg "steps_from"=some (.ref f4))
  (F5:Fun K "steps_by_standing" "steps_by_standing" zaN f5 d5) (m5:mg "steps_by_standing"=some (.ref f5))
  (F6:Fun K "is_road" "is_road" zee f6 d6) (m6:mg "is_road"=some (.ref f6))
  (F7:Fun K "places_come_to" "places_come_to" zbR f7 d7) (m7:mg "places_come_to"=some (.ref f7))
  (F8:Fun K "look_web" "look_web" zdM f8 d8) (m8:mg "look_web"=some (.ref f8))
  (F9:Fun K "look_kind" "look_kind" zdd f9 d9) (m9:mg "look_kind"=some (.ref f9))
  (F10:Fun K "look_small" "look_small" zcG f10 d10) (m10:mg "look_small"=some (.ref f10))
  (F11:Fun K "shortest_roads" "shortest_roads" zbS f11 d11) (m11:mg "shortest_roads"=some (.ref f11))
  (F12:Fun K "standings" "standings" zdb f12 d12) (m12:mg "standings"=some (.ref f12))
  (F13:Fun K "_law_draws" "_law_draws" zcE f13 d13) (m13:mg "_law_draws"=some (.ref f13))
  (F14:Fun K "_law_web" "_law_web" zdJ f14 d14) (m14:mg "_law_web"=some (.ref f14))
  (F15:Fun K "_law_roads" "_law_roads" zcA f15 d15) (m15:mg "_law_roads"=some (.ref f15))
  (F16:Fun K "_law_next" "_law_next" zdg f16 d16) (m16:mg "_law_next"=some (.ref f16))
  (F17:Fun K "law" "law" zmE f17 d17) (m17:mg "law"=some (.ref f17))
  (z_isinstance:mg "isinstance"=none)
  (z_int:mg "int"=none)
  (z_bool:mg "bool"=none)
  (z_list:mg "list"=none)
  (z_tuple:mg "tuple"=none)
  (z_dict:mg "dict"=none)
  (z_set:mg "set"=none)
  (z_sorted:mg "sorted"=none)
  (z_len:mg "len"=none)
  (z_all:mg "all"=none)
  (z_min:mg "min"=none)
  (z_range:mg "range"=none)
  (z_enumerate:mg "enumerate"=none)
  {k_MOST_PLACES:Tok} (ak_MOST_PLACES:mg "MOST_PLACES"=some (.int 60 k_MOST_PLACES))
  {k_MOST_SMALL:Tok} (ak_MOST_SMALL:mg "MOST_SMALL"=some (.int 7 k_MOST_SMALL))
  {k_MOST_ROADS:Tok} (ak_MOST_ROADS:mg "MOST_ROADS"=some (.int 120 k_MOST_ROADS))
  {k_MOST_LENGTH:Tok} (ak_MOST_LENGTH:mg "MOST_LENGTH"=some (.int 1000000 k_MOST_LENGTH))
  {t_FIRST w_FIRST:Addr} (at_FIRST:PySem.W.nsIn K mainGlobals "FIRST"=some (some (.ref t_FIRST))) {tk_FIRST:Tok} {od_FIRST:Option Addr} {n_FIRST:Nat} {sl_FIRST:Array (Option Value)} (lt_FIRST:K.lookup t_FIRST=some ⟨.type "tuple",od_FIRST,.seq #[.ref w_FIRST,.int 0 tk_FIRST] n_FIRST,sl_FIRST⟩)
  {tl0_FIRST:Tok} {oe_FIRST:Option Addr} {ne_FIRST:Nat} {se_FIRST:Array (Option Value)} (lw_FIRST:K.lookup w_FIRST=some ⟨.type "tuple",oe_FIRST,.seq #[.int 0 tl0_FIRST] ne_FIRST,se_FIRST⟩)
  {t_KINDS:Addr} (at_KINDS:PySem.W.nsIn K mainGlobals "KINDS"=some (some (.ref t_KINDS))) {tk0_KINDS:Tok} {tk1_KINDS:Tok} {od_KINDS:Option Addr} {n_KINDS:Nat} {sl_KINDS:Array (Option Value)} (lt_KINDS:K.lookup t_KINDS=some ⟨.type "tuple",od_KINDS,.seq #[.str "walk" tk0_KINDS,.str "spread" tk1_KINDS] n_KINDS,sl_KINDS⟩)
  : Txt K mg ⟨f0,d0,f1,d1,f2,d2,f3,d3,f4,d4,f5,d5,f6,d6,f7,d7,f8,d8,f9,d9,f10,d10,f11,d11,f12,d12,f13,d13,f14,d14,f15,d15,f16,d16,f17,d17,k_MOST_PLACES,k_MOST_SMALL,k_MOST_ROADS,k_MOST_LENGTH,t_FIRST,w_FIRST,t_KINDS⟩:=by
 exact ⟨F0,F0.binds fun _ _ _ _ _ _ us hl=>by obtain ⟨_,rfl⟩:=zmS hl;rfl,m0,F1,F1.binds fun _ _ _ _ _ _ us hl=>by obtain ⟨_,_,_,rfl⟩:=lst3 hl;rfl,m1,F2,F2.binds fun _ _ _ _ _ _ us hl=>by obtain ⟨_,_,_,_,rfl⟩:=lst4 hl;rfl,m2,F3,F3.binds fun _ _ _ _ _ _ us hl=>by obtain ⟨_,_,_,rfl⟩:=lst3 hl;rfl,m3,F4,F4.binds fun _ _ _ _ _ _ us hl=>by obtain ⟨_,_,_,rfl⟩:=lst3 hl;rfl,m4,F5,F5.binds fun _ _ _ _ _ _ us hl=>by obtain ⟨_,_,rfl⟩:=zmO hl;rfl,m5,F6,F6.binds fun _ _ _ _ _ _ us hl=>by obtain ⟨_,_,rfl⟩:=zmO hl;rfl,m6,F7,F7.binds fun _ _ _ _ _ _ us hl=>by obtain ⟨_,rfl⟩:=zmS hl;rfl,m7,F8,F8.binds fun _ _ _ _ _ _ us hl=>by obtain ⟨_,rfl⟩:=zmS hl;rfl,m8,F9,F9.binds fun _ _ _ _ _ _ us hl=>by obtain ⟨_,rfl⟩:=zmS hl;rfl,m9,F10,F10.binds fun _ _ _ _ _ _ us hl=>by obtain ⟨_,_,rfl⟩:=zmO hl;rfl,m10,F11,F11.binds fun _ _ _ _ _ _ us hl=>by obtain ⟨_,rfl⟩:=zmS hl;rfl,m11,F12,F12.binds fun _ _ _ _ _ _ us hl=>by obtain ⟨_,_,rfl⟩:=zmO hl;rfl,m12,F13,F13.binds fun _ _ _ _ _ _ us hl=>by obtain ⟨_,_,rfl⟩:=zmO hl;rfl,m13,F14,F14.binds fun _ _ _ _ _ _ us hl=>by obtain ⟨_,_,_,rfl⟩:=lst3 hl;rfl,m14,F15,F15.binds fun _ _ _ _ _ _ us hl=>by obtain ⟨_,_,rfl⟩:=zmO hl;rfl,m15,F16,F16.binds fun _ _ _ _ _ _ us hl=>by obtain ⟨_,_,_,_,rfl⟩:=lst4 hl;rfl,m16,F17,F17.binds fun _ _ _ _ _ _ us hl=>by obtain ⟨_,rfl⟩:=zmS hl;rfl,m17,z_isinstance,z_int,z_bool,z_list,z_tuple,z_dict,z_set,z_sorted,z_len,z_all,z_min,z_range,z_enumerate,ak_MOST_PLACES,ak_MOST_SMALL,ak_MOST_ROADS,ak_MOST_LENGTH,PySem.W.mg_of X G at_FIRST,⟨_,_,_,lt_FIRST,rfl,rfl,(show 2≤sizeLine by decide),(.cons rfl (.cons ⟨_,rfl⟩ .nil))⟩,⟨_,_,_,lw_FIRST,rfl,rfl,(show 1≤sizeLine by decide),(.cons ⟨_,rfl⟩ .nil)⟩,PySem.W.mg_of X G at_KINDS,⟨_,_,_,lt_KINDS,rfl,rfl,(show 2≤sizeLine by decide),(.cons ⟨_,rfl⟩ (.cons ⟨_,rfl⟩ .nil))⟩⟩
theorem zng {K:PySem.W.Frag} {w:World} {mg:Str→Option Value} {h:Heap} {fa:Addr} {P:Program} (X:K.In h) (G:h.Ns mainGlobals mg) (hfa:mg "law"=some (.ref fa)) {a:Ad} (T:Txt K mg a) :
  ∃ fd:FuncData,(∀ (s:Shared) (u:Value),BindsTo s fd ⟨[u],[]⟩ [("_law_script",u)])∧∀ base:Heap,K.In base→base.Ns mainGlobals mg→zd2 P w K mg base CX0 9 fa fd ["_law_script"] (zkY K):=by
 have e:=hfa.symm.trans T.m_law
 cases e
 refine ⟨a.d_law,fun s v=>?_,fun base _ _=>znz T⟩
 obtain ⟨oc,od,kV,doc,pm,an,cdv,ct,osl,e,lk,hcd⟩:=T.F_law.ex
 rw [e]
 exact .of_eq rfl
theorem walk {l:PySem.W.OpenLaw} {q:Program} {loose:List Str} {XP:(Str→Option Value)→Heap→Prop} {YP:World→Heap→Prop} {d:DefRec} {K:Params→PySem.W.Frag} (hn:l.most=some 63) (hdf:d.params.defaults=[])
  (hY:∀ (w:World) (h:Heap),YP w h→(K w.params).In h)
  (F:∀ (w:World) (mg:Str→Option Value) (fa:Addr) (h:Heap),(K w.params).In h→h.Ns mainGlobals mg→mg d.name=some (.ref fa) →
   ∃ fd:FuncData,(∀ (s:Shared) (u:Value),BindsTo s fd ⟨[u],[]⟩ [("_law_script",u)])∧∀ base:Heap,(K w.params).In base→base.Ns mainGlobals mg→zd2 l.prog w (K w.params) mg base CX0 9 fa fd ["_law_script"] (zkY (K w.params))) :
  PySem.W.WalkO q loose XP YP l.row.toRowW d [] (fun f vs=>PySem.call f vs) :=
 L2.zmC (n:=63) (k:=9) (x:="_law_script") (CX:=fun _=>CX0) (sp:=fun w=>zkY (K w.params)) hn (by decide) hdf ⟨rfl,by decide,by decide⟩ hY F (fun _ _ a ns hl _ hS=>⟨a,ns,rfl,hS,hl,fun _=>rfl⟩) fun _ _ _ _ _ z=>z
end My
open PySem PySem.W in
theorem My.walk_at {K:Params→Frag} {w:World} {h:Heap} {l:OpenLaw} {q:Program} {loose:List Str} {XP:(Str→Option Value)→Heap→Prop} {d:DefRec} {C:Prop} (_:(K w.params).In h)
  (use:WalkO q loose XP (fun w h=>(K w.params).In h) l.row.toRowW d [] (fun f vs=>PySem.call f vs)→C) (W:WalkO q loose XP (fun w h=>(K w.params).In h) l.row.toRowW d [] (fun f vs=>PySem.call f vs)):C:=use W
noncomputable section
namespace Hd
open PySem PySem.W.Fast
structure Q (α:Type) where
  a:α
  b:α
  c:α
  d:α
  e:α
  f:α
  g:α
  h:α
class X where
  s:Q (Q (Q Str))
  t:Q (Q (Q String))
  r:Q (Q (Q Obj))
  p:Program
  P:Params
noncomputable def sp (p:Program) (n:Nat):Stmt:=(p.main.body.drop n).headD (.Pass ⟨0,0,0,0⟩)
noncomputable def st [x:X] (n:Nat):Stmt:=sp x.p n
noncomputable def cb:Stmt→List Stmt
  | .ClassDef _ _ _ b ..=>b
  | _=>[]
noncomputable def sm [x:X] (n k:Nat):Stmt:=((cb (st n)).drop k).headD (.Pass ⟨0,0,0,0⟩)
noncomputable def fn (s:Stmt) (q:Str) (g:Addr) (c:List (Str×Addr)) (d k o m:Value) (a:Option Addr) (z t:Value) (b:Addr):FuncData:=match s with
  | .FunctionDef n p y _ _ _ u ..=>⟨n,q,p,.stmts y,u,g,c,d,k,o,m,a,z,t,b⟩
  | _=>default
abbrev z:=W.BT.nil
noncomputable def N (o:Obj) (l r:W.BT):W.BT:=.node o l r
noncomputable def L (o:Obj):W.BT:=.node o .nil .nil
noncomputable def e [x:X] (s:Str) (n:Nat) (v:Value):DictEntry:=⟨PyData.keyHash x.P s,.str s n,v⟩
noncomputable def vR (n:Nat):Option Value:=some (.ref n)
noncomputable def vr (n:Nat):Value:=.ref n
noncomputable def vO:Value:=.int 0 0
noncomputable def vI (n:Int):Value:=.int n 0
noncomputable def vS (s:Str) (n:Tok):Value:=.str s n
noncomputable def vY (s:String):Value:=.type s
noncomputable def vB (s:String):Value:=.builtin s
section
variable [x:X]
abbrev s0:=x.s.a.a.e
abbrev r1:=x.r.a.a.a
abbrev r2:=x.r.a.a.b
abbrev r3:=x.r.a.a.c
abbrev r4:=x.r.a.a.e
abbrev r5:=x.r.a.a.f
abbrev r6:=x.r.a.a.g
abbrev r7:=x.r.a.a.h
abbrev r8:=x.r.a.b.a
abbrev r9:=x.r.a.b.b
abbrev r10:=x.r.a.b.c
abbrev s11:=x.s.a.b.f
abbrev t12:=x.t.a.a.a
abbrev s13:=x.s.a.f.b
abbrev s14:=x.s.a.e.d
abbrev s15:=x.s.a.e.g
abbrev s16:=x.s.b.a.a
abbrev s17:=x.s.a.a.f
abbrev s18:=x.s.a.c.d
abbrev s19:=x.s.a.c.e
abbrev s20:=x.s.a.c.f
abbrev s21:=x.s.a.c.g
abbrev s22:=x.s.a.c.h
abbrev s23:=x.s.a.d.a
abbrev s24:=x.s.a.d.c
abbrev s25:=x.s.a.f.c
abbrev s26:=x.s.a.f.d
abbrev s27:=x.s.a.f.e
abbrev s28:=x.s.a.g.c
abbrev s29:=x.s.a.g.d
abbrev s30:=x.s.a.g.e
abbrev s31:=x.s.a.g.f
abbrev s32:=x.s.a.g.g
abbrev s33:=x.s.a.g.h
abbrev s34:=x.s.a.h.a
abbrev s35:=x.s.b.a.h
abbrev s36:=x.s.b.b.a
abbrev s37:=x.s.b.b.b
abbrev s38:=x.s.b.b.c
abbrev s39:=x.s.b.b.d
abbrev s40:=x.s.a.e.f
abbrev s41:=x.s.b.b.g
def i0:=e x.s.a.a.d 165 (vS s0 187)
def i1:=e s17 166 .none
def i2:=e x.s.a.a.g 167 .none
def i3:=e x.s.a.a.h 168 (vB x.t.a.a.e)
def i4:=e x.s.a.b.a 169 .none
def i5:=e x.s.a.b.b 170 (vr 6)
def i6:=e x.s.a.b.c 171 (vr 4)
def i7:=e x.s.a.b.d 173 (vS x.s.a.a.b 172)
def i8:=e x.s.a.b.e 174 .none
def i9:=e s11 206 (vr 24)
def i10:=e x.s.a.b.g 196 (vS s0 187)
def i11:=e x.s.a.b.h 198 (vS s11 197)
def i12:=e x.s.a.c.a 200 (.int 2 199)
def i13:=e x.s.a.c.b 201 (vr 22)
def i14:=e x.s.a.c.c 203 (vr 25)
def i15:=e s17 204 .none
def i16:=e s18 222 (vr 37)
def i17:=e x.s.a.b.g 214 (vS s0 187)
def i18:=e x.s.a.b.h 216 (vS s18 215)
def i19:=e x.s.a.c.a 218 (.int 4 217)
def i20:=e x.s.a.c.b 219 (vr 35)
def i21:=e s17 220 .none
def i22:=e s19 238 (vr 49)
def i23:=e x.s.a.b.g 230 (vS s0 187)
def i24:=e x.s.a.b.h 232 (vS s19 231)
def i25:=e x.s.a.c.a 234 (.int 6 233)
def i26:=e x.s.a.c.b 235 (vr 47)
def i27:=e s17 236 .none
def i28:=e x.s.a.a.d 165 (vS s20 282)
def i29:=e s21 263 (vr 68)
def i30:=e s22 272 (vr 77)
def i31:=e s23 281 (vr 84)
def i32:=e x.s.a.d.b 286 (vr 86)
def i33:=e s24 298 (vr 93)
def i34:=e x.s.a.b.g 246 (vS s0 187)
def i35:=e x.s.a.b.h 248 (vS s21 247)
def i36:=e x.s.a.c.a 250 (.int 8 249)
def i37:=e x.s.a.d.d 258 (vr 65)
def i38:=e x.s.a.c.b 260 (vr 66)
def i39:=e s17 261 .none
def i40:=e x.s.a.a.d 165 (vS s13 413)
def i41:=e s25 308 (vr 100)
def i42:=e s26 322 (vr 107)
def i43:=e s27 328 (vr 112)
def i44:=e x.s.a.f.f 332 (.int 60 331)
def i45:=e x.s.a.f.g 334 (.int 7 333)
def i46:=e x.s.a.f.h 336 (.int 120 335)
def i47:=e x.s.a.g.a 338 (.int 1000000 337)
def i48:=e x.s.a.g.b 341 (vr 113)
def i49:=e s28 352 (vr 120)
def i50:=e s29 364 (vr 127)
def i51:=e s30 375 (vr 134)
def i52:=e s31 382 (vr 141)
def i53:=e s32 390 (vr 148)
def i54:=e s33 402 (vr 155)
def i55:=e s34 412 (vr 162)
def i56:=e s35 427 (vr 169)
def i57:=e s36 448 (vr 176)
def i58:=e s37 462 (vr 183)
def i59:=e s38 477 (vr 190)
def i60:=e s39 492 (vr 197)
def h0 (p0:Array Value):Obj:=⟨(vY t12),none,(.seq p0 0),#[]⟩
def h1 (p0:Array Value):Obj:=⟨.none,none,(.fields p0),#[]⟩
def h2 (p0:Str) (p1:Tok) (p2:Str) (p3 p4:Tok) (p5:Int) (p6 p7:Value) (p8:Nat) (p9:Value) (p10:Nat) (p11 p12 p13:Value) (p14:Int) (p15:Tok):Obj:=⟨(vY x.t.a.a.b),none,(.fields #[(vS p0 p1),(vS p2 p3),(vS x.s.a.a.b p4),(vI p5),p6,vO,vO,p7,(vr p8),p9,(vI 181),(vr p10),.none,p11,p12,p13,(vI p14),(vI p5),(vS x.s.a.a.b p15)]),#[]⟩
def h3 (p0 p1:Nat) (p2:Str) (p3:Tok):Obj:=⟨(vY x.t.a.a.c),none,.plain,#[(vR p0),(vR 3),(vR p1),none,(some (vS p2 p3)),none,(vR 0)]⟩
def h4 (p0:Array DictEntry) (p1:Nat):Obj:=⟨(vY x.t.a.a.d),none,(.dict p0 p1),#[]⟩
def h5 (p0:String) (p1:Value):Obj:=⟨(vY x.t.a.a.g),none,(.fields #[(vB p0),p1]),#[]⟩
def h6 (p0:List Value):Obj:=⟨(vY x.t.a.b.a),none,(.cls ⟨s11,[(vY x.t.a.a.f)],[(vr 24),(vY x.t.a.a.f),(vY x.t.a.b.b),(vY x.t.a.b.c),(vY x.t.a.b.d)],23,s11,true,[],p0,false,none,false⟩),#[(vR 15),none,(some (vS s11 189)),(some (vS s11 197)),(some (vB x.t.a.b.e)),(some (.bool true))]⟩
def h7 (p0:Nat):Obj:=⟨(vY x.t.a.b.h),none,(.fields #[(vr p0),(vr p0),(vr p0)]),#[]⟩
def h8 (p0:Str) (p1 p2 p3:Nat) (p4 p5:Tok):Obj:=⟨(vY x.t.a.b.a),none,(.cls ⟨p0,[(vr 24)],[(vr p1),(vr 24),(vY x.t.a.a.f),(vY x.t.a.b.b),(vY x.t.a.b.c),(vY x.t.a.b.d)],p2,p0,true,[],[],false,none,false⟩),#[(vR p3),none,(some (vS p0 p4)),(some (vS p0 p5)),(some (vB x.t.a.b.e)),(some (.bool true))]⟩
def h9 (p0:Nat) (p1:Str):Obj:=⟨.none,none,(.func (fn (st p0) p1 0 [] .none .none .none .none none .none .none 0)),#[]⟩
def h10 (p0:Nat) (p1 p2:Str) (p3:Tok) (p4:Nat):Obj:=⟨(vY x.t.a.c.b),none,(.func (fn (st p0) p1 3 [] .none .none .none (vS p2 p3) none (vr p4) .none 0)),#[]⟩
def zaM:=h0 #[]
def zcg:=h1 #[]
def zk1:=h2 x.s.a.a.a 182 x.s.a.a.a 183 184 1 vO vO 11 (.bool false) 12 .none .none .none 185 186
def zk0:=h3 13 3 x.s.a.a.c 164
def b412:=h4 #[i0,i1,i2,i3,i4,i5,i6,i7,i8,i9] 10
def b413:=h1 #[(vI 2),vO,(vr 20)]
def zlQ:=h0 #[(vY x.t.a.a.f)]
def zeL:=h5 x.t.a.a.h (vY x.t.a.b.a)
def zlI:=h4 #[i10,i11,i12,i13] 4
def zmf:=h2 s11 191 s11 192 193 2 vO vO 18 (.bool false) 19 .none .none .none 194 195
def zmL:=h3 20 17 s0 187
def zmm:=h4 #[i10,i12,i13,i14,i15] 3
def b423:=h6 []
def zme:Obj:=⟨(vY x.t.a.b.f),none,(.fields #[(vS x.s.a.c.c 202),(vr 24),(vB x.t.a.b.g),.none]),#[]⟩
def zlY:=h7 24
def zmv:=h5 x.t.a.c.a (vr 24)
def b427:=h4 #[i0,i1,i2,i3,i4,i5,i6,i7,i8,i9,i16] 11
def b428:=h1 #[(vI 2),vO,(vr 20),(vI 4),vO,(vr 33)]
def b429:=h6 [(vr 37)]
def zgO:=h0 #[(vr 24)]
def zm0:=h4 #[i17,i18,i19,i20] 4
def zmN:=h2 s18 209 s18 210 211 4 vO vO 31 (.bool false) 32 .none .none .none 212 213
def zmY:=h3 33 30 s0 187
def zmW:=h4 #[i17,i19,i20,i21] 2
def zmU:=h8 s18 37 36 28 207 215
def zmZ:=h7 37
def zmR:=h5 x.t.a.c.a (vr 37)
def b442:=h4 #[i0,i1,i2,i3,i4,i5,i6,i7,i8,i9,i16,i22] 12
def b443:=h1 #[(vI 2),vO,(vr 20),(vI 4),vO,(vr 33),(vI 6),vO,(vr 45)]
def b444:=h6 [(vr 37),(vr 49)]
def zny:=h4 #[i23,i24,i25,i26] 4
def zna:=h2 s19 225 s19 226 227 6 vO vO 43 (.bool false) 44 .none .none .none 228 229
def znL:=h3 45 42 s0 187
def znh:=h4 #[i23,i25,i26,i27] 2
def znN:=h8 s19 49 48 40 223 231
def znf:=h7 49
def znu:=h5 x.t.a.c.a (vr 49)
def b457:=h4 #[i28,i1,i2,i3,i4,i5,i6,i7,i8,i9,i16,i22,i29,i30,i31,i32,i33] 17
def b458:=h1 #[(vI 2),vO,(vr 20),(vI 4),vO,(vr 33),(vI 6),vO,(vr 45),(vI 8),vO,(vr 57),(vI 14),vO,(vr 76),(vI 16),vO,(vr 83),(vI 20),vO,(vr 92)]
def b459:=h6 [(vr 37),(vr 49),(vr 68)]
def b462:=h4 #[i34,i35,i36,i37,i38] 5
def b464:=h1 #[(vI 10),(vI 4),(vr 64)]
def b465:=h2 s21 241 s21 242 243 8 vO vO 55 (.bool false) 56 .none .none .none 244 245
def b466:=h3 57 54 s0 187
def b469:=h0 #[(vS x.s.a.d.e 254),(vS x.s.a.d.f 255)]
def b471:Obj:=⟨.none,none,(.func (fn (sm 4 0) x.s.a.d.g 0 [] .none .none .none .none none .none .none 0)),#[]⟩
def b472:=h2 x.s.a.d.d 251 x.s.a.d.g 252 253 10 (vI 2) (vI 3) 59 (.bool true) 60 (vr 61) (vr 62) (vr 63) 256 257
def b473:Obj:=⟨(vY x.t.a.c.b),none,(.func (fn (sm 4 0) x.s.a.d.g 3 [] .none .none .none (vS s0 187) none (vr 64) .none 0)),#[]⟩
def b474:=h0 #[(vS x.s.a.d.f 259)]
def b475:=h4 #[i34,i36,i37,i38,i39] 2
def b476:=h8 s21 68 67 52 239 247
def b477:=h7 68
def b478:=h5 x.t.a.c.a (vr 68)
def b481:=h0 #[(vS x.s.a.d.h 269)]
def b483:=h9 6 s22
def b484:=h2 s22 266 s22 267 268 14 (vI 1) (vI 3) 71 (.bool true) 72 (vr 73) (vr 74) (vr 75) 270 271
def b485:=h10 6 s22 x.s.a.e.a 264 76
def b488:=h0 #[(vS x.s.a.d.h 276),(vS x.s.a.e.b 277),(vS x.s.a.e.c 278)]
def b490:=h9 7 s23
def b491:=h2 s23 273 s23 274 275 16 (vI 3) (vI 3) 78 (.bool true) 79 (vr 80) (vr 81) (vr 82) 279 280
def b492:=h10 7 s23 x.s.a.e.a 264 83
def b493:=h0 #[(.int 0 284)]
def b494:=h0 #[(vr 85),(.int 0 285)]
def b497:=h0 #[(vS s14 290),(vS x.s.a.e.e 291),(vS s40 292),(vS s15 293),(vS x.s.a.e.h 294),(vS x.s.a.f.a 295)]
def b499:=h9 10 s24
def b500:=h2 s24 287 s24 288 289 20 (vI 4) (vI 3) 87 (.bool true) 88 (vr 89) (vr 90) (vr 91) 296 297
def b501:=h10 10 s24 s20 282 92
def b502:=h4 #[i40,i1,i2,i3,i4,i5,i6,i7,i8,i9,i16,i22,i29,i30,i31,i32,i33,i41,i42,i43,i44,i45,i46,i47,i48,i49,i50,i51,i52,i53,i54,i55] 32
def b503:=h1 #[(vI 2),vO,(vr 20),(vI 4),vO,(vr 33),(vI 6),vO,(vr 45),(vI 8),vO,(vr 57),(vI 14),vO,(vr 76),(vI 16),vO,(vr 83),(vI 20),vO,(vr 92),(vI 25),vO,(vr 99),(vI 28),vO,(vr 106),(vI 35),vO,(vr 111),(vI 50),vO,(vr 119),(vI 55),vO,(vr 126),(vI 65),vO,(vr 133),(vI 74),vO,(vr 140),(vI 77),vO,(vr 147),(vI 82),vO,(vr 154),(vI 90),vO,(vr 161)]
def b506:=h0 #[(vS s14 302),(vS x.s.a.e.e 303),(vS s15 304),(vS x.s.a.e.h 305)]
def b508:=h9 11 s25
def b509:=h2 s25 299 s25 300 301 25 (vI 3) (vI 3) 94 (.bool true) 95 (vr 96) (vr 97) (vr 98) 306 307
def b510:=h10 11 s25 s20 282 99
def b513:Obj:=⟨(vY t12),none,(.seq #[(vS x.s.a.h.b 312),(vS s14 313),(vS x.s.a.e.e 314),(vS x.s.a.h.c 315),(vS x.s.a.h.d 316),(vS x.s.a.h.e 317),(vS s40 318),(vS s15 319)] 0),#[]⟩
def b515:=h9 12 s26
def b516:=h2 s26 309 s26 310 311 28 (vI 3) (vI 3) 101 (.bool true) 102 (vr 103) (vr 104) (vr 105) 320 321
def b517:=h10 12 s26 s20 282 106
def b520:=h9 13 s27
def b521:=h2 s27 323 s27 324 325 35 (vI 2) (vI 3) 108 (.bool true) 109 .none .none (vr 110) 326 327
def b522:=h10 13 s27 s20 282 111
def b523:=h0 #[(vS x.s.a.h.f 339),(vS x.s.a.h.g 340)]
def b526:=h0 #[(vS x.s.a.d.h 345),(vS x.s.a.h.h 346),(vS s40 347),(vS s15 348),(vS x.s.a.h.e 349)]
def b528:=h9 20 s28
def b529:=h2 s28 342 s28 343 344 50 (vI 2) (vI 3) 114 (.bool true) 115 (vr 116) (vr 117) (vr 118) 350 351
def b530:=h10 20 s28 s16 329 119
def b533:=h0 #[(vS x.s.b.a.b 356),(vS x.s.b.a.c 357),(vS x.s.b.a.d 358),(vS s40 359),(vS s15 360),(vS x.s.a.h.e 361)]
def b535:=h9 21 s29
def b536:=h2 s29 353 s29 354 355 55 (vI 1) (vI 3) 121 (.bool true) 122 (vr 123) (vr 124) (vr 125) 362 363
def b537:=h10 21 s29 s16 329 126
def b540:=h0 #[(vS x.s.b.a.e 368),(vS x.s.a.h.h 369),(vS x.s.b.a.b 370),(vS x.s.b.a.f 371),(vS x.s.a.d.f 372)]
def b542:=h9 22 s30
def b543:=h2 s30 365 s30 366 367 65 (vI 1) (vI 3) 128 (.bool true) 129 (vr 130) (vr 131) (vr 132) 373 374
def b544:=h10 22 s30 s16 329 133
def b547:=h0 #[(vS s14 379)]
def b549:=h9 23 s31
def b550:=h2 s31 376 s31 377 378 74 (vI 1) (vI 3) 135 (.bool true) 136 (vr 137) (vr 138) (vr 139) 380 381
def b551:=h10 23 s31 s16 329 140
def b554:=h0 #[(vS x.s.b.a.e 386),(vS s14 387)]
def b556:=h9 24 s32
def b557:=h2 s32 383 s32 384 385 77 (vI 2) (vI 3) 142 (.bool true) 143 (vr 144) (vr 145) (vr 146) 388 389
def b558:=h10 24 s32 s16 329 147
def b561:=h0 #[(vS x.s.b.a.e 394),(vS x.s.a.h.b 395),(vS s40 396),(vS s15 397),(vS x.s.a.h.e 398),(vS x.s.a.e.b 399)]
def b563:=h9 25 s33
def b564:=h2 s33 391 s33 392 393 82 (vI 1) (vI 3) 149 (.bool true) 150 (vr 151) (vr 152) (vr 153) 400 401
def b565:=h10 25 s33 s16 329 154
def b568:=h0 #[(vS x.s.b.a.e 408),(vS s14 409)]
def b570:=h9 27 s34
def b571:=h2 s34 405 s34 406 407 90 (vI 2) (vI 3) 156 (.bool true) 157 (vr 158) (vr 159) (vr 160) 410 411
def b572:=h10 27 s34 x.s.b.a.g 403 161
def b573:=h4 #[i40,i1,i2,i3,i4,i5,i6,i7,i8,i9,i16,i22,i29,i30,i31,i32,i33,i41,i42,i43,i44,i45,i46,i47,i48,i49,i50,i51,i52,i53,i54,i55,i56,i57,i58,i59,i60] 37
def b574:=h1 #[(vI 2),vO,(vr 20),(vI 4),vO,(vr 33),(vI 6),vO,(vr 45),(vI 8),vO,(vr 57),(vI 14),vO,(vr 76),(vI 16),vO,(vr 83),(vI 20),vO,(vr 92),(vI 25),vO,(vr 99),(vI 28),vO,(vr 106),(vI 35),vO,(vr 111),(vI 50),vO,(vr 119),(vI 55),vO,(vr 126),(vI 65),vO,(vr 133),(vI 74),vO,(vr 140),(vI 77),vO,(vr 147),(vI 82),vO,(vr 154),(vI 90),vO,(vr 161),(vI 94),vO,(vr 168),(vI 110),vO,(vr 175),(vI 131),vO,(vr 182),(vI 138),vO,(vr 189),(vI 146),vO,(vr 196)]
def b577:Obj:=⟨(vY t12),none,(.seq #[(vS x.s.b.b.e 418),(vS x.s.b.b.f 419),(vS s41 420),(vS x.s.b.b.h 421),(vS x.s.b.c.a 422),(vS x.s.b.c.b 423),(vS x.s.b.c.c 424)] 0),#[]⟩
def b579:=h9 29 s35
def b580:=h2 s35 415 s35 416 417 94 (vI 2) (vI 3) 163 (.bool true) 164 (vr 165) (vr 166) (vr 167) 425 426
def b581:=h10 29 s35 s13 413 168
def b584:Obj:=⟨(vY t12),none,(.seq #[(vS x.s.b.c.d 431),(vS x.s.b.c.e 432),(vS x.s.b.c.f 433),(vS x.s.b.b.f 434),(vS x.s.b.c.g 435),(vS x.s.b.c.h 436),(vS x.s.b.d.a 437),(vS x.s.b.d.b 438),(vS x.s.b.b.h 439),(vS x.s.b.d.c 440),(vS x.s.b.d.d 441),(vS s41 442),(vS x.s.b.d.e 443),(vS x.s.b.d.f 444),(vS x.s.b.d.g 445)] 0),#[]⟩
def b586:=h9 30 s36
def b587:=h2 s36 428 s36 429 430 110 (vI 3) (vI 3) 170 (.bool true) 171 (vr 172) (vr 173) (vr 174) 446 447
def b588:=h10 30 s36 s13 413 175
def b591:Obj:=⟨(vY t12),none,(.seq #[(vS x.s.b.d.h 452),(vS x.s.b.c.h 453),(vS s41 454),(vS x.s.b.d.e 455),(vS x.s.b.d.f 456),(vS x.s.b.d.b 457),(vS x.s.b.d.c 458),(vS x.s.b.d.a 459)] 0),#[]⟩
def b593:=h9 31 s37
def b594:=h2 s37 449 s37 450 451 131 (vI 2) (vI 3) 177 (.bool true) 178 (vr 179) (vr 180) (vr 181) 460 461
def b595:=h10 31 s37 s13 413 182
def b598:Obj:=⟨(vY t12),none,(.seq #[(vS x.s.b.d.h 466),(vS x.s.b.e.a 467),(vS x.s.b.e.b 468),(vS x.s.b.e.c 469),(vS s41 470),(vS x.s.b.c.h 471),(vS x.s.b.d.a 472),(vS x.s.b.d.b 473),(vS x.s.b.e.d 474)] 0),#[]⟩
def b600:=h9 32 s38
def b601:=h2 s38 463 s38 464 465 138 (vI 4) (vI 3) 184 (.bool true) 185 (vr 186) (vr 187) (vr 188) 475 476
def b602:=h10 32 s38 s13 413 189
def b605:Obj:=⟨(vY t12),none,(.seq #[(vS x.s.b.b.e 481),(vS x.s.b.c.d 482),(vS x.s.b.d.h 483),(vS x.s.b.e.a 484),(vS x.s.b.e.e 485),(vS x.s.b.c.e 486),(vS x.s.b.e.d 487),(vS x.s.b.e.f 488),(vS s41 489)] 0),#[]⟩
def b607:=h9 33 s39
def b608:=h2 s39 478 s39 479 480 146 (vI 1) (vI 3) 191 (.bool true) 192 (vr 193) (vr 194) (vr 195) 490 491
def b609:=h10 33 s39 s13 413 196
def m409:Heap:=⟨⟨[r1,r2,r3,x.r.a.a.d,r4,r5,r6,r7,r8,r9,r10,zaM,zcg,zk1,zk0]⟩,⟨[],[],[],0,[],[],false,#[],[],0,false,false,false,0,[2000,10,10],false,0,true,[],[],0,false⟩⟩
def q0:=L zaM
def q1:=L zcg
def q2:=N zcg q0 z
def q3:=N zaM q1 z
def q4:=N zaM q0 z
def q5:=N zcg q1 z
def m410:=N r1 (N r2 (N x.r.a.a.d (L r7) q0) (N r5 (L r9) (L zk1))) (N r3 (N r4 (L r8) q1) (N r6 (L r10) (L zk0)))
def m426:=N r1 (N r2 (N b412 (N r7 (L zlQ) (L zmm)) (N zaM q1 (L zmv))) (N r5 (N r9 (L zlI) (L zme)) (N zk1 (L zmL) z))) (N r3 (N r4 (N r8 (L zeL) (L b423)) (N b413 (L zmf) z)) (N r6 (N r10 q0 (L zlY)) (N zk0 q0 z)))
def m441:=N r1 (N r2 (N b427 (N r7 (N zlQ q0 z) (N zmm (L zmR) z)) (N zaM q2 (L zmv))) (N r5 (N r9 (N zlI (L zmN) z) (L zme)) (N zk1 (N zmL (L zmU) z) (L zeL)))) (N r3 (N r4 (N r8 (N zeL q1 z) (L b429)) (N b428 (N zmf (L zmW) z) (L zgO))) (N r6 (N r10 (N zaM (L zmY) z) (L zlY)) (N zk0 (N zaM (L zmZ) z) (L zm0))))
def m456:=N r1 (N r2 (N b442 (N r7 (N zlQ q0 q0) (N zmm (L zmR) z)) (N zaM (N zcg q0 (L znu)) (N zmv q0 z))) (N r5 (N r9 (N zlI (L zmN) (L znN)) (N zme (L zeL) z)) (N zk1 (N zmL (L zmU) z) (N zeL (L zna) z)))) (N r3 (N r4 (N r8 (N zeL q1 (L znh)) (N b444 (L zgO) z)) (N b443 (N zmf (L zmW) z) (N zgO q1 z))) (N r6 (N r10 (N zaM (L zmY) (L znf)) (N zlY (L zny) z)) (N zk0 (N zaM (L zmZ) z) (N zm0 (L znL) z))))
def m501:=N r1 (N r2 (N b457 (N r7 (N zlQ (N zaM (L b471) z) q3) (N zmm (N zmR q0 z) q4)) (N zaM (N zcg (N zaM (L b475) z) (N znu (L b491) z)) (N zmv (N zaM (L b483) z) (N zaM (L b499) z)))) (N r5 (N r9 (N zlI (N zmN (L b473) z) (N znN q0 z)) (N zme (N zeL (L b481) z) (N b465 (L b497) z))) (N zk1 (N zmL (N zmU (L b477) z) (N zeL (L b493) z)) (N zeL (N zna (L b485) z) (N b469 (L b501) z))))) (N r3 (N r4 (N r8 (N zeL (N zcg (L b472) z) (N znh (L b488) z)) (N b459 (N zgO q1 z) (N b464 q1 z))) (N b458 (N zmf (N zmW (L b476) z) (N zgO (L b492) z)) (N zgO (N zcg (L b484) z) (N zcg (L b500) z)))) (N r6 (N r10 (N zaM (N zmY (L b474) z) (N znf (L b490) z)) (N zlY (N zny q0 z) (N b466 q0 z))) (N zk0 (N zaM (N zmZ (L b478) z) (N b462 (L b494) z)) (N zm0 (N znL q0 z) q0))))
def m572:=N r1 (N r2 (N b502 (N r7 (N zlQ (N zaM (N b471 (L b537) z) q2) (N zaM q5 (L b521))) (N zmm (N zmR q4 (L b513)) (N zaM (N zaM (L b561) z) (L b529)))) (N zaM (N zcg (N zaM (N b475 q0 z) (L b509)) (N znu (N b491 (L b557) z) q1)) (N zmv (N zaM (N b483 (L b549) z) (L b517)) (N zaM (N b499 (L b565) z) (L b533))))) (N r5 (N r9 (N zlI (N zmN (N b473 q1 z) (N zaM (L b571) z)) (N znN q4 (L b523))) (N zme (N zeL (N b481 (L b547) z) (L b515)) (N b465 (N b497 (L b563) z) q0))) (N zk1 (N zmL (N zmU (N b477 (L b543) z) q0) (N zeL (N b493 q0 z) q0)) (N zeL (N zna (N b485 (L b551) z) q1) (N b469 (N b501 q1 z) (L b535)))))) (N r3 (N r4 (N r8 (N zeL (N zcg (N b472 q0 z) (N b506 (L b570) z)) (N znh (N b488 (L b554) z) (L b522))) (N b459 (N zgO q5 q0) (N b464 q2 (L b530)))) (N b503 (N zmf (N zmW (N b476 (L b542) z) (L b510)) (N zgO (N b492 (L b558) z) (L b526))) (N zgO (N zcg (N b484 (L b550) z) q0) (N zcg (N b500 q0 z) q0)))) (N r6 (N r10 (N zaM (N zmY (N b474 (L b540) z) (N b508 (L b572) z)) (N znf (N b490 (L b556) z) q0)) (N zlY (N zny q4 (L b516)) (N b466 (N zaM (L b564) z) q1))) (N zk0 (N zaM (N zmZ (N b478 (L b544) z) q1) (N b462 (N b494 q1 z) (L b528))) (N zm0 (N znL q4 (L b520)) (N zaM (N zaM (L b568) z) (L b536))))))
def m609:=N r1 (N r2 (N b573 (N r7 (N zlQ (N zaM (N b471 (L b537) q0) q2) (N zaM q5 (N b521 (L b587) z))) (N zmm (N zmR q4 (N b513 (L b579) z)) (N zaM (N zaM (L b561) z) (N b529 (L b595) z)))) (N zaM (N zcg (N zaM (N b475 q0 (L b607)) (N b509 q0 z)) (N znu (N b491 (L b557) z) (N zcg (L b591) z))) (N zmv (N zaM (N b483 (L b549) z) (N b517 q1 z)) (N zaM (N b499 (L b565) z) (N b533 q0 z))))) (N r5 (N r9 (N zlI (N zmN (N b473 q1 (L b605)) (N zaM (L b571) z)) (N znN q4 (N b523 q0 z))) (N zme (N zeL (N b481 (L b547) z) (N b515 (L b581) z)) (N b465 (N b497 (L b563) z) q3))) (N zk1 (N zmL (N zmU (N b477 (L b543) (L b609)) (N zaM (L b577) z)) (N zeL (N b493 q0 z) (N zaM (L b593) z))) (N zeL (N zna (N b485 (L b551) z) q2) (N b469 (N b501 q1 z) (N b535 (L b601) z)))))) (N r3 (N r4 (N r8 (N zeL (N zcg (N b472 q0 q1) (N b506 (L b570) z)) (N znh (N b488 (L b554) z) (N b522 (L b588) z))) (N b459 (N zgO q5 (N zaM (L b580) z)) (N b464 q2 (N b530 q0 z)))) (N b574 (N zmf (N zmW (N b476 (L b542) (L b608)) (N b510 q1 z)) (N zgO (N b492 (L b558) z) (N b526 q0 z))) (N zgO (N zcg (N b484 (L b550) z) (N zaM (L b584) z)) (N zcg (N b500 q0 z) (N zaM (L b600) z))))) (N r6 (N r10 (N zaM (N zmY (N b474 (L b540) q0) (N b508 (L b572) z)) (N znf (N b490 (L b556) z) q3)) (N zlY (N zny q4 (N b516 q0 z)) (N b466 (N zaM (L b564) z) (N zcg (L b598) z)))) (N zk0 (N zaM (N zmZ (N b478 (L b544) z) q2) (N b462 (N b494 q1 z) (N b528 (L b594) z))) (N zm0 (N znL q4 (N b520 (L b586) z)) (N zaM (N zaM (L b568) z) (N b536 (L b602) z))))))
def m610:Heap:=⟨⟨[r1,r2,r3,b573,r4,r5,r6,r7,r8,r9,r10,zaM,b574,zk1,zk0,zlQ,zeL,zlI,zaM,zcg,zmf,zmL,zaM,zmm,b459,zme,zlY,zmv,zgO,zeL,zm0,zaM,zcg,zmN,zmY,zaM,zmW,zmU,zmZ,zmR,zgO,zeL,zny,zaM,zcg,zna,znL,zaM,znh,znN,znf,znu,zgO,zeL,b462,zaM,b464,b465,b466,zaM,zcg,b469,zaM,b471,b472,b473,b474,b475,b476,b477,b478,zaM,zcg,b481,zaM,b483,b484,b485,zaM,zcg,b488,zaM,b490,b491,b492,b493,b494,zaM,zcg,b497,zaM,b499,b500,b501,zaM,zcg,b506,zaM,b508,b509,b510,zaM,zcg,b513,zaM,b515,b516,b517,zaM,zcg,b520,b521,b522,b523,zaM,zcg,b526,zaM,b528,b529,b530,zaM,zcg,b533,zaM,b535,b536,b537,zaM,zcg,b540,zaM,b542,b543,b544,zaM,zcg,b547,zaM,b549,b550,b551,zaM,zcg,b554,zaM,b556,b557,b558,zaM,zcg,b561,zaM,b563,b564,b565,zaM,zcg,b568,zaM,b570,b571,b572,zaM,zcg,b577,zaM,b579,b580,b581,zaM,zcg,b584,zaM,b586,b587,b588,zaM,zcg,b591,zaM,b593,b594,b595,zaM,zcg,b598,zaM,b600,b601,b602,zaM,zcg,b605,zaM,b607,b608,b609]⟩,⟨[],[],[],0,[],[],false,#[],[],0,false,false,false,0,[2000,10,10],false,0,true,[],[],0,false⟩⟩
end
def m402v (p:Program):Program:={ p with main:={ p.main with body:=[sp p 1,sp p 2,sp p 3,sp p 4,sp p 6,sp p 7,sp p 9,sp p 10,sp p 11,sp p 12,sp p 13,sp p 15,sp p 16,sp p 17,sp p 18,sp p 19,sp p 20,sp p 21,sp p 22,sp p 23,sp p 24,sp p 25,sp p 27,sp p 29,sp p 30,sp p 31,sp p 32,sp p 33] } }
def m412s (p:Program):List Stmt:=[sp p 0,sp p 1]
def m427s (p:Program):List Stmt:=[sp p 2]
def m442s (p:Program):List Stmt:=[sp p 3]
def m457s (p:Program):List Stmt:=[sp p 4,sp p 5,sp p 6,sp p 7,sp p 8,sp p 9,sp p 10]
def m502s (p:Program):List Stmt:=[sp p 11,sp p 12,sp p 13,sp p 14,sp p 15,sp p 16,sp p 17,sp p 18,sp p 19,sp p 20,sp p 21,sp p 22,sp p 23,sp p 24,sp p 25,sp p 26,sp p 27,sp p 28]
def m573s (p:Program):List Stmt:=[sp p 29,sp p 30,sp p 31,sp p 32,sp p 33]
noncomputable def u0:Q Str:=⟨Str.ofString "<module>",Str.ofString "/claim/cut.py",Str.ofString "__main__",Str.ofString "__name__",Str.ofString "hideworth.errors",Str.ofString "__doc__",Str.ofString "__package__",Str.ofString "__loader__"⟩
noncomputable def u1:Q Str:=⟨Str.ofString "__spec__",Str.ofString "__annotations__",Str.ofString "__builtins__",Str.ofString "__file__",Str.ofString "__cached__",Str.ofString "HideError",Str.ofString "__module__",Str.ofString "__qualname__"⟩
noncomputable def u2:Q Str:=⟨Str.ofString "__firstlineno__",Str.ofString "__static_attributes__",Str.ofString "__weakref__",Str.ofString "TooGreat",Str.ofString "NoKind",Str.ofString "hideworth.steps",Str.ofString "NoWeb",Str.ofString "is_whole"⟩
noncomputable def u3:Q Str:=⟨Str.ofString "is_within",Str.ofString "FIRST",Str.ofString "is_step",Str.ofString "__init__",Str.ofString "self",Str.ofString "road",Str.ofString "NoWeb.__init__",Str.ofString "thing"⟩
noncomputable def u4:Q Str:=⟨Str.ofString "hideworth.checks",Str.ofString "least",Str.ofString "most",Str.ofString "kind",Str.ofString "standing",Str.ofString "a",Str.ofString "b",Str.ofString "places"⟩
noncomputable def u5:Q Str:=⟨Str.ofString "here",Str.ofString "law_hideworth_k40_standings",Str.ofString "behind_step",Str.ofString "steps_from",Str.ofString "steps_by_standing",Str.ofString "MOST_PLACES",Str.ofString "MOST_SMALL",Str.ofString "MOST_ROADS"⟩
noncomputable def u6:Q Str:=⟨Str.ofString "MOST_LENGTH",Str.ofString "KINDS",Str.ofString "is_road",Str.ofString "places_come_to",Str.ofString "look_web",Str.ofString "look_kind",Str.ofString "look_small",Str.ofString "shortest_roads"⟩
noncomputable def u7:Q Str:=⟨Str.ofString "standings",Str.ofString "lengths",Str.ofString "steps",Str.ofString "ends",Str.ofString "length",Str.ofString "walk",Str.ofString "spread",Str.ofString "many"⟩
noncomputable def u8:Q Str:=⟨Str.ofString "hideworth.webs",Str.ofString "roads",Str.ofString "come",Str.ofString "before",Str.ofString "web",Str.ofString "k",Str.ofString "hideworth.judge",Str.ofString "_law_draws"⟩
noncomputable def u9:Q Str:=⟨Str.ofString "_law_web",Str.ofString "_law_roads",Str.ofString "_law_next",Str.ofString "law",Str.ofString "_law_script",Str.ofString "_law_many",Str.ofString "_law_found",Str.ofString "_law_k"⟩
noncomputable def u10:Q Str:=⟨Str.ofString "_law_cell",Str.ofString "_law_j",Str.ofString "_law_number",Str.ofString "_law_draws_here",Str.ofString "_law_at",Str.ofString "_law_most",Str.ofString "_law_roads_here",Str.ofString "_law_place"⟩
noncomputable def u11:Q Str:=⟨Str.ofString "_law_other",Str.ofString "_law_length",Str.ofString "_law_one",Str.ofString "_law_names",Str.ofString "_law_a",Str.ofString "_law_b",Str.ofString "_law_spot",Str.ofString "_law_web_here"⟩
noncomputable def u12:Q Str:=⟨Str.ofString "_law_kind",Str.ofString "_law_places",Str.ofString "_law_here",Str.ofString "_law_near",Str.ofString "_law_due",Str.ofString "_law_handed",Str.ofString "_law_handed",Str.ofString "_law_handed"⟩
noncomputable def v0:Q String:=⟨"tuple","code","frame","dict","__main__.__loader__#opaque","ValueError","builtin_function_or_method","type.__prepare__"⟩
noncomputable def v1:Q String:=⟨"type","Exception","BaseException","object","ValueError.__new__","getset_descriptor","ExceptionGroup.__weakref__","super"⟩
noncomputable def v2:Q String:=⟨"object.__init_subclass__","function","function","function","function","function","function","function"⟩
noncomputable def w0 (P:Params):Q Obj:=⟨W.boot_o_0 P,W.boot_o_1 P,W.boot_o_2 P,W.boot_o_3 P,W.boot_o_4 P,W.boot_o_5 P,W.boot_o_6 P,W.boot_o_7 P⟩
noncomputable def w1 (P:Params):Q Obj:=⟨W.boot_o_8 P,W.boot_o_9 P,W.boot_o_10 P,W.boot_o_10 P,W.boot_o_10 P,W.boot_o_10 P,W.boot_o_10 P,W.boot_o_10 P⟩
noncomputable def yb:{t:(Params→Str→Int)→Params→Obj // W.boot_o_0=t PyData.keyHash}:=⟨_,by unfold W.boot_o_0;generalize PyData.keyHash=k;conv=>lhs;reduce⟩
def _root_.PySem.W.Fast.tw14598715356260435866:Params→Obj:=yb.1 PyData.keyHash
theorem _root_.PySem.W.Fast.te14598715356260435866:W.boot_o_0=tw14598715356260435866:=yb.2
noncomputable def yp:{t:Program // PySem.Challenge.pw_hideworth_k40_standings=t}:=⟨_,by conv=>lhs;reduce⟩
def _root_.PySem.W.Fast.tw3055974900115989558:Program:=yp.1
theorem _root_.PySem.W.Fast.te3055974900115989558:PySem.Challenge.pw_hideworth_k40_standings=tw3055974900115989558:=yp.2
lay_quick u0 u1 u2 u3 u4 u5 u6 u7 u8 u9 u10 u11 u12 v0 v1 v2 w0 w1 PySem.Challenge.pw_hideworth_k40_standings
def K (a' b' c' d' e' f' g' h' i' j' k' l' m':Q Str) (n' o' p':Q String) (q' r':Params→Q Obj) (s':Program) (P:Params):X:=⟨⟨⟨a',b',c',d',e',f',g',h'⟩,⟨i',j',k',l',m',m',m',m'⟩,⟨i',j',k',l',m',m',m',m'⟩,⟨i',j',k',l',m',m',m',m'⟩,⟨i',j',k',l',m',m',m',m'⟩,⟨i',j',k',l',m',m',m',m'⟩,⟨i',j',k',l',m',m',m',m'⟩,⟨i',j',k',l',m',m',m',m'⟩⟩,⟨⟨n',o',p',p',p',p',p',p'⟩,⟨n',o',p',p',p',p',p',p'⟩,⟨n',o',p',p',p',p',p',p'⟩,⟨n',o',p',p',p',p',p',p'⟩,⟨n',o',p',p',p',p',p',p'⟩,⟨n',o',p',p',p',p',p',p'⟩,⟨n',o',p',p',p',p',p',p'⟩,⟨n',o',p',p',p',p',p',p'⟩⟩,⟨⟨q' P,r' P,r' P,r' P,r' P,r' P,r' P,r' P⟩,⟨q' P,r' P,r' P,r' P,r' P,r' P,r' P,r' P⟩,⟨q' P,r' P,r' P,r' P,r' P,r' P,r' P,r' P⟩,⟨q' P,r' P,r' P,r' P,r' P,r' P,r' P,r' P⟩,⟨q' P,r' P,r' P,r' P,r' P,r' P,r' P,r' P⟩,⟨q' P,r' P,r' P,r' P,r' P,r' P,r' P,r' P⟩,⟨q' P,r' P,r' P,r' P,r' P,r' P,r' P,r' P⟩,⟨q' P,r' P,r' P,r' P,r' P,r' P,r' P,r' P⟩⟩,s',P⟩
noncomputable def k0:=K u0 u1 u2 u3 u4 u5 u6 u7 u8 u9 u10 u11 u12 v0 v1 v2 w0 w1 PySem.Challenge.pw_hideworth_k40_standings
noncomputable def k1:=K tw13894225608423057668 tw17531079430653816501 tw13809737476558091540 tw2367299412457286945 tw1912701158020654693 tw2188347355606102534 tw16368670287772101220 tw14842115654739255404 tw4717311838995323452 tw594758545415977400 tw10895325593200808953 tw10037743213843438893 tw10009084784789568687 tw15633551313878501473 tw10735261366311057212 tw13734974896645664886 tw1278260381020688717 tw13492767390215788210 tw3055974900115989558
theorem ke:k0=k1:=by
  unfold k0 k1
  rw [te13894225608423057668,te17531079430653816501,te13809737476558091540,te2367299412457286945,te1912701158020654693,te2188347355606102534,te16368670287772101220,te14842115654739255404,te4717311838995323452,te594758545415977400,te10895325593200808953,te10037743213843438893,te10009084784789568687,te15633551313878501473,te10735261366311057212,te13734974896645664886,te1278260381020688717,te13492767390215788210,te3055974900115989558]
theorem kE {β:Type _} (f:X→β):(fun P=>f (k0 P))=fun P=>f (k1 P):=congrArg (fun y P=>f (y P)) ke
end Hd
namespace PySem.W.Fast
def tw18036529020381503106:Program:=Hd.m402v tw3055974900115989558
theorem te18036529020381503106:Hd.m402v PySem.Challenge.pw_hideworth_k40_standings=tw18036529020381503106:=congrArg Hd.m402v te3055974900115989558
def tw14284748958813489145 (P:Params):Heap:=@Hd.m409 (Hd.k1 P)
theorem te14284748958813489145:(fun P=>@Hd.m409 (Hd.k0 P))=tw14284748958813489145:=Hd.kE @Hd.m409
def tw1124740952035750291 (P:Params):BT:=@Hd.m410 (Hd.k1 P)
theorem te1124740952035750291:(fun P=>@Hd.m410 (Hd.k0 P))=tw1124740952035750291:=Hd.kE @Hd.m410
def tw1444238521386217881:List Stmt:=Hd.m412s tw3055974900115989558
theorem te1444238521386217881:Hd.m412s PySem.Challenge.pw_hideworth_k40_standings=tw1444238521386217881:=congrArg Hd.m412s te3055974900115989558
def tw12393248369965615497 (P:Params):BT:=@Hd.m426 (Hd.k1 P)
theorem te12393248369965615497:(fun P=>@Hd.m426 (Hd.k0 P))=tw12393248369965615497:=Hd.kE @Hd.m426
def tw16710907364477724571:List Stmt:=Hd.m427s tw3055974900115989558
theorem te16710907364477724571:Hd.m427s PySem.Challenge.pw_hideworth_k40_standings=tw16710907364477724571:=congrArg Hd.m427s te3055974900115989558
def tw13244837381718344273 (P:Params):BT:=@Hd.m441 (Hd.k1 P)
theorem te13244837381718344273:(fun P=>@Hd.m441 (Hd.k0 P))=tw13244837381718344273:=Hd.kE @Hd.m441
def tw7374183802592030232:List Stmt:=Hd.m442s tw3055974900115989558
theorem te7374183802592030232:Hd.m442s PySem.Challenge.pw_hideworth_k40_standings=tw7374183802592030232:=congrArg Hd.m442s te3055974900115989558
def tw4590603619012811876 (P:Params):BT:=@Hd.m456 (Hd.k1 P)
theorem te4590603619012811876:(fun P=>@Hd.m456 (Hd.k0 P))=tw4590603619012811876:=Hd.kE @Hd.m456
def tw12102269233342611144:List Stmt:=Hd.m457s tw3055974900115989558
theorem te12102269233342611144:Hd.m457s PySem.Challenge.pw_hideworth_k40_standings=tw12102269233342611144:=congrArg Hd.m457s te3055974900115989558
def tw3303766384694172169 (P:Params):BT:=@Hd.m501 (Hd.k1 P)
theorem te3303766384694172169:(fun P=>@Hd.m501 (Hd.k0 P))=tw3303766384694172169:=Hd.kE @Hd.m501
def tw5138343163484511734:List Stmt:=Hd.m502s tw3055974900115989558
theorem te5138343163484511734:Hd.m502s PySem.Challenge.pw_hideworth_k40_standings=tw5138343163484511734:=congrArg Hd.m502s te3055974900115989558
def tw10287092613812096925 (P:Params):BT:=@Hd.m572 (Hd.k1 P)
theorem te10287092613812096925:(fun P=>@Hd.m572 (Hd.k0 P))=tw10287092613812096925:=Hd.kE @Hd.m572
def tw18061269997509588279:List Stmt:=Hd.m573s tw3055974900115989558
theorem te18061269997509588279:Hd.m573s PySem.Challenge.pw_hideworth_k40_standings=tw18061269997509588279:=congrArg Hd.m573s te3055974900115989558
def tw5669708105792587418 (P:Params):BT:=@Hd.m609 (Hd.k1 P)
theorem te5669708105792587418:(fun P=>@Hd.m609 (Hd.k0 P))=tw5669708105792587418:=Hd.kE @Hd.m609
def tw8856511836871627112 (P:Params):Heap:=@Hd.m610 (Hd.k1 P)
theorem te8856511836871627112:(fun P=>@Hd.m610 (Hd.k0 P))=tw8856511836871627112:=Hd.kE @Hd.m610
end PySem.W.Fast
end
open PySem PySem.W PyProof.Rows PySem.W.X PySem.W.ZRun
set_option maxRecDepth 100000 in
set_option maxHeartbeats 0 in
theorem PySem.Challenge.cw_hideworth_k40_standings_holds : PySem.Challenge.rw_hideworth_k40_standings.Holds := by
 w_on;o_law;z_head;(case hw=>w_witness2)
 k_fill
 intro w s0 s1 m0 m1 G Y fa o pm cd doc dV kV ho hd hc hD hm hg xs vs as L h1 h2 h3 h4 h5
 z_open Y L KX ZH ZN ZT
 refine My.walk_at (l:=PySem.Challenge.rw_hideworth_k40_standings) KX (fun W=>W w s0 s1 m0 m1 G KX fa o pm cd doc dV kV ho hd hc hD hm hg xs vs as h1 h2 h3 h4 h5) (My.walk (l:=PySem.Challenge.rw_hideworth_k40_standings) rfl rfl (fun _ _ h=>h) ?F)
 case F =>
  intro w mg fa h KX G hmg
  refine' My.zng KX G hmg (My.znv KX G (L2.zbz ?l0 ?c0 ?k0) (mg_of KX G ?a0) (L2.zbz ?l1 ?c1 ?k1) (mg_of KX G ?a1) (L2.zbz ?l2 ?c2 ?k2) (mg_of KX G ?a2) (L2.zbz ?l3 ?c3 ?k3) (mg_of KX G ?a3) (L2.zbz ?l4 ?c4 ?k4) (mg_of KX G ?a4) (L2.zbz ?l5 ?c5 ?k5) (mg_of KX G ?a5) (L2.zbz ?l6 ?c6 ?k6) (mg_of KX G ?a6) (L2.zbz ?l7 ?c7 ?k7) (mg_of KX G ?a7) (L2.zbz ?l8 ?c8 ?k8) (mg_of KX G ?a8) (L2.zbz ?l9 ?c9 ?k9) (mg_of KX G ?a9) (L2.zbz ?l10 ?c10 ?k10) (mg_of KX G ?a10) (L2.zbz ?l11 ?c11 ?k11) (mg_of KX G ?a11) (L2.zbz ?l12 ?c12 ?k12) (mg_of KX G ?a12) (L2.zbz ?l13 ?c13 ?k13) (mg_of KX G ?a13) (L2.zbz ?l14 ?c14 ?k14) (mg_of KX G ?a14) (L2.zbz ?l15 ?c15 ?k15) (mg_of KX G ?a15) (L2.zbz ?l16 ?c16 ?k16) (mg_of KX G ?a16) (L2.zbz ?l17 ?c17 ?k17) (mg_of KX G ?a17) (mg_none_of KX G ?z_isinstance) (mg_none_of KX G ?z_int) (mg_none_of KX G ?z_bool) (mg_none_of KX G ?z_list) (mg_none_of KX G ?z_tuple) (mg_none_of KX G ?z_dict) (mg_none_of KX G ?z_set) (mg_none_of KX G ?z_sorted) (mg_none_of KX G ?z_len) (mg_none_of KX G ?z_all) (mg_none_of KX G ?z_min) (mg_none_of KX G ?z_range) (mg_none_of KX G ?z_enumerate) (mg_of KX G ?ak_MOST_PLACES) (mg_of KX G ?ak_MOST_SMALL) (mg_of KX G ?ak_MOST_ROADS) (mg_of KX G ?ak_MOST_LENGTH) ?at_FIRST ?lt_FIRST ?lw_FIRST ?at_KINDS ?lt_KINDS)
  (case a0=>k_is);(case l0=>k_is);(case c0=>k_is);(case k0=>k_is)
  (case a1=>k_is);(case l1=>k_is);(case c1=>k_is);(case k1=>k_is)
  (case a2=>k_is);(case l2=>k_is);(case c2=>k_is);(case k2=>k_is)
  (case a3=>k_is);(case l3=>k_is);(case c3=>k_is);(case k3=>k_is)
  (case a4=>k_is);(case l4=>k_is);(case c4=>k_is);(case k4=>k_is)
  (case a5=>k_is);(case l5=>k_is);(case c5=>k_is);(case k5=>k_is)
  (case a6=>k_is);(case l6=>k_is);(case c6=>k_is);(case k6=>k_is)
  (case a7=>k_is);(case l7=>k_is);(case c7=>k_is);(case k7=>k_is)
  (case a8=>k_is);(case l8=>k_is);(case c8=>k_is);(case k8=>k_is)
  (case a9=>k_is);(case l9=>k_is);(case c9=>k_is);(case k9=>k_is)
  (case a10=>k_is);(case l10=>k_is);(case c10=>k_is);(case k10=>k_is)
  (case a11=>k_is);(case l11=>k_is);(case c11=>k_is);(case k11=>k_is)
  (case a12=>k_is);(case l12=>k_is);(case c12=>k_is);(case k12=>k_is)
  (case a13=>k_is);(case l13=>k_is);(case c13=>k_is);(case k13=>k_is)
  (case a14=>k_is);(case l14=>k_is);(case c14=>k_is);(case k14=>k_is)
  (case a15=>k_is);(case l15=>k_is);(case c15=>k_is);(case k15=>k_is)
  (case a16=>k_is);(case l16=>k_is);(case c16=>k_is);(case k16=>k_is)
  (case a17=>k_is);(case l17=>k_is);(case c17=>k_is);(case k17=>k_is)
  (case z_isinstance=>k_is)
  (case z_int=>k_is)
  (case z_bool=>k_is)
  (case z_list=>k_is)
  (case z_tuple=>k_is)
  (case z_dict=>k_is)
  (case z_set=>k_is)
  (case z_sorted=>k_is)
  (case z_len=>k_is)
  (case z_all=>k_is)
  (case z_min=>k_is)
  (case z_range=>k_is)
  (case z_enumerate=>k_is)
  (case ak_MOST_PLACES=>k_is)
  (case ak_MOST_SMALL=>k_is)
  (case ak_MOST_ROADS=>k_is)
  (case ak_MOST_LENGTH=>k_is)
  (case at_FIRST=>k_is)
  (case lt_FIRST=>k_is)
  (case lw_FIRST=>k_is)
  (case at_KINDS=>k_is)
  (case lt_KINDS=>k_is)
