import PyProof.Rows.All
import Wide.All
import OpenK.AllK
import Wide.FinOn
import Lean
import PyProof.EqAt
import PyProof.EqKinds
import PyProof.TupleCall
import KE.IntBitsLaws
import PyProof.NeKinds
import KE.KIsAll
import PyProof.ExcAttrAll.ValueError
import KE.RegKIsAll
import OpenK.KOwn
import PyProof.ConsumeWalk
import PyProof.SumWalkG
import PyProof.Rows.SeqCalls
import PyProof.Rows.SeqGen
import PyProof.ZipIter
import PyProof.Rows.ZipGen
import PyProof.Rows.FactsT2
import PyProof.WalkInts
import PyProof.SeqI3
import PyProof.AutoSeq1
import PyProof.ListRange
import KE.KDictSum
import PyProof.Rows.SortWalk
import PyProof.Rows.SetFrom
import PyProof.TupleKey
import PyProof.SetRoads
import PyProof.FactsAll.set_1
import OpenK.ZGo
import PySem.Challenge.RW_hideworth_k25_whole_boxes_told_otherwise
set_option Elab.async false
set_option linter.all false
set_option maxRecDepth 100000
namespace L2
open PySem PySem.Spec PyProof.Rows
abbrev Key:=Sum Int Str
def zqL:Key→Value→Bool
 | .inl k,v=>Value.isInt k v
 | .inr x,v=>Value.isStrOf x v
def keyH (w:World):Key→Int
 | .inl k=>hashInt k
 | .inr x=>hashStr w x
theorem zbm:∀ {k:Key} {v:Value},zqL k v=true→(∃ i t,k=Sum.inl i∧v=Value.int i t)∨(∃ x t,k=Sum.inr x∧v=Value.str x t)
 | .inl i,v,h=>by
  obtain ⟨t,e⟩:=Value.isInt_shape (k:=i) (v:=v) h
  exact .inl ⟨i,t,rfl,e⟩
 | .inr x,v,h=>by
  obtain ⟨t,e⟩:=Value.isStrOf_shape (x:=x) (v:=v) h
  exact .inr ⟨x,t,rfl,e⟩
theorem zo6 (a b:Int):decide ((Sum.inl a:Key)=Sum.inl b)=(a == b):=by
 by_cases e:a=b
 ·subst e;simp
 ·have h:¬ (Sum.inl a:Key)=Sum.inl b:=fun q=>e (Sum.inl.inj q)
  rw [decide_eq_false h]
  exact (beq_eq_false_iff_ne.mpr e).symm
theorem zoY (a b:Str):decide ((Sum.inr a:Key)=Sum.inr b)=decide (a=b):=by
 by_cases e:a=b
 ·subst e;simp
 ·have h:¬ (Sum.inr a:Key)=Sum.inr b:=fun q=>e (Sum.inr.inj q)
  rw [decide_eq_false h,decide_eq_false e]
theorem zqd (a:Int) (b:Str):decide ((Sum.inl a:Key)=Sum.inr b)=false:=decide_eq_false (fun q=>nomatch q)
theorem zo3 (a:Str) (b:Int):decide ((Sum.inr a:Key)=Sum.inl b)=false:=decide_eq_false (fun q=>nomatch q)
def zit (prog:Program) (w:World):PySem.KeyKind prog w Key where
 is:=zqL
 hash:=keyH w
 inj:=fun v a b ha hb=>by
  rcases zbm ha with ⟨i,t,rfl,rfl⟩ | ⟨x,t,rfl,rfl⟩
  ·rcases zbm hb with ⟨j,u,rfl,e⟩ | ⟨y,u,rfl,e⟩
   ·injection e with e1 _;rw [e1]
   ·exact nomatch e
  ·rcases zbm hb with ⟨j,u,rfl,e⟩ | ⟨y,u,rfl,e⟩
   ·exact nomatch e
   ·injection e with e1 _;rw [e1]
 byValue:=fun k v h=>by
  rcases zbm h with ⟨i,t,rfl,rfl⟩ | ⟨x,t,rfl,rfl⟩ <;> rfl
 pyHash:=fun hv h=>by
  rcases zbm hv with ⟨i,t,rfl,rfl⟩ | ⟨x,t,rfl,rfl⟩
  ·exact wpAny_pyHash_int h
  ·exact wpAny_pyHash_str h
 eqBool:=fun hu hv h=>by
  rcases zbm hu with ⟨i,t,rfl,rfl⟩ | ⟨x,t,rfl,rfl⟩
  ·rcases zbm hv with ⟨j,u,rfl,rfl⟩ | ⟨y,u,rfl,rfl⟩
   ·rw [zo6] at h;exact wpAny_eqBool_int h
   ·rw [zqd] at h;exact SeqAt.EqAt.int_str i t y u _ _ _ _ h
  ·rcases zbm hv with ⟨j,u,rfl,rfl⟩ | ⟨y,u,rfl,rfl⟩
   ·rw [zo3] at h;exact SeqAt.EqAt.str_int x t j u _ _ _ _ h
   ·rw [zoY] at h;exact wpAny_eqBool_str h
 «strs»:=fun k x t v h=>by
  rcases zbm h with ⟨i,u,rfl,e⟩ | ⟨y,u,rfl,e⟩
  ·exact nomatch e
  ·injection e with e1 _
   subst e1
   cases v <;> rfl
end L2
namespace L2
open PySem PySem.Spec PyProof.Rows
inductive V where
 | non | bl (b:Bool) | int (i:Int) | str (x:Str) | byt (b:Array UInt8) | flt (b:UInt64) | ref (a:Addr) | ty (n:String)
 deriving DecidableEq
def zch:V→Value→Prop
 | .non,u=>u=Value.none
 | .bl b,u=>u=Value.bool b
 | .int i,u=>∃ t,u=Value.int i t
 | .str x,u=>∃ t,u=Value.str x t
 | .byt b,u=>∃ t,u=Value.bytes b t
 | .flt b,u=>∃ t,u=Value.float b t
 | .ref a,u=>u=Value.ref a
 | .ty n,u=>u=Value.type n
abbrev zbs:List V→List Value→Prop:=Paired zch
theorem zbs.length {xs:List V} {us:List Value} (r:zbs xs us):xs.length=us.length:=Paired.length r
theorem zbs.get:∀ {xs:List V} {us:List Value} {i:Nat} {x:V},zbs xs us→xs[i]?=some x→∃ u,us[i]?=some u∧zch x u
 | _,_,_,_,.nil,e=>by simp at e
 | _,_,0,_,.cons r _,e=>by simp at e;subst e;exact ⟨_,rfl,r⟩
 | _,_,i+1,x,.cons _ t,e=>by
  obtain ⟨u,h1,h2⟩:=zbs.get (i:=i) (x:=x) t (by simpa using e)
  exact ⟨u,by simpa using h1,h2⟩
theorem zbs.set {x:V} {u:Value} (r:zch x u):∀ {xs:List V} {us:List Value} (i:Nat),zbs xs us→zbs (xs.set i x) (us.set i u)
 | _,_,_,.nil=>.nil
 | _,_,0,.cons _ t=>.cons r t
 | _,_,i+1,.cons q t=>.cons q (zbs.set r i t)
theorem zbs.append:∀ {xs ys:List V} {us ws:List Value},zbs xs us→zbs ys ws→zbs (xs++ys) (us++ws)
 | _,_,_,_,.nil,s=>s
 | _,_,_,_,.cons r t,s=>.cons r (zbs.append t s)
theorem zbs.take:∀ {xs:List V} {us:List Value} (n:Nat),zbs xs us→zbs (xs.take n) (us.take n)
 | _,_,0,_=>.nil
 | _,_,_+1,.nil=>.nil
 | _,_,n+1,.cons r t=>.cons r (zbs.take n t)
theorem zbs.drop:∀ {xs:List V} {us:List Value} (n:Nat),zbs xs us→zbs (xs.drop n) (us.drop n)
 | _,_,0,r=>r
 | _,_,_+1,.nil=>.nil
 | _,_,n+1,.cons _ t=>zbs.drop n t
def RelO:Option V→Option Value→Prop
 | some v,some u=>zch v u
 | none,none=>True
 | _,_=>False
def KV {κ:Type}:List (κ×V)→List (κ×Value)→Prop:=Paired fun (p:κ×V) (q:κ×Value)=>p.1=q.1∧zch p.2 q.2
def kV:Key→V
 | .inl i=>.int i
 | .inr x=>.str x
inductive HO where
  | lst (xs:List V)
  | tup (xs:List V)
  | dK (kvs:List (Key×V)) | dT (kvs:List (List Key×V))
  | set (S:Int→Bool) (n:Nat)
  | ins (C dx:Addr) (fs:List (Str×V))
  | own (x:Addr)
  | xd (fs:List (Str×V))
  | met (f x:Addr)
  | rng (lo hi:Int)
  | frz (o:Obj) (u:HO)
  | tbl (ps:Array Value)
  | ext (φ:Heap→Prop)
abbrev Hp:=Addr→Option HO
def upd (H:Hp) (a:Addr) (o:HO):Hp:=fun b=>if b=a then some o else H b
theorem zah {H:Hp} {a:Addr} {o:HO}:upd H a o a=some o:=by unfold upd;rw [if_pos rfl]
theorem zaY {H:Hp} {a b:Addr} {o:HO} (h:b≠a):upd H a o b=H b:=by unfold upd;rw [if_neg h]
theorem zaP {H:Hp} {a b:Addr} {o:HO} (h:H a=some o) (h':H b=none):a≠b:=by
 intro e;subst e;rw [h] at h';cases h'
section
variable (P:Program) (w:World)
def zci (H:Hp) (h:Heap) (a:Addr):HO→Prop
 | .lst xs=>xs.length≤sizeLine∧∃ (its:List Value) (n:Nat),zbs xs its∧h.get? a=some { cls:=.type "list",data:=.seq its.toArray n }
 | .tup xs=>xs.length≤sizeLine∧∃ its:List Value,zbs xs its∧IsTup h a its.toArray
 | .dK kvs=>kvs.length≤sizeLine∧(a == sysModules)=false∧∃ vs,KV kvs vs∧h.DictOf (zit P w) a vs
 | .dT kvs=>kvs.length≤sizeLine∧(a == sysModules)=false∧∃ xs:List (List Key×Addr×Value),
   Paired (fun (p:List Key×V) (q:List Key×Addr×Value)=>p.1=q.1∧H q.2.1=some (.tup (p.1.map kV))∧zch p.2 q.2.2) kvs xs ∧
   ∃ o es ep,h.get? a=some o∧o.ExactDict∧o.data=.dict es ep∧es.toList=xs.map (entryOfKey (tupleKind (zit P w)))∧(xs.map (·.1)).Nodup
 | .set S n=>h.SetOf (intKind P w) a S n
 | .ins C dx fs=>H dx=some (.own a)∧fs.length≤1000∧dx≠a∧h.get? a=some (PySem.W.instObj C dx) ∧
   ∃ mA,h.Ns1 dx mA∧(∀ f,RelO (fs.lookup f) (mA f))∧PySem.Within mA (fs.map (·.1))
 | .own _=>∃ o,h.get? a=some o
 | .xd fs=>∃ mA,h.Ns1 a mA∧∀ f,RelO (fs.lookup f) (mA f)
 | .rng lo hi=>∃ t u v,h.get? a=some { cls:=.type "range",data:=.fields #[.int lo t,.int hi u,.int 1 v] }
 | .frz o u=>h.get? a=some o∧zci H h a u
 | .tbl ps=>h.get? a=some { cls:=.none,data:=.fields ps }
 | .met f x=>h.get? a=some (PySem.W.methodObj (.ref f) (.ref x))
 | .ext φ=>φ h∧(∃ o,h.get? a=some o)∧∀ h1 h2:Heap,φ h1→(∀ o,h1.get? a=some o→h2.get? a=some o)→φ h2
def HOk (H:Hp) (h:Heap):Prop:=∀ a o,H a=some o→zci P w H h a o
end
section
variable {P:Program} {w:World} {H H':Hp} {h h':Heap} {a:Addr} {o:HO}
theorem zci.lt (x:zci P w H h a o):a<h.objs.size:=by
 cases o with
 | lst xs=>obtain ⟨_,_,_,_,e⟩:=x;exact Heap.lt_size e
 | tup xs=>obtain ⟨_,_,_,p⟩:=x;exact p.lt
 | dK kvs=>obtain ⟨_,_,_,_,o,_,_,e,_⟩:=x;exact Heap.lt_size e
 | dT kvs=>obtain ⟨_,_,_,_,o,_,_,e,_⟩:=x;exact Heap.lt_size e
 | set S n=>obtain ⟨o,_,_,_,e,_⟩:=x;exact Heap.lt_size e
 | ins C dx fs=>obtain ⟨_,_,_,e,_⟩:=x;exact Heap.lt_size e
 | own y=>obtain ⟨_,e⟩:=x;exact Heap.lt_size e
 | xd fs=>obtain ⟨_,⟨_,_,_,e,_⟩,_⟩:=x;exact Heap.lt_size e
 | rng lo hi=>obtain ⟨_,_,_,e⟩:=x;exact Heap.lt_size e
 | frz ob u=>obtain ⟨e,_⟩:=x;exact Heap.lt_size e
 | tbl ps=>exact Heap.lt_size (show h.get? a=some _ from x)
 | met f y=>exact Heap.lt_size (show h.get? a=some _ from x)
 | ext φ=>obtain ⟨_,⟨_,e⟩,_⟩:=x;exact Heap.lt_size e
theorem Paired.mapP {α β:Type} {F G:α→β→Prop}:∀ {l₁:List α} {l₂:List β},Paired F l₁ l₂→(∀ a b,F a b→G a b)→Paired G l₁ l₂
 | _,_,.nil,_=>.nil
 | _,_,.cons r t,f=>.cons (f _ _ r) (Paired.mapP t f)
theorem zci.stay (x:zci P w H h a o) (k:∀ b u,(b=a∨H b=some (.own a))→h.get? b=some u→h'.get? b=some u)
  (ho:∀ b,H b=some (.own a)→H' b=some (.own a)) (ht:∀ b xs,H b=some (.tup xs)→H' b=some (.tup xs)):zci P w H' h' a o:=by
 induction o with
 | lst xs=>obtain ⟨z,its,n,r,e⟩:=x;exact ⟨z,its,n,r,k _ _ (.inl rfl) e⟩
 | tup xs=>obtain ⟨z,its,r,ob,e,c⟩:=x;exact ⟨z,its,r,ob,k _ _ (.inl rfl) e,c⟩
 | dK kvs=>obtain ⟨z,y,vs,r,ob,es,ep,e,c⟩:=x;exact ⟨z,y,vs,r,ob,es,ep,k _ _ (.inl rfl) e,c⟩
 | dT kvs =>
  obtain ⟨z,y,xs,r,ob,es,ep,e,c⟩:=x
  exact ⟨z,y,xs,Paired.mapP r fun p q z=>⟨z.1,ht _ _ z.2.1,z.2.2⟩,ob,es,ep,k _ _ (.inl rfl) e,c⟩
 | set S n=>obtain ⟨ob,es,ep,t,e,c⟩:=x;exact ⟨ob,es,ep,t,k _ _ (.inl rfl) e,c⟩
 | ins C dx fs =>
  obtain ⟨d,z,ne,e,mA,⟨od,es,ep,e2,c⟩,r⟩:=x
  exact ⟨ho _ d,z,ne,k _ _ (.inl rfl) e,mA,⟨od,es,ep,k _ _ (.inr d) e2,c⟩,r⟩
 | own y=>obtain ⟨ob,e⟩:=x;exact ⟨ob,k _ _ (.inl rfl) e⟩
 | xd fs=>obtain ⟨mA,⟨od,es,ep,e,c⟩,r⟩:=x;exact ⟨mA,⟨od,es,ep,k _ _ (.inl rfl) e,c⟩,r⟩
 | rng lo hi=>obtain ⟨t,u,v,e⟩:=x;exact ⟨t,u,v,k _ _ (.inl rfl) e⟩
 | frz ob u ih=>obtain ⟨e,q⟩:=x;exact ⟨k _ _ (.inl rfl) e,ih q⟩
 | tbl ps =>
  have e:h.get? a=some { cls:=.none,data:=.fields ps }:=x
  show h'.get? a=some { cls:=.none,data:=.fields ps }
  exact k a _ (.inl rfl) e
 | met f y =>
  have e:h.get? a=some (PySem.W.methodObj (.ref f) (.ref y)):=x
  show h'.get? a=some (PySem.W.methodObj (.ref f) (.ref y))
  exact k a _ (.inl rfl) e
 | ext φ=>obtain ⟨p,⟨o,e⟩,st⟩:=x;exact ⟨st _ _ p fun o q=>k _ _ (.inl rfl) q,⟨o,k _ _ (.inl rfl) e⟩,st⟩
theorem HOk.lt (x:HOk P w H h) (e:H a=some o):a<h.objs.size:=(x a o e).lt
theorem HOk.fresh (x:HOk P w H h) (e:h.objs.size≤a):H a=none:=by
 cases q:H a with
 | none=>rfl
 | some u=>exact absurd (Nat.lt_of_lt_of_le (x.lt q) e) (Nat.lt_irrefl _)
theorem HOk.kept (x:HOk P w H h) (k:∀ b u,h.get? b=some u→h'.get? b=some u):HOk P w H h':=fun a o e =>
 (x a o e).stay (fun b u _ q=>k b u q) (fun _ q=>q) fun _ _ q=>q
theorem HOk.laid (x:HOk P w H h) (k:∀ b u,h.get? b=some u→h'.get? b=some u) (hp:h.objs.size≤a) (new:zci P w (upd H a o) h' a o):HOk P w (upd H a o) h':=fun b u e=>by
 have hn:=x.fresh hp
 by_cases hb:b=a
 ·subst hb;rw [zah] at e;cases e;exact new
 ·rw [zaY hb] at e
  exact (x b u e).stay (fun c v _ q=>k c v q) (fun c q=>by rw [zaY (zaP q hn)];exact q) fun c xs q=>by rw [zaY (zaP q hn)];exact q
end
def Rd (H:Hp) (a:Addr) (u:HO):Prop:=H a=some u∨∃ o,H a=some (.frz o u)
theorem Rd.ok {P:Program} {w:World} {H:Hp} {h:Heap} {a:Addr} {u:HO} (r:Rd H a u) (x:HOk P w H h):zci P w H h a u:=by
 rcases r with r | ⟨o,r⟩
 ·exact x a u r
 ·obtain ⟨_,q⟩:=x a _ r
  exact q
def Mut:Option HO→Prop
 | some (.lst _)=>True
 | some (.dK _)=>True
 | some (.dT _)=>True
 | some (.set _ _)=>True
 | some (.ins _ _ _)=>True
 | some (.ext _)=>True
 | _=>False
section
variable {P:Program} {w:World} {H:Hp} {h h':Heap} {x e:Addr} {o':HO}
theorem HOk.write (ok:HOk P w H h) (mu:Mut (H x)) (he:e=x∨H e=some (.own x)) (k:∀ b u,b≠e→h.get? b=some u→h'.get? b=some u) (heo:∃ u,h'.get? e=some u)
  (new:zci P w (upd H x o') h' x o'):HOk P w (upd H x o') h':=fun b u q=>by
 have nown:∀ c y,H c=some (.own y)→c≠x:=fun c y r z=>by subst z;rw [r] at mu;exact mu
 have ntup:∀ c xs,H c=some (.tup xs)→c≠x:=fun c xs r z=>by subst z;rw [r] at mu;exact mu
 by_cases hb:b=x
 ·subst hb;rw [zah] at q;cases q;exact new
 ·rw [zaY hb] at q
  by_cases hbe:b=e
  ·have q':H b=some (.own x):=by
    rcases he with z | z
    ·exact absurd (hbe.trans z) hb
    ·rw [hbe];exact z
   rw [q] at q';cases q'
   obtain ⟨v,hv⟩:=heo
   exact ⟨v,by rw [hbe];exact hv⟩
  ·refine (ok b u q).stay (fun c v hc r=>k c v ?_ r) (fun c r=>by rw [zaY (nown c b r)];exact r) fun c xs r=>by rw [zaY (ntup c xs r)];exact r
   rcases hc with rfl | hc
   ·exact hbe
   ·rintro rfl
    rcases he with z | z
    ·exact nown c b hc z
    ·rw [hc] at z;cases z;exact hb rfl
end
structure Un (fs ex:List Addr) (H H':Hp) (h h':Heap):Prop where
 keep:∀ b o,h.get? b=some o→H b=none→b∉fs→b∉ex→h'.get? b=some o
 slot:∀ b o,h.get? b=some o→H b=none→b∈fs→b∉ex→∃ sl,h'.get? b=some { o with slots:=sl }
 free:∀ b o,h.get? b=some o→H b=none→b∉ex→H' b=none
 there:∀ b o,h.get? b=some o→b∉ex→∃ o',h'.get? b=some o'
 tups:∀ b xs,H b=some (.tup xs)→H' b=some (.tup xs)
 frzs:∀ b o u,H b=some (.frz o u)→H' b=some (.frz o u)
 tbls:∀ b ps,H b=some (.tbl ps)→∃ more,H' b=some (.tbl (ps++more))
section
variable {fs fs' ex ex':List Addr} {H H1 H2:Hp} {h h1 h2 h':Heap} {a x e:Addr} {o:HO}
theorem Un.any (u:Un fs ex H H1 h h1) {b:Addr} {ob:Obj} (q:h.get? b=some ob) (n:H b=none) (hx:b∉ex):∃ sl,h1.get? b=some { ob with slots:=sl }:=by
 by_cases hb:b∈fs
 ·exact u.slot b ob q n hb hx
 ·exact ⟨ob.slots,u.keep b ob q n hb hx⟩
theorem Un.kept (k:∀ b u,h.get? b=some u→h'.get? b=some u):Un fs ex H H h h' :=
 ⟨fun b ob q _ _ _=>k b ob q,fun b ob q _ _ _=>⟨ob.slots,k b ob q⟩,fun _ _ _ n _=>n,fun b ob q _=>⟨ob,k b ob q⟩,fun _ _ q=>q,fun _ _ _ q=>q,fun _ ps q=>⟨#[],by rw [q];simp⟩⟩
theorem Un.refl:Un fs ex H H h h:=Un.kept fun _ _ q=>q
theorem Un.laid (k:∀ b u,h.get? b=some u→h'.get? b=some u) (hp:h.objs.size≤a) (hn:H a=none):Un fs ex H (upd H a o) h h' where
 keep:=fun b u q _ _ _=>k b u q
 slot:=fun b u q _ _ _=>⟨u.slots,k b u q⟩
 free:=fun b u q n _=>by rw [zaY (Nat.ne_of_lt (Nat.lt_of_lt_of_le (Heap.lt_size q) hp))];exact n
 there:=fun b u q _=>⟨u,k b u q⟩
 tups:=fun b xs q=>by rw [zaY (zaP q hn)];exact q
 frzs:=fun b u xs q=>by rw [zaY (zaP q hn)];exact q
 tbls:=fun b ps q=>⟨#[],by rw [zaY (zaP q hn),q];simp⟩
theorem Un.write (mu:Mut (H x)) (he:e=x∨H e=some (.own x)) (k:∀ b u,b≠e→h.get? b=some u→h'.get? b=some u) (heo:∃ u,h'.get? e=some u):Un fs ex H (upd H x o) h h':=by
 have hx:∀ b,H b=none→b≠x:=fun b n z=>by subst z;rw [n] at mu;exact mu
 have hb:∀ b,H b=none→b≠e:=fun b n z=>by
  subst z
  rcases he with r | r
  ·exact hx b n r
  ·rw [n] at r;cases r
 have hm:∀ b u,H b=some u→¬ Mut (some u)→b≠x:=fun b u q nm z=>by subst z;rw [q] at mu;exact nm mu
 refine ⟨fun b u q n _ _=>k b u (hb b n) q,fun b u q n _ _=>⟨u.slots,k b u (hb b n) q⟩,fun b u q n _=>by rw [zaY (hx b n)];exact n,fun b u q _=>?_,
  fun b xs q=>by rw [zaY (hm b _ q fun z=>z)];exact q,fun b u xs q=>by rw [zaY (hm b _ q fun z=>z)];exact q,fun b ps q=>⟨#[],by rw [zaY (hm b _ q fun z=>z),q];simp⟩⟩
 by_cases hbe:b=e
 ·subst hbe;exact heo
 ·exact ⟨u,k b u hbe q⟩
end
def trk (h:Heap) (H:Hp):List Addr:=(List.range h.objs.size).filter fun a=>(H a).isSome
def zmc (h:Heap) (H:Hp):Heap:=PySem.W.hideAll h (trk h H)
theorem zj1 (h:Heap) (H:Hp):(zmc h H).objs.size=h.objs.size:=PySem.W.hideAll_size _ _
theorem zma {h:Heap} {H:Hp} {b:Addr} {o:Obj} (e:h.get? b=some o) (n:H b=none):(zmc h H).get? b=some o :=
 PySem.W.hideAll_get _ e fun hm=>by
  have q:(H b).isSome=true:=(List.mem_filter.mp hm).2
  rw [n] at q;simp at q
theorem zm2 {h:Heap} {H:Hp} {b:Addr} {o:Obj} (e:(zmc h H).get? b=some o):h.get? b=some o∧H b=none:=by
 have e':h.get? b=some o:=PySem.W.of_hideAll (trk h H) e
 refine ⟨e',?_⟩
 cases q:H b with
 | none=>rfl
 | some x =>
  have hm:b∈trk h H:=List.mem_filter.mpr ⟨List.mem_range.mpr (Heap.lt_size e'),by simp [q]⟩
  have z:(zmc h H).get? b=none:=PySem.W.hideAll_none (trk h H) hm
  rw [z] at e;cases e
def zn8 (g h:Heap) (L:Addr):List (Addr×Obj):=(List.range h.objs.size).filterMap fun a=>if a=L∨(g.get? a).isSome=true then none else (h.get? a).map fun o=>(a,o)
def rest (g h:Heap) (L d:Addr):List (Addr×Obj):=(zn8 g h L).filter fun p=>decide (p.1≠d)
end L2
namespace L2
open PySem PySem.Spec PyProof.Rows
structure Mod (K:PySem.W.Frag) (mg:Str→Option Value) (base:Heap):Prop where
 kin:K.In base
 glob:base.Ns mainGlobals mg
 blt:∃ mb,base.Ns builtinsNs mb∧∀ x:Str,x≠"__name__"→mb x=bootBuiltins x
 nolimit:base.NoLimit
structure Cx where
 prog:Program
 w:World
 K:PySem.W.Frag
 mg:Str→Option Value
 base:Heap
 A:Around
 N:List Str
 s₀:Shared
 H₀:Hp
 env:Env
 outer:List Env
 stack:List Env
 ex:List Addr
 fn:Str→Bool
 calm:Bool
 pn:List (Addr×Obj)
 xe:Value→Shared→Prop
def frs (l:List Env):List Addr:=l.filterMap (·.frame)
abbrev Cx.fs (X:Cx):List Addr:=frs X.outer
def Vis (sc:Scope) (x:Str):Prop:=sc.names.lookup x=some .local∨sc.names.lookup x=some .cell∨sc.names.lookup x=some .free
def Loc (sc:Scope) (x:Str):Prop:=sc.names.lookup x=some .local∨sc.names.lookup x=some .cell
def Look (env:Env) (h:Heap) (m:Str→Option Value) (x:Str) (u:Value):Prop :=
 (env.kindOf x=some .local∧m x=some u)∨((env.kindOf x=some .cell∨env.kindOf x=some .free)∧∃ c,env.cells.lookup x=some c∧h.IsCell c (some u))
structure Cx.Ok (X:Cx):Prop where
 mod:Mod X.K X.mg X.base
 kind:X.env.scope.kind=.function
 glob:X.env.globals=mainGlobals
 blt:X.env.builtins=builtinsNs
 above:X.s₀.heap.objs.size≤X.env.locals
 inj:∀ x y c,X.env.cells.lookup x=some c→X.env.cells.lookup y=some c→x=y
 has:∀ x,(X.env.kindOf x=some .cell∨X.env.kindOf x=some .free)→∃ c,X.env.cells.lookup x=some c
 cab:∀ x c,X.fn x=true→X.env.cells.lookup x=some c→X.s₀.heap.objs.size≤c
 hd:X.calm=true→X.A.handled=none
 frames:X.A.frames=some X.stack
 stk:X.stack=X.outer∨(X.stack=X.env::X.outer∧X.env.frame=some X.env.locals)
 exf:∀ b∈X.ex,b≠X.env.locals∧∀ x c,X.env.cells.lookup x=some c→c≠b
 bs:∀ b o,X.base.get? b=some o→X.s₀.heap.get? b=some o∧X.H₀ b=none
 bsz:X.base.objs.size≤X.s₀.heap.objs.size
 noex:∀ b o,X.base.get? b=some o→b∉X.ex
 exfs:∀ b∈X.ex,b∉X.fs
 funs:X.s₀.heap.FunFrames X.base X.outer
 frf:∀ b∈X.fs,X.H₀ b=none
structure Inv (X:Cx) (pins:List (Addr×Obj)) (σ:List (Option V)) (H:Hp) (s:Shared):Prop where
 ok:X.Ok
 os:s.os=X.s₀.os
 bare:AllBare s.gens
 base:Un X.fs X.ex X.H₀ H X.s₀.heap s.heap
 loc:∃ m,s.heap.Ns X.env.locals m∧∀ (i:Nat) (x:Str) (v:V),X.N[i]?=some x→σ[i]?=some (some v)→Vis X.env.scope x→∃ u,zch v u∧Look X.env s.heap m x u
 cell:∀ x c,X.env.cells.lookup x=some c→∃ v,s.heap.IsCell c v
 free:H X.env.locals=none
 freeC:∀ x c,X.env.cells.lookup x=some c→H c=none
 pin:∀ p∈X.pn++pins,s.heap.get? p.1=some p.2∧H p.1=none∧p.1≠X.env.locals∧p.1∉X.fs∧∀ v,p.2.data≠.cell v
 hok:HOk X.prog X.w H s.heap
 len:σ.length=X.N.length
section
variable {X:Cx} {pins:List (Addr×Obj)} {σ:List (Option V)} {H H':Hp} {s:Shared} {h':Heap}
theorem Cx.Ok.nofr (ok:X.Ok) {b:Addr} {o:Obj} (e:X.base.get? b=some o):b∉X.fs:=fun hb=>by
 have:=(ok.funs.mem hb).1
 rw [e] at this;cases this
theorem Inv.bs (I:Inv X pins σ H s):∀ b o,X.base.get? b=some o→s.heap.get? b=some o∧H b=none:=fun b o e =>
 ⟨I.base.keep b o (I.ok.bs b o e).1 (I.ok.bs b o e).2 (I.ok.nofr e) (I.ok.noex b o e),I.base.free b o (I.ok.bs b o e).1 (I.ok.bs b o e).2 (I.ok.noex b o e)⟩
theorem Inv.bk (I:Inv X pins σ H s):∀ b o,X.base.get? b=some o→s.heap.get? b=some o:=fun b o e=>(I.bs b o e).1
theorem Inv.mod (I:Inv X pins σ H s):Mod X.K X.mg X.base:=I.ok.mod
theorem Inv.kIn (I:Inv X pins σ H s):X.K.In s.heap:=I.ok.mod.kin.keeps I.bk
theorem Inv.lt (I:Inv X pins σ H s):X.env.locals<s.heap.objs.size:=let ⟨_,hn,_⟩:=I.loc;hn.lt
theorem Inv.sz (I:Inv X pins σ H s):X.s₀.heap.objs.size≤s.heap.objs.size:=Nat.le_trans I.ok.above (Nat.le_of_lt I.lt)
theorem Inv.nofs (I:Inv X pins σ H s) {a:Addr} (h:s.heap.objs.size≤a):a∉X.fs:=fun hb=>by
 obtain ⟨_,o,ho,_⟩:=I.ok.funs.mem hb
 exact absurd (Nat.lt_of_lt_of_le (Heap.lt_size ho) (Nat.le_trans I.sz h)) (Nat.lt_irrefl _)
theorem Inv.cne (I:Inv X pins σ H s):∀ x c,X.env.cells.lookup x=some c→c≠X.env.locals:=fun x c e z=>by
 obtain ⟨v,o,ho,hd⟩:=I.cell x c e
 obtain ⟨m,⟨o',es,ep,ho',hd',_⟩,_⟩:=I.loc
 rw [z,ho'] at ho;cases ho;rw [hd'] at hd;cases hd
theorem Inv.funs (I:Inv X pins σ H s):s.heap.FunFrames X.base X.outer:=by
 have all:∀ (l:List Env),(∀ b∈frs l,b∈X.fs)→X.s₀.heap.FunFrames X.base l→s.heap.FunFrames X.base l:=by
  intro l
  induction l with
  | nil=>intro _ _;trivial
  | cons env r ih =>
   intro hs hl
   obtain ⟨hk,⟨L,o,hf,hn,ho,hd⟩,hr⟩:=hl
   have hL:L∈X.fs:=hs L (by unfold frs;rw [List.filterMap_cons,hf];exact List.mem_cons_self)
   obtain ⟨sl,e⟩:=I.base.slot L o ho (I.ok.frf L hL) hL fun z=>I.ok.exfs L z hL
   exact ⟨hk,⟨L,_,hf,hn,e,hd⟩,ih (fun b hb=>hs b (by unfold frs;rw [List.filterMap_cons,hf];exact List.mem_cons_of_mem _ hb)) hr⟩
 exact all X.outer (fun _ hb=>hb) I.ok.funs
theorem Inv.stack (I:Inv X pins σ H s):s.heap.FunFrames X.base X.stack:=by
 rcases I.ok.stk with e | ⟨e,hf⟩
 ·rw [e];exact I.funs
 ·rw [e]
  obtain ⟨m,hn,_⟩:=I.loc
  refine .cons (by rw [I.ok.kind];decide) hf hn ?_ I.funs
  exact Heap.get?_none_of_le (Nat.le_trans I.ok.bsz I.ok.above)
theorem Inv.stkSub (I:Inv X pins σ H s):∀ b∈frs X.stack,b∈X.env.locals::X.fs:=fun b hb=>by
 rcases I.ok.stk with e | ⟨e,hf⟩
 ·rw [e] at hb;exact List.mem_cons_of_mem _ hb
 ·rw [e] at hb
  unfold frs at hb
  rw [List.filterMap_cons,hf] at hb
  exact hb
theorem Inv.stkFree (I:Inv X pins σ H s):∀ b∈frs X.stack,H b=none:=fun b hb=>by
 rcases List.mem_cons.mp (I.stkSub b hb) with e | hb
 ·rw [e];exact I.free
 ·obtain ⟨_,o,ho,_⟩:=I.ok.funs.mem hb
  exact I.base.free b o ho (I.ok.frf b hb) fun z=>I.ok.exfs b z hb
theorem Inv.step {g':Array GenState} {t':Nat} {d':Drawn} {ch:List Addr} (I:Inv X pins σ H s)
  (hch:∀ b∈ch,(b∈X.ex∨X.s₀.heap.objs.size≤b)∧b≠X.env.locals∧(∀ x c,X.env.cells.lookup x=some c→c≠b)∧∀ p∈X.pn++pins,p.1≠b)
  (keep:∀ b o,b≠X.env.locals→b∉X.fs→b∉ch→s.heap.get? b=some o→H b=none→h'.get? b=some o)
  (slot:∀ b o,b≠X.env.locals→b∈X.fs→b∉ch→s.heap.get? b=some o→H b=none→∃ sl,h'.get? b=some { o with slots:=sl }) (free:∀ b o,b∉ch→s.heap.get? b=some o→H b=none→H' b=none)
  (there:∀ b o,b∉ch→s.heap.get? b=some o→∃ o',h'.get? b=some o')
  (tups:∀ b xs,H b=some (.tup xs)→H' b=some (.tup xs)) (frzs:∀ b o u,H b=some (.frz o u)→H' b=some (.frz o u)) (tbls:∀ b ps,H b=some (.tbl ps)→∃ more,H' b=some (.tbl (ps++more)))
  (ns:∀ m,s.heap.Ns X.env.locals m→h'.Ns X.env.locals m) (hok:HOk X.prog X.w H' h') (hg:AllBare g') :
  Inv X pins σ H' { s with heap:=h',gens:=g',drawn:=d',toks:=t' }:=by
 have neL:∀ b o,X.s₀.heap.get? b=some o→b≠X.env.locals:=fun b o e=>Nat.ne_of_lt (Nat.lt_of_lt_of_le (Heap.lt_size e) I.ok.above)
 have neC:∀ b o,X.s₀.heap.get? b=some o→b∉X.ex→b∉ch:=fun b o e hx hb=>by
  rcases (hch b hb).1 with z | z
  ·exact hx z
  ·exact absurd (Nat.lt_of_lt_of_le (Heap.lt_size e) z) (Nat.lt_irrefl _)
 have cellK:∀ x c,X.env.cells.lookup x=some c→∀ v,s.heap.IsCell c v→h'.IsCell c v:=fun x c e v ⟨o,ho,hd⟩=>by
  have nch:c∉ch:=fun z=>(hch c z).2.2.1 x c e rfl
  by_cases hc:c∈X.fs
  ·obtain ⟨sl,q⟩:=slot c o (I.cne x c e) hc nch ho (I.freeC x c e)
   exact ⟨_,q,hd⟩
  ·exact ⟨o,keep c o (I.cne x c e) hc nch ho (I.freeC x c e),hd⟩
 refine ⟨I.ok,I.os,hg,⟨fun b o e n hb hx=>?_,fun b o e n hb hx=>?_,fun b o e n hx=>?_,fun b o e hx=>?_,fun b xs e=>tups b xs (I.base.tups b xs e),fun b o xs e=>frzs b o xs (I.base.frzs b o xs e),fun b ps e=>?_⟩,?_,fun x c e=>?_,?_,fun x c e=>?_,fun p hp=>?_,hok,I.len⟩
 ·exact keep b o (neL b o e) hb (neC b o e hx) (I.base.keep b o e n hb hx) (I.base.free b o e n hx)
 ·obtain ⟨sl,e1⟩:=I.base.slot b o e n hb hx
  obtain ⟨sl',e2⟩:=slot b _ (neL b o e) hb (neC b o e hx) e1 (I.base.free b o e n hx)
  exact ⟨sl',e2⟩
 ·obtain ⟨o',e1⟩:=I.base.there b o e hx
  exact free b o' (neC b o e hx) e1 (I.base.free b o e n hx)
 ·obtain ⟨o',e1⟩:=I.base.there b o e hx
  exact there b o' (neC b o e hx) e1
 ·obtain ⟨m1,e1⟩:=I.base.tbls b ps e
  obtain ⟨m2,e2⟩:=tbls b _ e1
  exact ⟨m1++m2,by rw [e2,Array.append_assoc]⟩
 ·obtain ⟨m,hn,hl⟩:=I.loc
  refine ⟨m,ns m hn,fun i x v e1 e2 e3=>?_⟩
  obtain ⟨u,r,l⟩:=hl i x v e1 e2 e3
  refine ⟨u,r,?_⟩
  rcases l with l | ⟨k,c,e,z⟩
  ·exact .inl l
  ·exact .inr ⟨k,c,e,cellK x c e _ z⟩
 ·obtain ⟨v,z⟩:=I.cell x c e
  exact ⟨v,cellK x c e v z⟩
 ·obtain ⟨m,⟨o,_,_,ho,_⟩,_⟩:=I.loc
  exact free _ o (fun z=>(hch _ z).2.1 rfl) ho I.free
 ·obtain ⟨v,o,ho,hd⟩:=I.cell x c e
  exact free c o (fun z=>(hch c z).2.2.1 x c e rfl) ho (I.freeC x c e)
 ·obtain ⟨e,n,ne,nf,d⟩:=I.pin p hp
  have nch:p.1∉ch:=fun z=>(hch p.1 z).2.2.2 p hp rfl
  exact ⟨keep p.1 p.2 ne nf nch e n,free p.1 p.2 nch e n,ne,nf,d⟩
theorem Inv.un {t':Nat} (I:Inv X pins σ H s) (u:Un X.fs [] H H' s.heap h') (hok:HOk X.prog X.w H' h'):Inv X pins σ H' { s with heap:=h',toks:=t' }:=by
 obtain ⟨m,⟨o,es,ep,ho,r⟩,_⟩:=id I.loc
 obtain ⟨sl,hL⟩:=u.any ho I.free (by simp)
 exact I.step (g':=s.gens) (d':=s.drawn) (ch:=[]) (fun _ z=>nomatch z) (fun b o _ hb _ e n=>u.keep b o e n hb (by simp)) (fun b o _ hb _ e n=>u.slot b o e n hb (by simp)) (fun b o _ e n=>u.free b o e n (by simp)) (fun b o _ e=>u.there b o e (by simp)) u.tups u.frzs u.tbls (fun m' hm=>by
  obtain ⟨o',es',ep',ho',r'⟩:=hm
  rw [ho] at ho';cases ho'
  exact ⟨_,es',ep',hL,r'⟩) hok I.bare
theorem Inv.call {g':Array GenState} {t':Nat} {d':Drawn} {ch:List Addr} (I:Inv X pins σ H s) (u:Un (frs X.stack) ch H H' s.heap h') (hok:HOk X.prog X.w H' h') (hg:AllBare g')
  (hch:∀ b∈ch,(b∈X.ex∨X.s₀.heap.objs.size≤b)∧b≠X.env.locals∧(∀ x c,X.env.cells.lookup x=some c→c≠b)∧∀ p∈X.pn++pins,p.1≠b) :
  Inv X pins σ H' { s with heap:=h',gens:=g',drawn:=d',toks:=t' }:=by
 obtain ⟨m,⟨o,es,ep,ho,r⟩,_⟩:=id I.loc
 obtain ⟨sl,hL⟩:=u.any ho I.free fun z=>(hch _ z).2.1 rfl
 exact I.step (ch:=ch) hch (fun b o hL hb hc e n=>u.keep b o e n (fun z=>(List.mem_cons.mp (I.stkSub b z)).elim hL hb) hc) (fun b o _ _ hc e n=>u.any e n hc) (fun b o hc e n=>u.free b o e n hc) (fun b o hc e=>u.there b o e hc) u.tups u.frzs u.tbls (fun m' hm=>by
  obtain ⟨o',es',ep',ho',r'⟩:=hm
  rw [ho] at ho';cases ho'
  exact ⟨_,es',ep',hL,r'⟩) hok hg
theorem Inv.turned {t':Nat} {it:Addr} (I:Inv X pins σ H s) (k:∀ b o,b≠it→s.heap.get? b=some o→h'.get? b=some o) (hn:H it=none) (hL:it≠X.env.locals)
  (h1:it∈X.ex∨X.s₀.heap.objs.size≤it) (h2:∀ x c,X.env.cells.lookup x=some c→c≠it) (h3:∀ p∈X.pn++pins,p.1≠it):Inv X pins σ H { s with heap:=h',toks:=t' }:=by
 have nit:∀ b u,H b=some u→b≠it:=fun b u e z=>by rw [z,hn] at e;cases e
 refine I.step (g':=s.gens) (d':=s.drawn) (ch:=[it]) (fun b hb=>?_) (fun b o _ _ hc e _=>k b o (fun z=>hc (by simp [z])) e) (fun b o _ _ hc e _=>⟨o.slots,k b o (fun z=>hc (by simp [z])) e⟩) (fun _ _ _ _ n=>n)
  (fun b o hc e=>⟨o,k b o (fun z=>hc (by simp [z])) e⟩) (fun _ _ e=>e) (fun _ _ _ e=>e) (fun b ps e=>⟨#[],by rw [e];simp⟩) (fun m hm=>?_) (fun b u e=>?_) I.bare
 ·have e:b=it:=by simpa using hb
  subst e
  exact ⟨h1,hL,h2,h3⟩
 ·obtain ⟨o,es,ep,ho,r⟩:=hm
  exact ⟨o,es,ep,k _ o (Ne.symm hL) ho,r⟩
 ·refine (I.hok b u e).stay (fun c v hc q=>k c v ?_ q) (fun _ q=>q) fun _ _ q=>q
  rcases hc with z | z
  ·rw [z];exact nit b u e
  ·exact nit c _ z
theorem Inv.tok (I:Inv X pins σ H s) (t:Nat):Inv X pins σ H { s with toks:=t }:=I.un (h':=s.heap) (t':=t) Un.refl I.hok
theorem Inv.kept {t':Nat} (I:Inv X pins σ H s) (k:∀ b u,s.heap.get? b=some u→h'.get? b=some u):Inv X pins σ H { s with heap:=h',toks:=t' }:=I.un (Un.kept k) (I.hok.kept k)
theorem Inv.laid {a:Addr} {o:HO} {t':Nat} (I:Inv X pins σ H s) (k:∀ b u,s.heap.get? b=some u→h'.get? b=some u) (hp:s.heap.objs.size≤a) (new:zci X.prog X.w (upd H a o) h' a o) :
  Inv X pins σ (upd H a o) { s with heap:=h',toks:=t' }:=I.un (Un.laid k hp (I.hok.fresh hp)) (I.hok.laid k hp new)
theorem Inv.write {x e:Addr} {o:HO} {t':Nat} (I:Inv X pins σ H s) (mu:Mut (H x)) (he:e=x∨H e=some (.own x)) (k:∀ b u,b≠e→s.heap.get? b=some u→h'.get? b=some u) (heo:∃ u,h'.get? e=some u)
  (new:zci X.prog X.w (upd H x o) h' x o):Inv X pins σ (upd H x o) { s with heap:=h',toks:=t' }:=I.un (Un.write mu he k heo) (I.hok.write mu he k heo new)
theorem Inv.pins_of {pins':List (Addr×Obj)} (I:Inv X pins σ H s) (h:∀ p∈pins',s.heap.get? p.1=some p.2∧H p.1=none∧p.1≠X.env.locals∧p.1∉X.fs∧∀ v,p.2.data≠.cell v):Inv X pins' σ H s :=
 ⟨I.ok,I.os,I.bare,I.base,I.loc,I.cell,I.free,I.freeC,fun p hp=>(List.mem_append.mp hp).elim (fun z=>I.pin p (List.mem_append_left _ z)) (h p),I.hok,I.len⟩
theorem ziS {N:List Str} (hN:N.Nodup) {i j:Nat} {x:Str} (a:N[i]?=some x) (b:N[j]?=some x):i=j:=by
 obtain ⟨h1,e1⟩:=List.getElem?_eq_some_iff.mp a
 obtain ⟨h2,e2⟩:=List.getElem?_eq_some_iff.mp b
 exact (List.getElem_inj hN).mp (e1.trans e2.symm)
theorem zhz {M:Model} {A:Around} {E:Value→Shared→Prop} {i:Nat} {x:Str} {v:V} {u:Value} {Q:Unit→Shared→Prop} (I:Inv X pins σ H s) (hN:X.N.Nodup) (hi:X.N[i]?=some x) (hx:Loc X.env.scope x) (r:zch v u)
  (h:∀ s',Inv X pins (σ.set i (some v)) H s'→(∃ a,Heap.SameBut a s.heap s'.heap∧(a=X.env.locals∨X.env.cells.lookup x=some a))→Q () s') (hf:X.fn x=true∨X.env.scope.names.lookup x=some .local:=by first | exact .inl rfl | exact .inr rfl | assumption):wpAny M A (storeName X.env x u) Q E s:=by
 obtain ⟨m,hn,hl⟩:=id I.loc
 have hcls:(X.env.scope.kind == .class || (X.env.scope.kind == .module&&X.env.locals != X.env.globals))=false:=by rw [I.ok.kind];rfl
 have hiσ:i<σ.length:=by rw [I.len];exact (List.getElem?_eq_some_iff.mp hi).1
 have cne:=I.cne
 have tracked:∀ {a:Addr} {h':Heap},(∃ o,s.heap.get? a=some o∧H a=none)→Heap.SameBut a s.heap h'→HOk X.prog X.w H h':=fun {a h'} ha hs b ob e=>by
  obtain ⟨_,_,hfree⟩:=ha
  refine (I.hok b ob e).stay (fun c w' hc q=>(hs.2 c ?_).trans q) (fun _ q=>q) fun _ _ q=>q
  rintro rfl
  rcases hc with rfl | hc
  ·rw [hfree] at e;cases e
  ·rw [hfree] at hc;cases hc
 rcases hx with hk | hk
 ·refine wpAny_storeName_local hk hn (fun h' hn' hs=>?_) hcls
  obtain ⟨oL,_,_,hoL,_⟩:=id hn
  refine h _ ⟨I.ok,I.os,I.bare,⟨fun b o e n hb hx=>?_,fun b o e n hb hx=>?_,I.base.free,fun b o e hx=>?_,I.base.tups,I.base.frzs,I.base.tbls⟩,⟨_,hn',fun j y v' e1 e2 e3=>?_⟩,fun y c e=>?_,I.free,I.freeC,fun p hp=>?_,tracked ⟨oL,hoL,I.free⟩ hs,by simpa using I.len⟩ ⟨_,hs,.inl rfl⟩
  ·exact (hs.2 b (Nat.ne_of_lt (Nat.lt_of_lt_of_le (Heap.lt_size e) I.ok.above))).trans (I.base.keep b o e n hb hx)
  ·obtain ⟨sl,e1⟩:=I.base.slot b o e n hb hx
   exact ⟨sl,(hs.2 b (Nat.ne_of_lt (Nat.lt_of_lt_of_le (Heap.lt_size e) I.ok.above))).trans e1⟩
  ·obtain ⟨o',e1⟩:=I.base.there b o e hx
   exact ⟨o',(hs.2 b (Nat.ne_of_lt (Nat.lt_of_lt_of_le (Heap.lt_size e) I.ok.above))).trans e1⟩
  ·by_cases hj:j=i
   ·subst hj
    rw [hi] at e1;cases e1
    rw [List.getElem?_set_self hiσ] at e2
    cases e2
    exact ⟨u,r,.inl ⟨hk,by simp⟩⟩
   ·rw [List.getElem?_set_ne (Ne.symm hj)] at e2
    obtain ⟨u',r',q⟩:=hl j y v' e1 e2 e3
    refine ⟨u',r',?_⟩
    rcases q with ⟨k,e⟩ | ⟨k,c,e,z⟩
    ·refine .inl ⟨k,?_⟩
     have:y≠x:=fun e=>hj (ziS hN e1 (e ▸ hi))
     simp [this,e]
    ·exact .inr ⟨k,c,e,z.sameBut hs (cne y c e)⟩
  ·obtain ⟨w',z⟩:=I.cell y c e
   exact ⟨w',z.sameBut hs (cne y c e)⟩
  ·obtain ⟨e,n,ne,nf,d⟩:=I.pin p hp
   exact ⟨(hs.2 p.1 ne).trans e,n,ne,nf,d⟩
 ·have hfn:X.fn x=true:=by
   rcases hf with z | z
   ·exact z
   ·rw [z] at hk;cases hk
  obtain ⟨c,hc⟩:=I.ok.has x (.inl hk)
  obtain ⟨w',z⟩:=I.cell x c hc
  refine wpAny_storeName_cell I.ok.kind hk hc z (fun h' hc' hs=>?_)
  obtain ⟨oc,hoc,hocd⟩:=id z
  refine h { s with heap:=h' } ⟨I.ok,I.os,I.bare,⟨fun b o e n hb hx=>?_,fun b o e n hb hx=>?_,I.base.free,fun b o e hx=>?_,I.base.tups,I.base.frzs,I.base.tbls⟩,⟨m,hn.sameBut hs (Ne.symm (cne x c hc)),fun j y v' e1 e2 e3=>?_⟩,fun y c' e=>?_,I.free,I.freeC,fun p hp=>?_,tracked ⟨oc,hoc,I.freeC x c hc⟩ hs,by simpa using I.len⟩ ⟨c,hs,.inr hc⟩
  ·exact (hs.2 b (Nat.ne_of_lt (Nat.lt_of_lt_of_le (Heap.lt_size e) (I.ok.cab x c hfn hc)))).trans (I.base.keep b o e n hb hx)
  ·obtain ⟨sl,e1⟩:=I.base.slot b o e n hb hx
   exact ⟨sl,(hs.2 b (Nat.ne_of_lt (Nat.lt_of_lt_of_le (Heap.lt_size e) (I.ok.cab x c hfn hc)))).trans e1⟩
  ·obtain ⟨o',e1⟩:=I.base.there b o e hx
   exact ⟨o',(hs.2 b (Nat.ne_of_lt (Nat.lt_of_lt_of_le (Heap.lt_size e) (I.ok.cab x c hfn hc)))).trans e1⟩
  ·by_cases hj:j=i
   ·subst hj
    rw [hi] at e1;cases e1
    rw [List.getElem?_set_self hiσ] at e2
    cases e2
    exact ⟨u,r,.inr ⟨.inl hk,c,hc,hc'⟩⟩
   ·rw [List.getElem?_set_ne (Ne.symm hj)] at e2
    obtain ⟨u',r',q⟩:=hl j y v' e1 e2 e3
    refine ⟨u',r',?_⟩
    rcases q with q | ⟨k,c',e,z'⟩
    ·exact .inl q
    ·refine .inr ⟨k,c',e,z'.sameBut hs ?_⟩
     rintro rfl
     exact hj (ziS hN e1 (I.ok.inj _ _ _ e hc ▸ hi))
  ·by_cases hcc:c'=c
   ·subst hcc;exact ⟨_,hc'⟩
   ·obtain ⟨w2,z2⟩:=I.cell y c' e
    exact ⟨w2,z2.sameBut hs hcc⟩
  ·obtain ⟨e,n,ne,nf,d⟩:=I.pin p hp
   refine ⟨(hs.2 p.1 ?_).trans e,n,ne,nf,d⟩
   intro q
   rw [q,hoc] at e
   have q':oc=p.2:=Option.some.inj e
   exact d w' (by rw [← q'];exact hocd)
theorem zeN {M:Model} {A:Around} {E:Value→Shared→Prop} {i:Nat} {x:Str} {v:V} {u:Value} {Q:Unit→Shared→Prop} (I:Inv X pins σ H s) (hN:X.N.Nodup) (hi:X.N[i]?=some x) (hx:Loc X.env.scope x) (r:zch v u)
  (h:∀ s',Inv X pins (σ.set i (some v)) H s'→Q () s') (hf:X.fn x=true∨X.env.scope.names.lookup x=some .local:=by first | exact .inl rfl | exact .inr rfl | assumption):wpAny M A (storeName X.env x u) Q E s :=
 zhz I hN hi hx r (fun s' I' _=>h s' I') hf
theorem Inv.call' {s':Shared} {ch:List Addr} (I:Inv X pins σ H s) (ho:s'.os=s.os) (u:Un (frs X.stack) ch H H' s.heap s'.heap) (hok:HOk X.prog X.w H' s'.heap) (hg:AllBare s'.gens)
  (hch:∀ b∈ch,(b∈X.ex∨X.s₀.heap.objs.size≤b)∧b≠X.env.locals∧(∀ x c,X.env.cells.lookup x=some c→c≠b)∧∀ p∈X.pn++pins,p.1≠b):Inv X pins σ H' s':=by
 obtain ⟨h',g',d',t',o'⟩:=s'
 have e:o'=s.os:=ho
 subst e
 exact I.call (g':=g') (t':=t') (d':=d') u hok hg hch
end
abbrev XK:=Value→Option Addr→Hp→Prop
abbrev St:=List (Option V)
abbrev VK:=V→Hp→Prop
abbrev TE:=St→Hp→VK→Prop
abbrev TT:=St→Hp→(Bool→Hp→Prop)→Prop
abbrev TA:=St→Hp→(List V→Hp→Prop)→Prop
structure zbU where
 nx:St→Hp→Prop
 rt:VK
 bk:St→Hp→Prop:=fun _ _=>False
 ct:St→Hp→Prop:=fun _ _=>False
abbrev TS:=zbU→St→Hp→Prop
def EP (X:Cx) (pins:List (Addr×Obj)) (σ:St) (Q:VK) (u:Value) (s':Shared):Prop:=∃ v H',Inv X pins σ H' s'∧zch v u∧Q v H'
def TP (X:Cx) (pins:List (Addr×Obj)) (σ:St) (Q:Bool→Hp→Prop) (b:Bool) (s':Shared):Prop:=∃ H',Inv X pins σ H' s'∧Q b H'
def AP (X:Cx) (pins:List (Addr×Obj)) (σ:St) (Q:List V→Hp→Prop) (us:List Value) (s':Shared):Prop:=∃ vs H',Inv X pins σ H' s'∧zbs vs us∧Q vs H'
def SP (X:Cx) (pins:List (Addr×Obj)) (D:zbU) (f:Flow) (s':Shared):Prop :=
 match f with
 | .next=>∃ σ' H',Inv X pins σ' H' s'∧D.nx σ' H'
 | .brk=>∃ σ' H',Inv X pins σ' H' s'∧D.bk σ' H'
 | .cont=>∃ σ' H',Inv X pins σ' H' s'∧D.ct σ' H'
 | .ret u=>∃ v σ' H',Inv X pins σ' H' s'∧zch v u∧D.rt v H'
def PE (X:Cx) (e:Expr) (t:TE):Prop :=
 ∀ (pins:List (Addr×Obj)) (s:Shared) (σ:St) (H:Hp) (Q:VK),Inv X pins σ H s→t σ H Q→wpAny (model X.prog X.w) X.A (eval e X.env) (EP X pins σ Q) X.xe s
def PT (X:Cx) (e:Expr) (t:TT):Prop :=
 ∀ (pins:List (Addr×Obj)) (s:Shared) (σ:St) (H:Hp) (Q:Bool→Hp→Prop),Inv X pins σ H s→t σ H Q→wpAny (model X.prog X.w) X.A (isTrue e X.env (eval e X.env)) (TP X pins σ Q) X.xe s
def PW (X:Cx) (e:Expr) (t:TT):Prop :=
 ∀ (whole:Sem Value) (pins:List (Addr×Obj)) (s:Shared) (σ:St) (H:Hp) (Q:Bool→Hp→Prop),Inv X pins σ H s→t σ H Q→wpAny (model X.prog X.w) X.A (isTrue e X.env whole) (TP X pins σ Q) X.xe s
theorem PW.pt {X:Cx} {e:Expr} {t:TT} (h:PW X e t):PT X e t:=h _
def PA (X:Cx) (es:List Expr) (t:TA):Prop :=
 ∀ (pos:Pos) (pins:List (Addr×Obj)) (s:Shared) (σ:St) (H:Hp) (Q:List V→Hp→Prop),Inv X pins σ H s→t σ H Q→wpAny (model X.prog X.w) X.A (spliced (backTo pos (starEach es X.env))) (AP X pins σ Q) X.xe s
def PS (X:Cx) (st:Stmt) (t:TS):Prop :=
 ∀ (pins:List (Addr×Obj)) (s:Shared) (σ:St) (H:Hp) (D:zbU),Inv X pins σ H s→t D σ H→wpAny (model X.prog X.w) X.A (exec st X.env) (SP X pins D) X.xe s
def PSs (X:Cx) (st:List Stmt) (t:TS):Prop :=
 ∀ (pins:List (Addr×Obj)) (s:Shared) (σ:St) (H:Hp) (D:zbU),Inv X pins σ H s→t D σ H→wpAny (model X.prog X.w) X.A (execs st X.env) (SP X pins D) X.xe s
theorem thn {α:Type} {t:Sem α} {Q Q':α→Shared→Prop} {M:Model} {A:Around} {E:Value→Shared→Prop} {s:Shared} (h:wpAny M A t Q E s) (hQ:∀ a s,Q a s→Q' a s):wpAny M A t Q' E s:=wpAny_mono h hQ fun _ _ x=>x
end L2
namespace L2
open PySem PySem.Spec PyProof.Rows
section
variable {X:Cx}
def zac (i:Nat):TE:=fun σ H Q=>∃ v,σ[i]?=some (some v)∧Q v H
def tC (v:V):TE:=fun _ H Q=>Q v H
theorem zp9 {i:Nat} {x:Str} {pos:Pos} (hN:X.N[i]?=some x) (hv:Vis X.env.scope x) (hd:(x == ("__debug__":Str))=false:=by decide) (hcd:(x == ("__classdict__":Str))=false:=by decide):PE X (.Name x pos) (zac i):=by
 intro pins s σ H Q I h
 obtain ⟨v,e,h⟩:=h
 obtain ⟨m,hn,hl⟩:=I.loc
 obtain ⟨u,r,l⟩:=hl i x v hN e hv
 have fin:EP X pins σ Q u s:=⟨v,H,I,r,h⟩
 rcases l with ⟨hk,hm⟩ | ⟨hk,c,hc,hcell⟩
 ·exact wpAny_Name (wpAny_loadName_local I.ok.kind hk hn hm fin) hd
 ·rcases hk with hk | hk
  ·exact wpAny_Name (wpAny_loadName_cell I.ok.kind hk hc hcell fin) hd
  ·exact wpAny_Name (wpAny_loadName_free I.ok.kind hk hc hcell fin hcd) hd
theorem zag {i j pos}:PE X (.Constant (.int i) j pos) (tC (.int i)):=fun _ _ _ H _ I h=>wpAny_Constant_int ⟨.int i,H,I.tok _,⟨_,rfl⟩,h⟩
theorem zfu {b j pos}:PE X (.Constant (.bool b) j pos) (tC (.bl b)):=fun _ _ _ H _ I h=>Constant_bool ⟨.bl b,H,I,rfl,h⟩
def Gl (X:Cx) (x:Str):Prop:=X.env.kindOf x=some .globalImplicit
theorem zkW {E:Value→Shared→Prop} {pins:List (Addr×Obj)} {s:Shared} {σ:St} {H:Hp} {x:Str} {u:Value} {pos:Pos} {Q:Value→Shared→Prop} (I:Inv X pins σ H s) (hg:Gl X x) (hm:X.mg x=some u) (h:Q u s)
  (hd:(x == ("__debug__":Str))=false:=by decide):wpAny (model X.prog X.w) X.A (eval (.Name x pos) X.env) Q E s :=
 Calls.Name_function_global I.ok.kind hg (Calls.loadGlobal_global (by rw [I.ok.glob];exact I.mod.glob.keeps I.bk) hm h) hd
theorem ze1 {E:Value→Shared→Prop} {pins:List (Addr×Obj)} {s:Shared} {σ:St} {H:Hp} {x:Str} {u:Value} {pos:Pos} {Q:Value→Shared→Prop} (I:Inv X pins σ H s) (hg:Gl X x) (hm:X.mg x=none) (hv:bootBuiltins x=some u) (h:Q u s)
  (hn:x≠"__name__":=by decide) (hd:(x == ("__debug__":Str))=false:=by decide):wpAny (model X.prog X.w) X.A (eval (.Name x pos) X.env) Q E s:=by
 obtain ⟨mb,h1,h2⟩:=I.mod.blt
 exact Calls.Name_function_global I.ok.kind hg (Calls.loadGlobal_builtin (by rw [I.ok.glob];exact I.mod.glob.keeps I.bk) hm (by rw [I.ok.blt];exact h1.keeps I.bk) ((h2 x hn).trans hv) h) hd
theorem zge {x:Str} {v:V} {u:Value} {pos:Pos} (hg:Gl X x) (hm:X.mg x=some u) (r:zch v u) (hd:(x == ("__debug__":Str))=false:=by decide):PE X (.Name x pos) (tC v) :=
 fun _ _ _ H _ I h=>zkW I hg hm ⟨v,H,I,r,h⟩ hd
theorem zfZ {x:Str} {v:V} {u:Value} {pos:Pos} (hg:Gl X x) (hm:X.mg x=none) (hv:bootBuiltins x=some u) (r:zch v u) (hn:x≠"__name__":=by decide) (hd:(x == ("__debug__":Str))=false:=by decide):PE X (.Name x pos) (tC v) :=
 fun _ _ _ H _ I h=>ze1 I hg hm hv ⟨v,H,I,r,h⟩ hn hd
variable {a b:Expr} {ta tb:TE} {pos:Pos}
def tB (t:TE):TT:=fun σ H Q=>t σ H fun x H1=>∃ c,x=.bl c∧Q c H1
theorem zdt {e:Expr} {t:TE} (h:PE X e t) (he:∀ whole,isTrue e X.env whole=(do let v ← whole;standAt e.pos;holding [v] (truthy v)):=by intro _;rfl):PT X e (tB t):=by
 intro pins s σ H Q I hw
 refine isTrue_plain (thn (h pins s σ H _ I hw) fun v s1 hQ'=>?_) (he _)
 obtain ⟨x,H1,I1,r1,q1⟩:=hQ'
 obtain ⟨d,rfl,q⟩:=q1
 cases r1
 exact wpAny_truthy_bool ⟨H1,I1,q⟩
variable {tA tB':TT} {rest:List Expr}
def tAnd (t u:TT):TT:=fun σ H Q=>t σ H fun c H1=>if c=true then u σ H1 Q else Q false H1
def tOr (t u:TT):TT:=fun σ H Q=>t σ H fun c H1=>if c=true then Q true H1 else u σ H1 Q
def zjy (t:TT):TT:=fun σ H Q=>t σ H fun c H1=>Q (!c) H1
theorem znx (ha:PT X a tA):PW X (.BoolOp .And [a] pos) tA:=by
 intro wh pins s σ H Q I h
 refine isTrue_and (thn (ha pins s σ H Q I h) fun c s1 e=>?_)
 cases c with
 | true=>exact isTrue_and_nil e
 | false=>exact e
theorem zmV (ha:PT X a tA):PW X (.BoolOp .Or [a] pos) tA:=by
 intro wh pins s σ H Q I h
 refine isTrue_or (thn (ha pins s σ H Q I h) fun c s1 e=>?_)
 cases c with
 | false=>exact isTrue_or_nil e
 | true=>exact e
theorem zqo (ha:PT X a tA) (hb:PW X (.BoolOp .And (b::rest) pos) tB'):PW X (.BoolOp .And (a::b::rest) pos) (tAnd tA tB'):=by
 intro wh pins s σ H Q I h
 refine isTrue_and (thn (ha pins s σ H _ I h) fun c s1 hQ'=>?_)
 obtain ⟨H1,I1,q1⟩:=hQ'
 cases c with
 | true=>exact hb wh pins s1 σ H1 Q I1 q1
 | false=>exact ⟨H1,I1,q1⟩
theorem znq (ha:PT X a tA) (hb:PW X (.BoolOp .Or (b::rest) pos) tB'):PW X (.BoolOp .Or (a::b::rest) pos) (tOr tA tB'):=by
 intro wh pins s σ H Q I h
 refine isTrue_or (thn (ha pins s σ H _ I h) fun c s1 hQ'=>?_)
 obtain ⟨H1,I1,q1⟩:=hQ'
 cases c with
 | true=>exact ⟨H1,I1,q1⟩
 | false=>exact hb wh pins s1 σ H1 Q I1 q1
theorem zft (ha:PT X a tA):PT X (.UnaryOp .Not a pos) (zjy tA):=by
 intro pins s σ H Q I h
 exact isTrue_not (ha pins s σ H (fun c H1=>Q (!c) H1) I h)
def zf9 (ta tb:TE):TE:=fun σ H Q=>ta σ H fun x H1=>∃ c,x=.bl c∧if c=true then tb σ H1 Q else Q (.bl false) H1
def zno (ta:TE):TE:=fun σ H Q=>ta σ H fun x H1=>∃ c,x=.bl c∧Q (.bl (!c)) H1
theorem ziD {op} {t:TE} (h:PE X a t):PE X (.BoolOp op [a] pos) t:=fun pins s σ H Q I hw=>BoolOp_one (h pins s σ H Q I hw)
theorem zhK (ha:PE X a ta) (hb:PE X (.BoolOp .And (b::rest) pos) tb):PE X (.BoolOp .And (a::b::rest) pos) (zf9 ta tb):=by
 intro pins s σ H Q I h
 refine BoolOp_and (thn (ha pins s σ H _ I h) fun v s1 hQ'=>?_)
 obtain ⟨x,H1,I1,r1,q1⟩:=hQ'
 obtain ⟨c,rfl,q1⟩:=q1
 cases r1
 refine wpAny_truthy_bool ?_
 cases c with
 | true=>exact hb pins s1 σ H1 Q I1 q1
 | false=>exact ⟨.bl false,H1,I1,rfl,q1⟩
theorem zpE (ha:PE X a ta):PE X (.UnaryOp .Not a pos) (zno ta):=by
 intro pins s σ H Q I h
 refine UnaryOp_ (thn (ha pins s σ H _ I h) fun v s1 hQ'=>?_)
 obtain ⟨x,H1,I1,r1,q1⟩:=hQ'
 obtain ⟨c,rfl,q1⟩:=q1
 cases r1
 exact not_of (wpAny_truthy_bool ⟨.bl (!c),H1,I1,rfl,q1⟩)
def tIf (t:TT) (ta tb:TE):TE:=fun σ H Q=>t σ H fun c H1=>if c=true then ta σ H1 Q else tb σ H1 Q
theorem ziH {c:Expr} (hc:PT X c tA) (ha:PE X a ta) (hb:PE X b tb):PE X (.IfExp c a b pos) (tIf tA ta tb):=by
 intro pins s σ H Q I h
 refine wpAny_IfExp (thn (hc pins s σ H _ I h) fun d s1 hQ'=>?_)
 obtain ⟨H1,I1,q1⟩:=hQ'
 cases d with
 | true=>exact ha pins s1 σ H1 Q I1 q1
 | false=>exact hb pins s1 σ H1 Q I1 q1
end
end L2
namespace L2
open PySem PySem.Spec PyProof.Rows
def SqL (K:PySem.W.Frag) (H:Hp) (a:Addr) (xs:List V):Prop :=
 Rd H a (.lst xs) ∨
  ∃ (o:Obj) (its:Array Value) (n:Nat),K.lookup a=some o∧o.cls=.type "list"∧o.dict=none∧o.data=.seq its n∧its.size≤sizeLine∧zbs xs its.toList
def SqT (K:PySem.W.Frag) (H:Hp) (a:Addr) (xs:List V):Prop :=
 Rd H a (.tup xs) ∨
  ∃ (o:Obj) (its:Array Value) (n:Nat),K.lookup a=some o∧o.cls=.type "tuple"∧o.data=.seq its n∧its.size≤sizeLine∧zbs xs its.toList
def absV:Value→Option V
 | .none=>some .non
 | .bool b=>some (.bl b)
 | .int i _=>some (.int i)
 | .str x _=>some (.str x)
 | .bytes b _=>some (.byt b)
 | .float b _=>some (.flt b)
 | .ref a=>some (.ref a)
 | .type n=>some (.ty n)
 | _=>none
theorem zch.abs {x:V} {u:Value} (r:zch x u):absV u=some x:=by
 cases x with
 | non=>cases r;rfl
 | bl _=>cases r;rfl
 | int _=>obtain ⟨t,rfl⟩:=r;rfl
 | str _=>obtain ⟨t,rfl⟩:=r;rfl
 | byt _=>obtain ⟨t,rfl⟩:=r;rfl
 | flt _=>obtain ⟨t,rfl⟩:=r;rfl
 | ref _=>cases r;rfl
 | ty _=>cases r;rfl
theorem zch.inj {x y:V} {u:Value} (r:zch x u) (q:zch y u):x=y:=Option.some.inj (r.abs.symm.trans q.abs)
theorem zbs.inj:∀ {xs ys:List V} {us:List Value},zbs xs us→zbs ys us→xs=ys
 | _,_,_,.nil,.nil=>rfl
 | _,_,_,.cons r t,.cons r' t'=>by rw [r.inj r',zbs.inj t t']
section
variable {X:Cx} {pins:List (Addr×Obj)} {σ:St} {H:Hp} {s:Shared} {a:Addr} {xs ys:List V}
theorem SqL.of {K:PySem.W.Frag} (h:H a=some (.lst xs)):SqL K H a xs:=.inl (.inl h)
theorem SqT.of {K:PySem.W.Frag} (h:H a=some (.tup xs)):SqT K H a xs:=.inl (.inl h)
theorem Inv.list (I:Inv X pins σ H s) (h:SqL X.K H a xs):∃ its:List Value,zbs xs its∧PlainL s.heap a its.toArray∧xs.length≤sizeLine:=by
 rcases h with h | ⟨o,its,n,hk,hc,hd,hs,hz,r⟩
 ·obtain ⟨z,its,n,r,e⟩:=h.ok I.hok
  exact ⟨its,r,⟨_,n,e,rfl,rfl,rfl⟩,z⟩
 ·refine ⟨its.toList,r,⟨o,n,I.kIn a o hk,hc,hd,by simpa using hs⟩,?_⟩
  have e:=r.length
  simp only [Array.length_toList] at e
  (first|lia|omega)
theorem Inv.tuple (I:Inv X pins σ H s) (h:SqT X.K H a xs):∃ its:List Value,zbs xs its∧IsTup s.heap a its.toArray∧xs.length≤sizeLine:=by
 rcases h with h | ⟨o,its,n,hk,hc,hs,hz,r⟩
 ·obtain ⟨z,its,r,p⟩:=h.ok I.hok
  exact ⟨its,r,p,z⟩
 ·refine ⟨its.toList,r,⟨o,I.kIn a o hk,hc,n,by simpa using hs⟩,?_⟩
  have e:=r.length
  simp only [Array.length_toList] at e
  (first|lia|omega)
theorem Inv.list_inj (I:Inv X pins σ H s) (h:SqL X.K H a xs) (h':SqL X.K H a ys):xs=ys:=by
 obtain ⟨its,r,⟨o,n,e,_,_,d⟩,_⟩:=I.list h
 obtain ⟨its',r',⟨o',n',e',_,_,d'⟩,_⟩:=I.list h'
 rw [e] at e';cases e'
 rw [d] at d'
 injection d' with d1 _
 have:its=its':=by simpa using congrArg Array.toList d1
 subst this
 exact r.inj r'
end
abbrev Cx.wish (X:Cx) (E:Value→Shared→Prop):Cx:={ X with xe:=E }
abbrev Cx.nox (X:Cx):Cx:=X.wish fun _ _=>False
theorem Cx.Ok.wish {X:Cx} (ok:X.Ok) (E:Value→Shared→Prop):(X.wish E).Ok :=
 ⟨ok.mod,ok.kind,ok.glob,ok.blt,ok.above,ok.inj,ok.has,ok.cab,ok.hd,ok.frames,ok.stk,ok.exf,ok.bs,ok.bsz,ok.noex,ok.exfs,ok.funs,ok.frf⟩
theorem Cx.Ok.unwish {X:Cx} {E:Value→Shared→Prop} (ok:(X.wish E).Ok):X.Ok :=
 ⟨ok.mod,ok.kind,ok.glob,ok.blt,ok.above,ok.inj,ok.has,ok.cab,ok.hd,ok.frames,ok.stk,ok.exf,ok.bs,ok.bsz,ok.noex,ok.exfs,ok.funs,ok.frf⟩
section
variable {X:Cx} {pins:List (Addr×Obj)} {σ:St} {H:Hp} {s:Shared} {E:Value→Shared→Prop}
theorem Inv.wish (I:Inv X pins σ H s) (E:Value→Shared→Prop):Inv (X.wish E) pins σ H s:=⟨I.ok.wish E,I.os,I.bare,I.base,I.loc,I.cell,I.free,I.freeC,I.pin,I.hok,I.len⟩
theorem Inv.unwish (I:Inv (X.wish E) pins σ H s):Inv X pins σ H s:=⟨I.ok.unwish,I.os,I.bare,I.base,I.loc,I.cell,I.free,I.freeC,I.pin,I.hok,I.len⟩
theorem SP.unwish {D:zbU} {f:Flow} {s':Shared} (h:SP (X.wish E) pins D f s'):SP X pins D f s':=by
 cases f with
 | next=>obtain ⟨σ',H',I,q⟩:=h;exact ⟨σ',H',I.unwish,q⟩
 | brk=>obtain ⟨σ',H',I,q⟩:=h;exact ⟨σ',H',I.unwish,q⟩
 | cont=>obtain ⟨σ',H',I,q⟩:=h;exact ⟨σ',H',I.unwish,q⟩
 | ret u=>obtain ⟨v,σ',H',I,r,q⟩:=h;exact ⟨v,σ',H',I.unwish,r,q⟩
theorem PSs.nox {st:List Stmt} {t:TS} (h:PSs X.nox st t):PSs X st t:=fun pins s σ H D I hw =>
 wpAny_mono (h pins s σ H D (I.wish _) hw) (fun _ _ q=>q.unwish) fun _ _ z=>False.elim z
end
section
variable {X:Cx} {st:Stmt} {rest:List Stmt} {t u:TS} {e:Expr} {te:TE} {pos:Pos}
def zbr:TS:=fun D σ H=>D.nx σ H
def zaV (t u:TS):TS:=fun D σ H=>t { D with nx:=u D } σ H
theorem zbi:PSs X [] zbr:=fun _ _ σ H _ I h=>wpAny_execs_nil ⟨σ,H,I,h⟩
theorem zae (h1:PS X st t) (h2:PSs X rest u):PSs X (st::rest) (zaV t u):=by
 intro pins s σ H D I h
 refine wpAny_execs_cons (thn (h1 pins s σ H { D with nx:=u D } I h) fun f s1 q=>?_)
 cases f with
 | next =>
  obtain ⟨σ',H',I',q⟩:=q
  exact h2 pins s1 σ' H' D I' q
 | ret v=>exact q
 | brk=>exact q
 | cont=>exact q
theorem zan (h1:PS X st t):PSs X [st] t:=by
 intro pins s σ H D I h
 refine wpAny_execs_cons (thn (h1 pins s σ H D I h) fun f s1 q=>?_)
 cases f with
 | next=>exact wpAny_execs_nil q
 | ret v=>exact q
 | brk=>exact q
 | cont=>exact q
theorem Inv.quiet {pins:List (Addr×Obj)} {σ:St} {H:Hp} {s:Shared} (I:Inv X pins σ H s):interactive X.env=false:=by simp [interactive,I.ok.kind]
def zeI (te:TE):TS:=fun D σ H=>te σ H fun _ H1=>D.nx σ H1
theorem zeq (he:PE X e te) (hs:swapsWith e none pos.line X.env=pure false:=by rfl):PS X (.Expr e pos) (zeI te):=by
 intro pins s σ H D I h
 exact wpAny_Expr_any (thn (he pins s σ H _ I h) fun v s1 ⟨x,H1,I1,r1,q1⟩=>⟨σ,H1,I1,q1⟩) I.quiet hs
def zbq (te:TE):TS:=fun D σ H=>te σ H D.rt
theorem zaL (he:PE X e te):PS X (.Return (some e) pos) (zbq te):=by
 intro pins s σ H D I h
 exact wpAny_Return_some (thn (he pins s σ H _ I h) fun v s1 ⟨x,H1,I1,r1,q1⟩=>⟨x,σ,H1,I1,r1,q1⟩)
def zcY (c:TT) (t u:TS):TS:=fun D σ H=>c σ H fun b H1=>if b=true then t D σ H1 else u D σ H1
theorem zcB {c:Expr} {a b:List Stmt} {tc:TT} (hc:PT X c tc) (ha:PSs X a t) (hb:PSs X b u):PS X (.If c a b pos) (zcY tc t u):=by
 intro pins s σ H D I h
 refine wpAny_If (thn (hc pins s σ H _ I h) fun d s1 hQ'=>?_)
 obtain ⟨H1,I1,q1⟩:=hQ'
 cases d with
 | true=>exact ha pins s1 σ H1 D I1 q1
 | false=>exact hb pins s1 σ H1 D I1 q1
def ziK:TS:=fun _ _ _=>False
theorem zf4:PS X st ziK:=fun _ _ _ _ _ _ h=>h.elim
end
abbrev TG:=V→St→Hp→(St→Hp→Prop)→Prop
abbrev TGs:=List V→St→Hp→(St→Hp→Prop)→Prop
def PG (X:Cx) (target:Expr) (t:TG):Prop :=
 ∀ (pins:List (Addr×Obj)) (s:Shared) (σ:St) (H:Hp) (v:V) (u:Value) (Q:St→Hp→Prop),Inv X pins σ H s→zch v u→t v σ H Q →
  wpAny (model X.prog X.w) X.A (assign target X.env u) (fun _ s'=>∃ σ' H',Inv X pins σ' H' s'∧Q σ' H') X.xe s
def PGs (X:Cx) (ts:List Expr) (t:TGs):Prop :=
 ∀ (pins:List (Addr×Obj)) (s:Shared) (σ:St) (H:Hp) (vs:List V) (us:List Value) (Q:St→Hp→Prop),Inv X pins σ H s→zbs vs us→t vs σ H Q →
  wpAny (model X.prog X.w) X.A (assignInOrder ((assignEach ts X.env).map (·.2)) us) (fun _ s'=>∃ σ' H',Inv X pins σ' H' s'∧Q σ' H') X.xe s
abbrev TSet:=V→V→V→Hp→(Hp→Prop)→Prop
def PSet (X:Cx) (t:TSet):Prop :=
 ∀ (pins:List (Addr×Obj)) (s:Shared) (σ:St) (H:Hp) (o i v:V) (ov iv u:Value) (Q:Hp→Prop),Inv X pins σ H s→zch o ov→zch i iv→zch v u→t o i v H Q →
  wpAny (model X.prog X.w) X.A (setItem ov iv u) (fun _ s'=>∃ H',Inv X pins σ H' s'∧Q H') X.xe s
section
variable {X:Cx} {pos:Pos}
def zaf (i:Nat):TG:=fun v σ H Q=>Q (σ.set i (some v)) H
theorem zam {i:Nat} {x:Str} (hN:X.N.Nodup) (hi:X.N[i]?=some x) (hx:Loc X.env.scope x) (hf:X.fn x=true∨X.env.scope.names.lookup x=some .local:=by first | exact .inl rfl | exact .inr rfl | assumption):PG X (.Name x pos) (zaf i):=by
 intro pins s σ H v u Q I r h
 exact wpAny_assign_Name (zeN I hN hi hx r (fun s' I'=>⟨_,H,I',h⟩) hf)
def zck:TGs:=fun vs σ H Q=>vs=[]∧Q σ H
def zaD (t:TG) (u:TGs):TGs:=fun vs σ H Q=>∃ v r,vs=v::r∧t v σ H fun σ' H'=>u r σ' H' Q
theorem za9:PGs X [] zck:=by
 intro pins s σ H vs us Q I r h
 obtain ⟨e,h⟩:=h
 subst e
 cases r
 exact assignInOrder_nil ⟨σ,H,I,h⟩
theorem zao {e:Expr} {es:List Expr} {t:TG} {u:TGs} (h1:PG X e t) (h2:PGs X es u)
  (hs:(assignEach (e::es) X.env).map (·.2)=assign e X.env::(assignEach es X.env).map (·.2):=by rfl):PGs X (e::es) (zaD t u):=by
 intro pins s σ H vs us Q I r h
 obtain ⟨v,vr,e1,h⟩:=h
 subst e1
 cases r with
 | cons r rr =>
  rw [hs]
  refine assignInOrder_cons (thn (h1 pins s σ H _ _ _ I r h) fun _ s1 hQ'=>?_)
  obtain ⟨σ1,H1,I1,q1⟩:=hQ'
  exact h2 pins s1 σ1 H1 _ _ Q I1 rr q1
def zcj (K:PySem.W.Frag) (n:Nat) (t:TGs):TG:=fun v σ H Q=>∃ a xs,v=.ref a∧SqT K H a xs∧xs.length=n∧t xs σ H Q
theorem zbk {es:List Expr} {k:Nat} {t:TGs} {n:Nat} (hc:X.calm=true) (h:PGs X es t)
  (hn:(assignEach es X.env).length=n:=by rfl) (hst:(assignEach es X.env).findIdx? (·.1)=none:=by rfl):PG X (.Tuple es k pos) (zcj X.K n t):=by
 intro pins s σ H v u Q I r hw
 obtain ⟨a,xs,e1,hq,hl,hw⟩:=hw
 subst e1
 cases r
 obtain ⟨its,rv,ht,hz⟩:=I.tuple hq
 refine assign_Tuple_tuple (I.ok.hd hc) ht (by simp [hn,← hl,rv.length]) hst fun h' hx=>?_
 have I1:Inv X pins σ H { s with heap:=h' }:=I.kept (t':=s.toks) fun b o e=>hx b o (Nat.ne_of_lt (Heap.lt_size e)) e
 exact h pins _ σ H xs _ Q I1 (by simpa using rv) hw
def zo0 (to ti:TE) (t:TSet):TG:=fun v σ H Q=>to σ H fun o H1=>ti σ H1 fun i H2=>t o i v H2 fun H3=>Q σ H3
theorem zmX {o i:Expr} {to ti:TE} {t:TSet} (ho:PE X o to) (hi:PE X i ti) (hs:PSet X t)
  (ha:∀ v,assign (.Subscript o i pos) X.env v=(do
   let ov ← holding [v] (eval o X.env)
   let iv ← holding [v,ov] (eval i X.env)
   standAt pos
   holding [v,ov,iv] (setItem ov iv v)
   release [v,ov,iv] []):=by intro _;rfl):PG X (.Subscript o i pos) (zo0 to ti t):=by
 intro pins s σ H v u Q I r h
 rw [ha]
 refine wpAny_bind (wpAny_holding (thn (ho pins s σ H _ I h) fun ov s1 hQ'=>?_))
 obtain ⟨x,H1,I1,r1,q1⟩:=hQ'
 refine wpAny_bind (wpAny_holding (thn (hi pins s1 σ H1 _ I1 q1) fun iv s2 hQ'=>?_))
 obtain ⟨y,H2,I2,r2,q2⟩:=hQ'
 refine wpAny_bind (wpAny_standAt (wpAny_bind (wpAny_holding (thn (hs pins s2 σ H2 x y v ov iv u _ I2 r1 r2 r q2) fun _ s3 hQ'=>?_))))
 obtain ⟨H3,I3,q3⟩:=hQ'
 exact wpAny_release ⟨σ,H3,I3,q3⟩
def za1 (te:TE) (g:TG):TS:=fun D σ H=>te σ H fun x H1=>g x σ H1 D.nx
theorem zdd {tg e:Expr} {te:TE} {g:TG} (he:PE X e te) (hg:PG X tg g) (hs:swapsWithSole [tg] e pos.line X.env=pure false:=by rfl) (hw:swappedStores [tg] e X.env=pure none:=by rfl)
  (h1:(assignEach [tg] X.env).map (·.2)=[assign tg X.env]:=by rfl):PS X (.Assign [tg] e pos) (za1 te g):=by
 intro pins s σ H D I h
 refine wpAny_Assign_stores (thn (he pins s σ H _ I h) fun v s1 hQ'=>?_) hs hw
 obtain ⟨x,H1,I1,r1,q1⟩:=hQ'
 rw [h1]
 exact thn (hg pins s1 σ H1 x v _ I1 r1 q1) fun _ s2 q=>q
theorem zaK {i:Nat} {x:Str} {e:Expr} {te:TE} {pos':Pos} (hN:X.N.Nodup) (hi:X.N[i]?=some x) (hx:Loc X.env.scope x) (he:PE X e te) (hs:swapsWith e (some (.Name x pos')) pos.line X.env=pure false:=by rfl) (hf:X.fn x=true∨X.env.scope.names.lookup x=some .local:=by first | exact .inl rfl | exact .inr rfl | assumption) :
  PS X (.Assign [.Name x pos'] e pos) (za1 te (zaf i)):=by
 intro pins s σ H D I h
 refine wpAny_Assign_Name (thn (he pins s σ H _ I h) fun v s1 hQ'=>?_) hs
 obtain ⟨y,H1,I1,r1,q1⟩:=hQ'
 exact zeN I1 hN hi hx r1 (fun s2 I2=>⟨_,H1,I2,q1⟩) hf
def tPar (i j:Nat) (ta:TA):TS:=fun D σ H=>ta σ H fun vs H1=>∃ v w,vs=[v,w]∧D.nx ((σ.set i (some v)).set j (some w)) H1
theorem zpk {i j:Nat} {x y:Str} {a b:Expr} {ta:TA} {px py pt:Pos} {kt k2 pt2} (hc:X.calm=true) (hN:X.N.Nodup) (hi:X.N[i]?=some x) (hj:X.N[j]?=some y) (hij:i≠j)
  (hx:X.env.scope.names.lookup x=some .local) (hy:X.env.scope.names.lookup y=some .local) (ha:PA X [a,b] ta)
  (hw:swappedStores [.Tuple [.Name x px,.Name y py] kt pt] (.Tuple [a,b] k2 pt2) X.env=pure (some [x,y]))
  (hs:swapsWithSole [.Tuple [.Name x px,.Name y py] kt pt] (.Tuple [a,b] k2 pt2) pos.line X.env=pure false:=by rfl) :
  PS X (.Assign [.Tuple [.Name x px,.Name y py] kt pt] (.Tuple [a,b] k2 pt2) pos) (tPar i j ta):=by
 intro pins s σ H D I h
 rw [exec_Assign_arm]
 refine wpAny_bind (wpAny_standAt ?_)
 rw [hs]
 refine wpAny_bind (wpAny_pure ?_)
 rw [if_neg (by decide)]
 refine wpAny_bind (Tuple_ (thn (ha _ pins s σ H _ I h) fun us s1 hQ'=>?_))
 obtain ⟨vs,H1,I1,r1,q1⟩:=hQ'
 obtain ⟨v,w,e1,q1⟩:=q1
 subst e1
 obtain ⟨u1,u2,rfl,rv,rw'⟩:∃ u1 u2,us=[u1,u2]∧zch v u1∧zch w u2:=by
  cases r1 with
  | cons p q =>
   cases q with
   | cons p' q' =>
    cases q'
    exact ⟨_,_,rfl,p,p'⟩
 refine wpAny_newObj_type ?_ (by show 2≤sizeLine;decide)
 have I2:Inv X pins σ H1 { s1 with heap:=s1.heap.push { cls:=.type "tuple",data:=.seq [u1,u2].toArray } }:=I1.kept (t':=s1.toks) fun b o e=>Heap.get?_push_of_some _ e
 rw [hw]
 refine wpAny_bind (wpAny_pure ?_)
 show wpAny (model X.prog X.w) X.A (do rule "assign.swapped-stores";let items ← unpackItems (.ref s1.heap.objs.size) 2 none;assignInOrder [fun v=>bindName X.env y v,fun v=>bindName X.env x v] items.reverse;pure Flow.next) _ _ _
 refine wpAny_bind (wpAny_rule (wpAny_bind (unpackItems_tuple (items:=#[u1,u2]) (I.ok.hd hc) (IsTup.new s1.heap _) fun h' hx'=>?_)))
 have I3:=I2.kept (h':=h') (t':=s1.toks) fun b o e=>hx' b o (Nat.ne_of_lt (Heap.lt_size e)) e
 show wpAny _ _ (assignInOrder [fun v=>bindName X.env y v,fun v=>bindName X.env x v] [u2,u1] >>= fun _=>pure Flow.next) _ _ _
 refine wpAny_bind (assignInOrder_cons (wpAny_bindName (zeN I3 hN hj (.inl hy) rw' (fun s2 I4=>?_) (.inr hy))))
 refine assignInOrder_cons (wpAny_bindName (zeN I4 hN hi (.inl hx) rv (fun s3 I5=>assignInOrder_nil (wpAny_pure ?_)) (.inr hx)))
 rw [List.set_comm _ _ (Ne.symm hij)] at I5
 exact ⟨_,H1,I5,q1⟩
end
section
variable {X:Cx} {pos:Pos}
def zha (c:TT) (tb:TS):TS:=fun D σ H=>∃ W:Nat→St→Hp→Prop,(∃ m,W m σ H)∧∀ m σ H,W m σ H →
 c σ H fun b H1=>if b=true then ∃ N:St→Hp→Prop,(∀ σ' H',N σ' H'→∃ m',m'<m∧W m' σ' H')∧tb { D with nx:=N,ct:=N,bk:=D.nx } σ H1 else D.nx σ H1
theorem zf8 {c:Expr} {body:List Stmt} {tc:TT} {tb:TS} (hp:PassesOwn (model X.prog X.w) X.A X.env X.xe) (hc:PT X c tc) (hb:PSs X body tb):PS X (.While c body [] pos) (zha tc tb):=by
 intro pins s σ H D I h
 obtain ⟨W,⟨m0,w0⟩,zla⟩:=h
 refine wpAny_While (codeAny_whileLoop (fun n s'=>∃ σ' H',Inv X pins σ' H' s'∧W n σ' H') ?_ m0 ⟨σ,H,I,w0⟩)
 rintro n s1 ⟨σ1,H1,I1,w1⟩
 refine wpAny_passesOwn hp (thn (hc pins s1 σ1 H1 _ I1 (zla n σ1 H1 w1)) fun b s2 hQ'=>?_)
 obtain ⟨H2,I2,q2⟩:=hQ'
 cases b with
 | true =>
  obtain ⟨N,hN,q2⟩:=q2
  rw [if_pos rfl]
  refine wpAny_passesOwn hp (thn (hb pins s2 σ1 H2 _ I2 q2) fun f s3 q3=>?_)
  cases f with
  | next =>
   obtain ⟨σ3,H3,I3,n3⟩:=q3
   obtain ⟨m',hm,w3⟩:=hN σ3 H3 n3
   exact ⟨m',hm,σ3,H3,I3,w3⟩
  | cont =>
   obtain ⟨σ3,H3,I3,n3⟩:=q3
   obtain ⟨m',hm,w3⟩:=hN σ3 H3 n3
   exact ⟨m',hm,σ3,H3,I3,w3⟩
  | brk=>exact q3
  | ret v=>exact q3
 | false =>
  rw [if_neg Bool.false_ne_true]
  exact wpAny_execs_nil ⟨σ1,H2,I2,q2⟩
end
structure It where
 go:Nat→Hp→Prop
 yld:Nat→Hp→V→Hp→Prop
 stop:Nat→Hp→Prop
def zjw (X:Cx) (pins:List (Addr×Obj)) (H:Hp) (b:Addr):Prop :=
 H b=none∧b≠X.env.locals∧b∉X.fs∧(b∈X.ex∨X.s₀.heap.objs.size≤b)∧(∀ x c,X.env.cells.lookup x=some c→c≠b)∧∀ p∈X.pn++pins,p.1≠b
theorem Inv.fpOk {X:Cx} {pins:List (Addr×Obj)} {σ:St} {H H':Hp} {s:Shared} {b:Addr} (I:Inv X pins σ H s) (hb:s.heap.objs.size≤b) (hn:H' b=none):zjw X pins H' b:=by
 refine ⟨hn,Nat.ne_of_gt (Nat.lt_of_lt_of_le I.lt hb),I.nofs hb,.inr (Nat.le_trans I.sz hb),fun x c e z=>?_,fun p hp z=>?_⟩
 ·obtain ⟨v,q⟩:=I.cell x c e
  exact absurd (Nat.lt_of_lt_of_le q.lt (by rw [z];exact hb)) (Nat.lt_irrefl _)
 ·exact absurd (Nat.lt_of_lt_of_le (Heap.lt_size (I.pin p hp).1) (by rw [z];exact hb)) (Nat.lt_irrefl _)
structure Turn (P:Program) (w:World) (K:PySem.W.Frag) (tg:Expr) (J:It) (fp:List Addr) (it:Addr) (tn:Nat→Heap→Prop):Prop where
 mem:it∈fp
 obj:∀ i h,tn i h→∀ b∈fp,∃ o,h.get? b=some o∧∀ v,o.data≠.cell v
 keep:∀ i h h',tn i h→(∀ b∈fp,∀ o,h.get? b=some o→h'.get? b=some o)→tn i h'
 item:∀ (X:Cx),X.prog=P→X.w=w→X.K=K→X.calm=true→∀ (i:Nat) (pins:List (Addr×Obj)) (s:Shared) (σ:St) (H:Hp) (E:Value→Shared→Prop),Inv X pins σ H s→(∀ b∈fp,zjw X pins H b)→tn i s.heap→J.go i H →
  wpAny (model P w) X.A (pyNext (.ref it)) (fun r s1=>∃ u,r=some u ∧
   wpAny (model P w) X.A (letOwnedTupleGo tg (.ref it) u) (fun _ s2=>∃ x H',Inv X pins σ H' s2∧zch x u∧J.yld i H x H'∧tn (i+1) s2.heap∧∀ b∈fp,H' b=none) E s1) E s
 done:∀ (X:Cx),X.prog=P→X.w=w→X.K=K→X.calm=true→∀ (i:Nat) (pins:List (Addr×Obj)) (s:Shared) (σ:St) (H:Hp) (E:Value→Shared→Prop),Inv X pins σ H s→(∀ b∈fp,zjw X pins H b)→tn i s.heap→J.stop i H →
  wpAny (model P w) X.A (pyNext (.ref it)) (fun r s1=>r=none∧Inv X pins σ H s1) E s
 self:∀ (A:Around) (i:Nat) (s:Shared) (Q:Value→Shared→Prop) (E:Value→Shared→Prop),tn i s.heap→Q (.ref it) s→wpAny (model P w) A (pyIter (.ref it)) Q E s
abbrev TI:=St→Hp→(It→Hp→Prop)→Prop
def PIE (X:Cx) (pins:List (Addr×Obj)) (σ:St) (tg:Expr) (R:It→Hp→Prop) (itv:Value) (s2:Shared):Prop :=
 ∃ (it:Addr) (fp:List Addr) (tn:Nat→Heap→Prop) (J:It) (H':Hp),itv=.ref it∧Inv X pins σ H' s2∧Turn X.prog X.w X.K tg J fp it tn∧tn 0 s2.heap∧(∀ b∈fp,zjw X pins H' b)∧R J H'
def PI (X:Cx) (tg iter:Expr) (wi:TI):Prop :=
 ∀ (pins:List (Addr×Obj)) (s:Shared) (σ:St) (H:Hp) (R:It→Hp→Prop),Inv X pins σ H s→wi σ H R →
  wpAny (model X.prog X.w) X.A (eval iter X.env) (fun v s1=>wpAny (model X.prog X.w) X.A (pyIter v) (PIE X pins σ tg R) X.xe s1) X.xe s
theorem zq0 {M:Model} {A:Around} {E:Value→Shared→Prop} {s:Shared} {tg:Expr} {it:Addr} {u:Value} {o:Obj} {n:String} {vs:Array Value} {Q:Unit→Shared→Prop} (ho:s.heap.get? it=some o) (hc:o.cls=.type n) (hd:o.data=.fields vs)
  (hn:["enumerate","zip","dict_itemiterator","dict_reverseitemiterator","odict_iterator","itertools.zip_longest","itertools.pairwise"].contains n=false) (hQ:Q () s):wpAny M A (letOwnedTupleGo tg (.ref it) u) Q E s:=by
 unfold letOwnedTupleGo
 cases tg <;> first
  | exact wpAny_pure hQ
  | (cases u <;> first
    | exact wpAny_pure hQ
    | (refine wpAny_bind (wpAny_load ho ?_)
       rw [hc,hd]
       show wpAny M A (if (["enumerate","zip","dict_itemiterator","dict_reverseitemiterator","odict_iterator","itertools.zip_longest","itertools.pairwise"].contains n&&vs[0]? == some (rawInt _))=true then _ else _) Q E s
       rw [if_neg (by intro h;rw [hn,Bool.false_and] at h;cases h)]
       exact wpAny_pure hQ))
def Itl (K:PySem.W.Frag) (a:Addr):It :=
 ⟨fun i H=>∃ xs x,SqL K H a xs∧xs[i]?=some x,fun i H x H'=>H'=H∧∀ xs,SqL K H a xs→xs[i]?=some x,fun i H=>∃ xs,SqL K H a xs∧xs.length≤i⟩
def Itr (lo:Int) (n:Nat):It:=⟨fun i _=>i<n,fun i H x H'=>H'=H∧x=.int (lo+i),fun i _=>n≤i⟩
theorem zjG {P:Program} {w:World} {K:PySem.W.Frag} {tg:Expr} (a it:Addr):Turn P w K tg (Itl K a) [it] it (fun i h=>h.IsListIter it a i) where
 mem:=by simp
 obj:=fun i h st b hb=>by
  have e:b=it:=by simpa using hb
  subst e
  obtain ⟨o,e,c,d⟩:=st
  exact ⟨o,e,fun v z=>by rw [d] at z;cases z⟩
 keep:=fun i h h' st k=>st.at fun o e=>k it (by simp) o e
 item:=by
  intro X hP hw hK hc i pins s σ H E I hf st hg
  subst hP hw hK
  obtain ⟨xs,x,hq,hx⟩:=hg
  obtain ⟨its,rv,p,hz⟩:=I.list hq
  obtain ⟨u,hu,ru⟩:=rv.get hx
  obtain ⟨f0,f1,f2,f3,f4,f5⟩:=hf it (by simp)
  refine wpAny_pyNext_list_item st p.isList (x:=u) (by simpa using hu) fun h' st' sb=>?_
  have I1:Inv X pins σ H { s with heap:=h' }:=I.turned (t':=s.toks) (fun b o hb e=>(sb.2 b hb).trans e) f0 f1 f3 f4 f5
  obtain ⟨o,e,c,d⟩:=id st'
  exact ⟨u,rfl,zq0 (s:={ s with heap:=h' }) e c d (by decide) ⟨x,H,I1,ru,⟨rfl,fun ys hy=>by rw [I.list_inj hy hq];exact hx⟩,st',fun b hb=>(hf b hb).1⟩⟩
 done:=by
  intro X hP hw hK hc i pins s σ H E I hf st hg
  subst hP hw hK
  obtain ⟨xs,hq,hx⟩:=hg
  obtain ⟨its,rv,p,hz⟩:=I.list hq
  obtain ⟨f0,f1,f2,f3,f4,f5⟩:=hf it (by simp)
  have hl:=rv.length
  exact wpAny_pyNext_list_end (I.ok.hd hc) st p.isList (by simp;(first|lia|omega)) fun h' eb=>⟨rfl,I.turned (t':=s.toks) (fun b o hb e=>eb b o hb e) f0 f1 f3 f4 f5⟩
 self:=fun _ _ _ _ _ st h=>wpAny_pyIter_listiter st h
theorem zjh {P:Program} {w:World} {K:PySem.W.Frag} {tg:Expr} (it:Addr) (lo:Int) (n:Nat):Turn P w K tg (Itr lo n) [it] it (fun i h=>IsRangeIter h it (lo+(i:Nat)*1) ((n:Int) - (i:Nat)) 1) where
 mem:=by simp
 obj:=fun i h st b hb=>by
  have e:b=it:=by simpa using hb
  subst e
  exact ⟨_,st,fun v z=>by
   have z':Data.fields _=Data.cell v:=z
   cases z'⟩
 keep:=fun i h h' st k=>k it (by simp) _ st
 item:=by
  intro X hP hw hK hc i pins s σ H E I hf st hg
  subst hP hw hK
  obtain ⟨f0,f1,f2,f3,f4,f5⟩:=hf it (by simp)
  have W:=Walks.range (prog:=X.prog) (w:=X.w) (I.ok.hd hc) it lo 1 n
  refine W.item i s _ _ hg st fun v h' tk hv st' kk=>?_
  obtain ⟨t,rfl⟩:=hv
  have I1:Inv X pins σ H { s with heap:=h',toks:=tk }:=I.turned (fun b o hb e=>kk b o (by simpa using hb) e) f0 f1 f3 f4 f5
  refine ⟨_,rfl,zq0 (s:={ s with heap:=h',toks:=tk }) (n:="range_iterator") st' rfl rfl (by decide) ⟨.int (lo+i),H,I1,⟨t,?_⟩,⟨rfl,rfl⟩,st',fun b hb=>(hf b hb).1⟩⟩
  rw [Int.mul_one]
 done:=by
  intro X hP hw hK hc i pins s σ H E I hf st hg
  subst hP hw hK
  obtain ⟨f0,f1,f2,f3,f4,f5⟩:=hf it (by simp)
  exact wpAny_pyNext_range_end (I.ok.hd hc) st (by have:n≤i:=hg;(first|lia|omega)) fun h' eb=>⟨rfl,I.turned (t':=s.toks) (fun b o hb e=>eb b o hb e) f0 f1 f3 f4 f5⟩
 self:=fun _ _ _ _ _ st h=>wpAny_pyIter_rangeiter st h
end L2
namespace L2
open PySem PySem.Spec PyProof.Rows
section
variable {X:Cx} {tg:Expr}
def zbM (K:PySem.W.Frag) (tl:TE):TI:=fun σ H R=>tl σ H fun x H1=>∃ a,x=.ref a∧(∃ xs,SqL K H1 a xs)∧R (Itl K a) H1
theorem zbj {l:Expr} {tl:TE} (hl:PE X l tl):PI X tg l (zbM X.K tl):=by
 intro pins s σ H R I h
 refine thn (hl pins s σ H _ I h) fun v s1 hQ'=>?_
 obtain ⟨x,H1,I1,r1,q1⟩:=hQ'
 obtain ⟨a,e,⟨xs,hq⟩,q⟩:=q1
 subst e
 cases r1
 obtain ⟨its,rv,p,hz⟩:=I1.list hq
 refine wpAny_pyIter_list p.isList ?_
 refine ⟨s1.heap.objs.size,[s1.heap.objs.size],_,_,H1,rfl,I1.kept (t':=s1.toks) fun b o e=>Heap.get?_push_of_some _ e,zjG a _,⟨_,Heap.get?_push_size _ rfl,rfl,rfl⟩,fun b hb=>?_,q⟩
 have e:b=s1.heap.objs.size:=by simpa using hb
 subst e
 exact I1.fpOk (Nat.le_refl _) (I1.hok.fresh (Nat.le_refl _))
theorem zlr {pins:List (Addr×Obj)} {σ:St} {H:Hp} {s:Shared} {R:It→Hp→Prop} {E:Value→Shared→Prop} {lo hi:Int} {t u v:Tok} {tk:Nat} (I:Inv X pins σ H s) (h1:-(2 ^ 62)≤lo) (h2:lo<2 ^ 62) (h3:-(2 ^ 62)≤hi) (h4:hi<2 ^ 62)
  (q:R (Itr lo (hi - lo).toNat) H):wpAny (model X.prog X.w) X.A (pyIter (.ref s.heap.objs.size)) (PIE X pins σ tg R) E { s with heap:=s.heap.push { cls:=.type "range",data:=.fields #[.int lo t,.int hi u,.int 1 v] },toks:=tk }:=by
 refine wpAny_pyIter_range (IsRange.new ..) (small_one h1 h2 h3 h4) ?_
 have I1:Inv X pins σ H { s with heap:=s.heap.push { cls:=.type "range",data:=.fields #[.int lo t,.int hi u,.int 1 v] },toks:=tk }:=I.kept fun b o e=>Heap.get?_push_of_some _ e
 refine ⟨(s.heap.push { cls:=.type "range",data:=.fields #[.int lo t,.int hi u,.int 1 v] }).objs.size,[(s.heap.push { cls:=.type "range",data:=.fields #[.int lo t,.int hi u,.int 1 v] }).objs.size],_,_,H,rfl,
  I1.kept (t':=tk) fun b o e=>Heap.get?_push_of_some _ e,zjh _ lo (hi - lo).toNat,?_,fun b hb=>?_,q⟩
 ·have e1:lo+((0:Nat):Int)*1=lo:=by simp
  have e2:(((hi - lo).toNat:Nat):Int) - ((0:Nat):Int)=Builtin.Range.rangeSize lo hi 1:=by rw [rangeSize_one];split <;> (first|lia|omega)
  show IsRangeIter _ _ (lo+((0:Nat):Int)*1) ((((hi - lo).toNat:Nat):Int) - ((0:Nat):Int)) 1
  rw [e1,e2]
  exact Heap.get?_push_size _ rfl
 ·have e:b=(s.heap.push { cls:=.type "range",data:=.fields #[.int lo t,.int hi u,.int 1 v] }).objs.size:=by simpa using hb
  subst e
  exact I1.fpOk (Nat.le_refl _) (I1.hok.fresh (Nat.le_refl _))
def zfz (ta:TA):TI:=fun σ H R=>ta σ H fun vs H1=>∃ j:Int,vs=[.int j]∧-(2 ^ 62)≤j∧j<2 ^ 62∧R (Itr 0 j.toNat) H1
theorem zcD {a:Expr} {ta:TA} {p pos:Pos} (hg:Gl X "range") (hm:X.mg "range"=none) (ha:PA X [a] ta) (hs:starEach [a] X.env=[(false,eval a X.env)]:=by rfl):PI X tg (.Call (.Name "range" p) [a] [] pos) (zfz ta):=by
 intro pins s σ H R I h
 refine Call_ (ze1 I hg hm boot_range (PyProof.Rows.callWith_type1 (thn (ha pos pins s σ H _ I h) fun us s1 hQ'=>?_) hs rfl))
 obtain ⟨vs,H1,I1,r1,q1⟩:=hQ'
 obtain ⟨j,e,q1,q2,q⟩:=q1
 subst e
 cases r1 with
 | cons r rr =>
  cases rr
  obtain ⟨t,rfl⟩:=r
  exact call_range_1 (zlr I1 (by (first|lia|omega)) (by (first|lia|omega)) q1 q2 (by simpa using q))
def zid (wi:TI) (g:TG) (tb:TS):TS:=fun D σ H=>wi σ H fun J H1=>∃ W:Nat→Nat→St→Hp→Prop,(∃ m,W 0 m σ H1)∧∀ i m σ H,W i m σ H →
 (J.stop i H∧D.nx σ H)∨(J.go i H∧∃ N:St→Hp→Prop,(∀ σ' H',N σ' H'→∃ m',m'<m∧W (i+1) m' σ' H')∧∀ x H',J.yld i H x H'→g x σ H' fun σ2 H2=>tb { D with nx:=N,ct:=N,bk:=D.nx } σ2 H2)
def zhk (fp:List Addr) (h:Heap):List (Addr×Obj):=fp.filterMap fun b=>(h.get? b).map fun o=>(b,o)
theorem zdk {fp:List Addr} {h:Heap} {b:Addr} {o:Obj} (hb:b∈fp) (e:h.get? b=some o):(b,o)∈zhk fp h:=List.mem_filterMap.mpr ⟨b,hb,by rw [e];rfl⟩
theorem zjB {fp:List Addr} {h:Heap} {p:Addr×Obj} (hp:p∈zhk fp h):p.1∈fp∧h.get? p.1=some p.2:=by
 obtain ⟨b,hb,e⟩:=List.mem_filterMap.mp hp
 cases q:h.get? b with
 | none=>rw [q] at e;cases e
 | some o =>
  rw [q] at e
  have e':(b,o)=p:=Option.some.inj e
  subst e'
  exact ⟨hb,q⟩
theorem Inv.pinned {pins:List (Addr×Obj)} {σ:St} {H:Hp} {s:Shared} {fp:List Addr} (I:Inv X pins σ H s) (hf:∀ b∈fp,zjw X pins H b) (ho:∀ b∈fp,∃ o,s.heap.get? b=some o∧∀ v,o.data≠.cell v):Inv X (pins++zhk fp s.heap) σ H s :=
 I.pins_of fun p hp=>(List.mem_append.mp hp).elim (fun z=>I.pin p (List.mem_append_right _ z)) fun z=>by
  obtain ⟨hb,e⟩:=zjB z
  obtain ⟨f0,f1,f2,_⟩:=hf p.1 hb
  obtain ⟨o,e',d⟩:=ho p.1 hb
  rw [e] at e';cases e'
  exact ⟨e,f0,f1,f2,d⟩
theorem Inv.unpinned {pins pl:List (Addr×Obj)} {σ:St} {H:Hp} {s:Shared} (I:Inv X (pins++pl) σ H s):Inv X pins σ H s:=I.pins_of fun p hp=>I.pin p (List.mem_append_right _ (List.mem_append_left _ hp))
theorem zcT {iter:Expr} {body:List Stmt} {wi:TI} {g:TG} {tb:TS} {pos:Pos} (hp:PassesOwn (model X.prog X.w) X.A X.env X.xe) (hc:X.calm=true) (hi:PI X tg iter wi) (hg:PG X tg g) (hb:PSs X body tb)
  (hs:∀ x,foldedSetIterable iter X.env x=pure x:=by intro _;rfl):PS X (.For tg iter body [] pos) (zid wi g tb):=by
 intro pins s σ H D I h
 refine wpAny_For (thn (hi pins s σ H _ I h) fun v s1 h1=>thn h1 fun itv s2 h2=>?_) hs
 obtain ⟨it,fp,tn,J,H2,e,I2,T,st2,f2,W,⟨m0,w0⟩,zla⟩:=h2
 subst e
 have stat:∀ {H':Hp},(∀ b∈fp,H' b=none)→∀ b∈fp,zjw X pins H' b:=fun hn b hb=>⟨hn b hb,(f2 b hb).2⟩
 refine codeAny_forLoop_any (fun n s'=>∃ i σ' H',Inv X pins σ' H' s'∧tn i s'.heap∧(∀ b∈fp,H' b=none)∧W i n σ' H') ?_ m0 ⟨0,σ,H2,I2,st2,fun b hb=>(f2 b hb).1,w0⟩
 rintro n s3 ⟨i,σ3,H3,I3,st3,fr3,w3⟩
 rcases zla i n σ3 H3 w3 with ⟨stop,qn⟩ | ⟨go,N,hN,step⟩
 ·refine wpAny_passesOwn hp (thn (T.done X rfl rfl rfl hc i pins s3 σ3 H3 X.xe I3 (stat fr3) st3 stop) fun r s4 hQ'=>?_)
  obtain ⟨hr,I4⟩:=hQ'
  subst hr
  exact wpAny_execs_nil ⟨σ3,H3,I4,qn⟩
 ·refine wpAny_passesOwn hp (thn (T.item X rfl rfl rfl hc i pins s3 σ3 H3 X.xe I3 (stat fr3) st3 go) fun r s4 hQ'=>?_)
  obtain ⟨u,hr,h4⟩:=hQ'
  subst hr
  refine wpAny_passesOwn hp (thn h4 fun _ s5 hQ'=>?_)
  obtain ⟨x,H5,I5,r5,y5,st5,fr5⟩:=hQ'
  have I5':=I5.pinned (stat fr5) (T.obj _ _ st5)
  refine wpAny_passesOwn hp (thn (hg _ s5 σ3 H5 x u _ I5' r5 (step x H5 y5)) fun _ s6 hQ'=>?_)
  obtain ⟨σ6,H6,I6,q6⟩:=hQ'
  refine wpAny_passesOwn hp (thn (hb _ s6 σ6 H6 _ I6 q6) fun f s7 q7=>?_)
  have again:∀ {σ7:St} {H7:Hp},Inv X (pins++zhk fp s5.heap) σ7 H7 s7→N σ7 H7→∃ m,m<n∧∃ i σ' H',Inv X pins σ' H' s7∧tn i s7.heap∧(∀ b∈fp,H' b=none)∧W i m σ' H':=fun {σ7 H7} I7 n7=>by
   obtain ⟨m',hm,w7⟩:=hN σ7 H7 n7
   refine ⟨m',hm,i+1,σ7,H7,I7.unpinned,T.keep _ _ _ st5 fun b hb o e=>(I7.pin (b,o) (List.mem_append_right _ (List.mem_append_right _ (zdk hb e)))).1,fun b hb=>?_,w7⟩
   obtain ⟨o,e,d⟩:=T.obj _ _ st5 b hb
   exact (I7.pin (b,o) (List.mem_append_right _ (List.mem_append_right _ (zdk hb e)))).2.1
  cases f with
  | next=>obtain ⟨σ7,H7,I7,n7⟩:=q7;exact again I7 n7
  | cont=>obtain ⟨σ7,H7,I7,n7⟩:=q7;exact again I7 n7
  | brk=>obtain ⟨σ7,H7,I7,q7⟩:=q7;exact ⟨σ7,H7,I7.unpinned,q7⟩
  | ret v=>obtain ⟨x7,σ7,H7,I7,r7,q7⟩:=q7;exact ⟨x7,σ7,H7,I7.unpinned,r7,q7⟩
end
theorem zlz {K:PySem.W.Frag} {a:Addr} {xs:List V} {g:TG} {tb:TS} {D:zbU} {σ:St} {H:Hp} (Pv:Nat→St→Hp→Prop) (h0:Pv 0 σ H) (hl:∀ i σ H,i≤xs.length→Pv i σ H→SqL K H a xs)
  (hs:∀ i x σ H,xs[i]?=some x→Pv i σ H→g x σ H fun σ2 H2=>tb { D with nx:=Pv (i+1),ct:=Pv (i+1),bk:=D.nx } σ2 H2) (hd:∀ σ H,Pv xs.length σ H→D.nx σ H) :
  ∃ W:Nat→Nat→St→Hp→Prop,(∃ m,W 0 m σ H)∧∀ i m σ H,W i m σ H →
   ((Itl K a).stop i H∧D.nx σ H)∨((Itl K a).go i H∧∃ N:St→Hp→Prop,(∀ σ' H',N σ' H'→∃ m',m'<m∧W (i+1) m' σ' H')∧∀ x H',(Itl K a).yld i H x H'→g x σ H' fun σ2 H2=>tb { D with nx:=N,ct:=N,bk:=D.nx } σ2 H2):=by
 refine ⟨fun i m σ H=>m=xs.length - i∧i≤xs.length∧Pv i σ H,⟨xs.length,by simp,Nat.zero_le _,h0⟩,?_⟩
 rintro i m σ H ⟨rfl,hi,p⟩
 have q:=hl i σ H hi p
 by_cases hlt:i<xs.length
 ·refine .inr ⟨⟨xs,xs[i],q,by simp [hlt]⟩,Pv (i+1),fun σ' H' p'=>⟨xs.length - (i+1),by (first|lia|omega),rfl,hlt,p'⟩,fun x H' y=>?_⟩
  obtain ⟨e,y⟩:=y
  subst e
  exact hs i x σ _ (y xs q) p
 ·have e:i=xs.length:=by (first|lia|omega)
  subst e
  exact .inl ⟨⟨xs,q,Nat.le_refl _⟩,hd σ H p⟩
theorem zkG {lo:Int} {n:Nat} {g:TG} {tb:TS} {D:zbU} {σ:St} {H:Hp} (Pv:Nat→St→Hp→Prop) (h0:Pv 0 σ H)
  (hs:∀ i σ H,i<n→Pv i σ H→g (.int (lo+i)) σ H fun σ2 H2=>tb { D with nx:=Pv (i+1),ct:=Pv (i+1),bk:=D.nx } σ2 H2) (hd:∀ σ H,Pv n σ H→D.nx σ H) :
  ∃ W:Nat→Nat→St→Hp→Prop,(∃ m,W 0 m σ H)∧∀ i m σ H,W i m σ H →
   ((Itr lo n).stop i H∧D.nx σ H)∨((Itr lo n).go i H∧∃ N:St→Hp→Prop,(∀ σ' H',N σ' H'→∃ m',m'<m∧W (i+1) m' σ' H')∧∀ x H',(Itr lo n).yld i H x H'→g x σ H' fun σ2 H2=>tb { D with nx:=N,ct:=N,bk:=D.nx } σ2 H2):=by
 refine ⟨fun i m σ H=>m=n - i∧i≤n∧Pv i σ H,⟨n,by simp,Nat.zero_le _,h0⟩,?_⟩
 rintro i m σ H ⟨rfl,hi,p⟩
 by_cases hlt:i<n
 ·refine .inr ⟨hlt,Pv (i+1),fun σ' H' p'=>⟨n - (i+1),by (first|lia|omega),rfl,hlt,p'⟩,fun x H' y=>?_⟩
  obtain ⟨e,y⟩:=y
  subst e y
  exact hs i σ _ hlt p
 ·have e:i=n:=by (first|lia|omega)
  subst e
  exact .inl ⟨Nat.le_refl _,hd σ H p⟩
theorem zgj {c:TT} {tb:TS} {D:zbU} {σ:St} {H:Hp} (Pv:St→Hp→Prop) (μ:St→Hp→Nat) (h0:Pv σ H)
  (hs:∀ σ H,Pv σ H→c σ H fun b H1=>if b=true then tb { D with nx:=fun σ' H'=>Pv σ' H'∧μ σ' H'<μ σ H,ct:=fun σ' H'=>Pv σ' H'∧μ σ' H'<μ σ H,bk:=D.nx } σ H1 else D.nx σ H1)
  (mono:∀ σ H Q Q',(∀ b H1,Q b H1→Q' b H1)→c σ H Q→c σ H Q'):zha c tb D σ H:=by
 refine ⟨fun m σ H=>m=μ σ H∧Pv σ H,⟨_,rfl,h0⟩,?_⟩
 rintro m σ H ⟨rfl,p⟩
 refine mono σ H _ _ (fun b H1 q=>?_) (hs σ H p)
 cases b with
 | true=>exact ⟨_,fun σ' H' ⟨p',l⟩=>⟨_,l,rfl,p'⟩,q⟩
 | false=>exact q
end L2
namespace L2
open PySem PySem.Spec PyProof.Rows
abbrev R2:=V→V→Hp→VK→Prop
def OpR (X:Cx) (f:Value→Value→Sem Value) (r:R2):Prop :=
 ∀ (pins:List (Addr×Obj)) (s:Shared) (σ:St) (H:Hp) (x y:V) (v u:Value) (Q:VK),Inv X pins σ H s→zch x v→zch y u→r x y H Q →
  wpAny (model X.prog X.w) X.A (f v u) (EP X pins σ Q) X.xe s
def UnR (X:Cx) (f:Value→Sem Value) (r:V→Hp→VK→Prop):Prop :=
 ∀ (pins:List (Addr×Obj)) (s:Shared) (σ:St) (H:Hp) (x:V) (v:Value) (Q:VK),Inv X pins σ H s→zch x v→r x H Q →
  wpAny (model X.prog X.w) X.A (f v) (EP X pins σ Q) X.xe s
def zfE (X:Cx) (f:Value) (r:List V→Hp→VK→Prop):Prop :=
 ∀ (pins:List (Addr×Obj)) (s:Shared) (σ:St) (H:Hp) (xs:List V) (us:List Value) (Q:VK),Inv X pins σ H s→zbs xs us→r xs H Q →
  wpAny (model X.prog X.w) X.A (call f us) (EP X pins σ Q) X.xe s
def TruR (X:Cx) (r:V→Hp→(Bool→Hp→Prop)→Prop):Prop :=
 ∀ (pins:List (Addr×Obj)) (s:Shared) (σ:St) (H:Hp) (x:V) (v:Value) (Q:Bool→Hp→Prop),Inv X pins σ H s→zch x v→r x H Q →
  wpAny (model X.prog X.w) X.A (truthy v) (TP X pins σ Q) X.xe s
def tOp (r:R2) (ta tb:TE):TE:=fun σ H Q=>ta σ H fun x H1=>tb σ H1 fun y H2=>r x y H2 Q
def tUn (r:V→Hp→VK→Prop) (ta:TE):TE:=fun σ H Q=>ta σ H fun x H1=>r x H1 Q
def rI (C:Int→Int→Prop) (g:Int→Int→V):R2:=fun x y H Q=>∃ i j,x=.int i∧y=.int j∧C i j∧Q (g i j) H
def rI0 (g:Int→Int→V):R2:=fun x y H Q=>∃ i j,x=.int i∧y=.int j∧Q (g i j) H
def rU (g:Int→V):V→Hp→VK→Prop:=fun x H Q=>∃ i,x=.int i∧Q (g i) H
section
variable {X:Cx} {a b c:Expr} {ta tb tc:TE} {pos:Pos}
theorem binT (ha:PE X a ta) (hb:PE X b tb) {pins:List (Addr×Obj)} {s:Shared} {σ:St} {H:Hp} {R:V→V→Hp→Prop} (I:Inv X pins σ H s)
  (h:ta σ H fun x H1=>tb σ H1 fun y H2=>R x y H2) {Q:Value→Shared→Prop} {f:Value→Value→Sem Value}
  (hf:∀ v u s2 x y H2,Inv X pins σ H2 s2→zch x v→zch y u→R x y H2→wpAny (model X.prog X.w) X.A (f v u) Q X.xe s2) :
  wpAny (model X.prog X.w) X.A (eval a X.env) (fun v s₁=>wpAny (model X.prog X.w) X.A (eval b X.env) (fun u s₂=>wpAny (model X.prog X.w) X.A (f v u) Q X.xe s₂) X.xe s₁) X.xe s:=by
 refine thn (ha pins s σ H _ I h) fun v s1 hQ'=>?_
 obtain ⟨x,H1,I1,r1,q1⟩:=hQ'
 refine thn (hb pins s1 σ H1 _ I1 q1) fun u s2 hQ'=>?_
 obtain ⟨y,H2,I2,r2,q2⟩:=hQ'
 exact hf v u s2 x y H2 I2 r1 r2 q2
theorem zat {op:Operator} {r:R2} (ho:OpR X (binaryOp op) r) (ha:PE X a ta) (hb:PE X b tb):PE X (.BinOp a op b pos) (tOp r ta tb):=by
 intro pins s σ H Q I h
 exact wpAny_BinOp (binT ha hb I h fun v u s2 x y H2 I2 rx ry q=>ho pins s2 σ H2 x y v u Q I2 rx ry q)
theorem zqX {op:UnaryOp} {r:V→Hp→VK→Prop} (ho:UnR X (unaryOp op) r) (ha:PE X a ta):PE X (.UnaryOp op a pos) (tUn r ta):=by
 intro pins s σ H Q I h
 exact UnaryOp_ (thn (ha pins s σ H _ I h) fun v s1 ⟨x,H1,I1,r1,q1⟩=>ho pins s1 σ H1 x v Q I1 r1 q1)
theorem opI {f:Value→Value→Sem Value} {C:Int→Int→Prop} {g:Int→Int→Int}
  (rule:∀ (i j:Int) (t u:Tok) (s:Shared) (Q:Value→Shared→Prop) (E:Value→Shared→Prop),C i j→Q (.int (g i j) s.toks) { s with toks:=s.toks+1 }→wpAny (model X.prog X.w) X.A (f (.int i t) (.int j u)) Q E s) :
  OpR X f (rI C fun i j=>.int (g i j)):=by
 intro pins s σ H x y v u Q I rx ry h
 obtain ⟨i,j,rfl,rfl,hc,q⟩:=h
 obtain ⟨t,rfl⟩:=rx
 obtain ⟨t',rfl⟩:=ry
 exact rule i j t t' s _ _ hc ⟨.int (g i j),H,I.tok _,⟨_,rfl⟩,q⟩
theorem opI0 {f:Value→Value→Sem Value} {g:Int→Int→Int}
  (rule:∀ (i j:Int) (t u:Tok) (s:Shared) (Q:Value→Shared→Prop) (E:Value→Shared→Prop),Q (.int (g i j) s.toks) { s with toks:=s.toks+1 }→wpAny (model X.prog X.w) X.A (f (.int i t) (.int j u)) Q E s) :
  OpR X f (rI0 fun i j=>.int (g i j)):=by
 intro pins s σ H x y v u Q I rx ry h
 obtain ⟨i,j,rfl,rfl,q⟩:=h
 obtain ⟨t,rfl⟩:=rx
 obtain ⟨t',rfl⟩:=ry
 exact rule i j t t' s _ _ ⟨.int (g i j),H,I.tok _,⟨_,rfl⟩,q⟩
theorem opB0 {f:Value→Value→Sem Value} {g:Int→Int→Bool}
  (rule:∀ (i j:Int) (t u:Tok) (s:Shared) (Q:Value→Shared→Prop) (E:Value→Shared→Prop),Q (.bool (g i j)) s→wpAny (model X.prog X.w) X.A (f (.int i t) (.int j u)) Q E s) :
  OpR X f (rI0 fun i j=>.bl (g i j)):=by
 intro pins s σ H x y v u Q I rx ry h
 obtain ⟨i,j,rfl,rfl,q⟩:=h
 obtain ⟨t,rfl⟩:=rx
 obtain ⟨t',rfl⟩:=ry
 exact rule i j t t' s _ _ ⟨.bl (g i j),H,I,rfl,q⟩
def zoQ (i j:Int):Prop:=0≤j∧j≤1000000∧i.natAbs<2 ^ 64
theorem zbg:OpR X (binaryOp .Add) (rI0 fun i j=>.int (i+j)):=opI0 fun _ _ _ _ _ _ _ q=>add_int q
theorem zcW:OpR X (binaryOp .Sub) (rI0 fun i j=>.int (i - j)):=opI0 fun _ _ _ _ _ _ _ q=>sub_int q
theorem zg0:OpR X (binaryOp .Mod) (rI (fun _ j=>0<j) fun i j=>.int (i % j)):=opI fun i j _ _ _ _ _ hc q=>by
 have h1:(0:Int)<j:=hc
 exact mod_int' (by (first|lia|omega)) (by rw [Int.fmod_eq_emod_of_nonneg i (by (first|lia|omega))];exact q)
theorem zoc:OpR X (binaryOp .Mod) (rI (fun _ j=>j≠0) fun i j=>.int (i.fmod j)):=opI fun _ _ _ _ _ _ _ hc q=>mod_int' hc q
theorem zmL:OpR X (binaryOp .Pow) (rI zoQ fun i j=>.int (i ^ j.toNat)):=opI fun _ _ _ _ _ _ _ hc q=>pow_int_small hc.1 hc.2.1 hc.2.2 q
theorem unI {f:Value→Sem Value} {g:Int→Int}
  (rule:∀ (i:Int) (t:Tok) (s:Shared) (Q:Value→Shared→Prop) (E:Value→Shared→Prop),Q (.int (g i) s.toks) { s with toks:=s.toks+1 }→wpAny (model X.prog X.w) X.A (f (.int i t)) Q E s) :
  UnR X f (rU fun i=>.int (g i)):=by
 intro pins s σ H x v Q I rx h
 obtain ⟨i,rfl,q⟩:=h
 obtain ⟨t,rfl⟩:=rx
 exact rule i t s _ _ ⟨.int (g i),H,I.tok _,⟨_,rfl⟩,q⟩
theorem zmR:UnR X (unaryOp .USub) (rU fun i=>.int (-i)):=unI fun _ _ _ _ _ q=>neg_int q
end
def scal:V→V→Bool
 | .non,.non=>true | .non,.int _=>true | .int _,.non=>true | .non,.bl _=>true | .bl _,.non=>true | .non,.str _=>true | .str _,.non=>true
 | .int _,.int _=>true | .bl _,.bl _=>true | .str _,.str _=>true | .byt _,.byt _=>true
 | .int _,.str _=>true | .str _,.int _=>true | .bl _,.str _=>true | .str _,.bl _=>true
 | _,_=>false
def rEq:R2:=fun x y H Q=>scal x y=true∧Q (.bl (decide (x=y))) H
def rNe:R2:=fun x y H Q=>scal x y=true∧Q (.bl (!decide (x=y))) H
theorem zjQ {i j:Int}:decide (V.int i=V.int j)=(i == j):=by
 rw [Bool.eq_iff_iff]
 simp
theorem zmu {i j:Bool}:decide (V.bl i=V.bl j)=(i == j):=by
 rw [Bool.eq_iff_iff]
 simp
theorem zkB {i j:Str}:decide (V.str i=V.str j)=(i == j):=by
 rw [Bool.eq_iff_iff]
 simp
theorem zk0 {i j:Array UInt8}:decide (V.byt i=V.byt j)=(i.toList == j.toList):=by
 rw [Bool.eq_iff_iff]
 cases i
 cases j
 simp
section
variable {X:Cx} {a b c:Expr} {ta tb tc:TE} {pos:Pos}
theorem zbf {pins:List (Addr×Obj)} {σ:St} {H:Hp} {s:Shared} {Q:VK} {k k':Bool} (I:Inv X pins σ H s) (q:Q (.bl k) H) (e:k=k'):EP X pins σ Q (.bool k') s:=by
 subst e
 exact ⟨.bl k,H,I,rfl,q⟩
theorem znw:OpR X (compareOp .Eq) rEq:=by
 intro pins s σ H x y v u Q I rx ry h
 obtain ⟨hs,q⟩:=h
 cases x with
 | non =>
  cases rx
  cases y with
  | non=>cases ry;exact PySem.EqNone.eq_none_none (zbf I q (by simp))
  | bl j=>cases ry;exact PySem.EqNone.eq_none_bool (zbf I q (by simp))
  | int j=>obtain ⟨t',rfl⟩:=ry;exact PySem.EqNone.eq_none_int (zbf I q (by simp))
  | str j=>obtain ⟨t',rfl⟩:=ry;exact PySem.EqNone.eq_none_str (zbf I q (by simp))
  | _=>exact absurd (show false=true from hs) Bool.false_ne_true
 | bl i =>
  cases rx
  cases y with
  | non=>cases ry;exact PySem.EqNone.eq_bool_none (zbf I q (by simp))
  | bl j=>cases ry;exact eq_bool (zbf I q zmu)
  | str j=>obtain ⟨t',rfl⟩:=ry;exact PySem.EqMixed.eq_bool_str (zbf I q (by simp))
  | _=>exact absurd (show false=true from hs) Bool.false_ne_true
 | int i =>
  obtain ⟨t,rfl⟩:=rx
  cases y with
  | non=>cases ry;exact PySem.EqNone.eq_int_none (zbf I q (by simp))
  | int j=>obtain ⟨t',rfl⟩:=ry;exact eq_int (zbf I q zjQ)
  | str j=>obtain ⟨t',rfl⟩:=ry;exact PySem.EqMixed.eq_int_str (zbf I q (by simp))
  | _=>exact absurd (show false=true from hs) Bool.false_ne_true
 | str i =>
  obtain ⟨t,rfl⟩:=rx
  cases y with
  | non=>cases ry;exact PySem.EqNone.eq_str_none (zbf I q (by simp))
  | bl j=>cases ry;exact PySem.EqMixed.eq_str_bool (zbf I q (by simp))
  | int j=>obtain ⟨t',rfl⟩:=ry;exact PySem.EqMixed.eq_str_int (zbf I q (by simp))
  | str j=>obtain ⟨t',rfl⟩:=ry;exact eq_str (zbf I q zkB)
  | _=>exact absurd (show false=true from hs) Bool.false_ne_true
 | byt i =>
  obtain ⟨t,rfl⟩:=rx
  cases y with
  | byt j=>obtain ⟨t',rfl⟩:=ry;exact PySem.W.eq_bytes (zbf I q zk0)
  | _=>exact absurd (show false=true from hs) Bool.false_ne_true
 | _=>cases y <;> exact absurd (show false=true from hs) Bool.false_ne_true
theorem op_ne:OpR X (compareOp .NotEq) rNe:=by
 intro pins s σ H x y v u Q I rx ry h
 obtain ⟨hs,q⟩:=h
 cases x with
 | non =>
  cases rx
  cases y with
  | non=>cases ry;exact PySem.EqNone.ne_none_none (zbf I q (by simp))
  | bl j=>cases ry;exact PySem.EqNone.ne_none_bool (zbf I q (by simp))
  | int j=>obtain ⟨t',rfl⟩:=ry;exact PySem.EqNone.ne_none_int (zbf I q (by simp))
  | str j=>obtain ⟨t',rfl⟩:=ry;exact PySem.EqNone.ne_none_str (zbf I q (by simp))
  | _=>exact absurd (show false=true from hs) Bool.false_ne_true
 | bl i =>
  cases rx
  cases y with
  | non=>cases ry;exact PySem.EqNone.ne_bool_none (zbf I q (by simp))
  | bl j=>cases ry;exact ne_bool (zbf I q (congrArg not zmu))
  | str j=>obtain ⟨t',rfl⟩:=ry;exact PySem.EqMixed.ne_bool_str (zbf I q (by simp))
  | _=>exact absurd (show false=true from hs) Bool.false_ne_true
 | int i =>
  obtain ⟨t,rfl⟩:=rx
  cases y with
  | non=>cases ry;exact PySem.EqNone.ne_int_none (zbf I q (by simp))
  | int j=>obtain ⟨t',rfl⟩:=ry;exact ne_int (zbf I q (congrArg not zjQ))
  | str j=>obtain ⟨t',rfl⟩:=ry;exact PySem.EqMixed.ne_int_str (zbf I q (by simp))
  | _=>exact absurd (show false=true from hs) Bool.false_ne_true
 | str i =>
  obtain ⟨t,rfl⟩:=rx
  cases y with
  | non=>cases ry;exact PySem.EqNone.ne_str_none (zbf I q (by simp))
  | bl j=>cases ry;exact PySem.EqMixed.ne_str_bool (zbf I q (by simp))
  | int j=>obtain ⟨t',rfl⟩:=ry;exact PySem.EqMixed.ne_str_int (zbf I q (by simp))
  | str j=>obtain ⟨t',rfl⟩:=ry;exact ne_str (zbf I q (congrArg not zkB))
  | _=>exact absurd (show false=true from hs) Bool.false_ne_true
 | byt i =>
  obtain ⟨t,rfl⟩:=rx
  cases y with
  | byt j=>obtain ⟨t',rfl⟩:=ry;exact PySem.W.ne_bytes (zbf I q (congrArg not zk0))
  | _=>exact absurd (show false=true from hs) Bool.false_ne_true
 | _=>cases y <;> exact absurd (show false=true from hs) Bool.false_ne_true
theorem zjj:OpR X (compareOp .Lt) (rI0 fun i j=>.bl (decide (i<j))):=opB0 fun _ _ _ _ _ _ _ q=>lt_int q
theorem zix:OpR X (compareOp .LtE) (rI0 fun i j=>.bl (decide (i≤j))):=opB0 fun _ _ _ _ _ _ _ q=>le_int q
theorem zpg:OpR X (compareOp .Gt) (rI0 fun i j=>.bl (decide (j<i))):=opB0 fun _ _ _ _ _ _ _ q=>gt_int q
theorem zbB (b:Expr) {op:CmpOp} (h:op≠.In:=by decide) (h2:op≠.NotIn:=by decide):behindInMarks op b=false:=by
 have e1:(op == CmpOp.In)=false:=by cases op <;> first | rfl | exact absurd rfl h
 have e2:(op == CmpOp.NotIn)=false:=by cases op <;> first | rfl | exact absurd rfl h2
 cases b <;> simp [behindInMarks,e1,e2]
theorem ze7 {op:CmpOp} {r:R2} (ho:OpR X (compareOp op) r) (ha:PE X a ta) (hb:PE X b tb) (hm:behindInMarks op b=false):PE X (.Compare a [op] [b] pos) (tOp r ta tb):=by
 intro pins s σ H Q I h
 exact wpAny_Compare1 (binT ha hb I h fun v u s2 x y H2 I2 rx ry q=>ho pins s2 σ H2 x y v u Q I2 rx ry q) hm
def zby (t:TE):TT:=fun σ H Q=>t σ H fun x H'=>∃ k,x=.bl k∧Q k H'
theorem zbz {op:CmpOp} {r:R2} (ho:OpR X (compareOp op) r) (ha:PE X a ta) (hb:PE X b tb) (hm:behindInMarks op b=false):PT X (.Compare a [op] [b] pos) (zby (tOp r ta tb)):=by
 intro pins s σ H Q I h
 refine wpAny_isTrue_Compare1 (thn (ha pins s σ H _ I h) fun v s1 ⟨x,H1,I1,r1,q1⟩=>thn (hb pins s1 σ H1 _ I1 q1) fun u s2 ⟨y,H2,I2,r2,q2⟩ =>
  thn (ho pins s2 σ H2 x y v u _ I2 r1 r2 q2) fun c s3 ⟨z,H3,I3,r3,k,e,q3⟩=>?_) hm
 subst e
 cases r3
 exact wpAny_truthy_bool ⟨H3,I3,q3⟩
def zht (r r':R2) (ta tb tc:TE):TE:=fun σ H Q=>ta σ H fun x H1=>tb σ H1 fun y H2=>r x y H2 fun z H3=>∃ k,z=.bl k ∧
 (if k=true then tc σ H3 fun w' H4=>r' y w' H4 Q else Q (.bl false) H3)
theorem zlJ {op op':CmpOp} {r r':R2} (ho:OpR X (compareOp op) r) (ho':OpR X (compareOp op') r') (ha:PE X a ta) (hb:PE X b tb) (hc:PE X c tc)
  (hm:lastMarks [op,op'] [b,c]=false:=by with_unfolding_all rfl):PE X (.Compare a [op,op'] [b,c] pos) (zht r r' ta tb tc):=by
 intro pins s σ H Q I h
 refine Compare_chain (thn (ha pins s σ H _ I h) fun v s1 ⟨x,H1,I1,r1,q1⟩=>chain_link (thn (hb pins s1 σ H1 _ I1 q1) fun u s2 ⟨y,H2,I2,r2,q2⟩ =>
  thn (ho pins s2 σ H2 x y v u _ I2 r1 r2 q2) fun d s3 ⟨z,H3,I3,r3,k,e,q3⟩=>?_)) hm
 subst e
 cases r3
 refine wpAny_truthy_bool ?_
 cases k with
 | false=>exact ite_ff ⟨.bl false,H3,I3,rfl,q3⟩
 | true=>exact ite_tt (chain_last (thn (hc pins s3 σ H3 _ I3 q3) fun w' s4 ⟨z',H4,I4,r4,q4⟩=>ho' pins s4 σ H4 y z' u w' Q I4 r2 r4 q4))
theorem zlN {op op':CmpOp} {r r':R2} (ho:OpR X (compareOp op) r) (ho':OpR X (compareOp op') r') (ha:PE X a ta) (hb:PE X b tb) (hc:PE X c tc)
  (hm:lastMarks [op,op'] [b,c]=false:=by with_unfolding_all rfl):PT X (.Compare a [op,op'] [b,c] pos) (zby (zht r r' ta tb tc)):=by
 intro pins s σ H Q I h
 refine isTrue_chain (thn (ha pins s σ H _ I h) fun v s1 ⟨x,H1,I1,r1,q1⟩=>test_link (thn (hb pins s1 σ H1 _ I1 q1) fun u s2 ⟨y,H2,I2,r2,q2⟩ =>
  thn (ho pins s2 σ H2 x y v u _ I2 r1 r2 q2) fun d s3 ⟨z,H3,I3,r3,k,e,q3⟩=>?_)) hm
 subst e
 cases r3
 refine wpAny_truthy_bool ?_
 cases k with
 | false =>
  obtain ⟨k',e',q'⟩:=q3
  cases e'
  exact ite_ff ⟨H3,I3,q'⟩
 | true =>
  refine ite_tt (test_last (thn (hc pins s3 σ H3 _ I3 q3) fun w' s4 ⟨z',H4,I4,r4,q4⟩=>thn (ho' pins s4 σ H4 y z' u w' _ I4 r2 r4 q4) fun d' s5 hQ'=>?_))
  obtain ⟨z2,H5,I5,r5,k2,e2,q5⟩:=hQ'
  subst e2
  cases r5
  exact wpAny_truthy_bool ⟨H5,I5,q5⟩
def zpQ (K:PySem.W.Frag) (x:V) (H:Hp) (k:Bool):Prop :=
 match x with
 | .non=>k=false
 | .bl b=>k=b
 | .int i=>k=(i != 0)
 | .str y=>y.length≤sizeLine∧k=((y.length:Int) != 0)
 | .byt y=>y.size≤sizeLine∧k=((y.size:Int) != 0)
 | .ref p=>(∃ xs,SqL K H p xs∧k=!xs.isEmpty)∨(∃ xs,SqT K H p xs∧k=!xs.isEmpty)∨∃ kvs,H p=some (.dK kvs)∧k=!kvs.isEmpty
 | _=>False
theorem zjl {κ:Type} {kvs:List (κ×V)} {vs:List (κ×Value)} (r:KV kvs vs):(!vs.isEmpty)=!kvs.isEmpty:=by
 cases r <;> rfl
theorem zfR {xs:List V} {its:List Value} (r:zbs xs its):(!its.toArray.isEmpty)=!xs.isEmpty:=by
 cases r <;> simp
theorem zhg:(sizeLine:Nat)<2 ^ 63:=by rw [sizeLine_eq];decide
theorem zpp:TruR X (fun x H Q=>∃ k,zpQ X.K x H k∧Q k H):=by
 intro pins s σ H x v Q I rx h
 obtain ⟨k,e,q⟩:=h
 have hl:=zhg
 have hs:sizeLine=16777216:=sizeLine_eq
 cases x with
 | non =>
  cases rx
  have e':k=false:=e
  subst e'
  exact truthy_none ⟨H,I,q⟩
 | bl b =>
  cases rx
  have e':k=b:=e
  subst e'
  exact wpAny_truthy_bool ⟨H,I,q⟩
 | int i =>
  obtain ⟨t,rfl⟩:=rx
  have e':k=(i != 0):=e
  subst e'
  exact PySem.P.truthy_int ⟨H,I,q⟩
 | str y =>
  obtain ⟨t,rfl⟩:=rx
  obtain ⟨hy,e'⟩:y.length≤sizeLine∧k=((y.length:Int) != 0):=e
  subst e'
  exact PySem.P.truthy_str (by (first|lia|omega)) ⟨H,I.tok _,q⟩
 | byt y =>
  obtain ⟨t,rfl⟩:=rx
  obtain ⟨hy,e'⟩:y.size≤sizeLine∧k=((y.size:Int) != 0):=e
  subst e'
  exact PySem.W.truthy_bytes (by (first|lia|omega)) ⟨H,I.tok _,q⟩
 | ref p =>
  cases rx
  have e':(∃ xs,SqL X.K H p xs∧k=!xs.isEmpty)∨(∃ xs,SqT X.K H p xs∧k=!xs.isEmpty)∨∃ kvs,H p=some (.dK kvs)∧k=!kvs.isEmpty:=e
  rcases e' with ⟨xs,hx,e'⟩ | ⟨xs,hx,e'⟩ | ⟨kvs,hx,e'⟩
  ·subst e'
   obtain ⟨its,r,pl,hz⟩:=I.list hx
   have hlen:=r.length
   exact wpAny_truthy_list pl.isList (by simp only [List.size_toArray];(first|lia|omega)) ⟨H,I.tok _,by rw [zfR r];exact q⟩
  ·subst e'
   obtain ⟨its,r,pl,hz⟩:=I.tuple hx
   have hlen:=r.length
   exact truthy_tuple pl (by simp only [List.size_toArray];(first|lia|omega)) ⟨H,I.tok _,by rw [zfR r];exact q⟩
  ·subst e'
   obtain ⟨hz,hS,vs,r,m⟩:kvs.length≤sizeLine∧(p == sysModules)=false∧∃ vs,KV kvs vs∧s.heap.DictOf (zit X.prog X.w) p vs:=I.hok p _ hx
   have hlen:kvs.length=vs.length:=Paired.length r
   exact wpAny_truthy_dict hS m (by (first|lia|omega)) ⟨H,I.tok _,by rw [zjl r];exact q⟩
 | _=>exact (show False from e).elim
theorem zi0 (ha:PE X a ta) (he:∀ whole,isTrue a X.env whole=(do let v ← whole;standAt a.pos;holding [v] (truthy v))) :
  PT X a (fun σ H Q=>ta σ H fun x H'=>∃ k,zpQ X.K x H' k∧Q k H'):=by
 intro pins s σ H Q I h
 exact isTrue_plain (thn (ha pins s σ H _ I h) fun v s1 ⟨x,H1,I1,r1,q1⟩=>zpp pins s1 σ H1 x v Q I1 r1 q1) (he _)
theorem zlW {x:V} {us:List Value} (r:zbs [x] us):∃ u,us=[u]∧zch x u:=by
 cases r with
 | cons r1 r2=>cases r2;exact ⟨_,rfl,r1⟩
theorem zld {x y:V} {us:List Value} (r:zbs [x,y] us):∃ u w',us=[u,w']∧zch x u∧zch y w':=by
 cases r with
 | cons r1 r2 =>
  cases r2 with
  | cons r3 r4=>cases r4;exact ⟨_,_,rfl,r1,r3⟩
theorem ziE:zfE X (.builtin "abs") (fun xs H Q=>∃ i,xs=[.int i]∧Q (.int (if i<0 then -i else i)) H):=by
 intro pins s σ H xs us Q I r h
 obtain ⟨i,rfl,q⟩:=h
 obtain ⟨u,rfl,t,rfl⟩:=zlW r
 exact call_abs_int fun u tk=>⟨.int (if i<0 then -i else i),H,I.tok _,⟨_,rfl⟩,q⟩
theorem zj4 (hc:X.calm=true):zfE X (.builtin "min") (fun xs H Q=>∃ i j,xs=[.int i,.int j]∧Q (.int (if j<i then j else i)) H):=by
 intro pins s σ H xs us Q I r h
 obtain ⟨i,j,rfl,q⟩:=h
 obtain ⟨u,w',rfl,⟨t,rfl⟩,⟨t',rfl⟩⟩:=zld r
 refine min_two_ints (I.ok.hd hc) fun h' tk k=>⟨_,H,I.kept k,?_,q⟩
 by_cases hj:j<i
 ·rw [if_pos hj,if_pos hj];exact ⟨_,rfl⟩
 ·rw [if_neg hj,if_neg hj];exact ⟨_,rfl⟩
end
end L2
namespace L2
open PySem PySem.Spec PyProof.Rows
structure ObjM (h:Heap) (x dx C:Addr) (mA:Str→Option Value):Prop where
 obj:h.get? x=some (PySem.W.instObj C dx)
 ns:h.Ns1 dx mA
 ne:dx≠x
theorem zkv {h:Heap} {dx:Addr} {mA:Str→Option Value} (n:h.Ns1 dx mA):∃ od,h.get? dx=some od∧∀ name,PySem.W.lookIn name od=some (mA name):=by
 obtain ⟨o,es,ep,ho,hd,hk,_,hm⟩:=n
 refine ⟨o,ho,fun name=>?_⟩
 have e:=hm name
 unfold nsFind findBy at e
 rw [← Array.find?_toList] at e
 unfold PySem.W.lookIn
 rw [hd]
 dsimp only
 split
 ·rename_i y q
  rw [q] at e
  exact congrArg some e
 ·rename_i q
  rw [q] at e
  have a:es.toList.any (·.refKey)=false:=by
   rw [List.any_eq_false]
   intro y hy
   obtain ⟨z,t,hkey⟩:=hk y (Array.mem_toList_iff.mp hy)
   simp [DictEntry.refKey,hkey]
  have a':¬ es.toList.any (·.refKey)=true:=by rw [a];exact Bool.false_ne_true
  rw [if_neg a']
  exact congrArg some e
theorem ObjM.look {h:Heap} {x dx C:Addr} {mA:Str→Option Value} (I:ObjM h x dx C mA):∃ od,PySem.W.InstAt h x (PySem.W.instObj C dx) C (some od)∧∀ name,PySem.W.lookIn name od=some (mA name) :=
 let ⟨od,ho,hl⟩:=zkv I.ns
 ⟨od,⟨I.obj,rfl,rfl,ho⟩,hl⟩
section
variable {prog:Program} {w:World} {A:Around} {E:Value→Shared→Prop} {s:Shared} {K:PySem.W.Frag} {x dx C f:Addr} {mA:Str→Option Value} {name:Str} {v:Value}
end
section
variable {P:Program} {w:World} {H H':Hp} {h h':Heap} {a C dx:Addr} {fs fs':List (Str×V)}
theorem znz (hok:HOk P w H h) (e:H a=some (.ins C dx fs)):∃ mA,ObjM h a dx C mA∧(∀ f,RelO (fs.lookup f) (mA f))∧PySem.Within mA (fs.map (·.1))∧fs.length≤1000∧H dx=some (.own a):=by
 obtain ⟨d,z,ne,ob,mA,n,r,q⟩:=(show zci P w H h a (.ins C dx fs) from hok a _ e)
 exact ⟨mA,⟨ob,n,ne⟩,r,q,z,d⟩
end
structure Cls (K:PySem.W.Frag) (C:Addr):Prop where
 pg:PySem.W.plainGet K C Str.empty=true
 hd:PySem.W.hasDictIn K C=true
 po:PySem.W.plainOver K C=true
 sa:PySem.W.findIn K (.ref C) "__setattr__"=some (some (.builtin "object.__setattr__"))
theorem Cls.get {K:PySem.W.Frag} {C:Addr} (c:Cls K C) (f:Str):PySem.W.plainGet K C f=true:=c.pg
section
variable {X:Cx} {pins:List (Addr×Obj)} {σ:St} {H:Hp} {s:Shared} {a C dx:Addr} {fs:List (Str×V)} {f:Str} {v:V} {A:Around} {E:Value→Shared→Prop}
end
section
variable {X:Cx} {o e value:Expr} {f:Str} {pos pos' tpos:Pos} {ta tv:TE}
end
section
variable {X:Cx} {pins:List (Addr×Obj)} {σ:St} {H:Hp} {s:Shared} {A:Around} {E:Value→Shared→Prop} {Q:Value→Shared→Prop} {c:Value} {b:Bool}
inductive zja (K:PySem.W.Frag) (H:Hp):V→Value→Prop where
 | non:zja K H .non (.type "NoneType")
 | bl (x:Bool):zja K H (.bl x) (.type "bool")
 | int (i:Int):zja K H (.int i) (.type "int")
 | str (x:Str):zja K H (.str x) (.type "str")
 | flt (x:UInt64):zja K H (.flt x) (.type "float")
 | lst {a:Addr} {xs:List V} (e:H a=some (.lst xs)):zja K H (.ref a) (.type "list")
 | frz {a:Addr} {o:Obj} {xs:List V} (e:H a=some (.frz o (.lst xs))):zja K H (.ref a) (.type "list")
 | tup {a:Addr} {xs:List V} (e:H a=some (.tup xs)):zja K H (.ref a) (.type "tuple")
 | dK {a:Addr} {kvs:List (Key×V)} (e:H a=some (.dK kvs)):zja K H (.ref a) (.type "dict")
 | dT {a:Addr} {kvs:List (List Key×V)} (e:H a=some (.dT kvs)):zja K H (.ref a) (.type "dict")
 | ins {a C dx:Addr} {fs:List (Str×V)} (e:H a=some (.ins C dx fs)) (cl:Cls K C) (ha:PySem.W.findIn K (.ref C) "__class__"=some (some (.builtin "object.__class__")))
   (hn:PySem.W.specialIn K (.builtin "object.__class__") "__get__"=some (some (.builtin "getset_descriptor.__get__"))) (htk:PySem.W.takesIn K (.builtin "object.__class__")=some true)
   (hm:PySem.W.mroIn K C (.type "object")=some true):zja K H (.ref a) (.ref C)
theorem zk3 {x:V} {u t:Value} (I:Inv X pins σ H s) (rx:zch x u) (ty:zja X.K H x t) (e:PySem.W.kitOne X.K t c=some b) (h:∀ tk,Q (.bool b) { s with toks:=tk }) :
  wpAny (model X.prog X.w) A (call (.builtin "isinstance") [u,c]) Q E s:=by
 cases ty with
 | non=>cases (show u=Value.none from rx);exact PySem.W.kia_one PySem.W.kitx_none I.kIn True.intro e (fun z=>nomatch z) h
 | bl y=>cases (show u=Value.bool y from rx);exact PySem.W.kia_one PySem.W.kitx_bool I.kIn True.intro e (fun z=>nomatch z) h
 | int i=>obtain ⟨t,q⟩:=(show ∃ t,u=Value.int i t from rx);cases q;exact PySem.W.kia_one PySem.W.kitx_int I.kIn True.intro e (fun z=>nomatch z) h
 | str y=>obtain ⟨t,q⟩:=(show ∃ t,u=Value.str y t from rx);cases q;exact PySem.W.kia_one PySem.W.kitx_str I.kIn True.intro e (fun z=>nomatch z) h
 | flt y=>obtain ⟨t,q⟩:=(show ∃ t,u=Value.float y t from rx);cases q;exact PySem.W.kia_one PySem.W.kitx_float I.kIn True.intro e (fun z=>nomatch z) h
 | @lst a xs ea =>
  cases (show u=Value.ref a from rx)
  obtain ⟨_,_,n,_,h1⟩:=(show zci X.prog X.w H s.heap a (.lst xs) from I.hok a _ ea)
  exact PySem.W.kia_one PySem.W.kitx_list I.kIn ⟨_,h1,rfl⟩ e (fun z=>nomatch z) h
 | @frz a ob xs ea =>
  cases (show u=Value.ref a from rx)
  obtain ⟨_,_,_,n,_,h1⟩:=(show zci X.prog X.w H s.heap a (.frz ob (.lst xs)) from I.hok a _ ea)
  exact PySem.W.kia_one PySem.W.kitx_list I.kIn ⟨_,h1,rfl⟩ e (fun z=>nomatch z) h
 | @tup a xs ea =>
  cases (show u=Value.ref a from rx)
  obtain ⟨_,_,_,p⟩:=(show zci X.prog X.w H s.heap a (.tup xs) from I.hok a _ ea)
  obtain ⟨o,h1,h2,_⟩:=p
  exact PySem.W.kia_one PySem.W.kitx_tuple I.kIn ⟨o,h1,h2⟩ e (fun z=>nomatch z) h
 | @dK a kvs ea =>
  cases (show u=Value.ref a from rx)
  obtain ⟨_,_,vs,_,p⟩:=(show zci X.prog X.w H s.heap a (.dK kvs) from I.hok a _ ea)
  obtain ⟨o,es,ep,h1,h2,_⟩:=p
  exact PySem.W.kia_one PySem.W.kitx_dict I.kIn ⟨o,h1,h2.1⟩ e (fun z=>nomatch z) h
 | @dT a kvs ea =>
  cases (show u=Value.ref a from rx)
  obtain ⟨_,_,xs,_,o,es,ep,h1,h2,_⟩:=(show zci X.prog X.w H s.heap a (.dT kvs) from I.hok a _ ea)
  exact PySem.W.kia_one PySem.W.kitx_dict I.kIn ⟨o,h1,h2.1⟩ e (fun z=>nomatch z) h
 | @ins a C dx fs ea cl ha hn htk hm =>
  cases (show u=Value.ref a from rx)
  obtain ⟨mA,O,_⟩:=znz I.hok ea
  obtain ⟨od,J,_⟩:=O.look
  exact PySem.W.kia_one (PySem.W.kitx_own (cl.get _) cl.hd ha hn htk hm) I.kIn J e (fun z=>nomatch z) h
end
end L2
namespace L2
open PySem PySem.Spec PyProof.Rows
structure zhL (k:Nat) (A:Around):Prop where
 hd:A.handled=none
 dp:A.depth+3*k+5<recursionLimit
 un:A.units+16*k+200<cLine
theorem zhL.mono {j k:Nat} {A:Around} (r:zhL k A) (h:j≤k):zhL j A:=⟨r.hd,by have:=r.dp;(first|lia|omega),by have:=r.un;(first|lia|omega)⟩
theorem zhL.deeper {k:Nat} {A:Around} (r:zhL (k+1) A) (env:Env):zhL k (A.deeper env) :=
 ⟨r.hd,by have:=r.dp;show A.depth+1+3*k+5<_;(first|lia|omega),by have:=r.un;show A.units+3+16*k+200<_;(first|lia|omega)⟩
theorem zhL.depth {k:Nat} {A:Around} (r:zhL k A):A.depth<recursionLimit:=by have:=r.dp;(first|lia|omega)
theorem zhL.units0 {k:Nat} {A:Around} (r:zhL k A):A.units<cLine:=by have:=r.un;(first|lia|omega)
def zap:TA:=fun _ H Q=>Q [] H
def zab (ta:TE) (tr:TA):TA:=fun σ H Q=>ta σ H fun x H1=>tr σ H1 fun xs H2=>Q (x::xs) H2
section
variable {X:Cx} {e:Expr} {es:List Expr} {te:TE} {t:TA} {pos:Pos}
theorem zad:PA X [] zap:=fun _ _ _ _ H Q I h=>Calls.spliced_nil ⟨[],H,I,.nil,h⟩
theorem zaa (ha:PE X e te) (hr:PA X es t) (hs:starEach (e::es) X.env=(false,eval e X.env)::starEach es X.env:=by rfl):PA X (e::es) (zab te t):=by
 intro pos pins s σ H Q I h
 rw [hs]
 show wpAny _ _ (spliced ((false,eval e X.env)::backTo pos (starEach es X.env))) _ _ s
 refine Calls.spliced_cons (thn (ha pins s σ H _ I h) fun u s1 hQ'=>?_)
 obtain ⟨x,H1,I1,r1,q1⟩:=hQ'
 exact thn (hr pos pins s1 σ H1 _ I1 q1) fun us s2 ⟨xs,H2,I2,r2,q2⟩=>⟨x::xs,H2,I2,.cons r1 r2,q2⟩
def zcs (t:TA):TE:=fun σ H Q=>t σ H fun xs H1=>xs.length≤sizeLine∧∀ p,H1 p=none→Q (.ref p) (upd H1 p (.tup xs))
def zdU (t:TA):TE:=fun σ H Q=>t σ H fun xs H1=>xs.length≤sizeLine∧∀ p,H1 p=none→Q (.ref p) (upd H1 p (.lst xs))
theorem zbe {x1} (h:PA X es t):PE X (.Tuple es x1 pos) (zcs t):=by
 intro pins s σ H Q I hq
 refine wpAny_Tuple_spliced (thn (h pos pins s σ H _ I hq) fun us s1 ⟨xs,H1,I1,r,z,q⟩=>⟨by rw [← r.length];exact z,?_⟩)
 have hf:H1 s1.heap.objs.size=none:=I1.hok.fresh (Nat.le_refl _)
 refine ⟨.ref s1.heap.objs.size,upd H1 s1.heap.objs.size (.tup xs),I1.laid (t':=s1.toks) (fun b u e=>Heap.get?_push_of_some _ e) (Nat.le_refl _) ?_,rfl,q _ hf⟩
 exact ⟨z,us,r,⟨_,Heap.get?_push_size _ rfl,rfl,_,rfl⟩⟩
theorem zbN (h:PA X es t):PE X (.List es pos) (zdU t):=by
 intro pins s σ H Q I hq
 refine wpAny_List_spliced (thn (h pos pins s σ H _ I hq) fun us s1 ⟨xs,H1,I1,r,z,q⟩=>⟨by rw [← r.length];exact z,?_⟩)
 have hf:H1 s1.heap.objs.size=none:=I1.hok.fresh (Nat.le_refl _)
 refine ⟨.ref s1.heap.objs.size,upd H1 s1.heap.objs.size (.lst xs),I1.laid (t':=s1.toks) (fun b u e=>Heap.get?_push_of_some _ e) (Nat.le_refl _) ?_,rfl,q _ hf⟩
 exact ⟨z,us,0,r,Heap.get?_push_size _ rfl⟩
end
abbrev Sp:=List V→Hp→VK→XK→Prop
abbrev CXT:=List Env→Hp→Shared→XK→Value→Shared→Prop
structure Env0 (P:Program) (w:World) (K:PySem.W.Frag) (mg:Str→Option Value) (base:Heap) (A:Around) (outer:List Env) (s:Shared) (H:Hp):Prop where
 frames:A.frames=some outer
 mod:Mod K mg base
 bs:∀ b o,base.get? b=some o→s.heap.get? b=some o∧H b=none
 bsz:base.objs.size≤s.heap.objs.size
 funs:s.heap.FunFrames base outer
 frf:∀ b∈frs outer,H b=none
 hok:HOk P w H s.heap
 bare:AllBare s.gens
def CE (outer:List Env) (P:Program) (w:World) (H:Hp) (s:Shared) (Q:VK) (u:Value) (s':Shared):Prop :=
 ∃ v H',s'.os=s.os∧AllBare s'.gens∧Un (frs outer) [] H H' s.heap s'.heap∧HOk P w H' s'.heap∧zch v u∧Q v H'
def CR (CX:CXT) (outer:List Env) (P:Program) (w:World) (H:Hp) (s:Shared) (Q:VK) (E:XK) (r:Result) (s':Shared):Prop :=
 match r with
 | .ok (.ret u)=>CE outer P w H s Q u s'
 | .ok _=>False
 | .error e=>CX outer H s E e s'
structure zbT (P:Program) (w:World) (K:PySem.W.Frag) (mg:Str→Option Value) (base:Heap) (CX:CXT) (k:Nat) (f:Addr) (fd:FuncData) (ps:List Str) (sp:Sp):Prop where
 len:∀ vs H Q E,sp vs H Q E→vs.length=ps.length
 run:∀ (A:Around) (outer:List Env) (s:Shared) (H:Hp) (args:Args) (us:List Value) (vs:List V) (Q:VK) (E:XK),zhL k A→Env0 P w K mg base A outer s H→BindsTo s fd args (ps.zip us)→zbs vs us→sp vs H Q E →
  codeAny (model P w) A (.call (.ref f) args) (CR CX outer P w H s Q E) s
section
variable {X:Cx} {pins:List (Addr×Obj)} {σ:St} {H:Hp} {s s':Shared}
theorem Inv.env0 (I:Inv X pins σ H s):Env0 X.prog X.w X.K X.mg X.base X.A X.stack s H :=
 ⟨I.ok.frames,I.ok.mod,I.bs,Nat.le_trans I.ok.bsz I.sz,I.stack,I.stkFree,I.hok,I.bare⟩
theorem Inv.after {Q:VK} {u:Value} (I:Inv X pins σ H s) (h:CE X.stack X.prog X.w H s Q u s'):EP X pins σ Q u s':=by
 obtain ⟨v,H',os,bare,un,hok,r,q⟩:=h
 obtain ⟨hh,g,d,t,os'⟩:=s'
 obtain rfl:os'=s.os:=os
 exact ⟨v,H',I.call (h':=hh) (g':=g) (d':=d) (t':=t) (ch:=[]) un hok bare (fun b z=>absurd z (by simp)),r,q⟩
end
def zaq (sp:Sp) (dvs:List V) (E:XK) (t:TA):TE:=fun σ H Q=>t σ H fun vs H1=>sp (vs++dvs) H1 Q E
def zbc (K:PySem.W.Frag) (fd:FuncData) (ps:List Str) (ds:List Value):Prop :=
 ∀ (s:Shared) (us:List Value),K.In s.heap→(us++ds).length=ps.length→BindsTo s fd ⟨us,[]⟩ (ps.zip (us++ds))
theorem zbc.all {K:PySem.W.Frag} {fd:FuncData} {ps:List Str} (h:∀ us:List Value,us.length=ps.length→bindArgs fd ⟨us,[]⟩=pure (ps.zip us)):zbc K fd ps []:=fun s us _ hl=>by
 rw [List.append_nil] at hl ⊢
 exact .of_eq (h us hl)
def zkc (CX:CXT) (X:Cx) (E:XK):Prop:=∀ (pins:List (Addr×Obj)) (σ:St) (H:Hp) (s:Shared) (e:Value) (s':Shared),Inv X pins σ H s→CX X.stack H s E e s'→X.xe e s'
section
variable {X:Cx} {CX:CXT} {k:Nat} {f C:Addr} {fd:FuncData} {ps:List Str} {sp:Sp} {dvs:List V} {ds:List Value} {E:XK} {x m:Str} {p pos apos:Pos} {e o:Expr} {es:List Expr} {ta:TE} {t:TA}
theorem zoX {pins:List (Addr×Obj)} {σ:St} {H:Hp} {s:Shared} {Q:VK} {us:List Value} {vs:List V} (F:zbT X.prog X.w X.K X.mg X.base CX k f fd ps sp) (hr:zhL k X.A) (hb:zbc X.K fd ps ds) (hd:zbs dvs ds) (hx:zkc CX X E)
  (I:Inv X pins σ H s) (r:zbs vs us) (h:sp (vs++dvs) H Q E):wpAny (model X.prog X.w) X.A (call (.ref f) us) (EP X pins σ Q) X.xe s:=by
 have r2:zbs (vs++dvs) (us++ds):=r.append hd
 have hl:(us++ds).length=ps.length:=by rw [← r2.length];exact F.len _ _ _ _ h
 refine wpAny_call (codeAny_mono (F.run X.A X.stack s H ⟨us,[]⟩ (us++ds) (vs++dvs) Q E hr I.env0 (hb s us I.kIn hl) r2 h) fun r s' hq=>?_)
 cases r with
 | error e=>exact hx pins σ H s e s' I hq
 | ok fl =>
  cases fl with
  | ret u=>exact I.after hq
  | next=>exact False.elim hq
  | brk=>exact False.elim hq
  | cont=>exact False.elim hq
theorem zak (F:zbT X.prog X.w X.K X.mg X.base CX k f fd ps sp) (hr:zhL k X.A) (hg:Gl X x) (hm:X.mg x=some (.ref f)) (hk:PySem.W.keepIn X.K (.ref f)=true) (hb:zbc X.K fd ps ds) (hd:zbs dvs ds) (hx:zkc CX X E)
  (ha:PA X (e::es) t) (hdb:(x == ("__debug__":Str))=false:=by decide) (he:starEach (e::es) X.env=(false,eval e X.env)::starEach es X.env:=by rfl) (hpl:(backTo pos (starEach es X.env)).any (·.1)=false:=by rfl) :
  PE X (.Call (.Name x p) (e::es) [] pos) (zaq sp dvs E t):=by
 intro pins s σ H Q I h
 refine wpAny_Call_Name_kw (zkW I hg hm ?_ hdb)
 refine PySem.W.callWith_K (h₀:=X.base) I.ok.mod.kin hk (thn (ha pos pins s σ H _ I h) fun us s1 ⟨vs,H1,I1,r,q⟩=>⟨I1.kIn,?_⟩) he hpl
 exact zoX F hr hb hd hx I1 r q
end
section
variable {X:Cx} {CX:CXT} {k:Nat} {f C:Addr} {fd:FuncData} {ps ks:List Str} {sp:Sp} {E:XK} {x m:Str} {p pos apos kpos:Pos} {e o:Expr} {es:List Expr} {kws:List Keyword} {te ta:TE} {t tk:TA} {nm:Option Str}
variable {g:List Value→List Value→List Value} {gV:List V→List V→List V}
end
structure zaF (N P:List Str) (sc:Scope):Prop where
 kind:sc.kind=.function
 co:sc.isCoroutine=false
 gen:sc.isGenerator=false
 nd:N.Nodup
 pre:N.take P.length=P
 par:∀ x∈P,sc.names.lookup x=some .local∨sc.names.lookup x=some .cell
 nofree:∀ y∈sc.names,y.2≠.free
theorem zhD {kindOf:Str→Option NameKind} {x:Str}:∀ {binds:List (Str×Value)} {m:Str→Option Value},(∀ v,(x,v)∉binds)→bindL kindOf binds m x=m x
 | [],_,_=>rfl
 | (n,v)::r,m,h=>by
  unfold bindL
  rw [zhD fun w hw=>h w (List.mem_cons_of_mem _ hw)]
  split
  ·have:x≠n:=by rintro rfl;exact h v List.mem_cons_self
   simp [this]
  ·rfl
theorem zhM {kindOf:Str→Option NameKind} {x:Str}:∀ {binds:List (Str×Value)} {m:Str→Option Value},(∀ v,(x,v)∉binds)→bindC kindOf binds m x=m x
 | [],_,_=>rfl
 | (n,v)::r,m,h=>by
  unfold bindC
  rw [zhM fun w hw=>h w (List.mem_cons_of_mem _ hw)]
  split
  ·rfl
  ·have:x≠n:=by rintro rfl;exact h v List.mem_cons_self
   simp [this]
theorem zhp {kindOf:Str→Option NameKind} {x:Str} {v:Value}:∀ {P:List Str} {vs:List Value} {i:Nat} {m:Str→Option Value},P.Nodup→P[i]?=some x→vs[i]?=some v→kindOf x=some .local →
  bindL kindOf (P.zip vs) m x=some v
 | [],_,_,_,_,h,_,_=>by simp at h
 | _::_,[],_,_,_,_,h,_=>by simp at h
 | p::P,w::vs,0,m,nd,h1,h2,hk=>by
  simp at h1 h2;subst h1;subst h2
  show bindL kindOf ((p,w)::P.zip vs) m p=_
  unfold bindL
  rw [zhD fun v hv=>(List.nodup_cons.mp nd).1 (List.of_mem_zip hv).1,if_pos hk]
  simp
 | p::P,w::vs,i+1,m,nd,h1,h2,hk=>by
  show bindL kindOf ((p,w)::P.zip vs) m x=_
  unfold bindL
  exact zhp (i:=i) (List.nodup_cons.mp nd).2 (by simpa using h1) (by simpa using h2) hk
theorem zhJ {kindOf:Str→Option NameKind} {x:Str} {v:Value}:∀ {P:List Str} {vs:List Value} {i:Nat} {m:Str→Option Value},P.Nodup→P[i]?=some x→vs[i]?=some v→kindOf x≠some .local →
  bindC kindOf (P.zip vs) m x=some v
 | [],_,_,_,_,h,_,_=>by simp at h
 | _::_,[],_,_,_,_,h,_=>by simp at h
 | p::P,w::vs,0,m,nd,h1,h2,hk=>by
  simp at h1 h2;subst h1;subst h2
  show bindC kindOf ((p,w)::P.zip vs) m p=_
  unfold bindC
  rw [zhM fun v hv=>(List.nodup_cons.mp nd).1 (List.of_mem_zip hv).1,if_neg hk]
  simp
 | p::P,w::vs,i+1,m,nd,h1,h2,hk=>by
  show bindC kindOf ((p,w)::P.zip vs) m x=_
  unfold bindC
  exact zhJ (i:=i) (List.nodup_cons.mp nd).2 (by simpa using h1) (by simpa using h2) hk
def start (N:List Str) (vs:List V):St:=vs.map some++List.replicate (N.length - vs.length) none
def zoC (CX:CXT) (P:Program) (w:World) (K:PySem.W.Frag) (mg:Str→Option Value) (base:Heap) (N:List Str) (qual:Str) (scope:Scope) (f:Addr) (cd:Value) (A:Around) (outer:List Env) (s:Shared) (H:Hp) (E:XK):Cx where
 prog:=P
 w:=w
 K:=K
 mg:=mg
 base:=base
 A:=A.deeper (envOfC qual scope s.heap.objs.size f cd)
 N:=N
 s₀:=s
 H₀:=H
 env:=envOfC qual scope s.heap.objs.size f cd
 outer:=outer
 stack:=envOfC qual scope s.heap.objs.size f cd::outer
 ex:=[]
 calm:=true
 fn:=fun _=>true
 pn:=[]
 xe:=fun e s'=>wpAny (model P w) (A.deeper (envOfC qual scope s.heap.objs.size f cd)) (leaving (envOfC qual scope s.heap.objs.size f cd) e) (fun _ s''=>CX outer H s E e s'') (fun e' s''=>CX outer H s E e' s'') s'
theorem zi3 {sc:Scope} {n:Nat} {x:Str} (h:sc.names.lookup x=some .cell):∃ c,(cellsFrom n sc.names []).lookup x=some c:=by
 have q:=PySem.W.cellsFrom_some sc.names n [] (.inl h)
 exact Option.isSome_iff_exists.mp q
theorem zj9 {CX:CXT} {P:Program} {w:World} {K:PySem.W.Frag} {mg:Str→Option Value} {base:Heap} {N ps:List Str} {qual:Str} {scope:Scope} {f:Addr} {cd:Value} {A:Around} {outer:List Env} {s s1:Shared} {H:Hp} {E:XK} {us:List Value} {vs:List V}
  (S:zaF N ps scope) (hd:A.handled=none) (e0:Env0 P w K mg base A outer s H) (hl:vs.length=ps.length) (r:zbs vs us)
  (x:InCallC s s.heap.objs.size (bindL (envOfC qual scope s.heap.objs.size f cd).kindOf (ps.zip us) fun _=>none) (cellsFrom (s.heap.objs.size+1) scope.names []) (bindC (envOfC qual scope s.heap.objs.size f cd).kindOf (ps.zip us) fun _=>none) s1) :
  Inv (zoC CX P w K mg base N qual scope f cd A outer s H E) [] (start N vs) H s1:=by
 have hpl:ps.length≤N.length:=by have:=congrArg List.length S.pre;rw [List.length_take] at this;(first|lia|omega)
 obtain ⟨h1,tk,rfl,hk⟩:=x.done
 have noA:∀ b:Addr,b∉(zoC CX P w K mg base N qual scope f cd A outer s H E).ex:=fun b z=>absurd (show b∈([]:List Addr) from z) (by simp)
 refine ⟨⟨e0.mod,S.kind,rfl,rfl,Nat.le_refl _,fun y z c h1 h2=>?_,fun y hy=>?_,fun y c _ h=>?_,fun _=>hd,Around.frames_deeper e0.frames,.inr ⟨rfl,rfl⟩,fun b z=>absurd z (noA b),e0.bs,e0.bsz,fun b _ _=>noA b,fun b z=>absurd z (noA b),e0.funs,e0.frf⟩,
  rfl,e0.bare,Un.kept hk,⟨_,x.toInCall.ns,fun i y v h1 h2 h3=>?_⟩,fun y c h=>⟨_,x.cell y c h⟩,e0.hok.fresh (Nat.le_refl _),fun y c h=>?_,fun p hp=>absurd (show p∈([]:List (Addr×Obj)) from hp) (by simp),e0.hok.kept hk,?_⟩
 ·exact name_of_addr x.apart (PySem.mem_of_lookup h1) (PySem.mem_of_lookup h2)
 ·have hy:scope.names.lookup y=some .cell∨scope.names.lookup y=some .free:=hy
  rcases hy with hy | hy
  ·exact zi3 hy
  ·exact absurd rfl (S.nofree _ (PySem.mem_of_lookup hy))
 ·exact Nat.le_of_lt (x.above y c (PySem.mem_of_lookup h))
 ·have hi:i<vs.length:=by
   unfold start at h2
   by_cases hi:i<vs.length
   ·exact hi
   ·rw [List.getElem?_append_right (by simpa using hi)] at h2
    rw [List.getElem?_replicate] at h2
    split at h2 <;> cases h2
  have ha:vs[i]?=some v:=by
   unfold start at h2
   rw [List.getElem?_append_left (by simpa using hi),List.getElem?_map] at h2
   cases e:vs[i]? with
   | none=>rw [e] at h2;cases h2
   | some a=>rw [e] at h2;cases h2;rfl
  obtain ⟨u,hu,rv⟩:=r.get ha
  have hp:ps[i]?=some y:=by
   rw [← S.pre,List.getElem?_take_of_lt (by (first|lia|omega))];exact h1
  have ndP:ps.Nodup:=by rw [← S.pre];exact S.nd.sublist (List.take_sublist _ _)
  refine ⟨u,rv,?_⟩
  rcases S.par y (List.mem_of_getElem? hp) with k | k
  ·exact .inl ⟨k,zhp ndP hp hu k⟩
  ·obtain ⟨c,e⟩:=zi3 (n:=s.heap.objs.size+1) k
   refine .inr ⟨.inl k,c,e,?_⟩
   have q:=x.cell y c e
   rw [zhJ ndP hp hu (by show scope.names.lookup y≠_;rw [k];decide)] at q
   exact q
 ·exact e0.hok.fresh (Nat.le_of_lt (x.above y c (PySem.mem_of_lookup h)))
 ·unfold start
  show _=N.length
  rw [List.length_append,List.length_map,List.length_replicate]
  (first|lia|omega)
theorem fn_of {CX:CXT} {P:Program} {w:World} {K:PySem.W.Frag} {mg:Str→Option Value} {base:Heap} {k:Nat} {f:Addr} {name qual:Str} {params:Arguments} {body:List Stmt} {scope:Scope} {dV kV doc pm cdv ct oc:Value} {an od:Option Addr}
  {osl:Array (Option Value)} {N ps:List Str} {sp:Sp} (lk:K.lookup f=some ⟨oc,od,.func (PySem.W.fnOf name qual params body scope dV kV doc pm an cdv ct),osl⟩) (hcd:PySem.W.codeIn K cdv qual=true) (S:zaF N ps scope)
  (len:∀ vs H Q E,sp vs H Q E→vs.length=ps.length)
  (hbody:∀ (A:Around) (outer:List Env) (s:Shared) (H:Hp) (vs:List V) (Q:VK) (E:XK),zhL k (A.deeper (envOfC qual scope s.heap.objs.size f cdv))→sp vs H Q E →
   ∃ t,PSs (zoC CX P w K mg base N qual scope f cdv A outer s H E) body t∧t { nx:=fun _ H'=>Q .non H',rt:=Q } (start N vs) H) :
  zbT P w K mg base CX (k+1) f (PySem.W.fnOf name qual params body scope dV kV doc pm an cdv ct) ps sp:=by
 refine ⟨len,fun A outer s H args us vs Q E hr e0 hb r hsp=>?_⟩
 have hl:=len _ _ _ _ hsp
 have KX:K.In s.heap:=e0.mod.kin.keeps fun b o e=>(e0.bs b o e).1
 have lim:s.heap.NoLimit:=e0.mod.nolimit.keeps fun b o e=>(e0.bs b o e).1
 have hkind:∀ y∈ps.zip us,scope.names.lookup y.1=some .local∨(scope.names.lookup y.1=some .cell∧((cellsFrom (s.heap.objs.size+1) scope.names []).lookup y.1).isSome=true):=fun ⟨n,v⟩ hy=>by
  rcases S.par n (List.of_mem_zip hy).1 with q | q
  ·exact .inl q
  ·exact .inr ⟨q,PySem.W.cellsFrom_some _ _ _ (.inl q)⟩
 refine codeAny_call_function hr.depth (KX _ _ lk) rfl S.co S.gen rfl (PySem.W.codeRec_of KX hcd) (hb _ _ _ _ ?_)
 refine wpAny_newFunctionEnv_cells S.kind hkind fun env he s1 x=>?_
 subst he
 refine ⟨lim.keeps x.toInCall.keep,codeAny_func ?_⟩
 obtain ⟨t,ht,hq⟩:=hbody A outer s H vs Q E (hr.deeper _) hsp
 have I:Inv (zoC CX P w K mg base N qual scope f cdv A outer s H E) [] (start N vs) H s1:=zj9 S hr.hd e0 hl r x
 refine wpAny_mono (ht [] s1 (start N vs) H _ I hq) (fun fl s' hs=>?_) fun e s' hs=>hs
 have fin:∀ {σ':St} {H':Hp} {v:V} {u:Value},Inv (zoC CX P w K mg base N qual scope f cdv A outer s H E) [] σ' H' s'→zch v u→Q v H'→CE outer P w H s Q u s' :=
  fun {σ' H' v u} J rv q=>⟨v,H',J.os,J.bare,J.base,J.hok,rv,q⟩
 cases fl with
 | ret u =>
  obtain ⟨v,σ',H',J,rv,q⟩:=hs
  exact fin J rv q
 | next =>
  obtain ⟨σ',H',J,q⟩:=hs
  exact fin (v:=V.non) (u:=Value.none) J rfl q
 | brk =>
  obtain ⟨_,_,_,q⟩:=hs
  exact False.elim q
 | cont =>
  obtain ⟨_,_,_,q⟩:=hs
  exact False.elim q
end L2
namespace L2
open PySem PySem.Spec PyProof.Rows
section
variable {X:Cx} {x:Str} {p pos:Pos} {e:Expr} {es:List Expr} {t:TA} {id T:String} {r:List V→Hp→VK→Prop}
def tCB (r:List V→Hp→VK→Prop) (t:TA):TE:=fun σ H Q=>t σ H fun vs H1=>r vs H1 Q
theorem za6 (hc:zfE X (.builtin id) r) (hg:Gl X x) (hm:X.mg x=none) (hv:bootBuiltins x=some (.builtin id)) (ha:PA X (e::es) t) (hn:x≠"__name__":=by decide) (hdb:(x == ("__debug__":Str))=false:=by decide)
  (he:starEach (e::es) X.env=(false,eval e X.env)::starEach es X.env:=by rfl) (hpl:(backTo pos (starEach es X.env)).any (·.1)=false:=by rfl):PE X (.Call (.Name x p) (e::es) [] pos) (tCB r t):=by
 intro pins s σ H Q I h
 refine wpAny_Call_Name_kw (ze1 I hg hm hv ?_ hn hdb)
 exact PyProof.Rows.callWith_builtin1 (thn (ha pos pins s σ H _ I h) fun us s1 ⟨vs,H1,I1,r1,q1⟩=>hc pins s1 σ H1 vs us Q I1 r1 q1) he hpl
theorem zcA (hc:zfE X (.type T) r) (hg:Gl X x) (hm:X.mg x=none) (hv:bootBuiltins x=some (.type T)) (ha:PA X (e::es) t) (hn:x≠"__name__":=by decide) (hdb:(x == ("__debug__":Str))=false:=by decide)
  (he:starEach (e::es) X.env=(false,eval e X.env)::starEach es X.env:=by rfl) (hpl:(backTo pos (starEach es X.env)).any (·.1)=false:=by rfl):PE X (.Call (.Name x p) (e::es) [] pos) (tCB r t):=by
 intro pins s σ H Q I h
 refine wpAny_Call_Name_kw (ze1 I hg hm hv ?_ hn hdb)
 exact PyProof.Rows.callWith_type1 (thn (ha pos pins s σ H _ I h) fun us s1 ⟨vs,H1,I1,r1,q1⟩=>hc pins s1 σ H1 vs us Q I1 r1 q1) he hpl
end
end L2
namespace HT
open PySem PyProof.Rows
section
open PySem.SeqAt
open PySem.AutoSeq1 (wpAny_loadPart')
open PySem.MeetsSeq PySem.MeetsSeq2 PySem.MeetsSeq3
end
section
variable {prog:Program} {w:World} {A:Around} {E:Value→Shared→Prop} {s:Shared}
def sIx (n d:Nat):Option Int→Nat
 | none=>d
 | some v=>if v<0 then (v+(n:Int)).toNat else min v.toNat n
theorem zeO (n d:Nat):sIx n d none=d:=rfl
theorem zgu (n d k:Nat):sIx n d (some (k:Int))=min k n:=by
 show (if (k:Int)<0 then ((k:Int)+(n:Int)).toNat else min (k:Int).toNat n)=min k n
 rw [if_neg (by (first|lia|omega)),Int.toNat_natCast]
end
end HT
namespace L2
open PySem PySem.Spec PyProof.Rows
abbrev TO:=St→Hp→(Option Int→Hp→Prop)→Prop
def PO (X:Cx) (e:Option Expr) (t:TO):Prop :=
 ∀ (pins:List (Addr×Obj)) (s:Shared) (σ:St) (H:Hp) (Q:Option Int→Hp→Prop),Inv X pins σ H s→t σ H Q →
  wpAny (model X.prog X.w) X.A (evalPart e X.env) (fun u s'=>∃ o H',Inv X pins σ H' s'∧IsPart u o∧Q o H') X.xe s
def zcb:TO:=fun _ H Q=>Q none H
def zfd (t:TE):TO:=fun σ H Q=>t σ H fun x H1=>∃ i,x=.int i∧Q (some i) H1
section
variable {X:Cx} {e:Expr} {te:TE} {lo hi:Option Expr} {tl th:TO} {pos p2:Pos}
theorem zdh:PO X none zcb:=by
 intro pins s σ H Q I h
 rw [evalPart_none]
 exact wpAny_pure ⟨none,H,I,.none,h⟩
theorem zc3 (h:PE X e te):PO X (some e) (zfd te):=by
 intro pins s σ H Q I hw
 rw [evalPart_some]
 refine thn (h pins s σ H _ I hw) fun u s1 hQ'=>?_
 obtain ⟨x,H1,I1,r1,q1⟩:=hQ'
 obtain ⟨i,rfl,q⟩:=q1
 obtain ⟨t,rfl⟩:=r1
 exact ⟨some i,H1,I1,.int i t,q⟩
def SlR (X:Cx) (r:V→Option Int→Option Int→Hp→VK→Prop):Prop :=
 ∀ (pins:List (Addr×Obj)) (s:Shared) (σ:St) (H:Hp) (x:V) (v vl vu:Value) (lo hi:Option Int) (sl:Addr) (Q:VK),Inv X pins σ H s→zch x v→s.heap.IsSliceOf sl vl vu .none→IsPart vl lo→IsPart vu hi→r x lo hi H Q →
  ∃ T id,typeLookup (.type T) "__getitem__"=pure (some (.builtin id))∧s.TypeIs v T∧wpAny (model X.prog X.w) X.A (getItem v (.ref sl)) (EP X pins σ Q) X.xe s
def tSl (r:V→Option Int→Option Int→Hp→VK→Prop) (te:TE) (tl th:TO):TE:=fun σ H Q=>te σ H fun x H1=>tl σ H1 fun l H2=>th σ H2 fun u H3=>r x l u H3 Q
theorem zco {r:V→Option Int→Option Int→Hp→VK→Prop} (hr:SlR X r) (he:PE X e te) (hl:PO X lo tl) (hu:PO X hi th):PE X (.Subscript e (.Slice lo hi none p2) pos) (tSl r te tl th):=by
 intro pins s σ H Q I h
 refine Subscript_ (thn (he pins s σ H _ I h) fun v s1 hQ'=>?_)
 obtain ⟨x,H1,I1,r1,q1⟩:=hQ'
 refine wpAny_Slice (thn (hl pins s1 σ H1 _ I1 q1) fun vl s2 ⟨l,H2,I2,pl,q2⟩=>thn (hu pins s2 σ H2 _ I2 q2) fun vu s3 hQ'=>?_)
 obtain ⟨u,H3,I3,pu,q3⟩:=hQ'
 rw [evalPart_none]
 refine wpAny_pure ?_
 have I4:Inv X pins σ H3 { s3 with heap:=s3.heap.push { cls:=.type "slice",data:=.fields #[vl,vu,.none] } }:=I3.kept (t':=s3.toks) fun b ob q=>Heap.get?_push_of_some _ q
 obtain ⟨T,id,hT,ht,hg⟩:=hr pins { s3 with heap:=s3.heap.push { cls:=.type "slice",data:=.fields #[vl,vu,.none] } } σ H3 x v vl vu l u s3.heap.objs.size Q I4 r1 (Heap.IsSliceOf.new ..) pl pu q3
 show wpAny (model X.prog X.w) X.A (subscriptTail e (.Slice lo hi none p2) v (.ref s3.heap.objs.size)) (EP X pins σ Q) X.xe { s3 with heap:=s3.heap.push { cls:=.type "slice",data:=.fields #[vl,vu,.none] } }
 exact tail_any (ops:=[.ref s3.heap.objs.size,v]) ht hT hg (by with_unfolding_all rfl)
def zed (xs:List V) (lo hi:Option Int):List V:=(xs.drop (HT.sIx xs.length 0 lo)).take (HT.sIx xs.length xs.length hi - HT.sIx xs.length 0 lo)
theorem zhP (xs:List V) (lo hi:Option Int):(zed xs lo hi).length≤xs.length:=by
 unfold zed
 rw [List.length_take,List.length_drop]
 (first|lia|omega)
end
end L2
namespace L2
open PySem PySem.Spec PyProof.Rows
def ixN (n:Nat) (i:Int):Option Nat:=if 0≤i then (if i<n then some i.toNat else none) else if -(n:Int)≤i then some (i+n).toNat else none
def atI {α:Type} (xs:List α) (i:Int):Option α:=(ixN xs.length i).bind fun j=>xs[j]?
theorem zjJ {n:Nat} {i:Int} {j:Nat} (h:ixN n i=some j):seqIndex? i n=some j∧j<n∧-(n:Int)≤i∧i<n:=by
 unfold ixN at h
 by_cases h0:0≤i
 ·rw [if_pos h0] at h
  by_cases h1:i<n
  ·rw [if_pos h1] at h
   have e:i.toNat=j:=Option.some.inj h
   exact ⟨by rw [seqIndex_of h0 h1,e],by (first|lia|omega),by (first|lia|omega),h1⟩
  ·rw [if_neg h1] at h;cases h
 ·rw [if_neg h0] at h
  by_cases h1:-(n:Int)≤i
  ·rw [if_pos h1] at h
   have e:(i+n).toNat=j:=Option.some.inj h
   exact ⟨by rw [seqIndex_neg (by (first|lia|omega)) h1,e],by (first|lia|omega),h1,by (first|lia|omega)⟩
  ·rw [if_neg h1] at h;cases h
theorem zjD {α:Type} {xs:List α} {i:Int} {v:α} (h:atI xs i=some v):∃ j,seqIndex? i xs.length=some j∧xs[j]?=some v∧j<xs.length∧-(xs.length:Int)≤i∧i<xs.length:=by
 unfold atI at h
 cases e:ixN xs.length i with
 | none=>rw [e] at h;cases h
 | some j =>
  rw [e] at h
  obtain ⟨h1,h2,h3,h4⟩:=zjJ e
  exact ⟨j,h1,h,h2,h3,h4⟩
theorem zgs {α:Type} {xs:List α} {j:Nat} {v:α} (h:xs[j]?=some v):atI xs (j:Int)=some v:=by
 have hj:j<xs.length:=(List.getElem?_eq_some_iff.mp h).1
 have e:ixN xs.length (j:Int)=some j:=by
  unfold ixN
  rw [if_pos (by (first|lia|omega)),if_pos (by (first|lia|omega))];simp
 unfold atI;rw [e];exact h
theorem zl5 {α:Type} (xs:List α) (v:α):atI (xs++[v]) (-1)=some v:=by
 have hl:(xs++[v]).length=xs.length+1:=by simp
 have e:ixN (xs++[v]).length (-1)=some xs.length:=by
  unfold ixN
  rw [hl,if_neg (by decide),if_pos (by (first|lia|omega))]
  congr 1
  (first|lia|omega)
 unfold atI
 rw [e]
 show (xs++[v])[xs.length]?=some v
 simp
def znZ (b:Expr):Prop:=∀ o i,subscripted b false o i=operate [o,i] (getItem o i)
def IxR (X:Cx) (r:R2):Prop :=
 ∀ (value slice:Expr) (pins:List (Addr×Obj)) (s:Shared) (σ:St) (H:Hp) (x y:V) (v u:Value) (Q:VK),Inv X pins σ H s→zch x v→zch y u→r x y H Q →
  subscripted slice false v u=operate [v,u] (getItem v u)→wpAny (model X.prog X.w) X.A (subscriptTail value slice v u) (EP X pins σ Q) X.xe s
def MtR (X:Cx) (id:String) (r:V→List V→Hp→VK→Prop):Prop :=
 ∀ (pins:List (Addr×Obj)) (s:Shared) (σ:St) (H:Hp) (x:V) (xs:List V) (v:Value) (us:List Value) (Q:VK),Inv X pins σ H s→zch x v→zbs xs us→r x xs H Q →
  wpAny (model X.prog X.w) X.A (call (.builtin id) (v::us)) (EP X pins σ Q) X.xe s
section
variable {X:Cx} {a b:Expr} {ta tb:TE} {pos:Pos}
theorem zaN {r:R2} (hr:IxR X r) (ha:PE X a ta) (hb:PE X b tb) (hs:znZ b):PE X (.Subscript a b pos) (tOp r ta tb):=by
 intro pins s σ H Q I h
 exact Subscript_ (binT ha hb I h fun v u s2 x y H2 I2 rx ry q=>hr a b pins s2 σ H2 x y v u Q I2 rx ry q (hs _ _))
def zc1 (K:PySem.W.Frag):R2:=fun x y H Q=>∃ p xs i v,x=.ref p∧y=.int i∧SqL K H p xs∧atI xs i=some v∧Q v H
def zbl (K:PySem.W.Frag):R2:=fun x y H Q=>∃ p xs i v,x=.ref p∧y=.int i∧SqT K H p xs∧atI xs i=some v∧Q v H
theorem zbw:IxR X (zc1 X.K):=by
 intro value slice pins s σ H x y v u Q I rx ry h hs
 obtain ⟨p,xs,i,z,rfl,rfl,hq,he,q⟩:=h
 cases rx
 obtain ⟨t,rfl⟩:=ry
 obtain ⟨its,r,pl,hz⟩:=I.list hq
 obtain ⟨j,h1,h2,h3,h4,h5⟩:=zjD he
 obtain ⟨w,ew,rw'⟩:=r.get h2
 have hl:=r.length
 have hn:=zhg
 have fin:EP X pins σ Q w s:=⟨z,H,I,rw',q⟩
 by_cases h0:0≤i
 ·have hj:i.toNat=j:=by
   rw [seqIndex_of h0 h5] at h1
   exact Option.some.inj h1
  exact item_listR pl.isList h0 (by (first|lia|omega)) (by rw [hj];simpa using ew) fin hs
 ·have hj:(i+(its.toArray.size:Int)).toNat=j:=by
   rw [seqIndex_neg (by (first|lia|omega)) h4] at h1
   rw [List.size_toArray,← hl]
   exact Option.some.inj h1
  exact subscriptTail_builtinR (x:=w) pl.isList.typeIs slot_list_getitem.lookup
   (wpAny_getItem_list_neg (Q:=fun r s'=>r=w∧EP X pins σ Q r s') pl.isList (by (first|lia|omega)) (by rw [List.size_toArray] <;> (first|lia|omega)) (by (first|lia|omega)) (by rw [hj];simpa using ew) ⟨rfl,fin⟩) hs
theorem zaG:IxR X (zbl X.K):=by
 intro value slice pins s σ H x y v u Q I rx ry h hs
 obtain ⟨p,xs,i,z,rfl,rfl,hq,he,q⟩:=h
 cases rx
 obtain ⟨t,rfl⟩:=ry
 obtain ⟨its,r,pl,hz⟩:=I.tuple hq
 obtain ⟨j,h1,h2,h3,h4,h5⟩:=zjD he
 obtain ⟨w,ew,rw'⟩:=r.get h2
 have hl:=r.length
 have hn:=zhg
 have fin:EP X pins σ Q w s:=⟨z,H,I,rw',q⟩
 exact subscriptTail_builtinR (x:=w) pl.typeIs slot_tuple_getitem.lookup
  (getItem_tuple (j:=j) (Q:=fun r s'=>r=w∧EP X pins σ Q r s') pl (by (first|lia|omega)) (by (first|lia|omega)) (by rw [List.size_toArray,← hl];exact h1) (by simpa using ew) ⟨rfl,fin⟩) hs
theorem zje (its:List Value) (n j:Nat) (u:Value):Obj.mapSeq (·.setIfInBounds j u) { cls:=.type "list",data:=.seq its.toArray n }={ cls:=.type "list",data:=.seq (its.set j u).toArray n }:=by
 simp [Obj.mapSeq]
theorem Inv.lst {pins:List (Addr×Obj)} {σ:St} {H:Hp} {s:Shared} {p:Addr} {xs:List V} (I:Inv X pins σ H s) (h:H p=some (.lst xs)) :
  ∃ (its:List Value) (n:Nat),zbs xs its∧s.heap.get? p=some { cls:=.type "list",data:=.seq its.toArray n }∧xs.length≤sizeLine:=by
 obtain ⟨z,its,n,r,e⟩:=I.hok p _ h
 exact ⟨its,n,r,e,z⟩
theorem Inv.lstUpd {pins:List (Addr×Obj)} {σ:St} {H:Hp} {s:Shared} {p:Addr} {xs ys:List V} {its its':List Value} {n n':Nat} {f:Obj→Obj} (I:Inv X pins σ H s) (h:H p=some (.lst xs))
  (ho:s.heap.get? p=some { cls:=.type "list",data:=.seq its.toArray n }) (hf:f { cls:=.type "list",data:=.seq its.toArray n }={ cls:=.type "list",data:=.seq its'.toArray n' }) (r:zbs ys its') (hz:ys.length≤sizeLine) (t:Nat) :
  Inv X pins σ (upd H p (.lst ys)) { s with heap:=s.heap.update p f,toks:=t }:=by
 have e:(s.heap.update p f).get? p=some { cls:=.type "list",data:=.seq its'.toArray n' }:=by
  rw [Heap.get?_update_self f ho (by rw [hf] <;> rfl),hf]
 refine I.write (x:=p) (e:=p) (by rw [h];trivial) (.inl rfl) (fun b u hb q=>(Heap.get?_update_other _ _ (Ne.symm hb)).trans q) ⟨_,e⟩ ?_
 exact ⟨hz,its',n',r,e⟩
def zkZ:V→V→V→Hp→(Hp→Prop)→Prop:=fun o i v H Q=>∃ p xs k j,o=.ref p∧i=.int k∧H p=some (.lst xs)∧ixN xs.length k=some j∧Q (upd H p (.lst (xs.set j v)))
theorem ziW:PSet X zkZ:=by
 intro pins s σ H o i v ov iv u Q I ro ri rv h
 obtain ⟨p,xs,k,j,rfl,rfl,hp,hj,q⟩:=h
 cases ro
 obtain ⟨t,rfl⟩:=ri
 obtain ⟨its,n,r,ho,hz⟩:=I.lst hp
 obtain ⟨h1,h2,h3,h4⟩:=zjJ hj
 have hl:=r.length
 have hn:=zhg
 have I':Inv X pins σ (upd H p (.lst (xs.set j v))) { s with heap:=s.heap.update p (Obj.mapSeq (·.setIfInBounds j u)) } :=
  I.lstUpd hp ho (zje its n j u) (r.set rv j) (by rw [List.length_set];exact hz) s.toks
 by_cases h0:0≤k
 ·have hk:k.toNat=j:=by
   rw [seqIndex_of h0 h4] at h1
   exact Option.some.inj h1
  exact PySem.W.ki_setAt ho h0 (by (first|lia|omega)) (by rw [List.size_toArray,← hl];exact h4) (by rw [hk];exact ⟨_,I',q⟩)
 ·have hk:(k+(its.toArray.size:Int)).toNat=j:=by
   rw [seqIndex_neg (by (first|lia|omega)) h3] at h1
   rw [List.size_toArray,← hl]
   exact Option.some.inj h1
  exact PySem.W.ki_setBack ho (by (first|lia|omega)) (by rw [List.size_toArray,← hl];exact h3) (by (first|lia|omega)) (by rw [hk];exact ⟨_,I',q⟩)
theorem zhe (lo hi:Option Int) (n:Nat):(sliceBounds lo hi none n).1=((HT.sIx n 0 lo:Nat):Int)∧(sliceBounds lo hi none n).2.1=((HT.sIx n n hi:Nat):Int)∧(sliceBounds lo hi none n).2.2=1:=by
 refine ⟨?_,?_,rfl⟩
 ·cases lo with
  | none=>simp [sliceBounds,HT.sIx]
  | some i =>
   simp only [sliceBounds,HT.sIx,Option.getD_none,show (1:Int) > 0 by decide,if_true]
   by_cases h:i<0
   ·simp only [h,if_true] <;> (first|lia|omega)
   ·simp only [h,if_false] <;> (first|lia|omega)
 ·cases hi with
  | none=>simp [sliceBounds,HT.sIx]
  | some i =>
   simp only [sliceBounds,HT.sIx,Option.getD_none,show (1:Int) > 0 by decide,if_true]
   by_cases h:i<0
   ·simp only [h,if_true] <;> (first|lia|omega)
   ·simp only [h,if_false] <;> (first|lia|omega)
theorem zgb (its:List Value) (lo hi:Option Int):slicePick its.toArray lo hi none=((its.drop (HT.sIx its.length 0 lo)).take (HT.sIx its.length its.length hi - HT.sIx its.length 0 lo)).toArray:=by
 obtain ⟨h1,h2,h3⟩:=zhe lo hi its.toArray.size
 unfold slicePick
 rw [h1,h2,h3]
 simp only [sliceRange_one,pick_run,List.size_toArray] <;> rfl
def zj5 (K:PySem.W.Frag):V→Option Int→Option Int→Hp→VK→Prop:=fun x lo hi H Q=>∃ a xs,x=.ref a∧SqL K H a xs∧∀ p,H p=none→Q (.ref p) (upd H p (.lst (zed xs lo hi)))
theorem zdc:SlR X (zj5 X.K):=by
 intro pins s σ H x v vl vu lo hi sl Q I rx hs pl pu h
 obtain ⟨a,xs,rfl,hx,q⟩:=h
 cases rx
 obtain ⟨its,r,ht,hz⟩:=I.list hx
 have hlen:=r.length
 refine ⟨"list",_,slot_list_getitem.lookup,ht.isList.typeIs,?_⟩
 refine wpAny_getItem_list_slice ht.isList hs pl pu .none (by simp) ?_ (by rw [List.size_toArray] <;> (first|lia|omega))
 rw [zgb,← hlen]
 refine ⟨.ref s.heap.objs.size,_,I.laid (t':=s.toks) (o:=.lst (zed xs lo hi)) (fun b ob q=>Heap.get?_push_of_some _ q) (Nat.le_refl _) ?_,rfl,q _ (I.hok.fresh (Nat.le_refl _))⟩
 exact ⟨Nat.le_trans (zhP xs lo hi) hz,_,0,(r.drop (HT.sIx xs.length 0 lo)).take (HT.sIx xs.length xs.length hi - HT.sIx xs.length 0 lo),Heap.get?_push_size _ rfl⟩
theorem zbH:zfE X (.builtin "len") (fun xs H Q=>∃ p ys,xs=[.ref p]∧(SqL X.K H p ys∨SqT X.K H p ys)∧Q (.int ys.length) H):=by
 intro pins s σ H xs us Q I r h
 obtain ⟨p,ys,rfl,hq,q⟩:=h
 obtain ⟨u,rfl,rx⟩:=zlW r
 cases rx
 have hn:=zhg
 rcases hq with hq | hq
 ·obtain ⟨its,r',pl,hz⟩:=I.list hq
  have hlen:=r'.length
  exact Calls.call_len_list pl.isList (by simp only [List.size_toArray] <;> (first|lia|omega)) ⟨.int ys.length,H,I.tok _,⟨s.toks+1,by rw [List.size_toArray,hlen]⟩,q⟩
 ·obtain ⟨its,r',pl,hz⟩:=I.tuple hq
  have hlen:=r'.length
  exact len_tuple pl (by simp only [List.size_toArray] <;> (first|lia|omega)) ⟨.int ys.length,H,I.tok _,⟨s.toks+1,by rw [List.size_toArray,hlen]⟩,q⟩
theorem zbF:zfE X (.type "list") (fun xs H Q=>∃ p ys,xs=[.ref p]∧(SqL X.K H p ys∨SqT X.K H p ys)∧∀ l,H l=none→Q (.ref l) (upd H l (.lst ys))):=by
 intro pins s σ H xs us Q I r h
 obtain ⟨p,ys,rfl,hq,q⟩:=h
 obtain ⟨u,rfl,rx⟩:=zlW r
 cases rx
 have fin:∀ (its:List Value),zbs ys its→ys.length≤sizeLine→∀ (h':Heap) (c':Nat),(∀ b o',s.heap.get? b=some o'→h'.get? b=some o') →
   h'.get? s.heap.objs.size=some { cls:=.type "list",dict:=none,data:=.seq its.toArray c',slots:=#[] }→EP X pins σ Q (.ref s.heap.objs.size) { s with heap:=h' }:=fun its r' hz h' c' kp e =>
  ⟨.ref s.heap.objs.size,_,I.laid (t':=s.toks) kp (Nat.le_refl _) (show zci X.prog X.w _ h' _ (.lst ys) from ⟨hz,its,c',r',e⟩),rfl,q _ (I.hok.fresh (Nat.le_refl _))⟩
 rcases hq with hq | hq
 ·obtain ⟨its,r',pl,hz⟩:=I.list hq
  have hlen:=r'.length
  obtain ⟨o,ho,hc,n,hd⟩:=pl.isList
  exact call_list_seq p (.inl rfl) ho hc hd (fun h' c' kp e=>fin its r' hz h' c' kp e) (by simp only [List.size_toArray] <;> (first|lia|omega))
 ·obtain ⟨its,r',pl,hz⟩:=I.tuple hq
  have hlen:=r'.length
  obtain ⟨o,ho,hc,n,hd⟩:=pl
  exact call_list_seq p (.inr rfl) ho hc hd (fun h' c' kp e=>fin its r' hz h' c' kp e) (by simp only [List.size_toArray] <;> (first|lia|omega))
def tyV (K:PySem.W.Frag) (T:String) (x:V) (H:Hp):Prop:=match x with
 | .str _=>T="str"
 | .int _=>T="int"
 | .ref p=>(T="list"∧∃ xs,SqL K H p xs)∨(T="tuple"∧∃ o,K.lookup p=some o∧o.cls=.type "tuple"∧o.dict=none) ∨
   (T="dict"∧((∃ kvs,H p=some (.dK kvs))∨∃ kvs,H p=some (.dT kvs)))∨(T="set"∧∃ S n,H p=some (.set S n))
 | _=>False
theorem zqU {pins:List (Addr×Obj)} {σ:St} {H:Hp} {s:Shared} {T:String} {x:V} {v:Value} (I:Inv X pins σ H s) (r:zch x v) (ty:tyV X.K T x H) :
  s.TypeIs v T∧∀ a,v=.ref a→∃ ob,s.heap.get? a=some ob∧ob.dict=none:=by
 cases x with
 | str z =>
  obtain ⟨t,rfl⟩:=r
  cases (show T="str" from ty)
  exact ⟨typeIs_str s z t,fun _ e=>nomatch e⟩
 | int i =>
  obtain ⟨t,rfl⟩:=r
  cases (show T="int" from ty)
  exact ⟨typeIs_int s i t,fun _ e=>nomatch e⟩
 | ref p =>
  cases r
  rcases ty with ⟨rfl,xs,hq⟩ | ⟨rfl,o,hk,hc,hd⟩ | ⟨rfl,hk⟩ | ⟨rfl,S,n,hk⟩
  ·obtain ⟨its,_,pl,_⟩:=I.list hq
   refine ⟨pl.isList.typeIs,fun a e=>?_⟩
   cases e
   obtain ⟨o,n,e,c,hd,_⟩:=pl
   exact ⟨o,e,hd⟩
  ·refine ⟨⟨o,I.kIn p o hk,hc⟩,fun a e=>?_⟩
   cases e
   exact ⟨o,I.kIn _ o hk,hd⟩
  ·have z:∃ o,s.heap.get? p=some o∧o.ExactDict:=by
    rcases hk with ⟨kvs,hk⟩ | ⟨kvs,hk⟩
    ·obtain ⟨_,_,_,_,o,_,_,e,ex,_⟩:=I.hok p _ hk
     exact ⟨o,e,ex⟩
    ·obtain ⟨_,_,_,_,o,_,_,e,ex,_⟩:=I.hok p _ hk
     exact ⟨o,e,ex⟩
   obtain ⟨o,e,ex⟩:=z
   refine ⟨⟨o,e,ex.1⟩,fun a e2=>?_⟩
   cases e2
   exact ⟨o,e,ex.2.1⟩
  ·obtain ⟨o,_,_,_,e,ex,_⟩:=I.hok p _ hk
   refine ⟨⟨o,e,ex.1⟩,fun a e2=>?_⟩
   cases e2
   exact ⟨o,e,ex.2.1⟩
 | _=>exact False.elim ty
def tBM (K:PySem.W.Frag) (T:String) (r:V→List V→Hp→VK→Prop) (to:TE) (t:TA):TE:=fun σ H Q=>to σ H fun x H1=>tyV K T x H1∧t σ H1 fun xs H2=>r x xs H2 Q
variable {o e:Expr} {es:List Expr} {to:TE} {t:TA} {name:Str} {apos cpos:Pos} {T id:String} {r:V→List V→Hp→VK→Prop}
theorem zl6 (pa:PlainAttrs T) (slot:Slot T name id) (hty:typeOf (.builtin id)=pure (.type "method_descriptor")) (hm:MtR X id r) (ho:PE X o to) (ha:PA X (e::es) t)
  (hbase:attributeBase o name X.env (eval o X.env)=eval o X.env:=by rfl)
  (hfew:((backTo cpos (starEach (e::es) X.env)).all (fun x=>!x.1)&&(backToKw cpos (keywordEach [] X.env)).all (fun x=>x.1.isSome)
   && decide ((e::es).length+([]:List Keyword).length+(if ([]:List Keyword).isEmpty then 0 else 1)<30))=true:=by rfl)
  (hline:(apos.endLine == cpos.line)=true:=by rfl) (hs:starEach (e::es) X.env=(false,eval e X.env)::starEach es X.env:=by rfl) (hplain:(backTo cpos (starEach es X.env)).any (·.1)=false:=by rfl) :
  PE X (.Call (.Attribute o name apos) (e::es) [] cpos) (tBM X.K T r to t):=by
 intro pins s σ H Q I h
 refine wpAny_Call_method_late hbase hfew hline rfl (thn (ho pins s σ H _ I h) fun v s1 hQ'=>?_)
 obtain ⟨x,H1,I1,r1,ty,q1⟩:=hQ'
 obtain ⟨h1,h2⟩:=zqU I1 r1 ty
 refine ⟨T,id,pa,slot,hty,h1,h2,?_⟩
 have hA:=ha cpos pins s1 σ H1 _ I1 q1
 rw [hs] at hA ⊢
 refine Calls.callWith_builtin (by show (false || (backTo cpos (starEach es X.env)).any (·.1))=false;rw [hplain] <;> rfl) (Calls.evalArgs_plain ?_)
 exact thn hA fun us s2 ⟨vs,H2,I2,r2,q2⟩=>hm pins s2 σ H2 x vs v us Q I2 r1 r2 q2
end
end L2
namespace L2
open PySem PySem.Spec PyProof.Rows
def MtM (X:Cx) (id:String) (r:V→List V→Hp→VK→Prop):Prop :=
 ∀ (pins:List (Addr×Obj)) (s:Shared) (σ:St) (H:Hp) (x:V) (xs:List V) (v:Value) (us:List Value) (Q:VK),Inv X pins σ H s→zch x v→zbs xs us→r x xs H Q →
  wpAny (model X.prog X.w) X.A (call (.builtin id) (v::us)) (EP X pins σ Q) X.xe s
theorem zbs.one:∀ {x:V} {us:List Value},zbs [x] us→∃ u,us=[u]∧zch x u
 | _,_,.cons r .nil=>⟨_,rfl,r⟩
theorem zbs.rep {xs:List V} {us:List Value} (h:zbs xs us):∀ k:Nat,zbs (List.replicate k xs).flatten (List.replicate k us).flatten
 | 0=>.nil
 | k+1=>by
  rw [List.replicate_succ,List.replicate_succ,List.flatten_cons,List.flatten_cons]
  exact zbs.append h (zbs.rep h k)
theorem zgV (its:List Value):∀ (k:Nat) (acc:List Value),
  List.foldl (fun x1 x2=>x1++x2) acc.toArray (List.replicate k its.toArray)=(acc++(List.replicate k its).flatten).toArray
 | 0,acc=>by simp
 | k+1,acc=>by
  have e:acc.toArray++its.toArray=(acc++its).toArray:=by simp
  have e2:(acc++its)++(List.replicate k its).flatten=acc++(List.replicate (k+1) its).flatten:=by
   rw [List.replicate_succ,List.flatten_cons,List.append_assoc]
  rw [← e2,← zgV its k (acc++its),← e,List.replicate_succ,List.foldl_cons]
section
variable {X:Cx} {pins:List (Addr×Obj)} {σ:St} {H:Hp} {s:Shared} {l b:Addr} {xs ys zs:List V}
theorem Inv.lset {its its':List Value} {n:Nat} {f:Array Value→Array Value} {t':Nat} (I:Inv X pins σ H s) (hH:H l=some (.lst xs))
  (e:s.heap.get? l=some { cls:=.type "list",data:=.seq its.toArray n }) (hf:f its.toArray=its'.toArray) (hv:zbs ys its') (hz:ys.length≤sizeLine) :
  Inv X pins σ (upd H l (.lst ys)) { s with heap:=s.heap.update l (Obj.mapSeq f),toks:=t' }:=by
 have q:=PySem.IsL.update e f
 rw [hf] at q
 refine I.write (x:=l) (e:=l) (by rw [hH];exact trivial) (.inl rfl) (fun b' u hb hu=>(Heap.get?_update_other s.heap (Obj.mapSeq f) (Ne.symm hb)).trans hu) ⟨_,q⟩ ?_
 exact ⟨hz,its',_,hv,q⟩
theorem Inv.lnew {its:List Value} {t':Nat} (I:Inv X pins σ H s) (hv:zbs ys its) (hz:ys.length≤sizeLine) :
  Inv X pins σ (upd H s.heap.objs.size (.lst ys)) { s with heap:=s.heap.push { cls:=.type "list",data:=.seq its.toArray },toks:=t' } :=
 I.laid (fun _ _ q=>Heap.get?_push_of_some _ q) (Nat.le_refl _) ⟨hz,its,0,hv,Heap.get?_push_size _ rfl⟩
theorem Inv.fresh (I:Inv X pins σ H s):H s.heap.objs.size=none:=I.hok.fresh (Nat.le_refl _)
theorem Inv.lstM (I:Inv X pins σ H s) (hH:H l=some (.lst xs)):xs.length≤sizeLine∧∃ (its:List Value) (n:Nat),zbs xs its∧xs.length=its.length∧s.heap.get? l=some { cls:=.type "list",data:=.seq its.toArray n }:=by
 obtain ⟨z,its,n,r,e⟩:=I.hok l _ hH
 exact ⟨z,its,n,r,r.length,e⟩
theorem zlj {n:Nat} (h:n≤sizeLine):Builtin.List.listTooLong n=false:=by
 unfold Builtin.List.listTooLong
 exact decide_eq_false (by (first|lia|omega))
end
section
variable {X:Cx}
def zbo:V→List V→Hp→VK→Prop:=fun x vs H Q=>∃ l xs y,x=.ref l∧vs=[y]∧H l=some (.lst xs)∧xs.length<sizeLine∧Q .non (upd H l (.lst (xs++[y])))
theorem zdZ:MtM X "list.append" zbo:=by
 intro pins s σ H x vs v us Q I rx rv h
 obtain ⟨l,xs,y,rfl,rfl,hH,hz,q⟩:=h
 cases rx
 obtain ⟨u,rfl,ru⟩:=rv.one
 obtain ⟨z,its,n,r,hl,e⟩:=I.lstM hH
 refine call_meets F.slot_list_append ⟨_,e,rfl⟩ F.entry_list_append (F.args_list_append_2 _ _) (PySem.list_append l its.toArray n u (by rw [List.size_toArray];(first|lia|omega))) ⟨e,?_⟩
 refine ⟨.non,_,I.lset (its':=its++[u]) hH e (by simp) (r.append (.cons ru .nil)) ?_,rfl,q⟩
 rw [List.length_append,List.length_singleton]
 (first|lia|omega)
def zjx:R2:=fun x y H Q=>∃ l b xs zs,x=.ref l∧y=.ref b∧H l=some (.lst xs)∧H b=some (.lst zs)∧xs.length+zs.length≤sizeLine∧∀ p,H p=none→Q (.ref p) (upd H p (.lst (xs++zs)))
theorem zeD:OpR X (binaryOp .Add) zjx:=by
 intro pins s σ H x y v u Q I rx ry h
 obtain ⟨l,b,xs,zs,rfl,rfl,hH,hB,hz,q⟩:=h
 cases rx
 cases ry
 obtain ⟨z,its,n,r,hl,e⟩:=I.lstM hH
 obtain ⟨z2,its2,n2,r2,hl2,e2⟩:=I.lstM hB
 refine PySem.P.add_list e e2 ?_ (by rw [List.size_toArray,List.size_toArray];(first|lia|omega))
 have ea:its.toArray++its2.toArray=(its++its2).toArray:=by simp
 rw [ea]
 exact ⟨.ref _,_,I.lnew (t':=s.toks) (r.append r2) (by rw [List.length_append];(first|lia|omega)),rfl,q _ I.fresh⟩
def rRep:R2:=fun x y H Q=>∃ l k xs,x=.ref l∧y=.int k∧H l=some (.lst xs)∧-(2 ^ 63)≤k∧k<2 ^ 63∧xs.length*k.toNat≤sizeLine ∧
 ∀ p,H p=none→Q (.ref p) (upd H p (.lst (List.replicate k.toNat xs).flatten))
theorem znv {α:Type} (xs:List α) (k:Nat):(List.replicate k xs).flatten.length=k*xs.length:=by
 induction k with
 | zero=>simp
 | succ k ih=>rw [List.replicate_succ,List.flatten_cons,List.length_append,ih,Nat.succ_mul,Nat.add_comm]
theorem zqB:OpR X (binaryOp .Mult) rRep:=by
 intro pins s σ H x y v u Q I rx ry h
 obtain ⟨l,k,xs,rfl,rfl,hH,h1,h2,hz,q⟩:=h
 cases rx
 obtain ⟨t,rfl⟩:=ry
 obtain ⟨z,its,n,r,hl,e⟩:=I.lstM hH
 have hlen:its.toArray.size*k.toNat≤sizeLine:=by rw [List.size_toArray,← hl];exact hz
 have hcap:¬ its.toArray.size*k.toNat > (2 ^ 63 - 1) / 8:=by
  have:(sizeLine:Nat)≤(2 ^ 63 - 1) / 8:=by decide
  (first|lia|omega)
 have hfit:¬ (!Builtin.List.listFitsIndex k)=true:=by
  rw [fitsIndex_both h1 h2]
  exact Bool.false_ne_true
 have hlong:¬ Builtin.List.listTooLong (its.toArray.size*k.toNat)=true:=by
  rw [zlj hlen]
  exact Bool.false_ne_true
 have hnew:List.foldl (fun x1 x2=>x1++x2) #[] (List.replicate (if its.toArray.isEmpty=true then 0 else k.toNat) its.toArray)=(List.replicate k.toNat its).flatten.toArray:=by
  have f0:∀ m:Nat,List.foldl (fun x1 x2=>x1++x2) #[] (List.replicate m its.toArray)=(List.replicate m its).flatten.toArray:=fun m=>by
   have:=zgV its m []
   rw [List.nil_append] at this
   exact this
  rw [f0]
  cases its with
  | nil=>simp
  | cons a r'=>rw [if_neg (by simp)]
 refine wpAny_binaryOp_repeat_ref (T:="list") (U:="int") (by decide) ⟨_,e,rfl⟩ (fun s'=>typeIs_int s' k t) noFill_list_mul F.fills_int_mul F.slot_int_rmul repeat_list F.slot_int_index.lookup
  (call_meets F.slot_int_rmul (typeIs_int s k t) F.entry_int_rmul (F.args_int_rmul_2 _ _) (int___rmul___int_list k t l its.toArray n)
   ⟨e,rfl,⟨_,e,rfl⟩,call_meets F.slot_list_mul ⟨_,e,rfl⟩ F.entry_list_mul (F.args_list_mul_2 _ _) (AutoListH.list___mul___list_int_3 l its.toArray n k t hfit hcap hlong) ⟨e,?_⟩⟩)
 rw [hnew]
 exact ⟨.ref _,_,I.lnew (t':=s.toks) (r.rep k.toNat) (by rw [znv,Nat.mul_comm];exact hz),rfl,q _ I.fresh⟩
end
section
variable {prog:Program} {w:World} {A:Around} {E:Value→Shared→Prop} {s:Shared}
end
section
variable {X:Cx}
end
end L2
namespace Att
open PySem PySem.W PySem.Calls PyProof.Rows
theorem zfm {P:Params} {h:Heap}:∀ (ns:List Int) (vs:List Value),WellAll P h vs (ns.map WData.int)→IntsAre vs ns:=by
 intro ns
 induction ns with
 | nil =>
  intro vs w
  rw [List.map_nil] at w
  cases w
  exact .nil
 | cons n ns ih =>
  intro vs w
  rw [List.map_cons] at w
  cases w with
  | cons a b =>
   cases a
   exact .cons _ _ (ih _ b)
theorem zkj {l:OpenLaw} {n:Nat} (hn:l.most=some n) {P:Params} {h:Heap} {args:List WData} {vals:List Value}
  (hpre:l.row.toRowW.claim.pre args=true) (hwl:WellAll P h vals args) :
  ∃ a vs ns,vals=[Value.ref a]∧args=[WData.list (ns.map WData.int)]∧h.get? a=some { cls:=.type "list",data:=.seq vs.toArray }∧IntsAre vs ns∧ns.length≤n:=by
 have hsh:WShape.hasAll [] args [.list .int]=true:=(pre_splitW hpre).1
 have hc:l.pre.holds [] { args:=args }=true:=(pre_splitW hpre).2
 obtain ⟨d,r,rfl,h1,h2⟩:=hasAllW_cons hsh
 obtain rfl:=hasAllW_nil h2
 obtain ⟨xs,rfl,h3⟩:=hasW_list h1
 obtain ⟨ns,rfl⟩:=items_int h3
 have hlen:ns.length≤n:=by
  unfold OpenLaw.pre at hc
  have h4:(WTm.not (.lt (.lit (.int (n:Int))) (.len (.arg 0)))).holds [] { args:=[.list (ns.map .int)] }=true:=by
   have h4:=(holds_andW hc).1
   rw [hn] at h4
   exact h4
  have h5:=condW_of h4 (w_not (w_lt w_lit (w_len_list (w_arg rfl))))
  rw [List.length_map] at h5
  refine Nat.le_of_not_lt fun q=>?_
  have q':(n:Int)<((ns.length:Nat):Int):=by (first|lia|omega)
  first
   | (rw [decide_eq_true q'] at h5;exact absurd h5 (by decide))
   | (simp at h5;(first|lia|omega))
 cases hwl with
 | cons w1 w2 =>
  cases w2
  cases w1 with
  | list ho hall=>exact ⟨_,_,ns,rfl,rfl,ho,zfm ns _ hall,hlen⟩
theorem zkn (l:OpenLaw) (args:List WData):l.row.toRowW.claim.post args (.bool true) args=true :=
 postW_of (r:=l.row.toRowW) (X:=(true == true))
  (show WShape.has [] (.bool true) .bool=true by first | rfl | decide | simp [WShape.has,WShape.arms,WShape.armsAll])
  (show (WTm.eq .res (.lit (.bool true))).value [] { args:=args,res:=some (.bool true),after:=args }=some (.bool (true == true)) from w_eq_bool (w_res rfl) w_lit) rfl
section
variable {prog:Program} {w:World} {A:Around} {E:Value→Shared→Prop} {s:Shared} {K:Frag}
end
end Att
namespace L2
open PySem PySem.Spec PyProof.Rows
theorem zhj:∀ {vs:List Value} {ns:List Int},IntsAre vs ns→zbs (ns.map V.int) vs
 | _,_,.nil=>.nil
 | _,_,.cons n t h=>.cons ⟨t,rfl⟩ (zhj h)
def Only (H:Hp):Prop:=∀ b,H b=none∨∃ o xs,H b=some (.frz o (.lst xs))
theorem zl9 {P:Program} {w:World} {K:PySem.W.Frag} {mg mb:Str→Option Value} {CX:CXT} {k:Nat} {fa a:Addr} {fd:FuncData} {x:Str} {sp:Sp} {s₁:Shared} {vs:List Value} {ns:List Int}
  (KX:K.In s₁.heap) (hns:s₁.heap.Ns mainGlobals mg) (hb:s₁.heap.Ns builtinsNs mb) (hbb:∀ x:Str,x≠"__name__"→mb x=bootBuiltins x) (hlim:s₁.heap.NoLimit) (hg:s₁.gens=#[])
  (ha:s₁.heap.get? a=some { cls:=.type "list",data:=.seq vs.toArray }) (hi:IntsAre vs ns) (hl:ns.length≤sizeLine) (hr:zhL k callerA)
  (F:∀ base:Heap,K.In base→base.Ns mainGlobals mg→zbT P w K mg base CX k fa fd [x] sp) (hbind:∀ (s:Shared) (u:Value),BindsTo s fd ⟨[u],[]⟩ [(x,u)])
  (hsp:∀ H:Hp,Only H→SqL K H a (ns.map V.int)→sp [.ref a] H (fun v _=>v=.bl true) fun _ _ _=>False)
  (hCX:∀ H e s',CX [] H s₁ (fun _ _ _=>False) e s'→False) :
  codeAny (model P w) callerA (.call (.ref fa) ⟨[.ref a],[]⟩) (fun r s'=>r=.ok (.ret (.bool true))∧OldK s₁.heap s'.heap∧s'.os=s₁.os∧AllBare s'.gens) s₁:=by
 have rv:=zhj hi
 have lenV:=hi.length
 have core:∀ H:Hp,Only H→SqL K H a (ns.map V.int)→HOk P w H s₁.heap→(∀ b,H b≠none→b=a)→(H a≠none→K.lookup a=none) →
   codeAny (model P w) callerA (.call (.ref fa) ⟨[.ref a],[]⟩) (fun r s'=>r=.ok (.ret (.bool true))∧OldK s₁.heap s'.heap∧s'.os=s₁.os∧AllBare s'.gens) s₁:=by
  intro H hO hS hok hA hK
  have base_of:∀ {b:Addr} {o:Obj},s₁.heap.get? b=some o→H b=none→(zmc s₁.heap H).get? b=some o:=fun e n=>zma e n
  have noA:∀ {b:Addr} {o:Obj} {es:Array DictEntry} {ep:Nat},s₁.heap.get? b=some o→o.data=.dict es ep→H b=none:=fun {b o es ep} e d=>by
   cases q:H b with
   | none=>rfl
   | some u =>
    have e':b=a:=hA b (by rw [q];simp)
    subst e'
    rw [ha] at e;cases e
    have d':Data.seq vs.toArray _=Data.dict es ep:=d
    cases d'
  have nsK:∀ {b:Addr} {m:Str→Option Value},s₁.heap.Ns b m→(zmc s₁.heap H).Ns b m:=fun {b m} ⟨o,es,ep,e,d,r⟩=>⟨o,es,ep,base_of e (noA e d),d,r⟩
  have hKb:K.In (zmc s₁.heap H):=fun b o e=>base_of (KX b o e) (by
   cases q:H b with
   | none=>rfl
   | some u =>
    have e':b=a:=hA b (by rw [q];simp)
    subst e'
    rw [hK (by rw [q];simp)] at e;cases e)
  have hM:Mod K mg (zmc s₁.heap H):=⟨hKb,nsK hns,⟨mb,nsK hb,hbb⟩,let ⟨mc,h1,h2⟩:=hlim;⟨mc,nsK h1,h2⟩⟩
  have e0:Env0 P w K mg (zmc s₁.heap H) callerA [] s₁ H:=⟨rfl,hM,fun b o e=>zm2 e,Nat.le_of_eq (zj1 _ _),trivial,fun b hb=>absurd (show b∈([]:List Addr) from hb) (by simp),hok,.of_eq hg⟩
  refine codeAny_mono ((F _ hKb (nsK hns)).run callerA [] s₁ H ⟨[.ref a],[]⟩ [.ref a] [.ref a] _ _ hr e0 (hbind s₁ (.ref a)) (.cons rfl .nil) (hsp H hO hS)) fun r s' h=>?_
  cases r with
  | error e=>exact (hCX H e s' h).elim
  | ok fl =>
   cases fl with
   | next=>exact False.elim h
   | brk=>exact False.elim h
   | cont=>exact False.elim h
   | ret u =>
    obtain ⟨v,H',os,bare,un,hok',r',q⟩:=h
    have q':v=.bl true:=q
    subst q'
    obtain rfl:u=Value.bool true:=r'
    refine ⟨rfl,OldK.of_keep fun b o e=>?_,os,bare⟩
    cases q:H b with
    | none=>exact un.keep b o e q (by intro z;exact absurd (show b∈([]:List Addr) from z) (by simp)) (by simp)
    | some u =>
     rcases hO b with z | ⟨ob,xs,z⟩
     ·rw [q] at z;cases z
     ·have z2:=un.frzs b ob _ z
      obtain ⟨e1,_⟩:=hok b _ z
      obtain ⟨e2,_⟩:=hok' b _ z2
      rw [e] at e1;cases e1
      exact e2
 cases hk:K.lookup a with
 | some o =>
  have e:=KX a o hk
  rw [ha] at e
  cases e
  refine core (fun _=>none) (fun _=>.inl rfl) (.inr ⟨_,vs.toArray,_,hk,rfl,rfl,rfl,by rw [List.size_toArray,lenV];exact hl,by simpa using rv⟩) (fun b u z=>by have z':(none:Option HO)=some u:=z;cases z') (fun b z=>absurd rfl z) fun z=>absurd rfl z
 | none =>
  refine core (fun b=>if b=a then some (.frz { cls:=.type "list",data:=.seq vs.toArray } (.lst (ns.map V.int))) else none) (fun b=>?_) (.inl (.inr ⟨{ cls:=.type "list",data:=.seq vs.toArray },if_pos rfl⟩)) (fun b u z=>?_) (fun b z=>?_) fun _=>hk
  ·by_cases hb:b=a
   ·exact .inr ⟨_,_,if_pos hb⟩
   ·exact .inl (if_neg hb)
  ·by_cases hb:b=a
   ·have z':=(if_pos hb).symm.trans z
    cases z'
    subst hb
    exact ⟨ha,by rw [List.length_map];exact hl,vs,_,rv,ha⟩
   ·have z':=(if_neg hb).symm.trans z
    cases z'
  ·by_cases hb:b=a
   ·exact hb
   ·exact absurd (if_neg hb) z
end L2
namespace L2
open PySem PySem.Spec PyProof.Rows
end L2
namespace L2
open PySem PySem.Spec PyProof.Rows
def zgD (s:Stmt):Arguments:=match s with
 | .FunctionDef _ a _ _ _ _ _ _ _ _=>a
 | _=>{ posonlyargs:=[],args:=[],vararg:=none,kwonlyargs:=[],kw_defaults:=[],kwarg:=none,defaults:=[] }
def ze0 (s:Stmt):List Stmt:=match s with
 | .FunctionDef _ _ b _ _ _ _ _ _ _=>b
 | _=>[]
def zaj (s:Stmt):Scope:=match s with
 | .FunctionDef _ _ _ _ _ _ sc _ _ _=>sc
 | _=>{ kind:=.function,names:=[],isGenerator:=false,isCoroutine:=false }
abbrev CX0:CXT:=fun _ _ _ _ _ _=>False
abbrev E0:XK:=fun _ _ _=>False
theorem zaI {X:Cx}:zkc CX0 X E0:=fun _ _ _ _ _ _ _ h=>h.elim
structure Fun (K:PySem.W.Frag) (x qual:Str) (st:Stmt) (f:Addr) (fd:FuncData):Prop where
 ex:∃ (oc:Value) (od:Option Addr) (kV doc pm:Value) (an:Option Addr) (cdv ct:Value) (osl:Array (Option Value)),
  fd=PySem.W.fnOf x qual (zgD st) (ze0 st) (zaj st) .none kV doc pm an cdv ct∧K.lookup f=some ⟨oc,od,.func fd,osl⟩∧PySem.W.codeIn K cdv qual=true
 kp:PySem.W.keepIn K (.ref f)=true
section
variable {P:Program} {w:World} {K:PySem.W.Frag} {mg:Str→Option Value} {base:Heap}
theorem Fun.ok {x qual:Str} {st:Stmt} {f:Addr} {fd:FuncData} {N ps:List Str} {k:Nat} {sp:Sp} (F:Fun K x qual st f fd) (S:zaF N ps (zaj st)) (len:∀ vs H Q E,sp vs H Q E→vs.length=ps.length)
  (hbody:∀ (cdv:Value) (A:Around) (outer:List Env) (s:Shared) (H:Hp) (vs:List V) (Q:VK) (E:XK),zhL k (A.deeper (envOfC qual (zaj st) s.heap.objs.size f cdv))→sp vs H Q E →
   ∃ t,PSs (zoC CX0 P w K mg base N qual (zaj st) f cdv A outer s H E).nox (ze0 st) t∧t { nx:=fun _ H'=>Q .non H',rt:=Q } (start N vs) H):zbT P w K mg base CX0 (k+1) f fd ps sp:=by
 obtain ⟨oc,od,kV,doc,pm,an,cdv,ct,osl,rfl,lk,hcd⟩:=F.ex
 refine fn_of lk hcd S len fun A outer s H vs Q E hr hsp=>?_
 obtain ⟨t,h,q⟩:=hbody cdv A outer s H vs Q E hr hsp
 exact ⟨t,h.nox,q⟩
theorem Fun.binds {x qual:Str} {st:Stmt} {f:Addr} {fd:FuncData} {ps:List Str} (F:Fun K x qual st f fd)
  (h:∀ (kV doc pm:Value) (an:Option Addr) (cdv ct:Value) (us:List Value),us.length=ps.length→bindArgs (PySem.W.fnOf x qual (zgD st) (ze0 st) (zaj st) .none kV doc pm an cdv ct) ⟨us,[]⟩=pure (ps.zip us)):zbc K fd ps []:=by
 obtain ⟨oc,od,kV,doc,pm,an,cdv,ct,osl,rfl,lk,hcd⟩:=F.ex
 exact .all (h kV doc pm an cdv ct)
theorem zaX {x qual:Str} {st:Stmt} {f:Addr} {oc:Value} {od an:Option Addr} {osl:Array (Option Value)} {kV doc pm cdv ct:Value} (l:K.lookup f=some ⟨oc,od,.func (PySem.W.fnOf x qual (zgD st) (ze0 st) (zaj st) .none kV doc pm an cdv ct),osl⟩)
  (c:PySem.W.codeIn K cdv qual=true) (k:PySem.W.keepIn K (.ref f)=true):Fun K x qual st f (PySem.W.fnOf x qual (zgD st) (ze0 st) (zaj st) .none kV doc pm an cdv ct):=⟨⟨oc,od,kV,doc,pm,an,cdv,ct,osl,rfl,l,c⟩,k⟩
end
theorem zbd {n:Nat} (h:n≤1000):n<sizeLine:=Nat.lt_of_le_of_lt h (by decide)
section
variable {X:Cx}
theorem pv (i:Nat) {x:Str} {pos:Pos} (hN:X.N[i]?=some x:=by rfl) (hv:Vis X.env.scope x:=by first | exact Or.inl rfl | exact Or.inr (Or.inl rfl) | exact Or.inr (Or.inr rfl)) (hd:(x == ("__debug__":Str))=false:=by decide)
  (hcd:(x == ("__classdict__":Str))=false:=by decide):PE X (.Name x pos) (zac i):=zp9 hN hv hd hcd
end
theorem iteF {A B:Prop} (h:B):if false=true then A else B:=by
 rw [if_neg Bool.false_ne_true]
 exact h
theorem zoP {A B:Prop} (h:A):if true=true then A else B:=by
 rw [if_pos rfl]
 exact h
theorem zeH {c A B:Prop} [Decidable c] (h1:c→A) (h2:¬ c→B):if c then A else B:=by
 by_cases h:c
 ·rw [if_pos h]
  exact h1 h
 ·rw [if_neg h]
  exact h2 h
def zaR (H H':Hp):Prop:=∀ b o,H b=some o→H' b=some o
theorem zaR.refl (H:Hp):zaR H H:=fun _ _ h=>h
theorem zaR.trans {H H1 H2:Hp} (a:zaR H H1) (b:zaR H1 H2):zaR H H2:=fun c o h=>b c o (a c o h)
theorem zaR.free {H H':Hp} (e:zaR H H') {l:Addr} (h:H' l=Option.none):H l=Option.none:=by
 cases q:H l with
 | none=>rfl
 | some o =>
  rw [e l o q] at h
  cases h
theorem zaR.seq {K:PySem.W.Frag} {H H':Hp} {a:Addr} {xs:List V} (e:zaR H H') (h:SqL K H a xs):SqL K H' a xs:=by
 rcases h with (h | ⟨o,h⟩) | h
 ·exact .inl (.inl (e _ _ h))
 ·exact .inl (.inr ⟨o,e _ _ h⟩)
 ·exact .inr h
end L2
namespace L2
open PySem PySem.Spec PyProof.Rows
section
variable {X:Cx}
theorem zll:OpR X (binaryOp .FloorDiv) (rI (fun _ j=>0<j∧j.natAbs.log2<9000) fun i j=>.int (i / j)):=opI fun i j _ _ _ _ _ hc q=>by
 have h1:(0:Int)<j:=hc.1
 exact floordiv_int (by (first|lia|omega)) (by rw [Int.fdiv_eq_ediv_of_nonneg i (by (first|lia|omega))];exact q) (.inl (PyProof.noPylong_of_log2 hc.2))
theorem zb6:OpR X (binaryOp .FloorDiv) (rI (fun _ j=>j≠0∧j.natAbs.log2<9000) fun i j=>.int (i.fdiv j)):=opI fun _ _ _ _ _ _ _ hc q=>floordiv_int hc.1 q (.inl (PyProof.noPylong_of_log2 hc.2))
theorem zeg:OpR X (binaryOp .Mod) (rI (fun _ j=>j≠0) fun i j=>.int (i.fmod j)):=zoc
theorem zaJ:OpR X (binaryOp .Mult) (rI IntMulOk fun i j=>.int (i*j)):=opI fun _ _ _ _ _ _ _ hc q=>mul_int q hc
theorem zgM {i j:Int} (h1:-(2 ^ 64)<j) (h2:j<2 ^ 64):IntMulOk i j:=.of_right (intBits_le_64 h1 h2)
theorem mulL {i j:Int} (h1:-(2 ^ 64)<i) (h2:i<2 ^ 64):IntMulOk i j:=.of_left (intBits_le_64 h1 h2)
theorem zeM {i j:Int} (m n:Nat) (h1:i.natAbs<2 ^ m) (h2:j.natAbs<2 ^ n) (h:m+n≤134217728:=by decide):IntMulOk i j:=.of_le (intBits_le_iff.mpr h1) (intBits_le_iff.mpr h2) h
theorem zeA {j:Int} (m:Nat) (h0:j≠0) (h:j.natAbs<2 ^ m) (hm:m≤9000:=by decide):j.natAbs.log2<9000 :=
 Nat.lt_of_lt_of_le ((Nat.log2_lt (by (first|lia|omega))).mpr h) hm
theorem zlw:bootBuiltins "int"=some (.type "int"):=by decide +kernel
theorem zj6:bootBuiltins "bool"=some (.type "bool"):=by decide +kernel
theorem zcg:bootBuiltins "list"=some (.type "list"):=by decide +kernel
theorem zjt:bootBuiltins "tuple"=some (.type "tuple"):=by decide +kernel
theorem zgP (K:PySem.W.Frag):PySem.W.kitOne K (.type "int") (.type "bool")=some false:=by first | rfl | kernel_rfl
def zpt (a:Addr) (c:Value) (h:Heap):Prop:=∃ oe vs,h.get? a=some oe∧oe.cls=c∧oe.data=.fields vs
def excO (a:Addr) (c:Value):HO:=.ext (zpt a c)
structure zpM (K:PySem.W.Frag) (c:Value):Prop where
 kit:∀ a:Addr,PySem.W.KitX K (.ref a) c (zpt a c)
inductive TyX (K:PySem.W.Frag) (H:Hp):V→Value→Prop where
 | of {x:V} {t:Value} (h:zja K H x t):TyX K H x t
 | exc {a:Addr} {c:Value} (h:H a=some (excO a c)) (k:zpM K c):TyX K H (.ref a) c
def clsV:V→Option Value
 | .ty n=>some (.type n)
 | .ref c=>some (.ref c)
 | _=>none
def zlc (K:PySem.W.Frag):List V→Hp→VK→Prop:=fun xs H Q=>∃ x c t cv b,xs=[x,c]∧clsV c=some cv∧TyX K H x t∧PySem.W.kitOne K t cv=some b∧Q (.bl b) H
theorem zhR {K:PySem.W.Frag} {H:Hp} {Q:VK} {i:Int} (q:Q (.bl true) H):zlc K [.int i,.ty "int"] H Q:=⟨_,_,_,_,true,rfl,rfl,.of (.int i),rfl,q⟩
theorem zhI {K:PySem.W.Frag} {H:Hp} {Q:VK} {i:Int} (q:Q (.bl false) H):zlc K [.int i,.ty "bool"] H Q:=⟨_,_,_,_,false,rfl,rfl,.of (.int i),zgP K,q⟩
theorem zh7 {K:PySem.W.Frag} {H:Hp} {Q:VK} {r:Addr} {xs:List V} (h:H r=some (.tup xs)) (q:Q (.bl true) H):zlc K [.ref r,.ty "tuple"] H Q:=⟨_,_,_,_,true,rfl,rfl,.of (.tup h),rfl,q⟩
theorem zlF {c:V} {u cv:Value} (r:zch c u) (h:clsV c=some cv):u=cv:=by
 cases c with
 | ty n=>cases r;exact Option.some.inj h
 | ref a=>cases r;exact Option.some.inj h
 | _=>cases h
theorem zcM:zfE X (.builtin "isinstance") (zlc X.K):=by
 intro pins s σ H xs us Q I r h
 obtain ⟨x,c,t,cv,b,rfl,hc,ty,e,q⟩:=h
 obtain ⟨u,w',rfl,rx,rw'⟩:=zld r
 obtain rfl:=zlF rw' hc
 cases ty with
 | of ty=>exact zk3 I rx ty e fun tk=>⟨.bl b,H,I.tok tk,rfl,q⟩
 | @exc a c h k =>
  cases (show u=Value.ref a from rx)
  obtain ⟨p,_,_⟩:=(show zci X.prog X.w H s.heap a (excO a t) from I.hok a _ h)
  exact PySem.W.kia_one (k.kit a) I.kIn p e (fun z=>nomatch z) fun tk=>⟨.bl b,H,I.tok tk,rfl,q⟩
def rEqT (K:PySem.W.Frag):R2:=fun x y H Q=>∃ (a b:Addr) (ns ms:List Int),x=.ref a∧y=.ref b∧SqT K H a (ns.map V.int)∧SqT K H b (ms.map V.int)∧Q (.bl (decide (ns=ms))) H
def zjz (K:PySem.W.Frag):R2:=fun x y H Q=>∃ (a b:Addr) (ns ms:List Int),x=.ref a∧y=.ref b∧SqT K H a (ns.map V.int)∧SqT K H b (ms.map V.int)∧Q (.bl (!decide (ns=ms))) H
theorem zhS:∀ {ns:List Int} {us:List Value},zbs (ns.map V.int) us→∀ {j:Nat} (h:j<us.length),∃ (h':j<ns.length) (t:Tok),us[j]=.int ns[j] t
 | [],_,.nil,j,h=>absurd h (Nat.not_lt_zero _)
 | n::ns,_,.cons r t,0,h=>by
  obtain ⟨t',rfl⟩:=r
  exact ⟨Nat.succ_pos _,t',rfl⟩
 | n::ns,_,.cons r t,j+1,h=>by
  obtain ⟨h',t',e⟩:=zhS t (j:=j) (Nat.lt_of_succ_lt_succ h)
  exact ⟨Nat.succ_lt_succ h',t',e⟩
theorem zeu {l:List Int} {j:Nat} (h:j<l.length):l.getD j 0=l[j]:=by
 rw [List.getD_eq_getElem?_getD,List.getElem?_eq_getElem h]
 rfl
theorem ziZ {ns ms:List Int}:((List.range (min ns.length ms.length)).all (fun j=>ns.getD j 0 == ms.getD j 0)&&ns.length == ms.length)=decide (ns=ms):=by
 by_cases h:ns=ms
 ·subst h
  rw [decide_eq_true rfl,Bool.and_eq_true]
  refine ⟨List.all_eq_true.mpr fun j _=>beq_self_eq_true _,beq_self_eq_true _⟩
 ·rw [decide_eq_false h]
  refine Bool.eq_false_iff.mpr fun z=>h ?_
  obtain ⟨z1,z2⟩:=(Bool.and_eq_true _ _).mp z
  have hl:ns.length=ms.length:=beq_iff_eq.mp z2
  refine List.ext_getElem hl fun j h1 h2=>?_
  have q:=List.all_eq_true.mp z1 j (List.mem_range.mpr (by (first|lia|omega)))
  have q':ns.getD j 0=ms.getD j 0:=beq_iff_eq.mp q
  rw [zeu h1,zeu h2] at q'
  exact q'
theorem zgY {A:Around} {s:Shared} {ns ms:List Int} {us ws:List Value} (r1:zbs (ns.map V.int) us) (r2:zbs (ms.map V.int) ws) :
  ∀ j (h1:j<us.toArray.size) (h2:j<ws.toArray.size),SeqAt.EqAt A s us.toArray[j] ws.toArray[j] (ns.getD j 0 == ms.getD j 0):=by
 intro j h1 h2
 rw [List.size_toArray] at h1 h2
 obtain ⟨k1,t1,e1⟩:=zhS r1 h1
 obtain ⟨k2,t2,e2⟩:=zhS r2 h2
 rw [List.getElem_toArray,List.getElem_toArray,e1,e2,zeu k1,zeu k2]
 exact SeqAt.EqAt.int_int _ _ _ _
theorem zqa (hu:X.A.units<cLine):OpR X (compareOp .Eq) (rEqT X.K):=by
 intro pins s σ H x y v u Q I rx ry h
 obtain ⟨a,b,ns,ms,rfl,rfl,ha,hb,q⟩:=h
 cases rx
 cases ry
 obtain ⟨us,r1,p1,_⟩:=I.tuple ha
 obtain ⟨ws,r2,p2,_⟩:=I.tuple hb
 have l1:=r1.length
 have l2:=r2.length
 rw [List.length_map] at l1 l2
 refine SeqAt.RcAt.tuples p1 p2 hu (e:=fun j=>ns.getD j 0 == ms.getD j 0) (zgY r1 r2) X.prog X.w X.xe _ ⟨.bl _,H,I,rfl,?_⟩
 rw [List.size_toArray,List.size_toArray,← l1,← l2,ziZ]
 exact q
theorem zhy (hu:X.A.units<cLine):OpR X (compareOp .NotEq) (zjz X.K):=by
 intro pins s σ H x y v u Q I rx ry h
 obtain ⟨a,b,ns,ms,rfl,rfl,ha,hb,q⟩:=h
 cases rx
 cases ry
 obtain ⟨us,r1,p1,_⟩:=I.tuple ha
 obtain ⟨ws,r2,p2,_⟩:=I.tuple hb
 have l1:=r1.length
 have l2:=r2.length
 rw [List.length_map] at l1 l2
 refine SeqAt.RcNeAt.tuples p1 p2 hu (e:=fun j=>ns.getD j 0 == ms.getD j 0) (zgY r1 r2) X.prog X.w X.xe _ ⟨.bl _,H,I,rfl,?_⟩
 rw [List.size_toArray,List.size_toArray,← l1,← l2,ziZ]
 exact q
def tTru (K:PySem.W.Frag) (ta:TE):TT:=fun σ H Q=>ta σ H fun x H'=>∃ k,zpQ K x H' k∧Q k H'
def zeG (t:TS):TS:=fun D σ H=>∃ R:St→Hp→Prop,t { D with nx:=R } σ H∧∀ σ' H',R σ' H'→D.nx σ' H'
theorem zcC {st:Stmt} {t:TS} (h:PS X st t):PS X st (zeG t):=by
 intro pins s σ H D I hw
 obtain ⟨R,hw,hR⟩:=hw
 refine thn (h pins s σ H _ I hw) fun f s' q=>?_
 cases f with
 | next=>obtain ⟨σ',H',I',q⟩:=q;exact ⟨σ',H',I',hR _ _ q⟩
 | brk=>exact q
 | cont=>exact q
 | ret u=>exact q
end
theorem zal {H:Hp} {p:Addr} (h:H p=none) (o:HO):zaR H (upd H p o):=fun b u q=>by rw [zaY (zaP q h)];exact q
theorem zaR.add {H0 H:Hp} {p:Addr} {o:HO} (s:zaR H0 H) (h:H p=none):zaR H0 (upd H p o):=s.trans (zal h o)
theorem zaR.put {H0 H:Hp} {p:Addr} {o:HO} (s:zaR H0 H) (h:H0 p=none):zaR H0 (upd H p o):=fun b u q=>by rw [zaY (zaP q h)];exact s _ _ q
theorem zlx {K:PySem.W.Frag} {i:Int} {H:Hp} {k:Bool}:zpQ K (.int i) H k=(k=(i != 0)):=rfl
theorem znl {K:PySem.W.Frag} {i:Bool} {H:Hp} {k:Bool}:zpQ K (.bl i) H k=(k=i):=rfl
theorem zle (a b:Int):scal (.int a) (.int b)=true:=rfl
theorem zoh (a b:Bool):scal (.bl a) (.bl b)=true:=rfl
def zkR (J:It) (g:TG) (tb:TS):TS:=fun D σ H=>∃ W:Nat→Nat→St→Hp→Prop,(∃ m,W 0 m σ H)∧∀ i m σ H,W i m σ H →
 (J.stop i H∧D.nx σ H)∨(J.go i H∧∃ N:St→Hp→Prop,(∀ σ' H',N σ' H'→∃ m',m'<m∧W (i+1) m' σ' H')∧∀ x H',J.yld i H x H'→g x σ H' fun σ2 H2=>tb { D with nx:=N,ct:=N,bk:=D.nx } σ2 H2)
theorem zm8 {wi:TI} {g:TG} {tb:TS} {D:zbU} {σ:St} {H:Hp}:zid wi g tb D σ H=wi σ H fun J H1=>zkR J g tb D σ H1:=rfl
theorem zdr {lo:Int} {n:Nat} {g:TG} {tb:TS} {D:zbU} {σ:St} {H:Hp} (Pv:Nat→St→Hp→Prop) (h0:Pv 0 σ H)
  (hs:∀ i σ H,i<n→Pv i σ H→g (.int (lo+i)) σ H fun σ2 H2=>tb { D with nx:=Pv (i+1),ct:=Pv (i+1),bk:=D.nx } σ2 H2) (hd:∀ σ H,Pv n σ H→D.nx σ H):zkR (Itr lo n) g tb D σ H:=zkG Pv h0 hs hd
theorem zcf {K:PySem.W.Frag} {a:Addr} {xs:List V} {g:TG} {tb:TS} {D:zbU} {σ:St} {H:Hp} (Pv:Nat→St→Hp→Prop) (h0:Pv 0 σ H) (hl:∀ i σ H,i≤xs.length→Pv i σ H→SqL K H a xs)
  (hs:∀ i x σ H,xs[i]?=some x→Pv i σ H→g x σ H fun σ2 H2=>tb { D with nx:=Pv (i+1),ct:=Pv (i+1),bk:=D.nx } σ2 H2) (hd:∀ σ H,Pv xs.length σ H→D.nx σ H):zkR (Itl K a) g tb D σ H:=zlz Pv h0 hl hs hd
end L2
namespace L2
open PySem PySem.Spec PyProof.Rows
section
variable {P:Program} {w:World}
end
section
variable {P:Program} {w:World} {K:PySem.W.Frag} {mg:Str→Option Value} {base:Heap} {N:List Str} {qual:Str} {scope:Scope} {f:Addr} {cd:Value} {A:Around} {outer:List Env} {s₀:Shared} {H₀:Hp} {E:XK}
end
section
variable {P:Program} {w:World} {K:PySem.W.Frag} {mg:Str→Option Value} {base:Heap} {N:List Str} {qual:Str} {scope:Scope} {f:Addr} {cd:Value} {A:Around} {outer:List Env} {s₀:Shared} {H₀:Hp} {E:XK}
end
abbrev zjn:List Value:=[.type "ValueError",.type "Exception",.type "BaseException",.type "object"]
section
variable {X:Cx} {CX:CXT} {k:Nat} {f:Addr} {fd:FuncData} {ps:List Str} {sp:Sp} {dvs:List V} {ds:List Value} {E:St→XK} {x:Str} {p pos:Pos} {e:Expr} {es:List Expr} {t:TA}
end
theorem Inv.track {X:Cx} {pins:List (Addr×Obj)} {σ:St} {H:Hp} {s:Shared} {a:Addr} {o:HO} (I:Inv X pins σ H s) (hn:H a=none) (h0:X.s₀.heap.get? a=none) (hL:a≠X.env.locals) (hc:∀ x c,X.env.cells.lookup x=some c→c≠a)
  (hp:∀ p∈X.pn++pins,p.1≠a) (new:zci X.prog X.w (upd H a o) s.heap a o):Inv X pins σ (upd H a o) s:=by
 refine ⟨I.ok,I.os,I.bare,⟨I.base.keep,I.base.slot,fun b u q n hx=>?_,I.base.there,fun b xs q=>?_,fun b u xs q=>?_,fun b ps q=>?_⟩,I.loc,I.cell,?_,fun x c e=>?_,fun p q=>?_,fun b u e=>?_,I.len⟩
 ·have nb:b≠a:=fun z=>by rw [z,h0] at q;cases q
  rw [zaY nb]
  exact I.base.free b u q n hx
 ·have q2:=I.base.tups b xs q
  rw [zaY (zaP q2 hn)]
  exact q2
 ·have q2:=I.base.frzs b u xs q
  rw [zaY (zaP q2 hn)]
  exact q2
 ·obtain ⟨m,q2⟩:=I.base.tbls b ps q
  exact ⟨m,by rw [zaY (zaP q2 hn)];exact q2⟩
 ·rw [zaY hL.symm]
  exact I.free
 ·rw [zaY (hc x c e)]
  exact I.freeC x c e
 ·obtain ⟨e,n,r⟩:=I.pin p q
  exact ⟨e,by rw [zaY (hp p q)];exact n,r⟩
 ·by_cases hb:b=a
  ·subst hb
   rw [zah] at e
   cases e
   exact new
  ·rw [zaY hb] at e
   exact (I.hok b u e).stay (fun c v _ q=>q) (fun c q=>by rw [zaY (zaP q hn)];exact q) fun c xs q=>by rw [zaY (zaP q hn)];exact q
section
open Builtin Builtin.ObjectAttr Builtin.Getset_descriptor PySem.W
variable {K:PySem.W.Frag} {prog:Program} {w:World} {A:Around} {E:Value→Shared→Prop} {h:Heap} {g:Array GenState} {d:Drawn} {t:Nat} {os:OsState} {a C:Addr} {o:Obj}
end
end L2
namespace L2
open PySem PySem.Spec PyProof.Rows
theorem zkg {env:Env} {x:Str} {c:Addr} (h:env.cells.lookup x=some c):cellOf env x=pure c:=by
 unfold cellOf
 rw [h]
theorem zen {env:Env}:∀ (l:List (Str×NameKind)) (cs:List (Str×Addr)),(∀ y∈l,y.2=.free→∃ c,env.cells.lookup y.1=some c)→(∀ x c,cs.lookup x=some c→env.cells.lookup x=some c) →
  ∃ cl,(forIn l cs fun (y:Str×NameKind) r=>(if (y.2 == .free)=true then do let c ← cellOf env y.1;pure (ForInStep.yield ((y.1,c)::r)) else pure (ForInStep.yield r):Sem (ForInStep (List (Str×Addr)))))=pure cl ∧
   (∀ x c,cl.lookup x=some c→env.cells.lookup x=some c)∧(∀ y∈l,y.2=.free→∃ c,cl.lookup y.1=some c)∧∀ x,(∃ c,cs.lookup x=some c)→∃ c,cl.lookup x=some c
 | [],cs,_,hc=>⟨cs,by simp,hc,by simp,fun _ h=>h⟩
 | y::l,cs,hf,hc=>by
  have hf':∀ z∈l,z.2=.free→∃ c,env.cells.lookup z.1=some c:=fun z hz=>hf z (List.mem_cons_of_mem _ hz)
  by_cases hy:y.2=.free
  ·obtain ⟨c,e⟩:=hf y List.mem_cons_self hy
   have hc':∀ x d,List.lookup x ((y.1,c)::cs)=some d→env.cells.lookup x=some d:=fun x d q=>by
    rw [List.lookup_cons] at q
    split at q
    ·rename_i b
     cases q
     rw [beq_iff_eq.mp b,e]
    ·exact hc x d q
   obtain ⟨cl,e1,e2,e3,e4⟩:=zen l ((y.1,c)::cs) hf' hc'
   refine ⟨cl,?_,e2,fun z hz q=>?_,fun x ⟨d,q⟩=>e4 x ?_⟩
   ·rw [List.forIn_cons,if_pos (by rw [hy];rfl),zkg e]
    simpa using e1
   ·rcases List.mem_cons.mp hz with r | r
    ·exact e4 z.1 ⟨c,by rw [r,List.lookup_cons];simp⟩
    ·exact e3 z r q
   ·rw [List.lookup_cons]
    split
    ·exact ⟨_,rfl⟩
    ·exact ⟨d,q⟩
  ·obtain ⟨cl,e1,e2,e3,e4⟩:=zen l cs hf' hc
   refine ⟨cl,?_,e2,fun z hz q=>?_,e4⟩
   ·rw [List.forIn_cons,if_neg (by simpa using hy)]
    simpa using e1
   ·rcases List.mem_cons.mp hz with r | r
    ·rw [r] at q;exact absurd q hy
    ·exact e3 z r q
theorem zju {scope:Scope} {env:Env} (h:∀ y∈scope.names,y.2=.free→∃ c,env.cells.lookup y.1=some c) :
  ∃ cl,closureFor scope env=pure cl∧(∀ x c,cl.lookup x=some c→env.cells.lookup x=some c)∧∀ y∈scope.names,y.2=.free→∃ c,cl.lookup y.1=some c:=by
 obtain ⟨cl,e1,e2,e3,_⟩:=zen scope.names [] h (by simp)
 refine ⟨cl,?_,e2,e3⟩
 unfold closureFor
 simp only [bind_pure]
 exact e1
theorem zhA {P:Program} {w:World} {A:Around} {R:Result→Shared→Prop} {s:Shared} {elt target iter:Expr} {ifs:List Expr} {scope:Scope} {pos:Pos} {it acc:Value} {env:Env} {Z:Value→Shared→Prop} (J:Nat→Shared→Prop)
  (hZ:Z=notedBy (model P w) A env fun e s'=>R (.error e) s')
  (zla:∀ n s,J n s→wpAny (model P w) A (pyNext it) (fun r s1=>match r with
   | none=>R (.ok .next) s1
   | some v=>wpAny (model P w) A (letOwnedTupleGo target it v) (fun _ s2=>wpAny (model P w) A (assign target env v) (fun _ s3 =>
     wpAny (model P w) A (forIn ifs true fun c r=>if r=true then do let ok ← isTrue c env (eval c env);pure (ForInStep.yield ok) else pure (ForInStep.yield r)) (fun ok s4 =>
      if ok=true then wpAny (model P w) A (eval elt env) (fun x s5=>wpAny (model P w) A (call (.builtin "list.append") [acc,x]) (fun _ s6=>∃ m,m<n∧J m s6) Z s5) Z s4
      else ∃ m,m<n∧J m s4) Z s3) Z s2) Z s1) Z s)
  (n:Nat) (h:J n s):codeAny (model P w) A (.compLoop (.ListComp elt [⟨target,iter,ifs,0⟩] scope pos) 0 it acc env) R s:=by
 subst hZ
 refine codeAny_loop rfl J (fun n s hJ=>?_) n h
 show wpAny _ _ (Sem.onRaise (compTurn (.ListComp elt [⟨target,iter,ifs,0⟩] scope pos) 0 it acc env) fun x=>do noteFrame x env;theTreesLotGoes x) _ _ s
 refine wpAny_noted ?_
 rw [compTurn_list]
 refine wpAny_bind (wpAny_standAt (wpAny_bind (thn (zla n s hJ) fun r s1 h1=>?_)))
 cases r with
 | none=>exact wpAny_pure h1
 | some v =>
  refine wpAny_bind (thn h1 fun _ s2 h2=>wpAny_bind (thn h2 fun _ s3 h3=>wpAny_bind (thn h3 fun ok s4 h4=>?_)))
  cases ok with
  | false=>exact wpAny_pure ⟨rfl,h4⟩
  | true=>exact wpAny_bind (wpAny_bind (thn h4 fun x s5 h5=>wpAny_bind (thn h5 fun _ s6 h6=>wpAny_pure (wpAny_pure ⟨rfl,h6⟩))))
def PTs (X:Cx) (ifs:List Expr) (t:TT):Prop:=∀ (pins:List (Addr×Obj)) (s:Shared) (σ:St) (H:Hp) (Q:Bool→Hp→Prop),Inv X pins σ H s→t σ H Q →
 wpAny (model X.prog X.w) X.A (forIn ifs true fun c r=>if r=true then do let ok ← isTrue c X.env (eval c X.env);pure (ForInStep.yield ok) else pure (ForInStep.yield r)) (TP X pins σ Q) X.xe s
def zaH:TT:=fun _ H Q=>Q true H
theorem zbb {X:Cx}:PTs X [] zaH:=fun _ _ _ H _ I h=>wpAny_tests_nil ⟨H,I,h⟩
def zoB (cap:List (Option Nat)) (σ:St):St:=cap.map fun o=>o.bind fun j=>(σ[j]?).join
def zbh (wi:TI) (g:TG) (tt:TT) (te:TE) (cap:List (Option Nat)):TE:=fun σ H Q=>wi σ H fun J H1=>∀ D,H1 D=none→∃ W:Nat→Nat→St→Hp→Prop,(∃ m,W 0 m (zoB cap σ) (upd H1 D (.lst [])))∧∀ i m σc Hc,W i m σc Hc →
 (J.stop i Hc∧Q (.ref D) Hc)∨(J.go i Hc∧∃ N:St→Hp→Prop,(∀ σ' H',N σ' H'→∃ m',m'<m∧W (i+1) m' σ' H')∧∀ x H',J.yld i Hc x H'→g x σc H' fun σ2 H2=>tt σ2 H2 fun b H3=>if b=true then te σ2 H3 fun y H4=>zbo (.ref D) [y] H4 fun _ H5=>N σ2 H5 else N σ2 H3)
def Cx.blk (X:Cx) (Nc:List Str) (scope:Scope) (cl:List (Str×Addr)) (s:Shared) (H:Hp) (fp:List Addr):Cx:={ X with
 N:=Nc,s₀:=s,H₀:=H,env:=compEnvC scope cl s.heap.objs.size X.env,outer:=X.stack,stack:=X.stack,ex:=fp,fn:=fun _=>false,pn:=[],xe:=fun _ _=>False }
structure zjq (sc:Scope) (N Nc:List Str) (cap:List (Option Nat)) (scope:Scope):Prop where
 kind:scope.kind=.function
 nocell:∀ y∈scope.names,y.2≠.cell
 free:∀ y∈scope.names,y.2=.free→sc.names.lookup y.1=some .cell∨sc.names.lookup y.1=some .free
 once:∀ y∈scope.names,scope.names.lookup y.1=some y.2
 nd:Nc.Nodup
 len:cap.length=Nc.length
 cap:∀ (i:Nat) (y:Str) (j:Nat),Nc[i]?=some y→cap[i]?=some (some j)→N[j]?=some y∧scope.names.lookup y=some .free
def zmQ (sc:Scope) (N Nc:List Str) (cap:List (Option Nat)) (scope:Scope):Bool :=
 scope.kind == .function&&scope.names.all (fun y=>y.2 != .cell&&scope.names.lookup y.1 == some y.2&&(y.2 != .free || sc.names.lookup y.1 == some .cell || sc.names.lookup y.1 == some .free))&&decide Nc.Nodup&&cap.length == Nc.length
  && (Nc.zip cap).all fun p=>p.2.all fun j=>N[j]? == some p.1&&scope.names.lookup p.1 == some .free
theorem zjq.of {sc:Scope} {N Nc:List Str} {cap:List (Option Nat)} {scope:Scope} (h:zmQ sc N Nc cap scope=true):zjq sc N Nc cap scope:=by
 unfold zmQ at h
 simp only [Bool.and_eq_true,beq_iff_eq,List.all_eq_true,bne_iff_ne,ne_eq,Bool.or_eq_true,decide_eq_true_eq] at h
 obtain ⟨⟨⟨⟨h1,h2⟩,h3⟩,h4⟩,h5⟩:=h
 refine ⟨h1,fun y hy=>(h2 y hy).1.1,fun y hy hf=>?_,fun y hy=>(h2 y hy).1.2,h3,h4,fun i y j e1 e2=>?_⟩
 ·rcases (h2 y hy).2 with (q | q) | q
  ·exact absurd hf q
  ·exact .inl q
  ·exact .inr q
 ·have m:(y,some j)∈Nc.zip cap:=by
   refine List.mem_of_getElem? (i:=i) ?_
   rw [List.getElem?_zip_eq_some]
   exact ⟨e1,e2⟩
  have z:=h5 _ m
  simpa using z
theorem zcz {env:Env} {x:Str}:∀ {names:List (Str×NameKind)} {k:NameKind},((names.map fun (n,k)=>if (k == NameKind.free&&env.scope.kind == .function&&env.kindOf n == some .cell) then (n,NameKind.cell) else (n,k)).lookup x=some k)→k≠.cell∧names.lookup x=some k∨(k=.cell∧(names.lookup x=some .cell∨names.lookup x=some .free))
 | [],_,h=>by simp at h
 | (n,q)::r,k,h=>by
  have ih:=@zcz env x r k
  rw [List.map_cons] at h
  dsimp only at h
  by_cases hx:(x == n)=true
  ·by_cases hc:(q == NameKind.free&&env.scope.kind == .function&&env.kindOf n == some .cell)=true
   ·rw [if_pos hc,List.lookup_cons,hx] at h
    cases h
    rw [Bool.and_eq_true,Bool.and_eq_true] at hc
    refine .inr ⟨rfl,.inr ?_⟩
    rw [List.lookup_cons,hx]
    exact congrArg some (beq_iff_eq.mp hc.1.1)
   ·rw [if_neg hc,List.lookup_cons,hx] at h
    cases h
    rw [List.lookup_cons,hx]
    by_cases z:q=.cell
    ·exact .inr ⟨z,.inl (congrArg some z)⟩
    ·exact .inl ⟨z,rfl⟩
  ·have hx':(x == n)=false:=by simpa using hx
   rw [List.lookup_cons,hx']
   refine ih ?_
   by_cases hc:(q == NameKind.free&&env.scope.kind == .function&&env.kindOf n == some .cell)=true
   ·rw [if_pos hc,List.lookup_cons,hx'] at h
    exact h
   ·rw [if_neg hc,List.lookup_cons,hx'] at h
    exact h
section
variable {X:Cx} {pins:List (Addr×Obj)} {σ:St} {H:Hp} {s:Shared}
theorem zn4 {Nc:List Str} {cap:List (Option Nat)} {scope:Scope} {cl:List (Str×Addr)} {fp:List Addr} {h1:Heap} {tk:Nat} {m1:Str→Option Value} (I:Inv X pins σ H s) (B:zjq X.env.scope X.N Nc cap scope)
  (hsub:∀ x c,cl.lookup x=some c→X.env.cells.lookup x=some c) (hfr:∀ y∈scope.names,y.2=.free→∃ c,cl.lookup y.1=some c) (hf:∀ b∈fp,zjw X pins H b) (hin:∀ b∈fp,b<s.heap.objs.size)
  (hk:∀ b o,s.heap.get? b=some o→h1.get? b=some o) (hn:h1.Ns s.heap.objs.size m1):Inv (X.blk Nc scope cl s H fp) [] (zoB cap σ) H { s with heap:=h1,toks:=tk }:=by
 have ok:=I.ok
 have bsz:X.base.objs.size≤s.heap.objs.size:=Nat.le_trans ok.bsz I.sz
 refine ⟨⟨ok.mod,B.kind,ok.glob,ok.blt,Nat.le_refl _,fun x y c h1 h2=>ok.inj x y c (hsub x c h1) (hsub y c h2),fun x hx=>?_,(by intro x c z;cases z),ok.hd,ok.frames,.inl rfl,fun b hb=>⟨Nat.ne_of_lt (hin b hb),fun x c e=>(hf b hb).2.2.2.2.1 x c (hsub x c e)⟩,
  I.bs,bsz,fun b o e hb=>?_,fun b hb z=>?_,I.stack,I.stkFree⟩,rfl,I.bare,Un.kept hk,⟨m1,hn,fun i y v e1 e2 e3=>?_⟩,fun x c e=>?_,I.hok.fresh (Nat.le_refl _),fun x c e=>I.freeC x c (hsub x c e),(by intro p hp;cases hp),I.hok.kept hk,?_⟩
 ·have look:∀ k,(relabel scope X.env).names.lookup x=some k→k=.cell∨k=.free→∃ c,cl.lookup x=some c:=fun k q hk=>by
   rcases zcz q with ⟨n1,n2⟩ | ⟨_,n2 | n2⟩
   ·rcases hk with r | r
    ·exact absurd r n1
    ·exact hfr (x,k) (PySem.mem_of_lookup n2) r
   ·exact absurd rfl (B.nocell _ (PySem.mem_of_lookup n2))
   ·exact hfr (x,.free) (PySem.mem_of_lookup n2) rfl
  rcases hx with q | q
  ·exact look _ q (.inl rfl)
  ·exact look _ q (.inr rfl)
 ·rcases (hf b hb).2.2.2.1 with q | q
  ·exact ok.noex b o e q
  ·exact absurd (Nat.lt_of_lt_of_le (Heap.lt_size e) (Nat.le_trans ok.bsz q)) (Nat.lt_irrefl _)
 ·rcases List.mem_cons.mp (I.stkSub b z) with q | q
  ·exact (hf b hb).2.1 q
  ·exact (hf b hb).2.2.1 q
 ·have e2':(cap[i]?).map (fun o=>o.bind fun j=>(σ[j]?).join)=some (some v):=by rw [← List.getElem?_map];exact e2
  obtain ⟨o,ho,eo⟩:=Option.map_eq_some_iff.mp e2'
  obtain ⟨j,rfl,ej⟩:=Option.bind_eq_some_iff.mp eo
  have ej':σ[j]?=some (some v):=by
   cases q:σ[j]? with
   | none=>rw [q] at ej;cases ej
   | some z=>rw [q] at ej;cases ej;rfl
  obtain ⟨c1,c2⟩:=B.cap i y j e1 ho
  have vis:=B.free (y,.free) (PySem.mem_of_lookup c2) rfl
  obtain ⟨m,_,hl⟩:=I.loc
  obtain ⟨u,r,lk⟩:=hl j y v c1 ej' (.inr vis)
  obtain ⟨c',ec⟩:=hfr (y,.free) (PySem.mem_of_lookup c2) rfl
  have ec2:=hsub _ _ ec
  rcases lk with ⟨kl,_⟩ | ⟨_,c,e,z⟩
  ·have kl':X.env.scope.names.lookup y=some .local:=kl
   rcases vis with q | q
   ·have q':X.env.scope.names.lookup y=some .cell:=q
    rw [kl'] at q';cases q'
   ·have q':X.env.scope.names.lookup y=some .free:=q
    rw [kl'] at q';cases q'
  ·have ecc:X.env.cells.lookup y=some c':=ec2
   rw [e] at ecc
   cases ecc
   refine ⟨u,r,.inr ⟨?_,_,ec,?_⟩⟩
   ·rcases e3 with q | q | q
    ·rcases zcz q with ⟨_,n2⟩ | ⟨n1,_⟩
     ·rw [c2] at n2;cases n2
     ·cases n1
    ·exact .inl q
    ·exact .inr q
   ·obtain ⟨o,ho,hd⟩:=z
    exact ⟨o,hk _ _ ho,hd⟩
 ·obtain ⟨v,o,ho,hd⟩:=I.cell x c (hsub x c e)
  exact ⟨v,o,hk _ _ ho,hd⟩
 ·show (zoB cap σ).length=Nc.length
  rw [zoB,List.length_map,B.len]
theorem zkL {Nc:List Str} {scope:Scope} {cl:List (Str×Addr)} {fp:List Addr} {σc:St} {Hc:Hp} {s':Shared} {h':Heap} (I:Inv X pins σ H s) (hf:∀ b∈fp,zjw X pins H b) (J:Inv (X.blk Nc scope cl s H fp) [] σc Hc s')
  (hs:Heap.SameBut s.heap.objs.size s'.heap h'):Inv X pins σ Hc { s' with heap:=h' }:=by
 have ne:∀ b o,s.heap.get? b=some o→b≠s.heap.objs.size:=fun b o e=>Nat.ne_of_lt (Heap.lt_size e)
 have u:=J.base
 refine I.call' (ch:=fp) J.os ⟨fun b o e n hb hx=>(hs.2 b (ne b o e)).trans (u.keep b o e n hb hx),fun b o e n hb hx=>?_,u.free,fun b o e hx=>?_,u.tups,u.frzs,u.tbls⟩ (fun b ob e=>?_) J.bare fun b hb=>⟨(hf b hb).2.2.2.1,(hf b hb).2.1,(hf b hb).2.2.2.2.1,(hf b hb).2.2.2.2.2⟩
 ·obtain ⟨sl,q⟩:=u.slot b o e n hb hx
  exact ⟨sl,(hs.2 b (ne b o e)).trans q⟩
 ·obtain ⟨o',q⟩:=u.there b o e hx
  exact ⟨o',(hs.2 b (ne b o e)).trans q⟩
 ·have hC:Hc s.heap.objs.size=none:=J.free
  refine (J.hok b ob e).stay (fun c w' hc q=>(hs.2 c ?_).trans q) (fun _ q=>q) fun _ _ q=>q
  rintro rfl
  rcases hc with z | hc
  ·rw [← z,hC] at e;cases e
  ·rw [hC] at hc;cases hc
end
theorem Inv.turns {X:Cx} {pins:List (Addr×Obj)} {σ:St} {H:Hp} {s:Shared} {h':Heap} {t':Nat} {ch:List Addr} (I:Inv X pins σ H s) (k:∀ b o,b∉ch→s.heap.get? b=some o→h'.get? b=some o) (hf:∀ b∈ch,zjw X pins H b):Inv X pins σ H { s with heap:=h',toks:=t' }:=by
 refine I.call (g':=s.gens) (d':=s.drawn) (ch:=ch) ⟨fun b o e _ _ hx=>k b o hx e,fun b o e _ _ hx=>⟨o.slots,k b o hx e⟩,fun _ _ _ n _=>n,fun b o e hx=>⟨o,k b o hx e⟩,fun _ _ q=>q,fun _ _ _ q=>q,fun _ ps q=>⟨#[],by rw [q];simp⟩⟩ (fun b u e=>?_) I.bare
  fun b hb=>⟨(hf b hb).2.2.2.1,(hf b hb).2.1,(hf b hb).2.2.2.2.1,(hf b hb).2.2.2.2.2⟩
 refine (I.hok b u e).stay (fun c v hc q=>k c v (fun z=>?_) q) (fun _ q=>q) fun _ _ q=>q
 have n:=(hf c z).1
 rcases hc with r | r
 ·rw [r,e] at n;cases n
 ·rw [r] at n;cases n
theorem zhu {X:Cx} {pins:List (Addr×Obj)} {s:Shared} {σ:St} {H:Hp} {Q:VK} {sc:Scope} {N Nc:List Str} {cap:List (Option Nat)} {elt tg iter:Expr} {ifs:List Expr} {scope:Scope} {pos pos':Pos} {wi:TI} {g:TG} {tt:TT} {te:TE} {use:Option (Value→Sem Unit)} {QQ:Value→Shared→Prop}
  (hc:X.calm=true) (hsc:X.env.scope=sc) (hN:X.N=N) (B:zjq sc N Nc cap scope) (hi:PI X tg iter wi)
  (hg:∀ cl s H fp,PG (X.blk Nc scope cl s H fp) tg g) (ht:∀ cl s H fp,PTs (X.blk Nc scope cl s H fp) ifs tt) (he:∀ cl s H fp,PE (X.blk Nc scope cl s H fp) elt te)
  (hs:∀ x,foldedSetIterable iter X.env x=pure x) (I:Inv X pins σ H s) (h:zbh wi g tt te cap σ H Q)
  (fin:∀ (s3:Shared) (H3:Hp) (cl:List (Str×Addr)) (fp:List Addr) (D:Addr) (σc:St) (Hc:Hp) (s6:Shared),Inv X pins σ H3 s3→(∀ b∈fp,zjw X pins H3 b)→Inv (X.blk Nc scope cl s3 H3 fp) [] σc Hc s6→Q (.ref D) Hc→compPost (model X.prog X.w) X.A X.xe use QQ (.ref D) s3.heap.objs.size (.ok .next) s6) :
  wpAny (model X.prog X.w) X.A (comprehension (.ListComp elt [⟨tg,iter,ifs,0⟩] scope pos) scope X.env pos' (newList []) false (eval iter X.env) use) QQ X.xe s:=by
 subst hsc hN
 obtain ⟨cl,hclos,hsub,hfr⟩:=zju (scope:=scope) (env:=X.env) fun y hy hf=>I.ok.has y.1 (B.free y hy hf)
 refine wpAny_comprehension_free (use:=use) rfl hs hclos B.kind (fun y hy hl=>by rw [B.once y hy,hl]) (thn (hi pins s σ H _ I h) fun v s1 h1=>thn h1 fun itv s2 h2=>?_)
 obtain ⟨it,fp,tn,J,H2,rfl,I2,T,st2,f2,hw⟩:=h2
 refine wpAny_newObj_type ?_
 have hfree:H2 s2.heap.objs.size=none:=I2.hok.fresh (Nat.le_refl _)
 have I3:=I2.laid (t':=s2.toks) (o:=.lst []) (fun b u e=>Heap.get?_push_of_some { cls:=.type "list",dict:=none,data:=.seq ([]:List Value).toArray } e) (Nat.le_refl _) ⟨by decide,[],0,.nil,Heap.get?_push_size _ rfl⟩
 obtain ⟨W,⟨m0,w0⟩,zla⟩:=hw _ hfree
 have keep23:∀ b o,s2.heap.get? b=some o→(s2.heap.push { cls:=.type "list",dict:=none,data:=.seq ([]:List Value).toArray }).get? b=some o:=fun b o e=>Heap.get?_push_of_some _ e
 have hin:∀ b∈fp,b<s2.heap.objs.size:=fun b hb=>let ⟨o,e,_⟩:=T.obj 0 _ st2 b hb;Heap.lt_size e
 have f3:∀ b∈fp,zjw X pins (upd H2 s2.heap.objs.size (.lst [])) b:=fun b hb=>⟨by rw [zaY (Nat.ne_of_lt (hin b hb))];exact (f2 b hb).1,(f2 b hb).2⟩
 have st3:=T.keep 0 _ _ st2 fun b _ o e=>keep23 b o e
 have hin3:∀ b∈fp,b<(s2.heap.push { cls:=.type "list",dict:=none,data:=.seq ([]:List Value).toArray }).objs.size:=fun b hb=>let ⟨o,e,_⟩:=T.obj 0 _ st3 b hb;Heap.lt_size e
 clear keep23 hin
 generalize s2.heap.push { cls:=.type "list",dict:=none,data:=.seq ([]:List Value).toArray }=h3 at I3 st3 hin3 ⊢
 generalize upd H2 s2.heap.objs.size (.lst [])=H3 at I3 f3 w0
 generalize s2.heap.objs.size=D at hfree w0 zla ⊢
 refine wpAny_newFunctionEnv B.nocell (by intro y hy;cases hy) (fun h1 hns hsb=>?_) B.kind
 have keep:∀ b o,h3.get? b=some o→h1.get? b=some o:=fun b o e=>(hsb.2 b (Nat.ne_of_lt (Heap.lt_size e))).trans (Heap.get?_push_of_some _ e)
 have I4:=zn4 (tk:=s2.toks+([]:List (Str×Value)).length) I3 B hsub hfr f3 hin3 keep hns
 have st4:=T.keep 0 _ _ st3 fun b _ o e=>keep b o e
 have stat:∀ {H':Hp},(∀ b∈fp,H' b=none)→∀ b∈fp,zjw (X.blk Nc scope cl { s2 with heap:=h3,toks:=s2.toks } H3 fp) [] H' b:=fun hn b hb =>
  ⟨hn b hb,Nat.ne_of_lt (hin3 b hb),fun z=>by
   rcases List.mem_cons.mp (I3.stkSub b z) with q | q
   ·exact (f3 b hb).2.1 q
   ·exact (f3 b hb).2.2.1 q,.inl hb,fun x c e=>(f3 b hb).2.2.2.2.1 x c (hsub x c e),by intro p hp;cases hp⟩
 have hcb:(X.blk Nc scope cl { s2 with heap:=h3,toks:=s2.toks } H3 fp).calm=true:=hc
 have loop:codeAny (model X.prog X.w) X.A (.compLoop (.ListComp elt [⟨tg,iter,ifs,0⟩] scope pos) 0 (.ref it) (.ref D) (compEnvC scope cl h3.objs.size X.env)) (compPost (model X.prog X.w) X.A X.xe use QQ (.ref D) h3.objs.size) { s2 with heap:=h1,toks:=s2.toks+([]:List (Str×Value)).length }:=by
  refine zhA (fun n s'=>∃ i σ' H',Inv (X.blk Nc scope cl { s2 with heap:=h3,toks:=s2.toks } H3 fp) [] σ' H' s'∧tn i s'.heap∧(∀ b∈fp,H' b=none)∧W i n σ' H') rfl ?_ m0 ⟨0,_,H3,I4,st4,fun b hb=>(f3 b hb).1,w0⟩
  rintro n s5 ⟨i,σ5,H5,I5,st5,fr5,w5⟩
  rcases zla i n σ5 H5 w5 with ⟨stop,qn⟩ | ⟨go,N',hN',step⟩
  ·refine thn (T.done (X.blk Nc scope cl { s2 with heap:=h3,toks:=s2.toks } H3 fp) rfl rfl rfl hcb i [] s5 σ5 H5 _ I5 (stat fr5) st5 stop) fun r s6 hQ'=>?_
   obtain ⟨hr,I6⟩:=hQ'
   subst hr
   exact fin { s2 with heap:=h3,toks:=s2.toks } H3 cl fp D σ5 H5 s6 I3 f3 I6 qn
  ·refine thn (T.item (X.blk Nc scope cl { s2 with heap:=h3,toks:=s2.toks } H3 fp) rfl rfl rfl hcb i [] s5 σ5 H5 _ I5 (stat fr5) st5 go) fun r s6 hQ'=>?_
   obtain ⟨u,hr,h6⟩:=hQ'
   subst hr
   refine thn h6 fun _ s7 hQ'=>?_
   obtain ⟨x,H7,I7,r7,y7,st7,fr7⟩:=hQ'
   have I7':=I7.pinned (stat fr7) (T.obj _ _ st7)
   refine wpAny_mono (hg cl _ H3 fp _ s7 σ5 H7 x u _ I7' r7 (step x H7 y7)) (fun _ s8 hQ'=>?_) fun _ _ z=>z.elim
   obtain ⟨σ8,H8,I8,q8⟩:=hQ'
   have again:∀ {H9:Hp} {s9:Shared} {m:Nat},Inv (X.blk Nc scope cl { s2 with heap:=h3,toks:=s2.toks } H3 fp) ([]++zhk fp s7.heap) σ8 H9 s9→m<n→W (i+1) m σ8 H9→∃ m,m<n∧∃ i σ' H',Inv (X.blk Nc scope cl { s2 with heap:=h3,toks:=s2.toks } H3 fp) [] σ' H' s9∧tn i s9.heap∧(∀ b∈fp,H' b=none)∧W i m σ' H':=fun {H9 s9 m} I9 hm w9=>by
    refine ⟨m,hm,i+1,σ8,H9,I9.unpinned,T.keep _ _ _ st7 fun b hb o e=>(I9.pin (b,o) (List.mem_append_right _ (List.mem_append_right _ (zdk hb e)))).1,fun b hb=>?_,w9⟩
    obtain ⟨o,e,d⟩:=T.obj _ _ st7 b hb
    exact (I9.pin (b,o) (List.mem_append_right _ (List.mem_append_right _ (zdk hb e)))).2.1
   refine wpAny_mono (ht cl _ H3 fp _ s8 σ8 H8 _ I8 q8) (fun b s9 hQ'=>?_) fun _ _ z=>z.elim
   obtain ⟨H9,I9,q9⟩:=hQ'
   cases b with
   | false =>
    rw [if_neg (by decide)] at q9
    obtain ⟨m',hm,w9⟩:=hN' _ _ q9
    exact again I9 hm w9
   | true =>
    rw [if_pos rfl] at q9
    refine wpAny_mono (he cl _ H3 fp _ s9 σ8 H9 _ I9 q9) (fun u s10 hQ'=>?_) fun _ _ z=>z.elim
    obtain ⟨y,H10,I10,r10,q10⟩:=hQ'
    refine wpAny_mono (zdZ (X:=X.blk Nc scope cl { s2 with heap:=h3,toks:=s2.toks } H3 fp) _ s10 σ8 H10 (.ref D) [y] (.ref D) [u] _ I10 rfl (.cons r10 .nil) q10) (fun _ s11 hQ'=>?_) fun _ _ z=>z.elim
    obtain ⟨_,H11,I11,_,q11⟩:=hQ'
    obtain ⟨m',hm,w11⟩:=hN' _ _ q11
    exact again I11 hm w11
 exact codeAny_compStart_list loop (T.self _ 0 _ _ _ st4 loop)
theorem zbu {X:Cx} {sc:Scope} {N Nc:List Str} {cap:List (Option Nat)} {elt tg iter:Expr} {ifs:List Expr} {scope:Scope} {pos:Pos} {wi:TI} {g:TG} {tt:TT} {te:TE} (hc:X.calm=true) (hsc:X.env.scope=sc) (hN:X.N=N) (B:zjq sc N Nc cap scope) (hi:PI X tg iter wi)
  (hg:∀ cl s H fp,PG (X.blk Nc scope cl s H fp) tg g) (ht:∀ cl s H fp,PTs (X.blk Nc scope cl s H fp) ifs tt) (he:∀ cl s H fp,PE (X.blk Nc scope cl s H fp) elt te)
  (hs:∀ x,foldedSetIterable iter X.env x=pure x:=by intro _;rfl):PE X (.ListComp elt [⟨tg,iter,ifs,0⟩] scope pos) (zbh wi g tt te cap):=by
 intro pins s σ H Q I h
 rw [eval_ListComp]
 refine zhu hc hsc hN B hi hg ht he hs I h fun s3 H3 cl fp D σc Hc s6 I3 f3 I6 q=>?_
 obtain ⟨m,hn,_⟩:=id I6.loc
 exact ⟨m,hn,fun h' hs'=>⟨.ref D,Hc,zkL I3 f3 I6 hs',rfl,q⟩⟩
theorem zbE {X:Cx} {i:Nat} {y:Str} {py spos:Pos} {sc:Scope} {N Nc:List Str} {cap:List (Option Nat)} {elt tg iter:Expr} {ifs:List Expr} {scope:Scope} {pos:Pos} {wi:TI} {g:TG} {tt:TT} {te:TE} (hnd:X.N.Nodup) (hix:X.N[i]?=some y) (hl:X.env.scope.names.lookup y=some .local)
  (hc:X.calm=true) (hsc:X.env.scope=sc) (hN:X.N=N) (B:zjq sc N Nc cap scope) (hi:PI X tg iter wi)
  (hg:∀ cl s H fp,PG (X.blk Nc scope cl s H fp) tg g) (ht:∀ cl s H fp,PTs (X.blk Nc scope cl s H fp) ifs tt) (he:∀ cl s H fp,PE (X.blk Nc scope cl s H fp) elt te)
  (hsw:swapsWith (.ListComp elt [⟨tg,iter,ifs,0⟩] scope pos) (some (.Name y py)) spos.line X.env=pure true:=by rfl)
  (hs:∀ x,foldedSetIterable iter X.env x=pure x:=by intro _;rfl):PS X (.Assign [.Name y py] (.ListComp elt [⟨tg,iter,ifs,0⟩] scope pos) spos) (za1 (zbh wi g tt te cap) (zaf i)):=by
 intro pins s σ H D0 I h
 rw [exec_Assign_Name_used _ _ _ _ hsw]
 refine wpAny_bind (wpAny_standAt (wpAny_bind (wpAny_bind (thn (zhu (use:=some (assign (.Name y py) X.env)) (QQ:=fun _ s'=>SP X pins D0 .next s') hc hsc hN B hi hg ht he hs I h fun s3 H3 cl fp D σc Hc s6 I3 f3 I6 q=>?_) fun _ s' hq=>wpAny_pure (wpAny_pure hq)))))
 have I6x:Inv X pins σ Hc s6:=zkL I3 f3 I6 (Heap.SameBut.refl ..)
 obtain ⟨m,hn,_⟩:=id I6.loc
 have hC:Hc s3.heap.objs.size=none:=I6.free
 have fpC:=I3.fpOk (b:=s3.heap.objs.size) (Nat.le_refl _) hC
 refine wpAny_assign_Name (zhz I6x hnd hix (.inl hl) (v:=.ref D) rfl (fun s7 I7 ch=>?_) (.inr hl))
 obtain ⟨a,same,ha⟩:=ch
 have nC:s3.heap.objs.size≠a:=by
  rcases ha with r | r
  ·rw [r];exact fpC.2.1
  ·exact (fpC.2.2.2.2.1 _ _ r).symm
 refine ⟨m,hn.sameBut same nC,fun h' hs'=>⟨_,_,I7.turns (t':=s7.toks) (ch:=[s3.heap.objs.size]) (fun b o hb e=>(hs'.2 b (by simpa using hb)).trans e) fun b hb=>?_,q⟩⟩
 have e:b=s3.heap.objs.size:=by simpa using hb
 rw [e]
 exact fpC
theorem zk8 {K:PySem.W.Frag} {a:Addr} {xs:List V} {g:TG} {tt:TT} {te:TE} {σ:St} {H:Hp} {D:Addr} {Q:VK} (Pv:Nat→List V→St→Hp→Prop) (h0:Pv 0 [] σ (upd H D (.lst []))) (hl:∀ i ys σ H,i≤xs.length→Pv i ys σ H→SqL K H a xs)
  (hs:∀ i x ys σ H,xs[i]?=some x→H D=some (.lst ys)→Pv i ys σ H→g x σ H fun σ2 H2=>tt σ2 H2 fun b H3=>if b=true then te σ2 H3 fun y H4=>zbo (.ref D) [y] H4 fun _ H5=>∃ ys,H5 D=some (.lst ys)∧Pv (i+1) ys σ2 H5 else ∃ ys,H3 D=some (.lst ys)∧Pv (i+1) ys σ2 H3)
  (hd:∀ ys σ H,H D=some (.lst ys)→Pv xs.length ys σ H→Q (.ref D) H) :
  ∃ W:Nat→Nat→St→Hp→Prop,(∃ m,W 0 m σ (upd H D (.lst [])))∧∀ i m σc Hc,W i m σc Hc →
   ((Itl K a).stop i Hc∧Q (.ref D) Hc)∨((Itl K a).go i Hc∧∃ N:St→Hp→Prop,(∀ σ' H',N σ' H'→∃ m',m'<m∧W (i+1) m' σ' H')∧∀ x H',(Itl K a).yld i Hc x H'→g x σc H' fun σ2 H2=>tt σ2 H2 fun b H3=>if b=true then te σ2 H3 fun y H4=>zbo (.ref D) [y] H4 fun _ H5=>N σ2 H5 else N σ2 H3):=by
 refine ⟨fun i m σ H=>m=xs.length - i∧i≤xs.length∧∃ ys,H D=some (.lst ys)∧Pv i ys σ H,⟨_,rfl,Nat.zero_le _,[],zah,h0⟩,?_⟩
 rintro i m σ H ⟨rfl,hi,ys,hD,pv⟩
 have q:=hl i ys σ H hi pv
 by_cases hlt:i<xs.length
 ·refine .inr ⟨⟨xs,xs[i],q,by simp [hlt]⟩,fun σ H=>∃ ys,H D=some (.lst ys)∧Pv (i+1) ys σ H,fun σ' H' p'=>⟨_,by (first|lia|omega),rfl,hlt,p'⟩,fun x H' yl=>?_⟩
  obtain ⟨e,yl⟩:=yl
  subst e
  exact hs i x ys σ _ (yl xs q) hD pv
 ·have e:i=xs.length:=by (first|lia|omega)
  subst e
  exact .inl ⟨⟨xs,q,Nat.le_refl _⟩,hd ys σ H hD pv⟩
theorem zji {lo:Int} {n:Nat} {g:TG} {tt:TT} {te:TE} {σ:St} {H:Hp} {D:Addr} {Q:VK} (Pv:Nat→List V→St→Hp→Prop) (h0:Pv 0 [] σ (upd H D (.lst [])))
  (hs:∀ i ys σ H,i<n→H D=some (.lst ys)→Pv i ys σ H→g (.int (lo+i)) σ H fun σ2 H2=>tt σ2 H2 fun b H3=>if b=true then te σ2 H3 fun y H4=>zbo (.ref D) [y] H4 fun _ H5=>∃ ys,H5 D=some (.lst ys)∧Pv (i+1) ys σ2 H5 else ∃ ys,H3 D=some (.lst ys)∧Pv (i+1) ys σ2 H3)
  (hd:∀ ys σ H,H D=some (.lst ys)→Pv n ys σ H→Q (.ref D) H) :
  ∃ W:Nat→Nat→St→Hp→Prop,(∃ m,W 0 m σ (upd H D (.lst [])))∧∀ i m σc Hc,W i m σc Hc →
   ((Itr lo n).stop i Hc∧Q (.ref D) Hc)∨((Itr lo n).go i Hc∧∃ N:St→Hp→Prop,(∀ σ' H',N σ' H'→∃ m',m'<m∧W (i+1) m' σ' H')∧∀ x H',(Itr lo n).yld i Hc x H'→g x σc H' fun σ2 H2=>tt σ2 H2 fun b H3=>if b=true then te σ2 H3 fun y H4=>zbo (.ref D) [y] H4 fun _ H5=>N σ2 H5 else N σ2 H3):=by
 refine ⟨fun i m σ H=>m=n - i∧i≤n∧∃ ys,H D=some (.lst ys)∧Pv i ys σ H,⟨_,rfl,Nat.zero_le _,[],zah,h0⟩,?_⟩
 rintro i m σ H ⟨rfl,hi,ys,hD,pv⟩
 by_cases hlt:i<n
 ·refine .inr ⟨hlt,fun σ H=>∃ ys,H D=some (.lst ys)∧Pv (i+1) ys σ H,fun σ' H' p'=>⟨_,by (first|lia|omega),rfl,hlt,p'⟩,fun x H' yl=>?_⟩
  obtain ⟨e,yl⟩:=yl
  subst e yl
  exact hs i ys σ _ hlt hD pv
 ·have e:i=n:=by (first|lia|omega)
  subst e
  exact .inl ⟨Nat.le_refl _,hd ys σ H hD pv⟩
end L2
namespace L2
open PySem PySem.Spec PyProof.Rows
theorem zkp (bs:List Bool):(List.range bs.length).all (fun i=>bs.getD i false)=bs.all id:=by
 rw [Bool.eq_iff_iff,List.all_eq_true,List.all_eq_true]
 constructor
 ·intro h x hx
  obtain ⟨i,hi,e⟩:=List.getElem_of_mem hx
  have:=h i (List.mem_range.mpr hi)
  rw [List.getD_eq_getElem?_getD,List.getElem?_eq_getElem hi] at this
  rw [← e]
  exact this
 ·intro h i hi
  have hi:=List.mem_range.mp hi
  rw [List.getD_eq_getElem?_getD,List.getElem?_eq_getElem hi]
  exact h _ (List.getElem_mem hi)
def rAll (K:PySem.W.Frag):List V→Hp→VK→Prop:=fun xs H Q=>∃ (p:Addr) (bs:List Bool),xs=[.ref p]∧SqL K H p (bs.map V.bl)∧Q (.bl (bs.all id)) H
def zmB (K:PySem.W.Frag):List V→Hp→VK→Prop:=fun xs H Q=>∃ (p:Addr) (ns:List Int),xs=[.ref p]∧SqL K H p (ns.map V.int)∧Q (.int ns.sum) H
theorem zqv {bs:List Bool} {its:List Value} {i:Nat} {v:Value} (r:zbs (bs.map V.bl) its) (e:its.toArray[i]?=some v):v=.bool (bs.getD i false):=by
 have l:=r.length
 rw [List.length_map] at l
 have e':its[i]?=some v:=by simpa using e
 have hi:i<bs.length:=by rw [l];exact (List.getElem?_eq_some_iff.mp e').1
 obtain ⟨u,hu,ru⟩:=r.get (i:=i) (x:=.bl bs[i]) (by rw [List.getElem?_map,List.getElem?_eq_getElem hi];rfl)
 rw [e'] at hu
 cases hu
 cases ru
 rw [List.getD_eq_getElem?_getD,List.getElem?_eq_getElem hi]
 rfl
theorem zlL {P:Program} {w:World} {A:Around} {bs:List Bool} {its:List Value} (r:zbs (bs.map V.bl) its):TruthOf P w A (fun i v=>its.toArray[i]?=some v) fun i=>bs.getD i false:=fun i v s Q E hP hQ=>by
 rw [zqv r hP]
 exact wpAny_pure hQ
section
variable {X:Cx}
theorem ziU (hc:X.calm=true):zfE X (.builtin "all") (rAll X.K):=by
 intro pins s σ H xs us Q I r h
 obtain ⟨p,bs,rfl,hl,q⟩:=h
 obtain ⟨u,rfl,ru⟩:=r.one
 cases ru
 obtain ⟨its,rv,pl,_⟩:=I.list hl
 have l:=rv.length
 rw [List.length_map] at l
 obtain ⟨o,n,e,_⟩:=id pl
 have hne:p≠s.heap.objs.size:=Nat.ne_of_lt (Heap.lt_size e)
 refine call_all_walk (wpAny_pyIter_list pl.isList ?_)
 refine ⟨s.heap.objs.size,_,_,_,_,_,fun i=>bs.getD i false,rfl,Walks.list (A:=X.A.in1) (I.ok.hd hc) _ p hne its.toArray,⟨⟨_,Heap.get?_push_size _ rfl,rfl,rfl⟩,?_⟩,zlL rv,fun h' tk hk=>⟨.bl _,H,I.kept fun b u eb=>?_,rfl,?_⟩⟩
 ·exact pl.isList.at fun o e=>Heap.get?_push_of_some _ e
 ·exact hk b u (fun z=>Nat.ne_of_lt (Heap.lt_size eb) (by simpa using z)) (Heap.get?_push_of_some _ eb)
 ·rw [List.size_toArray,← l,zkp]
  exact q
theorem zia {ns:List Int} {its:List Value} {i:Nat} {v:Value} (r:zbs (ns.map V.int) its) (e:its.toArray[i]?=some v):∃ t,v=.int (ns.getD i 0) t:=by
 have l:=r.length
 rw [List.length_map] at l
 have e':its[i]?=some v:=by simpa using e
 have hi:i<ns.length:=by rw [l];exact (List.getElem?_eq_some_iff.mp e').1
 obtain ⟨u,hu,ru⟩:=r.get (i:=i) (x:=.int ns[i]) (by rw [List.getElem?_map,List.getElem?_eq_getElem hi];rfl)
 rw [e'] at hu
 cases hu
 obtain ⟨t,rfl⟩:=ru
 refine ⟨t,?_⟩
 rw [List.getD_eq_getElem?_getD,List.getElem?_eq_getElem hi]
 rfl
theorem zfM (ns:List Int):∀ k,k≤ns.length→preSum (fun i=>ns.getD i 0) k=(ns.take k).sum
 | 0,_=>by simp [preSum]
 | k+1,h=>by
  rw [preSum,zfM ns k (by (first|lia|omega)),List.take_add_one,List.getElem?_eq_getElem (by (first|lia|omega)),List.sum_append,List.getD_eq_getElem?_getD,List.getElem?_eq_getElem (by (first|lia|omega))]
  simp
theorem zeP (hc:X.calm=true):zfE X (.builtin "sum") (zmB X.K):=by
 intro pins s σ H xs us Q I r h
 obtain ⟨p,ns,rfl,hl,q⟩:=h
 obtain ⟨u,rfl,ru⟩:=r.one
 cases ru
 obtain ⟨its,rv,pl,_⟩:=I.list hl
 have l:=rv.length
 rw [List.length_map] at l
 obtain ⟨o,n,e,_⟩:=id pl
 have hlt:=Heap.lt_size e
 have hne:p≠s.heap.objs.size:=Nat.ne_of_lt hlt
 refine call_sum_walkG (wpAny_pyIter_list pl.isList ?_)
 refine ⟨s.heap.objs.size,_,_,_,_,_,fun i=>ns.getD i 0,rfl,Walks.list (A:=X.A.in1) (I.ok.hd hc) _ p hne its.toArray,⟨⟨_,Heap.get?_push_size _ rfl,rfl,rfl⟩,?_⟩,fun b hb=>?_,fun i v hv=>zia rv hv,fun h' tk t' hk=>⟨.int _,H,I.kept fun b u eb=>?_,⟨t',rfl⟩,?_⟩⟩
 ·exact pl.isList.at fun o e=>Heap.get?_push_of_some _ e
 ·rw [Heap.size_push]
  rcases List.mem_cons.mp hb with z | z
  ·rw [z];exact Nat.lt_succ_self _
  ·have z':b=p:=by simpa using z
   rw [z'];exact Nat.lt_succ_of_lt hlt
 ·exact hk b u (fun z=>Nat.ne_of_lt (Heap.lt_size eb) (by simpa using z)) (Heap.get?_push_of_some _ eb)
 ·rw [List.size_toArray,← l,zfM _ _ (Nat.le_refl _),List.take_length]
  exact q
end
end L2
namespace L2
open PySem PySem.Spec PyProof.Rows
def Itz (K:PySem.W.Frag) (p q:Addr):It where
 go:=fun i H=>∃ xs ys a b,SqL K H p xs∧SqL K H q ys∧xs[i]?=some a∧ys[i]?=some b
 yld:=fun i H x H'=>∃ t a b,x=.ref t∧H t=none∧H'=upd H t (.tup [a,b])∧(∀ xs,SqL K H p xs→xs[i]?=some a)∧∀ ys,SqL K H q ys→ys[i]?=some b
 stop:=fun i H=>∃ xs ys,SqL K H p xs∧SqL K H q ys∧i=min xs.length ys.length
def tnZ (z TI TO i1 i2 p q:Addr) (i:Nat) (h:Heap):Prop:=IsZip h z TI TO .none∧IsPair h TI (.ref i1) (.ref i2)∧(∃ a b,IsPair h TO a b)∧h.IsListIter i1 p i∧h.IsListIter i2 q i
theorem zlv {z TI TO i1 i2 p q:Addr} {i:Nat} {h h':Heap} (st:tnZ z TI TO i1 i2 p q i h) (k:∀ b∈[z,TI,TO,i1,i2],∀ o,h.get? b=some o→h'.get? b=some o):tnZ z TI TO i1 i2 p q i h':=by
 obtain ⟨a1,a2,⟨x,y,a3⟩,a4,a5⟩:=st
 exact ⟨k z (by simp) _ a1,k TI (by simp) _ a2,⟨x,y,k TO (by simp) _ a3⟩,a4.at fun o e=>k i1 (by simp) o e,a5.at fun o e=>k i2 (by simp) o e⟩
theorem zcR {o:Obj} {vs:Array Value} (h:o.data=.fields vs):∀ v,o.data≠.cell v:=fun v z=>by rw [h] at z;cases z
theorem zl8 {P:Program} {w:World} {K:PySem.W.Frag} {elts:List Expr} {k:Nat} {pos:Pos} {z TI TO i1 i2 p q:Addr} (D:ZipApart z TI TO i1 i2 p q):Turn P w K (.Tuple elts k pos) (Itz K p q) [z,TI,TO,i1,i2] z (tnZ z TI TO i1 i2 p q) where
 mem:=by simp
 obj:=fun i h st b hb=>by
  obtain ⟨a1,a2,⟨x,y,a3⟩,⟨o4,a4,_,d4⟩,⟨o5,a5,_,d5⟩⟩:=st
  simp only [List.mem_cons,List.not_mem_nil,or_false] at hb
  rcases hb with rfl | rfl | rfl | rfl | rfl
  ·exact ⟨_,a1,zcR rfl⟩
  ·exact ⟨_,a2,fun v z=>nomatch (show Data.seq _ _=Data.cell v from z)⟩
  ·exact ⟨_,a3,fun v z=>nomatch (show Data.seq _ _=Data.cell v from z)⟩
  ·exact ⟨_,a4,zcR d4⟩
  ·exact ⟨_,a5,zcR d5⟩
 keep:=fun i h h' st kk=>zlv st kk
 item:=by
  intro X hP hw hK hc i pins s σ H E I hf st hg
  subst hP hw hK
  obtain ⟨xs,ys,a,b,hx,hy,ea,eb⟩:=hg
  obtain ⟨its1,r1,pl1,z1⟩:=I.list hx
  obtain ⟨its2,r2,pl2,z2⟩:=I.list hy
  obtain ⟨ua,eua,rua⟩:=r1.get ea
  obtain ⟨ub,eub,rub⟩:=r2.get eb
  obtain ⟨s1,s2,s3,s4,s5⟩:=st
  have W:=WalksT.zip2 (prog:=X.prog) (w:=X.w) (A:=X.A) (I.ok.hd hc) z TI TO i1 i2 p q D its1.toArray its2.toArray
  have hi:i<min its1.toArray.size its2.toArray.size:=by
   have h1:=(List.getElem?_eq_some_iff.mp eua).1
   have h2:=(List.getElem?_eq_some_iff.mp eub).1
   simp only [List.size_toArray]
   (first|lia|omega)
  refine W.item i s _ _ hi ⟨s1,s2,s3,s4,s5,pl1.isList,pl2.isList⟩ fun T vals h' tk hp hT hTup mid kk=>⟨_,rfl,?_⟩
  obtain ⟨u,v,e1,e2,rfl⟩:=hp
  have e1':u=ua:=by
   have:its1[i]?=some u:=by simpa using e1
   rw [eua] at this;cases this;rfl
  have e2':v=ub:=by
   have:its2[i]?=some v:=by simpa using e2
   rw [eub] at this;cases this;rfl
  subst e1' e2'
  refine W.go elts k pos i T { s with heap:=h',toks:=tk } _ _ mid fun h2 st2 kk2=>?_
  obtain ⟨t1,t2,t3,t4,t5,_,_⟩:=st2
  have sub:∀ b∈[z,TO,i1,i2],b∈[z,TI,TO,i1,i2]:=fun b hb=>by
   simp only [List.mem_cons,List.not_mem_nil,or_false] at hb ⊢
   rcases hb with h | h | h | h <;> simp [h]
  have I1:Inv X pins σ H { s with heap:=h2,toks:=tk }:=I.turns (ch:=[z,TO,i1,i2]) (fun b o hb e=>kk2 b o hb (kk b o hb e)) fun b hb=>hf b (sub b hb)
  have nT:H T=none:=I.hok.fresh hT
  have I2:=I1.track (a:=T) (o:=.tup [a,b]) nT (Heap.get?_none_of_le (Nat.le_trans I.sz hT)) (Nat.ne_of_gt (Nat.lt_of_lt_of_le I.lt hT)) (fun x c e=>by
   obtain ⟨v,q⟩:=I.cell x c e
   exact Nat.ne_of_lt (Nat.lt_of_lt_of_le q.lt hT)) (fun p hp=>Nat.ne_of_lt (Nat.lt_of_lt_of_le (Heap.lt_size (I.pin p hp).1) hT)) (by
   refine ⟨by show 2≤sizeLine;decide,[u,v],.cons rua (.cons rub .nil),?_⟩
   obtain ⟨o,ho,hcl,hd⟩:=hTup
   exact ⟨o,kk2 T o (W.apart i T h' mid) ho,hcl,hd⟩)
  refine ⟨.ref T,_,I2,rfl,⟨T,a,b,rfl,nT,rfl,fun xs' h'=>?_,fun ys' h'=>?_⟩,⟨t1,t2,t3,t4,t5⟩,fun b hb=>?_⟩
  ·rw [I.list_inj h' hx];exact ea
  ·rw [I.list_inj h' hy];exact eb
  ·have hb2:∃ o,s.heap.get? b=some o:=by
    obtain ⟨x3,y3,s3⟩:=s3
    obtain ⟨o4,s4,_⟩:=s4
    obtain ⟨o5,s5,_⟩:=s5
    simp only [List.mem_cons,List.not_mem_nil,or_false] at hb
    rcases hb with h | h | h | h | h <;> rw [h] <;> first | exact ⟨_,s1⟩ | exact ⟨_,s2⟩ | exact ⟨_,s3⟩ | exact ⟨_,s4⟩ | exact ⟨_,s5⟩
   obtain ⟨o,e⟩:=hb2
   rw [zaY (Nat.ne_of_lt (Nat.lt_of_lt_of_le (Heap.lt_size e) hT))]
   exact (hf b hb).1
 done:=by
  intro X hP hw hK hc i pins s σ H E I hf st hg
  subst hP hw hK
  obtain ⟨xs,ys,hx,hy,rfl⟩:=hg
  obtain ⟨its1,r1,pl1,z1⟩:=I.list hx
  obtain ⟨its2,r2,pl2,z2⟩:=I.list hy
  obtain ⟨s1,s2,s3,s4,s5⟩:=st
  have W:=WalksT.zip2 (prog:=X.prog) (w:=X.w) (A:=X.A) (I.ok.hd hc) z TI TO i1 i2 p q D its1.toArray its2.toArray
  have sub:∀ b∈[z,TO,i1,i2],b∈[z,TI,TO,i1,i2]:=fun b hb=>by
   simp only [List.mem_cons,List.not_mem_nil,or_false] at hb ⊢
   rcases hb with h | h | h | h <;> simp [h]
  refine W.done s _ _ ?_ fun h' tk kk=>⟨rfl,I.turns (ch:=[z,TO,i1,i2]) (fun b o hb e=>kk b o hb e) fun b hb=>hf b (sub b hb)⟩
  rw [List.size_toArray,List.size_toArray,← r1.length,← r2.length]
  exact ⟨s1,s2,s3,s4,s5,pl1.isList,pl2.isList⟩
 self:=fun A i s Q E st h=>wpAny_pyIter_zip st.1 h
def zgE (K:PySem.W.Frag) (ta:TA):TI:=fun σ H R=>ta σ H fun vs H1=>∃ p q,vs=[.ref p,.ref q]∧(∃ xs,SqL K H1 p xs)∧(∃ ys,SqL K H1 q ys)∧R (Itz K p q) H1
theorem zdf {X:Cx} {a b:Expr} {elts:List Expr} {k:Nat} {tp p pos:Pos} {ta:TA} (hg:Gl X "zip") (hm:X.mg "zip"=none) (ha:PA X [a,b] ta) (hs:starEach [a,b] X.env=[(false,eval a X.env),(false,eval b X.env)]:=by rfl) (hs2:starEach [b] X.env=[(false,eval b X.env)]:=by rfl) :
  PI X (.Tuple elts k tp) (.Call (.Name "zip" p) [a,b] [] pos) (zgE X.K ta):=by
 intro pins s σ H R I h
 refine Call_ (ze1 I hg hm boot_zip (PyProof.Rows.callWith_type1 (thn (ha pos pins s σ H _ I h) fun us s1 hQ'=>?_) (by rw [hs,hs2]) (by rw [hs2];rfl)))
 obtain ⟨vs,H1,I1,r1,q1⟩:=hQ'
 obtain ⟨p1,p2,rfl,⟨xs,hx⟩,⟨ys,hy⟩,q⟩:=q1
 obtain ⟨u,v,rfl,ru,rv⟩:=zld r1
 cases ru
 cases rv
 obtain ⟨its1,_,pl1,_⟩:=I1.list hx
 obtain ⟨its2,_,pl2,_⟩:=I1.list hy
 have a1:p1<s1.heap.objs.size:=by obtain ⟨_,e,_⟩:=pl1.isList;exact Heap.lt_size e
 have a2:p2<s1.heap.objs.size:=by obtain ⟨_,e,_⟩:=pl2.isList;exact Heap.lt_size e
 refine call_zip_2 pl1.isList pl2.isList fun h' hz hTI hTO hi1 hi2 hsz hk=>?_
 refine wpAny_pyIter_zip hz ?_
 refine ⟨_,_,_,_,H1,rfl,I1.kept (t':=s1.toks) hk,zl8 (zipApart_new a1 a2),⟨hz,hTI,⟨_,_,hTO⟩,hi1,hi2⟩,fun b hb=>?_,q⟩
 have hb':s1.heap.objs.size≤b:=by
  simp only [List.mem_cons,List.not_mem_nil,or_false] at hb
  rcases hb with h | h | h | h | h <;> rw [h] <;> first | exact Nat.le_refl _ | exact Nat.le_add_right _ _
 exact I1.fpOk hb' (I1.hok.fresh hb')
theorem znk {K:PySem.W.Frag} {p q:Addr} {xs ys:List V} {g:TG} {tb:TS} {D:zbU} {σ:St} {H:Hp} (Pv:Nat→St→Hp→Prop) (h0:Pv 0 σ H) (hl:∀ i σ H,i≤min xs.length ys.length→Pv i σ H→SqL K H p xs∧SqL K H q ys)
  (hs:∀ i x y t σ H,xs[i]?=some x→ys[i]?=some y→Pv i σ H→H t=none→g (.ref t) σ (upd H t (.tup [x,y])) fun σ2 H2=>tb { D with nx:=Pv (i+1),ct:=Pv (i+1),bk:=D.nx } σ2 H2) (hd:∀ σ H,Pv (min xs.length ys.length) σ H→D.nx σ H) :
  ∃ W:Nat→Nat→St→Hp→Prop,(∃ m,W 0 m σ H)∧∀ i m σ H,W i m σ H →
   ((Itz K p q).stop i H∧D.nx σ H)∨((Itz K p q).go i H∧∃ N:St→Hp→Prop,(∀ σ' H',N σ' H'→∃ m',m'<m∧W (i+1) m' σ' H')∧∀ x H',(Itz K p q).yld i H x H'→g x σ H' fun σ2 H2=>tb { D with nx:=N,ct:=N,bk:=D.nx } σ2 H2):=by
 refine ⟨fun i m σ H=>m=min xs.length ys.length - i∧i≤min xs.length ys.length∧Pv i σ H,⟨_,rfl,Nat.zero_le _,h0⟩,?_⟩
 rintro i m σ H ⟨rfl,hi,pv⟩
 obtain ⟨hx,hy⟩:=hl i σ H hi pv
 by_cases hlt:i<min xs.length ys.length
 ·have l1:i<xs.length:=by (first|lia|omega)
  have l2:i<ys.length:=by (first|lia|omega)
  refine .inr ⟨⟨xs,ys,xs[i],ys[i],hx,hy,by simp [l1],by simp [l2]⟩,Pv (i+1),fun σ' H' p'=>⟨_,by (first|lia|omega),rfl,hlt,p'⟩,fun x H' yl=>?_⟩
  obtain ⟨t,a,b,rfl,ht,rfl,e1,e2⟩:=yl
  exact hs i a b t σ H (e1 xs hx) (e2 ys hy) pv ht
 ·have e:i=min xs.length ys.length:=by (first|lia|omega)
  subst e
  exact .inl ⟨⟨xs,ys,hx,hy,rfl⟩,hd σ H pv⟩
theorem zlO {K:PySem.W.Frag} {p q:Addr} {xs zs:List V} {g:TG} {tt:TT} {te:TE} {σ:St} {H:Hp} {D:Addr} {Q:VK} (Pv:Nat→List V→St→Hp→Prop) (h0:Pv 0 [] σ (upd H D (.lst [])))
  (hl:∀ i ys σ H,i≤min xs.length zs.length→Pv i ys σ H→SqL K H p xs∧SqL K H q zs)
  (hs:∀ i x z t ys σ H,xs[i]?=some x→zs[i]?=some z→H D=some (.lst ys)→Pv i ys σ H→H t=none→g (.ref t) σ (upd H t (.tup [x,z])) fun σ2 H2=>tt σ2 H2 fun b H3=>if b=true then te σ2 H3 fun y H4=>zbo (.ref D) [y] H4 fun _ H5=>∃ ys,H5 D=some (.lst ys)∧Pv (i+1) ys σ2 H5 else ∃ ys,H3 D=some (.lst ys)∧Pv (i+1) ys σ2 H3)
  (hd:∀ ys σ H,H D=some (.lst ys)→Pv (min xs.length zs.length) ys σ H→Q (.ref D) H) :
  ∃ W:Nat→Nat→St→Hp→Prop,(∃ m,W 0 m σ (upd H D (.lst [])))∧∀ i m σc Hc,W i m σc Hc →
   ((Itz K p q).stop i Hc∧Q (.ref D) Hc)∨((Itz K p q).go i Hc∧∃ N:St→Hp→Prop,(∀ σ' H',N σ' H'→∃ m',m'<m∧W (i+1) m' σ' H')∧∀ x H',(Itz K p q).yld i Hc x H'→g x σc H' fun σ2 H2=>tt σ2 H2 fun b H3=>if b=true then te σ2 H3 fun y H4=>zbo (.ref D) [y] H4 fun _ H5=>N σ2 H5 else N σ2 H3):=by
 refine ⟨fun i m σ H=>m=min xs.length zs.length - i∧i≤min xs.length zs.length∧∃ ys,H D=some (.lst ys)∧Pv i ys σ H,⟨_,rfl,Nat.zero_le _,[],zah,h0⟩,?_⟩
 rintro i m σ H ⟨rfl,hi,ys,hD,pv⟩
 obtain ⟨hx,hz⟩:=hl i ys σ H hi pv
 by_cases hlt:i<min xs.length zs.length
 ·have l1:i<xs.length:=by (first|lia|omega)
  have l2:i<zs.length:=by (first|lia|omega)
  refine .inr ⟨⟨xs,zs,xs[i],zs[i],hx,hz,by simp [l1],by simp [l2]⟩,fun σ H=>∃ ys,H D=some (.lst ys)∧Pv (i+1) ys σ H,fun σ' H' p'=>⟨_,by (first|lia|omega),rfl,hlt,p'⟩,fun x H' yl=>?_⟩
  obtain ⟨t,a,b,rfl,ht,rfl,e1,e2⟩:=yl
  exact hs i a b t ys σ H (e1 xs hx) (e2 zs hz) hD pv ht
 ·have e:i=min xs.length zs.length:=by (first|lia|omega)
  subst e
  exact .inl ⟨⟨xs,zs,hx,hz,rfl⟩,hd ys σ H hD pv⟩
end L2
namespace L2
open PySem PySem.Spec PyProof.Rows
section
variable {X:Cx}
end
def zd9 (J:It) (g:TG) (tt:TT) (te:TE) (D:Addr) (Q:VK) (σ:St) (H:Hp):Prop:=∃ W:Nat→Nat→St→Hp→Prop,(∃ m,W 0 m σ H)∧∀ i m σc Hc,W i m σc Hc →
 (J.stop i Hc∧Q (.ref D) Hc)∨(J.go i Hc∧∃ N:St→Hp→Prop,(∀ σ' H',N σ' H'→∃ m',m'<m∧W (i+1) m' σ' H')∧∀ x H',J.yld i Hc x H'→g x σc H' fun σ2 H2=>tt σ2 H2 fun b H3=>if b=true then te σ2 H3 fun y H4=>zbo (.ref D) [y] H4 fun _ H5=>N σ2 H5 else N σ2 H3)
theorem zmo {wi:TI} {g:TG} {tt:TT} {te:TE} {cap:List (Option Nat)} {σ:St} {H:Hp} {Q:VK}:zbh wi g tt te cap σ H Q=wi σ H fun J H1=>∀ D,H1 D=none→zd9 J g tt te D Q (zoB cap σ) (upd H1 D (.lst [])):=rfl
theorem zb8 {K:PySem.W.Frag} {a:Addr} {xs:List V} {g:TG} {tt:TT} {te:TE} {σ:St} {H:Hp} {D:Addr} {Q:VK} (Pv:Nat→List V→St→Hp→Prop) (h0:Pv 0 [] σ (upd H D (.lst []))) (hl:∀ i ys σ H,i≤xs.length→Pv i ys σ H→SqL K H a xs)
  (hs:∀ i x ys σ H,xs[i]?=some x→H D=some (.lst ys)→Pv i ys σ H→g x σ H fun σ2 H2=>tt σ2 H2 fun b H3=>if b=true then te σ2 H3 fun y H4=>zbo (.ref D) [y] H4 fun _ H5=>∃ ys,H5 D=some (.lst ys)∧Pv (i+1) ys σ2 H5 else ∃ ys,H3 D=some (.lst ys)∧Pv (i+1) ys σ2 H3)
  (hd:∀ ys σ H,H D=some (.lst ys)→Pv xs.length ys σ H→Q (.ref D) H):zd9 (Itl K a) g tt te D Q σ (upd H D (.lst [])):=zk8 Pv h0 hl hs hd
theorem zfh {lo:Int} {n:Nat} {g:TG} {tt:TT} {te:TE} {σ:St} {H:Hp} {D:Addr} {Q:VK} (Pv:Nat→List V→St→Hp→Prop) (h0:Pv 0 [] σ (upd H D (.lst [])))
  (hs:∀ i ys σ H,i<n→H D=some (.lst ys)→Pv i ys σ H→g (.int (lo+i)) σ H fun σ2 H2=>tt σ2 H2 fun b H3=>if b=true then te σ2 H3 fun y H4=>zbo (.ref D) [y] H4 fun _ H5=>∃ ys,H5 D=some (.lst ys)∧Pv (i+1) ys σ2 H5 else ∃ ys,H3 D=some (.lst ys)∧Pv (i+1) ys σ2 H3)
  (hd:∀ ys σ H,H D=some (.lst ys)→Pv n ys σ H→Q (.ref D) H):zd9 (Itr lo n) g tt te D Q σ (upd H D (.lst [])):=zji Pv h0 hs hd
theorem zd7 {K:PySem.W.Frag} {p q:Addr} {xs zs:List V} {g:TG} {tt:TT} {te:TE} {σ:St} {H:Hp} {D:Addr} {Q:VK} (Pv:Nat→List V→St→Hp→Prop) (h0:Pv 0 [] σ (upd H D (.lst [])))
  (hl:∀ i ys σ H,i≤min xs.length zs.length→Pv i ys σ H→SqL K H p xs∧SqL K H q zs)
  (hs:∀ i x z t ys σ H,xs[i]?=some x→zs[i]?=some z→H D=some (.lst ys)→Pv i ys σ H→H t=none→g (.ref t) σ (upd H t (.tup [x,z])) fun σ2 H2=>tt σ2 H2 fun b H3=>if b=true then te σ2 H3 fun y H4=>zbo (.ref D) [y] H4 fun _ H5=>∃ ys,H5 D=some (.lst ys)∧Pv (i+1) ys σ2 H5 else ∃ ys,H3 D=some (.lst ys)∧Pv (i+1) ys σ2 H3)
  (hd:∀ ys σ H,H D=some (.lst ys)→Pv (min xs.length zs.length) ys σ H→Q (.ref D) H):zd9 (Itz K p q) g tt te D Q σ (upd H D (.lst [])):=zlO Pv h0 hl hs hd
theorem zlV {K:PySem.W.Frag} {p q:Addr} {xs ys:List V} {g:TG} {tb:TS} {D:zbU} {σ:St} {H:Hp} (Pv:Nat→St→Hp→Prop) (h0:Pv 0 σ H) (hl:∀ i σ H,i≤min xs.length ys.length→Pv i σ H→SqL K H p xs∧SqL K H q ys)
  (hs:∀ i x y t σ H,xs[i]?=some x→ys[i]?=some y→Pv i σ H→H t=none→g (.ref t) σ (upd H t (.tup [x,y])) fun σ2 H2=>tb { D with nx:=Pv (i+1),ct:=Pv (i+1),bk:=D.nx } σ2 H2) (hd:∀ σ H,Pv (min xs.length ys.length) σ H→D.nx σ H):zkR (Itz K p q) g tb D σ H:=znk Pv h0 hl hs hd
end L2
namespace L2
open PySem PySem.Spec PyProof.Rows
section
variable {X:Cx}
def zgt:V→List V→Hp→VK→Prop:=fun x vs H Q=>∃ l xs k y,x=.ref l∧vs=[.int k,y]∧H l=some (.lst xs)∧0≤k∧k≤(xs.length:Int)∧xs.length<1000000∧Q .non (upd H l (.lst (xs.take k.toNat++y::xs.drop k.toNat)))
theorem zhF {xs:List V} {us:List Value} (r:zbs xs us):∀ n:Nat,zbs (xs.take n) (us.take n)∧zbs (xs.drop n) (us.drop n):=by
 induction r with
 | nil=>intro n;rw [List.take_nil,List.take_nil,List.drop_nil,List.drop_nil];exact ⟨.nil,.nil⟩
 | cons h t ih =>
  intro n
  cases n with
  | zero=>exact ⟨.nil,.cons h t⟩
  | succ n=>exact ⟨.cons h (ih n).1,(ih n).2⟩
theorem zkU:MtM X "list.insert" zgt:=by
 intro pins s σ H x vs v us Q I rx rv h
 obtain ⟨l,xs,k,y,rfl,rfl,hH,k0,k1,hz,q⟩:=h
 cases rx
 obtain ⟨u,w,rfl,ru,rw'⟩:=zld rv
 obtain ⟨tk,rfl⟩:=ru
 obtain ⟨z,its,n,r,hl,e⟩:=I.lstM hH
 have lr:=r.length
 have fit:¬(!Builtin.List.listFitsIndex k)=true:=by
  have:Builtin.List.listFitsIndex k=true:=by
   unfold Builtin.List.listFitsIndex
   simp only [Bool.and_eq_true,decide_eq_true_eq]
   (first|lia|omega)
  rw [this]
  decide
 refine call_meets F.slot_list_insert ⟨_,e,rfl⟩ F.entry_list_insert (F.args_list_insert_3 _ _ _) (AutoSeq1.list_insert_list_int_val_1 l its.toArray n k tk w fit (by rw [List.size_toArray];(first|lia|omega))) ⟨e,?_⟩
 refine ⟨.non,_,I.lset (its':=its.take k.toNat++w::its.drop k.toNat) hH e ?_ ((zhF r _).1.append (.cons rw' (zhF r _).2)) ?_,rfl,q⟩
 ·have e1:(if k<0 then (k+(its.toArray.size:Int)).toNat else min k.toNat its.toArray.size)=k.toNat:=by
   rw [if_neg (by (first|lia|omega)),List.size_toArray,← lr]
   (first|lia|omega)
  simp only [e1]
  apply Array.toList_inj.mp
  simp
  exact List.take_of_length_le (by rw [List.length_drop];exact Nat.le_refl _)
 ·rw [List.length_append,List.length_cons,List.length_take,List.length_drop]
  have:(1000000:Nat)≤sizeLine:=by decide
  (first|lia|omega)
def zjr (K:PySem.W.Frag):List V→Hp→VK→Prop:=fun xs H Q=>∃ (p:Addr) (ns:List Int),xs=[.ref p]∧SqL K H p (ns.map V.int)∧0<ns.length∧∀ m,m∈ns→(∀ a∈ns,a≤m)→Q (.int m) H
theorem zog {ns:List Int} {i:Nat} (h:i<ns.length):ns.getD i 0∈ns:=by
 rw [zeu h]
 exact List.getElem_mem h
theorem zm7 {ns:List Int} {a:Int} (h:a∈ns):∃ i,i<ns.length∧a=ns.getD i 0:=by
 obtain ⟨i,hi,e⟩:=List.getElem_of_mem h
 exact ⟨i,hi,by rw [zeu hi,e]⟩
theorem zhs (hc:X.calm=true):zfE X (.builtin "max") (zjr X.K):=by
 intro pins s σ H xs us Q I r h
 obtain ⟨p,ns,rfl,hl,hn,q⟩:=h
 obtain ⟨u,rfl,ru⟩:=r.one
 cases ru
 obtain ⟨its,rv,pl,_⟩:=I.list hl
 have l:=rv.length
 rw [List.length_map] at l
 obtain ⟨o,n,e,_⟩:=id pl
 have hlt:=Heap.lt_size e
 have hne:p≠s.heap.objs.size:=Nat.ne_of_lt hlt
 refine call_max_walk (wpAny_pyIter_list pl.isList ?_)
 refine ⟨s.heap.objs.size,_,_,_,_,_,_,rfl,Walks.list (A:=X.A.in1) (I.ok.hd hc) _ p hne its.toArray,⟨⟨_,Heap.get?_push_size _ rfl,rfl,rfl⟩,?_⟩,fun b hb=>?_,by rw [List.size_toArray];(first|lia|omega),CmpOf.ints_gt (fun i=>ns.getD i 0) (fun i v hv=>zia rv hv),fun v h' tk hv hk=>?_⟩
 ·exact pl.isList.at fun o e=>Heap.get?_push_of_some _ e
 ·rw [Heap.size_push]
  rcases List.mem_cons.mp hb with z | z
  ·rw [z];exact Nat.lt_succ_self _
  ·have z':b=p:=by simpa using z
   rw [z'];exact Nat.lt_succ_of_lt hlt
 ·obtain ⟨t,rfl⟩:=zia rv hv
  obtain ⟨b1,b2⟩:=argBest_gt (fun i=>ns.getD i 0) (its.toArray.size - 1)
  rw [List.size_toArray] at b1 b2
  refine ⟨.int _,H,I.kept fun b u eb=>hk b u (fun z=>Nat.ne_of_lt (Heap.lt_size eb) (by simpa using z)) (Heap.get?_push_of_some _ eb),⟨t,rfl⟩,q _ (zog (by rw [List.size_toArray];(first|lia|omega))) fun a ha=>?_⟩
  obtain ⟨j,hj,rfl⟩:=zm7 ha
  exact b2 j (by (first|lia|omega))
end
end L2
namespace L2
open PySem PySem.Spec PyProof.Rows
section
variable {X:Cx}
theorem zkm:∀ {xs:List V} {us:List Value},xs.length=us.length→(∀ (j:Nat) x u,xs[j]?=some x→us[j]?=some u→zch x u)→zbs xs us
 | [],[],_,_=>.nil
 | [],_::_,h,_=>by simp at h
 | _::_,[],h,_=>by simp at h
 | x::xs,u::us,h,r=>.cons (r 0 x u rfl rfl) (zkm (by simpa using h) fun j y v e1 e2=>r (j+1) y v e1 e2)
end
end L2
namespace L2
open PySem PySem.Spec PyProof.Rows
section
variable {X:Cx}
theorem ziT:∀ {ns:List Int} {us:List Value},zbs (ns.map V.int) us→IntsAre us ns
 | [],_,r=>by rw [List.map_nil] at r;cases r;exact .nil
 | n::ns,_,r=>by
  rw [List.map_cons] at r
  cases r with
  | cons h t =>
   obtain ⟨t',rfl⟩:=h
   exact .cons _ _ (ziT t)
theorem zhw:∀ {ns:List Int} {us:List Value},IntsAre us ns→zbs (ns.map V.int) us
 | _,_,.nil=>.nil
 | _,_,.cons n t r=>.cons ⟨t,rfl⟩ (zhw r)
theorem zjc {pins:List (Addr×Obj)} {σ:St} {H:Hp} {s:Shared} {l:Addr} {h':Heap} {tk:Nat} {out:Array Value} {e:Nat} {ns':List Int} {Q:VK} (I:Inv X pins σ H s) (kp:∀ b o,s.heap.get? b=some o→h'.get? b=some o) (hlt:s.heap.objs.size≤l)
  (ho:h'.get? l=some (seqObj "list" out e)) (hI:IntsAre out.toList ns') (hl:ns'.length<64) (q:H l=none→Q (.ref l) (upd H l (.lst (ns'.map V.int)))):EP X pins σ Q (.ref l) { s with heap:=h',toks:=tk }:=by
 refine ⟨.ref l,_,I.laid (t':=tk) kp hlt (show zci X.prog X.w _ h' _ (.lst (ns'.map V.int)) from ⟨?_,out.toList,e,zhw hI,ho⟩),rfl,q (I.hok.fresh hlt)⟩
 rw [List.length_map,sizeLine_eq]
 (first|lia|omega)
end
end L2
namespace L2
open PySem
theorem znI {v:V} {σ:List (Option V)} {H:Hp} {Q:VK}:zac 0 (some v::σ) H Q=Q v H:=by simp [zac]
theorem znH {x0:Option V} {v:V} {σ:List (Option V)} {H:Hp} {Q:VK}:zac 1 (x0::some v::σ) H Q=Q v H:=by simp [zac]
theorem zn6 {x0 x1:Option V} {v:V} {σ:List (Option V)} {H:Hp} {Q:VK}:zac 2 (x0::x1::some v::σ) H Q=Q v H:=by simp [zac]
theorem znc {x0 x1 x2:Option V} {v:V} {σ:List (Option V)} {H:Hp} {Q:VK}:zac 3 (x0::x1::x2::some v::σ) H Q=Q v H:=by simp [zac]
theorem znm {x0 x1 x2 x3:Option V} {v:V} {σ:List (Option V)} {H:Hp} {Q:VK}:zac 4 (x0::x1::x2::x3::some v::σ) H Q=Q v H:=by simp [zac]
theorem znT {x0 x1 x2 x3 x4:Option V} {v:V} {σ:List (Option V)} {H:Hp} {Q:VK}:zac 5 (x0::x1::x2::x3::x4::some v::σ) H Q=Q v H:=by simp [zac]
theorem zn1 {x0 x1 x2 x3 x4 x5:Option V} {v:V} {σ:List (Option V)} {H:Hp} {Q:VK}:zac 6 (x0::x1::x2::x3::x4::x5::some v::σ) H Q=Q v H:=by simp [zac]
theorem znF {x0 x1 x2 x3 x4 x5 x6:Option V} {v:V} {σ:List (Option V)} {H:Hp} {Q:VK}:zac 7 (x0::x1::x2::x3::x4::x5::x6::some v::σ) H Q=Q v H:=by simp [zac]
theorem znO {x0 x1 x2 x3 x4 x5 x6 x7:Option V} {v:V} {σ:List (Option V)} {H:Hp} {Q:VK}:zac 8 (x0::x1::x2::x3::x4::x5::x6::x7::some v::σ) H Q=Q v H:=by simp [zac]
theorem zn2 {x0 x1 x2 x3 x4 x5 x6 x7 x8:Option V} {v:V} {σ:List (Option V)} {H:Hp} {Q:VK}:zac 9 (x0::x1::x2::x3::x4::x5::x6::x7::x8::some v::σ) H Q=Q v H:=by simp [zac]
theorem zmq {x0 x1 x2 x3 x4 x5 x6 x7 x8 x9:Option V} {v:V} {σ:List (Option V)} {H:Hp} {Q:VK}:zac 10 (x0::x1::x2::x3::x4::x5::x6::x7::x8::x9::some v::σ) H Q=Q v H:=by simp [zac]
theorem zls {x0 x1 x2 x3 x4 x5 x6 x7 x8 x9 x10:Option V} {v:V} {σ:List (Option V)} {H:Hp} {Q:VK}:zac 11 (x0::x1::x2::x3::x4::x5::x6::x7::x8::x9::x10::some v::σ) H Q=Q v H:=by simp [zac]
theorem zlD {x0 x1 x2 x3 x4 x5 x6 x7 x8 x9 x10 x11:Option V} {v:V} {σ:List (Option V)} {H:Hp} {Q:VK}:zac 12 (x0::x1::x2::x3::x4::x5::x6::x7::x8::x9::x10::x11::some v::σ) H Q=Q v H:=by simp [zac]
theorem zlS {x0 x1 x2 x3 x4 x5 x6 x7 x8 x9 x10 x11 x12:Option V} {v:V} {σ:List (Option V)} {H:Hp} {Q:VK}:zac 13 (x0::x1::x2::x3::x4::x5::x6::x7::x8::x9::x10::x11::x12::some v::σ) H Q=Q v H:=by simp [zac]
theorem zmg {x0:Option V} {v:V} {σ:List (Option V)} {H:Hp} {Q:St→Hp→Prop}:zaf 0 v (x0::σ) H Q=Q (some v::σ) H:=rfl
theorem zlC {x0 x1:Option V} {v:V} {σ:List (Option V)} {H:Hp} {Q:St→Hp→Prop}:zaf 1 v (x0::x1::σ) H Q=Q (x0::some v::σ) H:=rfl
theorem zlM {x0 x1 x2:Option V} {v:V} {σ:List (Option V)} {H:Hp} {Q:St→Hp→Prop}:zaf 2 v (x0::x1::x2::σ) H Q=Q (x0::x1::some v::σ) H:=rfl
theorem zmp {x0 x1 x2 x3:Option V} {v:V} {σ:List (Option V)} {H:Hp} {Q:St→Hp→Prop}:zaf 3 v (x0::x1::x2::x3::σ) H Q=Q (x0::x1::x2::some v::σ) H:=rfl
theorem zmh {x0 x1 x2 x3 x4:Option V} {v:V} {σ:List (Option V)} {H:Hp} {Q:St→Hp→Prop}:zaf 4 v (x0::x1::x2::x3::x4::σ) H Q=Q (x0::x1::x2::x3::some v::σ) H:=rfl
theorem zms {x0 x1 x2 x3 x4 x5:Option V} {v:V} {σ:List (Option V)} {H:Hp} {Q:St→Hp→Prop}:zaf 5 v (x0::x1::x2::x3::x4::x5::σ) H Q=Q (x0::x1::x2::x3::x4::some v::σ) H:=rfl
theorem zlG {x0 x1 x2 x3 x4 x5 x6:Option V} {v:V} {σ:List (Option V)} {H:Hp} {Q:St→Hp→Prop}:zaf 6 v (x0::x1::x2::x3::x4::x5::x6::σ) H Q=Q (x0::x1::x2::x3::x4::x5::some v::σ) H:=rfl
theorem zlp {x0 x1 x2 x3 x4 x5 x6 x7:Option V} {v:V} {σ:List (Option V)} {H:Hp} {Q:St→Hp→Prop}:zaf 7 v (x0::x1::x2::x3::x4::x5::x6::x7::σ) H Q=Q (x0::x1::x2::x3::x4::x5::x6::some v::σ) H:=rfl
theorem zlm {x0 x1 x2 x3 x4 x5 x6 x7 x8:Option V} {v:V} {σ:List (Option V)} {H:Hp} {Q:St→Hp→Prop}:zaf 8 v (x0::x1::x2::x3::x4::x5::x6::x7::x8::σ) H Q=Q (x0::x1::x2::x3::x4::x5::x6::x7::some v::σ) H:=rfl
theorem zlZ {x0 x1 x2 x3 x4 x5 x6 x7 x8 x9:Option V} {v:V} {σ:List (Option V)} {H:Hp} {Q:St→Hp→Prop}:zaf 9 v (x0::x1::x2::x3::x4::x5::x6::x7::x8::x9::σ) H Q=Q (x0::x1::x2::x3::x4::x5::x6::x7::x8::some v::σ) H:=rfl
theorem zkf {x0 x1 x2 x3 x4 x5 x6 x7 x8 x9 x10:Option V} {v:V} {σ:List (Option V)} {H:Hp} {Q:St→Hp→Prop}:zaf 10 v (x0::x1::x2::x3::x4::x5::x6::x7::x8::x9::x10::σ) H Q=Q (x0::x1::x2::x3::x4::x5::x6::x7::x8::x9::some v::σ) H:=rfl
theorem zj7 {x0 x1 x2 x3 x4 x5 x6 x7 x8 x9 x10 x11:Option V} {v:V} {σ:List (Option V)} {H:Hp} {Q:St→Hp→Prop}:zaf 11 v (x0::x1::x2::x3::x4::x5::x6::x7::x8::x9::x10::x11::σ) H Q=Q (x0::x1::x2::x3::x4::x5::x6::x7::x8::x9::x10::some v::σ) H:=rfl
theorem zjC {x0 x1 x2 x3 x4 x5 x6 x7 x8 x9 x10 x11 x12:Option V} {v:V} {σ:List (Option V)} {H:Hp} {Q:St→Hp→Prop}:zaf 12 v (x0::x1::x2::x3::x4::x5::x6::x7::x8::x9::x10::x11::x12::σ) H Q=Q (x0::x1::x2::x3::x4::x5::x6::x7::x8::x9::x10::x11::some v::σ) H:=rfl
theorem zjK {x0 x1 x2 x3 x4 x5 x6 x7 x8 x9 x10 x11 x12 x13:Option V} {v:V} {σ:List (Option V)} {H:Hp} {Q:St→Hp→Prop}:zaf 13 v (x0::x1::x2::x3::x4::x5::x6::x7::x8::x9::x10::x11::x12::x13::σ) H Q=Q (x0::x1::x2::x3::x4::x5::x6::x7::x8::x9::x10::x11::x12::some v::σ) H:=rfl
theorem rI_c {C:Int→Int→Prop} {g:Int→Int→V} {a b:Int} {H:Hp} {Q:VK}:rI C g (.int a) (.int b) H Q=(C a b∧Q (g a b) H):=by simp [rI]
theorem rI0_c {g:Int→Int→V} {a b:Int} {H:Hp} {Q:VK}:rI0 g (.int a) (.int b) H Q=Q (g a b) H:=by simp [rI0]
theorem zqE {K:PySem.W.Frag} {p:Addr} {i:Int} {H:Hp} {Q:VK}:zc1 K (.ref p) (.int i) H Q=∃ xs,SqL K H p xs∧∃ v,atI xs i=some v∧Q v H:=by simp [zc1]
theorem zpA {K:PySem.W.Frag} {p:Addr} {i:Int} {H:Hp} {Q:VK}:zbl K (.ref p) (.int i) H Q=∃ xs,SqT K H p xs∧∃ v,atI xs i=some v∧Q v H:=by simp [zbl]
theorem ex_bl {c:Bool} {Q:Bool→Prop}:(∃ k,V.bl c=V.bl k∧Q k)=Q c:=by simp
theorem zp7 {c:Int} {Q:Int→Prop}:(∃ k,V.int c=V.int k∧Q k)=Q c:=by simp
theorem zqG {c:Addr} {Q:Addr→Prop}:(∃ k,V.ref c=V.ref k∧Q k)=Q c:=by simp
theorem zqY {c:Int} {Q:Int→Prop}:(∃ k,[V.int c]=[V.int k]∧Q k)=Q c:=by simp
theorem zp4 {c:Addr} {Q:Addr→Prop}:(∃ k,[V.ref c]=[V.ref k]∧Q k)=Q c:=by simp
end L2
namespace Att
open PySem PySem.W PySem.Calls PyProof.Rows
theorem zfr {x:Int}:∀ {ns:List Int},x∈ns→WData.weight (.int x)≤WData.weightAll (ns.map WData.int)
 | [],h=>absurd h (List.not_mem_nil)
 | y::ns,h=>by
  rw [List.map_cons,WData.weightAll]
  rcases List.mem_cons.mp h with e | e
  ·rw [← e]
   (first|lia|omega)
  ·have:=zfr e
   (first|lia|omega)
theorem znS {ns:List Int} (h:WData.layableAll [WData.list (ns.map WData.int)]=true):∀ x∈ns,x.natAbs<2 ^ 2 ^ 20:=by
 intro x hx
 have h1:(WData.list (ns.map WData.int)).layable=true:=(layW_cons h).1
 have h2:WData.weight (.list (ns.map WData.int))≤2 ^ 20:=by
  unfold WData.layable at h1
  rw [Bool.and_eq_true] at h1
  exact of_decide_eq_true h1.2
 rw [WData.weight] at h2
 have h3:=Nat.le_trans (zfr hx) h2
 rw [WData.weight] at h3
 by_cases h0:x=0
 ·subst h0
  exact Nat.two_pow_pos _
 ·rw [if_neg (by simpa using h0)] at h3
  have hn:x.natAbs≠0:=fun e=>h0 (Int.natAbs_eq_zero.mp e)
  exact (Nat.log2_lt hn).mp h3
theorem attach_callL {l:OpenLaw} {n:Nat} {q:Program} {loose:List Str} {XP:(Str→Option Value)→Heap→Prop} {YP:World→Heap→Prop} {d:DefRec}
  (hn:l.most=some n) (hdf:d.params.defaults=[])
  (call:∀ (w:World) (s₀ s₁:Shared) (mg mb:Str→Option Value) (fa:Addr) (o:Obj) (pm cd doc:Value) (a:Addr) (vs:List Value) (ns:List Int),(∀ x∈ns,x.natAbs<2 ^ 2 ^ 20) →
   Ground q loose [] XP w s₀ mg mb s₁.heap→YP w s₁.heap →
   s₁.heap.get? fa=some o→o.data=.func (docDef d.name d.params d.body d.scope pm cd doc)→s₁.heap.CodeRec cd d.name→mg d.name=some (.ref fa) →
   s₁.heap.get? a=some { cls:=.type "list",data:=.seq vs.toArray }→IntsAre vs ns→ns.length≤n→s₁.gens=#[] →
   codeAny (model l.prog w) callerA (.call (.ref fa) ⟨[.ref a],[]⟩) (fun r s'=>r=.ok (.ret (.bool true))∧OldK s₁.heap s'.heap∧s'.os=s₁.os∧AllBare s'.gens) s₁) :
  WalkO q loose XP YP l.row.toRowW d [] (fun f vs=>PySem.call f vs):=by
 intro w s₀ s₁ mg mb G Y fa o pm cd doc dV kV ho hd hcd hD hmg hg args vals as hpre hlay hrd hwl hlo
 obtain rfl:dV=.none:=Dflts.none hD hdf
 obtain rfl:kV=.none:=Dflts.noKw hD
 obtain ⟨a,vs,ns,rfl,rfl,hobj,hints,hlen⟩:=zkj hn hpre hwl
 refine enter_call (codeAny_mono (call w s₀ s₁ mg mb fa o pm cd doc a vs ns (znS hlay) G Y ho (fd_plain hd) hcd hmg hobj hints hlen hg) fun r s' hq=>?_)
 obtain ⟨rfl,h2,h3,h4⟩:=hq
 exact ⟨.inl ⟨.bool true,.bool true,[],rfl,fun _=>rfl,.bool true,zkn l _,fun _=>⟨List.Pairwise.nil,fun _ hm=>(nomatch hm)⟩⟩,h2,h3,h4⟩
end Att
namespace L2
open PySem PySem.Spec PyProof.Rows
theorem zl3 {l:PySem.W.OpenLaw} {n k:Nat} {q:Program} {loose:List Str} {XP:(Str→Option Value)→Heap→Prop} {YP:World→Heap→Prop} {d:DefRec} {K:Params→PySem.W.Frag} {CX:World→CXT} {sp:World→Sp} {x:Str}
  (hn:l.most=some n) (hn2:n≤sizeLine) (hdf:d.params.defaults=[]) (hr:zhL k callerA)
  (hY:∀ (w:World) (h:Heap),YP w h→(K w.params).In h)
  (F:∀ (w:World) (mg:Str→Option Value) (fa:Addr) (h:Heap),(K w.params).In h→h.Ns mainGlobals mg→mg d.name=some (.ref fa) →
   ∃ fd:FuncData,(∀ (s:Shared) (u:Value),BindsTo s fd ⟨[u],[]⟩ [(x,u)]) ∧
    ∀ base:Heap,(K w.params).In base→base.Ns mainGlobals mg→zbT l.prog w (K w.params) mg base (CX w) k fa fd [x] (sp w))
  (hsp:∀ (w:World) (H:Hp) (a:Addr) (ns:List Int),(∀ x∈ns,x.natAbs<2 ^ 2 ^ 20)→ns.length≤n→Only H→SqL (K w.params) H a (ns.map V.int)→sp w [.ref a] H (fun v _=>v=.bl true) fun _ _ _=>False)
  (hCX:∀ (w:World) (H:Hp) (s:Shared) (e:Value) (s':Shared),CX w [] H s (fun _ _ _=>False) e s'→False) :
  PySem.W.WalkO q loose XP YP l.row.toRowW d [] (fun f vs=>PySem.call f vs):=by
 refine Att.attach_callL hn hdf fun w s₀ s₁ mg mb fa o pm cd doc a vs ns hb0 G Y ho hd hcd hmg hobj hints hlen hg=>?_
 have KX:=hY w _ Y
 obtain ⟨fd,hb,hF⟩:=F w mg fa _ KX G.T.g hmg
 exact zl9 KX G.T.g G.T.b G.T.builtins G.T.nolimit hg hobj hints (Nat.le_trans hlen hn2) hr hF hb (fun H hO hS=>hsp w H a ns hb0 hlen hO hS) fun H e s'=>hCX w H s₁ e s'
end L2
namespace L2.St
open PySem
def it (m:Nat):Nat→Nat→Nat
 | 0,x=>x
 | n+1,x=>it m n ((x*5+1) % m)
def orb (m:Nat):Nat→Nat→List Nat
 | 0,_=>[]
 | n+1,x=>x::orb m n ((x*5+1) % m)
theorem zi2 (m:Nat):∀ a b x,it m (a+b) x=it m b (it m a x)
 | 0,b,x=>by rw [Nat.zero_add];rfl
 | a+1,b,x=>by rw [Nat.succ_add];exact zi2 m a b _
theorem zh0 {m j:Nat}:∀ {n x},j∈orb m n x→∃ k,k<n∧it m k x=j
 | 0,x,h=>by simp [orb] at h
 | n+1,x,h=>by
  rcases List.mem_cons.mp h with rfl | h
  ·exact ⟨0,Nat.succ_pos _,rfl⟩
  ·obtain ⟨k,h1,h2⟩:=zh0 h
   exact ⟨k+1,by (first|lia|omega),h2⟩
def Msk (M:Nat):Prop:=M=7∨M=31∨M=127∨M=511
theorem znU {M:Nat} (h:Msk M):(∀ j,j<M+1→j∈orb (M+1) (M+1) 0)∧it (M+1) (M+1) 0=0:=by
 have key:∀ m,((List.range m).all fun j=>(orb m m 0).contains j)=true→∀ j,j<m→j∈orb m m 0:=fun m e j hj=>by
  have:=List.all_eq_true.mp e j (List.mem_range.mpr hj)
  simpa using this
 rcases h with rfl | rfl | rfl | rfl
 ·exact ⟨key 8 (by decide +kernel),by decide +kernel⟩
 ·exact ⟨key 32 (by decide +kernel),by decide +kernel⟩
 ·exact ⟨key 128 (by decide +kernel),by decide +kernel⟩
 ·exact ⟨key 512 (by decide +kernel),by decide +kernel⟩
theorem zqt {M:Nat} (h:Msk M) {x j:Nat} (hx:x<M+1) (hj:j<M+1):∃ n,n<M+1∧it (M+1) n x=j:=by
 obtain ⟨h1,h2⟩:=znU h
 obtain ⟨a,a1,rfl⟩:=zh0 (h1 x hx)
 obtain ⟨b,b1,rfl⟩:=zh0 (h1 j hj)
 by_cases c:a≤b
 ·exact ⟨b - a,by (first|lia|omega),by rw [← zi2,Nat.add_sub_cancel' c]⟩
 ·refine ⟨M+1 - a+b,by (first|lia|omega),?_⟩
  rw [← zi2,show a+(M+1 - a+b)=(M+1)+b by (first|lia|omega),zi2,h2]
def lp (M:Nat):Nat→Nat×Nat→Nat×Nat
 | 0,s=>s
 | n+1,s=>lp M n (SetTable.leap M s.1 s.2)
theorem zmN (M:Nat):∀ a b s,lp M (a+b) s=lp M b (lp M a s)
 | 0,b,s=>by rw [Nat.zero_add];rfl
 | a+1,b,s=>by rw [Nat.succ_add];exact zmN M a b _
theorem zmC (M:Nat):∀ n s,(lp M n s).2=s.2 / 32 ^ n
 | 0,s=>by simp [lp]
 | n+1,s=>by
  show (lp M n _).2=_
  rw [zmC M n,SetTable.leap,Nat.div_div_eq_div_mul,Nat.pow_succ,Nat.mul_comm]
theorem zpH (M:Nat):∀ n s,s.1<M+1→(lp M n s).1<M+1
 | 0,s,h=>h
 | n+1,s,h=>zpH M n _ (Nat.mod_lt _ (Nat.succ_pos _))
theorem zke (M:Nat):∀ n x,(lp M n (x,0)).1=it (M+1) n x
 | 0,x=>rfl
 | n+1,x=>by
  show (lp M n ((x*5+1+0 / 32) % (M+1),0 / 32)).1=it (M+1) n ((x*5+1) % (M+1))
  rw [Nat.zero_div,Nat.add_zero,zke M n]
theorem zmK {M:Nat} (h:Msk M) {x p j:Nat} (hx:x<M+1) (hp:p<2 ^ 64) (hj:j<M+1):∃ n,n≤M+13∧(lp M n (x,p)).1=j:=by
 have e:lp M 13 (x,p)=((lp M 13 (x,p)).1,0):=by
  refine Prod.ext rfl ?_
  rw [zmC]
  exact Nat.div_eq_of_lt (Nat.lt_trans hp (by decide))
 obtain ⟨n,n1,n2⟩:=zqt h (zpH M 13 (x,p) hx) hj
 refine ⟨13+n,by (first|lia|omega),?_⟩
 rw [zmN,e,zke]
 exact n2
theorem zkJ (h:Int):SetTable.bits h<2 ^ 64:=by
 unfold SetTable.bits
 have:=Int.emod_lt_of_pos h (show (0:Int)<2 ^ 64 by decide)
 have:=Int.emod_nonneg h (show (2 ^ 64:Int)≠0 by decide)
 (first|lia|omega)
def zgG (t:SetTable) (s:Nat×Nat):SetTable.Probe:={ j:=s.1,more:=SetTable.runEnd t.mask s.1 - s.1,i:=s.1,perturb:=s.2,dummy:=none }
def adv (t:SetTable):Nat→SetTable.Probe→SetTable.Probe
 | 0,p=>p
 | n+1,p=>adv t n (t.advance p)
theorem zjX (t:SetTable):∀ a b p,adv t (a+b) p=adv t b (adv t a p)
 | 0,b,p=>by rw [Nat.zero_add];rfl
 | a+1,b,p=>by rw [Nat.succ_add];exact zjX t a b _
theorem zkQ (t:SetTable):∀ k j i q,adv t (k+1) { j:=j,more:=k,i:=i,perturb:=q,dummy:=none }=zgG t (SetTable.leap t.mask i q)
 | 0,j,i,q=>by simp [adv,SetTable.advance,zgG]
 | k+1,j,i,q=>by
  show adv t (k+1) (t.advance _)=_
  rw [show t.advance { j:=j,more:=k+1,i:=i,perturb:=q,dummy:=none }={ j:=j+1,more:=k,i:=i,perturb:=q,dummy:=none } by simp [SetTable.advance]]
  exact zkQ t k (j+1) i q
def Reach (t:SetTable) (n:Nat) (p:SetTable.Probe):Prop:=∃ r,r≤n∧t.slot (adv t r p).j=.empty
theorem zi5 {t:SetTable}:∀ {n s},t.slot (lp t.mask n s).1=.empty→Reach t (10*n) (zgG t s)
 | 0,s,h=>⟨0,Nat.le_refl _,h⟩
 | n+1,s,h=>by
  obtain ⟨r,r1,r2⟩:=zi5 (n:=n) (s:=SetTable.leap t.mask s.1 s.2) h
  have hm:SetTable.runEnd t.mask s.1 - s.1≤9:=by unfold SetTable.runEnd;split <;> (first|lia|omega)
  refine ⟨SetTable.runEnd t.mask s.1 - s.1+1+r,by (first|lia|omega),?_⟩
  rw [zjX,zgG,zkQ]
  exact r2
theorem zmt:∀ (m:Nat) (l:List Nat),(∀ j,j<m→j∈l)→m≤l.length
 | 0,l,h=>Nat.zero_le _
 | m+1,l,h=>by
  have hm:=h m (Nat.lt_succ_self m)
  have:=zmt m (l.erase m) fun j hj=>(List.mem_erase_of_ne (by (first|lia|omega))).mpr (h j (by (first|lia|omega)))
  rw [List.length_erase_of_mem hm] at this
  have:0<l.length:=List.length_pos_of_mem hm
  (first|lia|omega)
theorem slot_cases {t:SetTable} (hd:t.dummies=#[]) (j:Nat):t.slot j=.empty∨∃ i,t.slot j=.live i∧t.place[i]?=some j:=by
 unfold SetTable.slot
 rw [hd]
 by_cases c:(t.place[SetTable.below t.place j]? == some j)=true
 ·exact .inr ⟨_,by rw [if_pos c],by simpa using c⟩
 ·left
  rw [if_neg c]
  simp [SetTable.has]
theorem zjo {t:SetTable} (hd:t.dummies=#[]) (hl:t.place.size<t.mask+1):∃ j,j<t.mask+1∧t.slot j=.empty:=by
 refine Classical.byContradiction fun hn=>?_
 have:=zmt (t.mask+1) t.place.toList fun j hj=>by
  rcases slot_cases hd j with h | ⟨i,_,h⟩
  ·exact absurd ⟨j,hj,h⟩ hn
  ·rw [← Array.getElem?_toList] at h
   exact List.mem_of_getElem? h
 rw [Array.length_toList] at this
 (first|lia|omega)
theorem reach_start {t:SetTable} (hM:Msk t.mask) (hd:t.dummies=#[]) (hl:t.place.size<t.mask+1) (h:Int):Reach t (10*(t.mask+13)) (t.probeStart h):=by
 obtain ⟨j,j1,j2⟩:=zjo hd hl
 obtain ⟨n,n1,n2⟩:=zmK hM (x:=SetTable.bits h % (t.mask+1)) (Nat.mod_lt _ (Nat.succ_pos _)) (zkJ h) j1
 obtain ⟨r,r1,r2⟩:=zi5 (t:=t) (n:=n) (s:=(SetTable.bits h % (t.mask+1),SetTable.bits h)) (by rw [n2];exact j2)
 exact ⟨r,by (first|lia|omega),r2⟩
theorem adv_dummy (t:SetTable) (p:SetTable.Probe):(t.advance p).dummy=p.dummy:=by
 unfold SetTable.advance
 split
 ·rfl
 ·rfl
theorem zgZ {M:Nat} {ow:Array (Option Nat)}:∀ (fuel i p n:Nat),n<fuel→ow.getD (lp M n (i,p)).1 (some 0)=none→∃ j,SetTable.layClean.free M ow fuel i p=some j∧ow.getD j (some 0)=none
 | 0,i,p,n,h,_=>by (first|lia|omega)
 | fuel+1,i,p,n,h,e=>by
  rw [SetTable.layClean.free]
  cases c:(List.range (SetTable.runEnd M i+1 - i)).find? fun k=>(ow.getD (i+k) (some 0)).isNone with
  | some k =>
   have:=List.find?_some c
   exact ⟨i+k,rfl,by simpa using this⟩
  | none =>
   match n,h,e with
   | 0,_,e =>
    have:=List.find?_eq_none.mp c 0 (List.mem_range.mpr (by unfold SetTable.runEnd;split <;> (first|lia|omega)))
    rw [Nat.add_zero,show ow.getD i (some 0)=none from e] at this
    simp at this
   | n+1,h,e=>exact zgZ fuel _ _ n (by (first|lia|omega)) e
def Own (M:Nat) (ow:Array (Option Nat)) (k:Nat):Prop:=ow.size=M+1∧ow.toList.countP Option.isSome=k∧∀ v,some v∈ow.toList→v<k
theorem getD_lt {ow:Array (Option Nat)} {j:Nat} (h:ow.getD j (some 0)=none):∃ hj:j<ow.size,ow[j]=none:=by
 by_cases c:j<ow.size
 ·exact ⟨c,by simpa [Array.getD,c] using h⟩
 ·simp [Array.getD,c] at h
theorem zmr {M:Nat} (hM:Msk M) {ow:Array (Option Nat)} {k:Nat} (o:Own M ow k) (hk:k<M+1) (h:Int):∃ j,SetTable.layClean.free M ow (SetTable.turns M) (SetTable.bits h % (M+1)) (SetTable.bits h)=some j∧Own M (ow.setIfInBounds j (some k)) (k+1):=by
 obtain ⟨o1,o2,o3⟩:=o
 have ex:∃ j,j<M+1∧ow.getD j (some 0)=none:=by
  refine Classical.byContradiction fun hn=>?_
  have:ow.toList.countP Option.isSome=ow.toList.length:=by
   rw [List.countP_eq_length]
   intro v hv
   cases v with
   | some v=>rfl
   | none =>
    obtain ⟨j,hj,e⟩:=List.mem_iff_getElem.mp hv
    rw [Array.length_toList] at hj
    exact absurd ⟨j,by (first|lia|omega),by simpa [Array.getD,hj] using e⟩ hn
  rw [Array.length_toList] at this
  (first|lia|omega)
 obtain ⟨j,j1,j2⟩:=ex
 obtain ⟨n,n1,n2⟩:=zmK hM (x:=SetTable.bits h % (M+1)) (Nat.mod_lt _ (Nat.succ_pos _)) (zkJ h) j1
 obtain ⟨j',f1,f2⟩:=zgZ (M:=M) (ow:=ow) (SetTable.turns M) _ _ n (by unfold SetTable.turns;(first|lia|omega)) (by rw [n2];exact j2)
 obtain ⟨hj,ej⟩:=getD_lt f2
 refine ⟨j',f1,by simpa using o1,?_,?_⟩
 ·rw [Array.toList_setIfInBounds,List.countP_set (by simpa using hj)]
  rw [show ow.toList[j']=none from by simpa using ej,o2]
  simp
 ·intro v hv
  rw [Array.toList_setIfInBounds] at hv
  rcases List.mem_or_eq_of_mem_set hv with hv | hv
  ·exact Nat.lt_succ_of_lt (o3 v hv)
  ·cases hv;exact Nat.lt_succ_self _
theorem fold_ok {M:Nat} (hM:Msk M):∀ (hs:List Int) (ow:Array (Option Nat)) (k:Nat),Own M ow k→k+hs.length<M+1 →
  ∃ ow',(hs.foldl (fun (acc:Option (Array (Option Nat)×Nat)) h=>do
   let (owner,k) ← acc
   let j ← SetTable.layClean.free M owner (SetTable.turns M) (SetTable.bits h % (M+1)) (SetTable.bits h)
   pure (owner.setIfInBounds j (some k),k+1)) (some (ow,k)))=some (ow',k+hs.length)∧Own M ow' (k+hs.length)
 | [],ow,k,o,_=>⟨ow,rfl,o⟩
 | h::hs,ow,k,o,hl=>by
  rw [List.length_cons] at hl
  obtain ⟨j,e1,e2⟩:=zmr hM o (by (first|lia|omega)) h
  obtain ⟨ow',a,b⟩:=fold_ok hM hs _ _ e2 (by (first|lia|omega))
  refine ⟨ow',?_,by rw [List.length_cons,show k+(hs.length+1)=k+1+hs.length by (first|lia|omega)];exact b⟩
  rw [List.foldl_cons,List.length_cons,show k+(hs.length+1)=k+1+hs.length by (first|lia|omega),← a]
  simp [e1]
theorem relaid_ok {t:SetTable} {hs:Array Int} {wanted:Nat} (hM:Msk (SetTable.sizeAbove wanted - 1)) (hl:hs.size<SetTable.sizeAbove wanted - 1+1) :
  ∃ t' ord,t.relaid hs wanted=some (t',ord)∧t'.mask=SetTable.sizeAbove wanted - 1∧t'.dummies=#[]∧t'.place.size=hs.size∧t'.led=t.led∧ord.size=hs.size∧∀ v∈ord.toList,v<hs.size:=by
 obtain ⟨ow,a,o1,o2,o3⟩:=fold_ok hM hs.toList (Array.replicate (SetTable.sizeAbove wanted - 1+1) none) 0 ⟨by simp,by simp [List.countP_replicate],by simp⟩ (by simpa using hl)
 rw [Nat.zero_add,Array.length_toList] at o2 o3
 unfold SetTable.relaid SetTable.laid SetTable.layClean
 rw [← Array.foldl_toList,a]
 have len:((List.range (SetTable.sizeAbove wanted - 1+1)).filterMap fun j=>(ow.getD j none).map (j,·)).length=hs.size:=by
  rw [List.length_filterMap_eq_countP,← o2,← o1]
  have:ow.toList=(List.range ow.size).map fun j=>ow.getD j none:=by
   apply List.ext_getElem
   ·simp
   ·intro i h1 h2
    simp at h1
    simp [Array.getD,h1]
  rw [this,List.countP_map]
  congr 1
  funext j
  simp
 refine ⟨_,_,rfl,rfl,rfl,by simpa using len,rfl,by simpa using len,fun v hv=>?_⟩
 rw [List.toList_toArray,List.mem_map] at hv
 obtain ⟨⟨j,v'⟩,hm,rfl⟩:=hv
 obtain ⟨j',_,e⟩:=List.mem_filterMap.mp hm
 refine o3 v' ?_
 cases c:ow.getD j' none with
 | none=>rw [c] at e;simp at e
 | some u =>
  rw [c] at e
  simp at e
  have:j'<ow.size:=by
   refine Classical.byContradiction fun hn=>?_
   simp [Array.getD,hn] at c
  rw [← e.2,← c]
  simp [Array.getD,this]
end L2.St
namespace L2.St
open PySem
section
variable {P:Program} {w:World} {A:Around} {E:Value→Shared→Prop} {s:Shared}
end
end L2.St
namespace L2.St
open PySem
theorem ins_size {α:Type} (xs:Array α) (p:Nat) (x:α):(SetTable.insertAt xs p x).size=xs.size+1:=by
 unfold SetTable.insertAt
 simp only [Array.size_append,Array.size_push,Array.size_extract]
 (first|lia|omega)
theorem put_ok {t:SetTable} {j:Nat} (hd:t.dummies=#[]):(t.put j).1.dummies=#[]∧(t.put j).1.place.size=t.place.size+1∧(t.put j).1.mask=t.mask:=by
 unfold SetTable.put
 refine ⟨?_,ins_size _ _ _,rfl⟩
 dsimp only
 rw [hd]
 simp [SetTable.has]
section
variable {P:Program} {w:World} {A:Around} {E:Value→Shared→Prop} {s:Shared}
theorem grow {M n:Nat} (hM:Msk M) (h1:n*5<M*3) (h2:(n+1)*5≥M*3) (hz:n<300):Msk (SetTable.sizeAbove (SetTable.grown (n+1)) - 1)∧(n+1)*5<(SetTable.sizeAbove (SetTable.grown (n+1)) - 1)*3∧¬ SetTable.sizeAbove (SetTable.grown (n+1)) > sizeLine:=by
 rcases hM with rfl | rfl | rfl | rfl
 ·obtain rfl:n=4:=by (first|lia|omega)
  exact ⟨.inr (.inl rfl),by decide,by decide⟩
 ·obtain rfl:n=18:=by (first|lia|omega)
  exact ⟨.inr (.inr (.inl rfl)),by decide,by decide⟩
 ·obtain rfl:n=76:=by (first|lia|omega)
  exact ⟨.inr (.inr (.inr rfl)),by decide,by decide⟩
 ·(first|lia|omega)
theorem lay_self {h:Heap} {S:Addr} {es es':Array (Int×Value)} {ep:Nat} {t t':SetTable} (T:h.get? S=some { cls:=.type "set",dict:=none,data:=.set es ep t,slots:=#[] }) :
  (h.update S (Obj.putSet es' t')).get? S=some { cls:=.type "set",dict:=none,data:=.set es' (ep+1) t',slots:=#[] }:=by
 have:=Heap.get?_update_self (Obj.putSet es' t') T (by rw [putSet_of es' t' rfl];rfl)
 rw [putSet_of es' t' rfl] at this;exact this
end
end L2.St
namespace L2.St
open PySem PySem.Spec
def kk (key:Nat→List Int) (ad:Nat→Addr):Nat→List (List Int×Addr)
 | 0=>[]
 | i+1=>(key i,ad i)::kk key ad i
section
variable {P:Program} {w:World} {A:Around} {E:Value→Shared→Prop} {s:Shared}
end
end L2.St
namespace L2
open PySem PySem.Spec PyProof.Rows
section
variable {X:Cx} {pins:List (Addr×Obj)} {s:Shared} {σ:St} {H:Hp}
variable {e:Expr} {t:TA} {p1 p2 pos1 pos2:Pos}
end
end L2
namespace L2.Sw
open PySem PySem.Spec PyProof.Rows
theorem zev:Slot "set_iterator" "__next__" "set_iterator.__next__":=by
 refine .of (owner:="set_iterator") (n:="__next__") (by rw [typeLookup_type,builtinLookup_eq_fast];kernel_rfl) ?_ ?_ ?_ ?_ (by rw [isSubtype_type];kernel_rfl)
 ·decide +kernel
 ·decide +kernel
 ·decide +kernel
 ·first | exact .inl (by decide +kernel) | exact .inr (by decide +kernel)
theorem zjL:Slot "set_iterator" "__iter__" "set_iterator.__iter__":=by
 refine .of (owner:="set_iterator") (n:="__iter__") (by rw [typeLookup_type,builtinLookup_eq_fast];kernel_rfl) ?_ ?_ ?_ ?_ (by rw [isSubtype_type];kernel_rfl)
 ·decide +kernel
 ·decide +kernel
 ·decide +kernel
 ·first | exact .inl (by decide +kernel) | exact .inr (by decide +kernel)
theorem zjP:entryFor table "set_iterator.__next__"=some Builtin.«set_iterator.__next__»:=entryFor_of_tree (by kernel_rfl)
theorem zqn:Manifest.owners.lookup (String.ofList "rotareti_tes".toList.reverse)=some Manifest.sig_set_iterator:=by kernel_rfl
theorem zks (v:Value):argsOk "set_iterator.__next__" ⟨[v],[]⟩:=by
 unfold argsOk
 rw [signature?_of (id:="set_iterator.__next__") (n:="__txen__".toList) (o:="rotareti_tes".toList) (by kernel_rfl) zqn]
 kernel_rfl
theorem znC:entryFor table "set.__iter__"=some Builtin.«frozenset.__iter__»:=entryFor_alias (id':="frozenset.__iter__") (by kernel_rfl) rfl (by decide +kernel) (by kernel_rfl)
theorem zlq:entryFor table "set_iterator.__iter__"=some Builtin.«dict_keyiterator.__iter__»:=entryFor_alias (id':="dict_keyiterator.__iter__") (by kernel_rfl) rfl (by decide +kernel) (by kernel_rfl)
theorem zlH (v:Value):argsOk "set_iterator.__iter__" ⟨[v],[]⟩:=by
 unfold argsOk
 rw [signature?_of (id:="set_iterator.__iter__") (n:="__reti__".toList) (o:="rotareti_tes".toList) (by kernel_rfl) zqn]
 kernel_rfl
def SI (h:Heap) (it S:Addr) (slot i n ep:Nat):Prop:=∃ o,h.get? it=some o∧o.cls=.type "set_iterator"∧o.data=.fields #[rawInt slot,rawInt i,.ref S,rawInt n,rawInt ep]
def SO (h:Heap) (S:Addr) (es:Array (Int×Value)) (ep:Nat) (t:SetTable):Prop:=h.get? S=some { cls:=.type "set",dict:=none,data:=.set es ep t,slots:=#[] }
section
variable {P:Program} {w:World} {A:Around} {E:Value→Shared→Prop} {s:Shared} {it S:Addr} {es:Array (Int×Value)} {ep:Nat} {t:SetTable} {slot i:Nat}
theorem SI.ty (x:SI s.heap it S slot i es.size ep):s.TypeIs (.ref it) "set_iterator":=let ⟨o,ho,hc,_⟩:=x;⟨o,ho,hc⟩
theorem SO.ty (x:SO s.heap S es ep t):s.TypeIs (.ref S) "set":=⟨_,x,rfl⟩
theorem zdm {Q:(Array (Int×Value)×Nat×SetTable)→Shared→Prop} (x:SO s.heap S es ep t) (f:t.fits es.size=true) (q:Q (es,ep,t) s):wpAny (model P w) A (setState S) Q E s :=
 wpAny_setState_of x rfl f q
theorem zjO {v:Value} {B:Nat→Prop} {Q:Option Value→Shared→Prop} (hi:SI s.heap it S slot i es.size ep) (x:SO s.heap S es ep t) (f:t.fits es.size=true)
  (nx:∀ (A':Around) (E':Value→Shared→Prop) (Q':Option (Value×Nat)→Shared→Prop),(∀ slot',B slot'→Q' (some (v,slot')) s)→wpAny (model P w) A' (setNext S slot i ep) Q' E' s)
  (q:∀ slot' h',B slot'→SI h' it S slot' (i+1) es.size ep→Heap.SameBut it s.heap h'→Q (some v) { s with heap:=h' }) :
  wpAny (model P w) A (pyNext (.ref it)) Q E s:=by
 obtain ⟨o,ho,hc,hd⟩:=id hi
 unfold pyNext
 refine wpAny_bind (wpAny_attempt (wpAny_callSpecial?_slot (name:=Str.ofString "__next__") hi.ty zev (wpAny_call_entry zev hi.ty zjP ?_ (zks _))))
 unfold Builtin.«set_iterator.__next__»;refine wpAny_bind (wpAny_of_eq (a:=(Value.ref it,[])) rfl ?_);refine wpAny_bind (wpAny_fieldsOf ho hd ?_)
 show wpAny _ _ (setEntries S >>= _) _ _ s
 refine wpAny_bind (wpAny_setEntries_of x rfl f ?_)
 dsimp only
 rw [if_neg (by simp)]
 refine wpAny_bind (nx _ _ _ fun slot' hB=>?_)
 show wpAny _ _ (setField (.ref it) 0 (rawInt slot') >>= _) _ _ s;refine wpAny_bind (wpAny_setField ho hd (by simp) ?_)
 have g1:=Heap.get?_update_self (Obj.mapFields (·.setIfInBounds 0 (rawInt slot'))) ho (Obj.isFreed_of_fields (Obj.data_mapFields hd _))
 have d1:=Obj.data_mapFields hd (·.setIfInBounds 0 (rawInt slot'))
 refine wpAny_bind (wpAny_setField g1 d1 (by simp) ?_)
 refine wpAny_pure ⟨v,rfl,wpAny_pure (q slot' _ hB ⟨_,Heap.get?_update_self _ g1 (Obj.isFreed_of_fields (Obj.data_mapFields d1 _)),?_,?_⟩ ?_)⟩
 ·rw [Obj.cls_mapFields,Obj.cls_mapFields]
  exact hc
 ·rw [Obj.data_mapFields d1]
  simp [rawInt]
 ·exact (Heap.SameBut.update ..).trans (Heap.SameBut.update ..)
theorem zlt {Q:Option Value→Shared→Prop} (hh:A.handled=none) (hi:SI s.heap it S slot i es.size ep) (x:SO s.heap S es ep t) (f:t.fits es.size=true)
  (nx:∀ (A':Around) (E':Value→Shared→Prop) (Q':Option (Value×Nat)→Shared→Prop),Q' none s→wpAny (model P w) A' (setNext S slot i ep) Q' E' s)
  (q:∀ h',Heap.ExtBut it s.heap h'→Q none { s with heap:=h' }) :
  wpAny (model P w) A (pyNext (.ref it)) Q E s:=by
 obtain ⟨o,ho,hc,hd⟩:=id hi
 unfold pyNext
 refine wpAny_bind (wpAny_attempt (wpAny_callSpecial?_slot (name:=Str.ofString "__next__") hi.ty zev (wpAny_call_entry zev hi.ty zjP ?_ (zks _))))
 unfold Builtin.«set_iterator.__next__»;refine wpAny_bind (wpAny_of_eq (a:=(Value.ref it,[])) rfl ?_);refine wpAny_bind (wpAny_fieldsOf ho hd ?_)
 show wpAny _ _ (setEntries S >>= _) _ _ s
 refine wpAny_bind (wpAny_setEntries_of x rfl f ?_)
 dsimp only
 rw [if_neg (by simp)]
 refine wpAny_bind (nx _ _ _ ?_);show wpAny _ _ (setField (.ref it) 2 .none >>= _) _ _ s;refine wpAny_bind (wpAny_setField ho hd (by simp) ?_)
 refine wpAny_bind ?_
 simp only [newExc,newTuple]
 refine wpAny_bind (wpAny_newObj_type ?_ (by size_fits));refine wpAny_bind (m:=firstArgMember _ _) (wpAny_of_eq (a:=Value.none) (by first | rfl | (simp only [firstArgMember];rfl)) ?_);refine wpAny_newObj_type ?_ (by size_fits)
 simp only [raiseNew];refine wpAny_bind (wpAny_handled ?_);first | rw [show A.in1.handled=none from hh] | rw [hh]
 refine wpAny_bind (wpAny_pure (wpAny_throw ?_));refine wpAny_bind (wpAny_isInstance (T:="StopIteration") (b:=true) ⟨_,Heap.get?_push_size _ rfl,rfl⟩ isSubtype_stop ?_)
 exact wpAny_pure (q _ (((Heap.SameBut.update ..).extBut.push _).push _))
theorem zkV {Q:Value→Shared→Prop} (hi:SI s.heap it S slot i es.size ep) (q:Q (.ref it) s):wpAny (model P w) A (pyIter (.ref it)) Q E s:=by
 refine wpAny_pyIter_slot hi.ty zjL (wpAny_call_entry zjL hi.ty zlq ?_ (zlH _))
 show wpAny _ _ (ret (.ref it)) _ _ s;exact wpAny_pure ⟨_,rfl,"set_iterator",_,hi.ty,zev.lookup,q⟩
theorem zl4 {Q:Value→Shared→Prop} (x:SO s.heap S es ep t) (f:t.fits es.size=true) (dr:∀ (A':Around) (E':Value→Shared→Prop) (Q':Bool→Shared→Prop),Q' false s→wpAny (model P w) A' (setDrawn S) Q' E' s)
  (q:Q (.ref s.heap.objs.size) { s with heap:=s.heap.push { cls:=.type "set_iterator",data:=.fields #[rawInt 0,rawInt 0,.ref S,rawInt es.size,rawInt ep] } }) :
  wpAny (model P w) A (pyIter (.ref S)) Q E s:=by
 refine wpAny_pyIter_slot x.ty PySem.F.slot_set_iter (wpAny_call_entry PySem.F.slot_set_iter x.ty znC ?_ (PySem.F.args_set_iter_1 _))
 unfold Builtin.«frozenset.__iter__»
 refine wpAny_bind (wpAny_of_eq (a:=S) rfl ?_)
 refine wpAny_bind (m:=Builtin.Frozenset.sizeOf S) ?_
 unfold Builtin.Frozenset.sizeOf
 refine wpAny_bind (wpAny_setEntries_of x rfl f (wpAny_pure ?_))
 refine wpAny_bind (dr _ _ _ ?_);simp only [Bool.false_eq_true,if_false];refine wpAny_bind (wpAny_pure ?_)
 refine wpAny_bind (wpAny_setEpoch_of x rfl f ?_)
 refine wpAny_bind (wpAny_newObj_type (wpAny_pure ⟨_,rfl,"set_iterator",_,⟨_,Heap.get?_push_size _ rfl,rfl⟩,zev.lookup,q⟩))
theorem hint {Q:Bool→Shared→Prop} (x:SO s.heap S es ep t) (q:Q false s):wpAny (model P w) A (Builtin.List.listLengthHint (.ref S)) Q E s:=by
 unfold Builtin.List.listLengthHint;refine wpAny_bind (wpAny_specialOf x.ty PySem.F.slot_set_len.lookup ?_)
 generalize e:("set.__len__":String)=nm
 wp_delta
 rw [show splitId nm=some ("set","__len__") from by subst e;decide +kernel];subst e
 refine wpAny_bind (wpAny_isInstance (T:="set") (b:=true) x.ty (by rw [isSubtype_type];kernel_rfl) ?_)
 refine wpAny_ite_split (fun z=>absurd z (by decide)) fun _=>wpAny_ite_split (fun _=>wpAny_bind (wpAny_typeOf x.ty (wpAny_pure q))) fun z=>absurd (by decide +kernel) z
theorem zde {Q:Bool→Shared→Prop} (q:Q (w.params.followText "set-order") s):wpAny (model P w) A setsByText Q E s:=by
 unfold setsByText
 exact wpAny_bind (wpAny_askSetting (wpAny_pure q))
theorem zhT {xs:Array Nat} {j:Nat} (h:xs.toList.Pairwise (·<·)):∀ (fuel lo hi:Nat),hi - lo≤fuel→lo≤hi→hi≤xs.size→(∀ (k v:Nat),xs[k]?=some v→k<lo→v<j)→(∀ (k v:Nat),xs[k]?=some v→hi≤k→j≤v) →
  SetTable.below.go xs j fuel lo hi≤xs.size∧(∀ (k v:Nat),xs[k]?=some v→k<SetTable.below.go xs j fuel lo hi→v<j)∧∀ (k v:Nat),xs[k]?=some v→SetTable.below.go xs j fuel lo hi≤k→j≤v
 | 0,lo,hi,h1,h2,h3,h4,h5=>by
  have:lo=hi:=by (first|lia|omega)
  subst this
  exact ⟨h3,h4,h5⟩
 | fuel+1,lo,hi,h1,h2,h3,h4,h5=>by
  have mono:∀ {k m v u:Nat},xs[k]?=some v→xs[m]?=some u→k<m→v<u:=fun {k m v u} e1 e2 l=>by
   rw [← Array.getElem?_toList] at e1 e2
   obtain ⟨l1,rfl⟩:=List.getElem?_eq_some_iff.mp e1
   obtain ⟨l2,rfl⟩:=List.getElem?_eq_some_iff.mp e2
   exact List.pairwise_iff_getElem.mp h _ _ l1 l2 l
  unfold SetTable.below.go
  by_cases c:lo<hi
  ·rw [if_pos c]
   dsimp only
   have hm:(lo+hi) / 2<hi:=by (first|lia|omega)
   have hl:lo≤(lo+hi) / 2:=by (first|lia|omega)
   generalize (lo+hi) / 2=mid at hm hl ⊢
   have em:xs[mid]?=some xs[mid]:=Array.getElem?_eq_getElem (by (first|lia|omega))
   have eg:xs.getD mid j=xs[mid]:=by
    rw [Array.getD_eq_getD_getElem?,em]
    rfl
   rw [eg]
   by_cases d:xs[mid]<j
   ·rw [if_pos d]
    refine zhT h fuel (mid+1) hi (by (first|lia|omega)) (by (first|lia|omega)) h3 (fun k v e l=>?_) h5
    rcases Nat.lt_or_ge k mid with l' | l'
    ·exact Nat.lt_trans (mono e em l') d
    ·obtain rfl:k=mid:=by (first|lia|omega)
     rw [em] at e
     cases e
     exact d
   ·rw [if_neg d]
    refine zhT h fuel lo mid (by (first|lia|omega)) hl (by (first|lia|omega)) h4 fun k v e l=>?_
    rcases Nat.lt_or_ge mid k with l' | l'
    ·exact Nat.le_of_lt (Nat.lt_of_le_of_lt (Nat.le_of_not_lt d) (mono em e l'))
    ·obtain rfl:k=mid:=by (first|lia|omega)
     rw [em] at e
     cases e
     exact Nat.le_of_not_lt d
  ·rw [if_neg c]
   have:lo=hi:=by (first|lia|omega)
   subst this
   exact ⟨h3,h4,h5⟩
theorem zdo {xs:Array Nat} (j:Nat) (h:xs.toList.Pairwise (·<·)):SetTable.below xs j≤xs.size∧(∀ (k v:Nat),xs[k]?=some v→k<SetTable.below xs j→v<j)∧∀ (k v:Nat),xs[k]?=some v→SetTable.below xs j≤k→j≤v :=
 zhT h xs.size 0 xs.size (Nat.le_refl _) (Nat.zero_le _) (Nat.le_refl _) (fun _ _ _ z=>absurd z (Nat.not_lt_zero _)) fun k v e z=>absurd (Array.getElem?_eq_some_iff.mp e).1 (by (first|lia|omega))
theorem zjg {xs:Array Nat} {i j:Nat} (h:xs.toList.Pairwise (·<·)) (e:xs[i]?=some j):SetTable.below xs (j+1)=i+1:=by
 obtain ⟨h1,h2,h3⟩:=zdo (j+1) h
 have a1:¬ SetTable.below xs (j+1)≤i:=fun z=>absurd (h3 i j e z) (by (first|lia|omega))
 have a2:¬ i+1<SetTable.below xs (j+1):=fun z=>by
  have l:i+1<xs.size:=by (first|lia|omega)
  have e2:xs[i+1]?=some xs[i+1]:=Array.getElem?_eq_getElem l
  have u1:=h2 _ _ e2 z
  rw [← Array.getElem?_toList] at e e2
  obtain ⟨l1,z1⟩:=List.getElem?_eq_some_iff.mp e
  obtain ⟨l2,z2⟩:=List.getElem?_eq_some_iff.mp e2
  have u2:=List.pairwise_iff_getElem.mp h _ _ l1 l2 (Nat.lt_succ_self i)
  (first|lia|omega)
 (first|lia|omega)
theorem zjm {xs:Array Nat} (h:xs.toList.Pairwise (·<·)):SetTable.below xs 0=0:=by
 obtain ⟨h1,h2,_⟩:=zdo 0 h
 rcases Nat.eq_zero_or_pos (SetTable.below xs 0) with z | z
 ·exact z
 ·exact absurd (h2 0 _ (Array.getElem?_eq_getElem (by (first|lia|omega))) z) (Nat.not_lt_zero _)
theorem zlR {xs:Array Nat} {j:Nat} (h:xs.toList.Pairwise (·<·)) (n:j∉xs.toList):(SetTable.insertAt xs (SetTable.below xs j) j).toList.Pairwise (·<·):=by
 obtain ⟨h1,h2,h3⟩:=zdo j h
 generalize SetTable.below xs j=p at h1 h2 h3 ⊢
 have e:(SetTable.insertAt xs p j).toList=xs.toList.take p++([j]++xs.toList.drop p):=by
  unfold SetTable.insertAt
  simp only [Array.toList_append,Array.toList_push,Array.toList_extract,List.extract_eq_drop_take,List.drop_zero,Nat.sub_zero,List.append_assoc]
  rw [List.take_of_length_le (l:=xs.toList.drop p) (by rw [List.length_drop,Array.length_toList];(first|lia|omega))]
 rw [e]
 have m1:∀ v∈xs.toList.take p,v<j:=fun v hv=>by
  obtain ⟨k,ek⟩:=List.getElem?_of_mem hv
  rw [List.getElem?_take] at ek
  split at ek
  ·exact h2 k v (by rw [← Array.getElem?_toList];exact ek) (by assumption)
  ·cases ek
 have m2:∀ v∈xs.toList.drop p,j<v:=fun v hv=>by
  obtain ⟨k,ek⟩:=List.getElem?_of_mem hv
  rw [List.getElem?_drop] at ek
  have:=h3 (p+k) v (by rw [← Array.getElem?_toList];exact ek) (by (first|lia|omega))
  have ne:v≠j:=fun z=>n (z ▸ List.mem_of_mem_drop hv)
  (first|lia|omega)
 refine List.pairwise_append.mpr ⟨h.sublist (List.take_sublist _ _),List.pairwise_append.mpr ⟨List.pairwise_singleton _ _,h.sublist (List.drop_sublist _ _),fun a ha b hb=>?_⟩,fun a ha b hb=>?_⟩
 ·rw [List.mem_singleton.mp ha]
  exact m2 b hb
 ·rcases List.mem_append.mp hb with hb | hb
  ·rw [List.mem_singleton.mp hb]
   exact m1 a ha
  ·exact Nat.lt_trans (m1 a ha) (m2 b hb)
def Led (w:World) (t:SetTable):Prop:=w.params.followText "set-order"=true∨(t.led=true∧t.plain=true∧t.place.toList.Pairwise (·<·))
theorem zlP {Q:Bool→Shared→Prop} (x:SO s.heap S es ep t) (f:t.fits es.size=true) (l:Led w t) (q:Q false s):wpAny (model P w) A (setDrawn S) Q E s:=by
 unfold setDrawn
 refine wpAny_bind (zdm x f ?_)
 refine wpAny_bind (zde (wpAny_pure ?_))
 have e:(!w.params.followText "set-order"&&(!t.plain&&decide (es.size > 1)))=false:=by
  rcases l with l | ⟨_,l,_⟩ <;> rw [l]
  ·rfl
  ·rw [Bool.not_true,Bool.false_and,Bool.and_false]
 exact (congrArg (fun b=>Q b s) e).mpr q
def ord (w:World) (S:Addr) (es:Array (Int×Value)) (ep:Nat):Array (Int×Value):=if w.params.followText "set-order"=true then pickOrder (w.params.setOrder S ep) es else es
theorem znR {Q:Option (Value×Nat)→Shared→Prop} {v:Value} (x:SO s.heap S es ep t) (f:t.fits es.size=true) (l:Led w t) (hs:w.params.followText "set-order"=true∨SetTable.below t.place slot=i) (hv:((ord w S es ep)[i]?).map (·.2)=some v)
  (q:∀ slot',(w.params.followText "set-order"=true∨SetTable.below t.place slot'=i+1)→Q (some (v,slot')) s):wpAny (model P w) A (setNext S slot i ep) Q E s:=by
 unfold setNext
 refine wpAny_bind (zdm x f ?_)
 refine wpAny_bind (zde ?_)
 by_cases tx:w.params.followText "set-order"=true
 ·rw [if_pos tx]
  dsimp only
  rw [if_neg (by simp)]
  refine wpAny_bind (m:=setWalk S) ?_
  unfold setWalk
  refine wpAny_bind (zdm x f (wpAny_bind (zde ?_)))
  rw [if_pos tx]
  refine wpAny_bind (wpAny_askSetting (wpAny_pure (wpAny_pure ?_)))
  unfold ord at hv
  rw [if_pos tx] at hv
  obtain ⟨e,e1,e2⟩:=Option.map_eq_some_iff.mp hv
  show Q (Option.map (fun e=>(e.snd,slot)) (pickOrder (w.params.setOrder S ep) es)[i]?) s
  rw [e1]
  subst e2
  exact q slot (.inl tx)
 ·obtain ⟨l1,l2,l3⟩:=l.resolve_left tx
  have hb:=hs.resolve_left tx
  rw [if_neg tx]
  dsimp only
  unfold ord at hv
  rw [if_neg tx] at hv
  obtain ⟨e,e1,e2⟩:=Option.map_eq_some_iff.mp hv
  have hp:t.place.size=es.size:=by
   unfold SetTable.fits at f
   rw [Bool.and_eq_true,beq_iff_eq] at f
   exact f.1
  have hi:=(Array.getElem?_eq_some_iff.mp e1).1
  have e3:t.place[i]?=some t.place[i]:=Array.getElem?_eq_getElem (by (first|lia|omega))
  show wpAny _ _ (if (!t.plain&&decide (es.size > 1))=true then _ else _) _ _ s
  rw [if_neg (by rw [l2];simp)]
  show wpAny _ _ ((if (!t.led&&!es.isEmpty)=true then unsupported "set:maker-not-led" else pure ()) >>= _) _ _ s
  rw [if_neg (by rw [l1];simp)];refine wpAny_bind (wpAny_pure (wpAny_pure ?_))
  show Q (match es[SetTable.below t.place slot]?,t.place[SetTable.below t.place slot]? with
      | some (_,y),some k=>some (y,k+1)
      | _,_=>none) s
  rw [hb,e1,e3]
  subst e2
  exact q _ (.inr (zjg l3 e3))
theorem zjN {Q:Option (Value×Nat)→Shared→Prop} (x:SO s.heap S es ep t) (f:t.fits es.size=true) (l:Led w t) (hs:w.params.followText "set-order"=true∨SetTable.below t.place slot=i) (hv:(ord w S es ep)[i]?=none)
  (q:Q none s):wpAny (model P w) A (setNext S slot i ep) Q E s:=by
 unfold setNext
 refine wpAny_bind (zdm x f ?_)
 refine wpAny_bind (zde ?_)
 by_cases tx:w.params.followText "set-order"=true
 ·rw [if_pos tx]
  dsimp only
  rw [if_neg (by simp)]
  refine wpAny_bind (m:=setWalk S) ?_
  unfold setWalk
  refine wpAny_bind (zdm x f (wpAny_bind (zde ?_)))
  rw [if_pos tx]
  refine wpAny_bind (wpAny_askSetting (wpAny_pure (wpAny_pure ?_)))
  unfold ord at hv
  rw [if_pos tx] at hv
  show Q (Option.map (fun e=>(e.snd,slot)) (pickOrder (w.params.setOrder S ep) es)[i]?) s
  rw [hv]
  exact q
 ·obtain ⟨l1,l2,l3⟩:=l.resolve_left tx
  have hb:=hs.resolve_left tx
  rw [if_neg tx]
  dsimp only
  unfold ord at hv
  rw [if_neg tx] at hv
  show wpAny _ _ (if (!t.plain&&decide (es.size > 1))=true then _ else _) _ _ s
  rw [if_neg (by rw [l2];simp)]
  show wpAny _ _ ((if (!t.led&&!es.isEmpty)=true then unsupported "set:maker-not-led" else pure ()) >>= _) _ _ s
  rw [if_neg (by rw [l1];simp)];refine wpAny_bind (wpAny_pure (wpAny_pure ?_))
  show Q (match es[SetTable.below t.place slot]?,t.place[SetTable.below t.place slot]? with
      | some (_,y),some k=>some (y,k+1)
      | _,_=>none) s
  rw [hb,hv]
  exact q
theorem zhv {α:Type} {next:Nat→Nat}:∀ (fuel k:Nat) (left:List α) (out:Array α),left.length=fuel→(pickOrder.go next fuel k left out).toList.Perm (out.toList++left)
 | 0,k,left,out,e=>by
  rw [List.eq_nil_of_length_eq_zero e,List.append_nil]
  exact .refl _
 | fuel+1,k,left,out,e=>by
  have l:next k % left.length<left.length:=Nat.mod_lt _ (by (first|lia|omega))
  unfold pickOrder.go
  generalize next k % left.length=i at l ⊢
  rw [List.getElem?_eq_getElem l]
  refine (zhv fuel (k+1) (left.eraseIdx i) (out.push left[i]) (by rw [List.length_eraseIdx_of_lt l];(first|lia|omega))).trans ?_
  rw [Array.toList_push,List.append_assoc];refine List.Perm.append_left _ ?_
  rw [List.eraseIdx_eq_take_drop_succ]
  have e2:left=left.take i++left[i]::left.drop (i+1):=by rw [List.getElem_cons_drop,List.take_append_drop]
  exact (List.perm_middle (a:=left[i]) (l₁:=left.take i) (l₂:=left.drop (i+1))).symm.trans (.of_eq e2.symm)
theorem ord_perm:(ord w S es ep).toList.Perm es.toList:=by
 unfold ord
 split
 ·exact zhv _ _ _ _ (Array.length_toList ..)
 ·exact .refl _
theorem src (f:t.fits es.size=true) (l:Led w t):PySem.W.KdlSrc P w "set" S S es.size (fun i v=>((ord w S es ep)[i]?).map (·.2)=some v) (fun h=>SO h S es ep t) where
 type:=fun s x=>x.ty
 there:=fun h x=>⟨Heap.lt_size x,Heap.lt_size x⟩
 keep:=fun h h' x k=>k S (.inl rfl) _ x
 notList:=by decide
 notTuple:=by decide
 hint:=fun A E s Q x q=>hint x q
 iter:=fun A s hh x=>by
  have hne:S≠s.heap.objs.size:=Nat.ne_of_lt (Heap.lt_size x)
  have osz:(ord w S es ep).size=es.size:=by rw [← Array.length_toList,ord_perm.length_eq,Array.length_toList]
  refine ⟨_,fun i h=>(∃ slot,SI h s.heap.objs.size S slot i es.size ep∧(w.params.followText "set-order"=true∨SetTable.below t.place slot=i))∧SO h S es ep t,fun E Q q=>zl4 x f (fun A' E' Q' q'=>zlP x f l q') q,?_,⟨0,⟨_,Heap.get?_push_size _ rfl,rfl,rfl⟩,?_⟩,Heap.get?_push_of_some _ x⟩
  ·exact {
    sub:=fun b' hb'=>by rw [List.mem_singleton] at hb';rw [hb'];exact List.mem_cons_self
    frame:=fun i h h' st hk=>⟨let ⟨slot,⟨o,ho,r⟩,b⟩:=st.1;⟨slot,⟨o,hk _ (by simp) o ho,r⟩,b⟩,hk S (by simp) _ st.2⟩
    item:=fun i s' Q E hi st hQ=>by
     obtain ⟨⟨slot,si,b⟩,so⟩:=st
     have e1:(ord w S es ep)[i]?=some (ord w S es ep)[i]:=Array.getElem?_eq_getElem (by (first|lia|omega))
     refine zjO si so f (fun A' E' Q' q'=>znR (v:=(ord w S es ep)[i].2) so f l b (by rw [e1];rfl) q') fun slot' h' hB si' sm=>?_
     refine hQ _ h' s'.toks (by rw [e1];rfl) ⟨⟨slot',si',hB⟩,?_⟩ fun b' o hb e=>sm.extBut b' o (fun z=>hb (by simp [z])) e
     exact sm.extBut S _ hne so
    done:=fun s' Q E st hQ=>by
     obtain ⟨⟨slot,si,b⟩,so⟩:=st
     exact zlt hh si so f (fun A' E' Q' q'=>zjN so f l b (Array.getElem?_eq_none (by (first|lia|omega))) q') fun h' ex=>hQ h' s'.toks fun b' o hb e=>ex b' o (fun z=>hb (by simp [z])) e
    self:=fun i s' Q E st hQ=>by
     obtain ⟨⟨slot,si,b⟩,so⟩:=st
     exact zkV si hQ }
  ·rcases l with l | ⟨_,_,l⟩
   ·exact .inl l
   ·exact .inr (zjm l)
def vI:Value→Int
 | .int k _=>k
 | _=>0
structure SJ (P:Program) (w:World) (h:Heap) (S:Addr) (es:Array (Int×Value)) (ep:Nat) (t:SetTable) (ds:List Int):Prop where
 ob:SO h S es ep t
 pl:t.place.size=es.size
 dm:t.dummies=#[]
 ms:St.Msk t.mask
 lo:es.size*5<t.mask*3
 pn:t.plain=true
 ld:w.params.followText "set-order"=true∨t.led=true
 rs:t.place.toList.Pairwise (·<·)
 el:∀ e∈es.toList,∃ k tk,e=((intKind P w).hash k,Value.int k tk)
 ks:(es.toList.map fun e=>vI e.2).Perm ds
theorem SJ.fits {h:Heap} {ds:List Int} (T:SJ P w h S es ep t ds):t.fits es.size=true:=by
 have:=T.lo
 simp only [SetTable.fits,SetTable.fill,T.pl,T.dm,Bool.and_eq_true,beq_self_eq_true,decide_eq_true_eq,true_and]
 show es.size+0≤t.mask
 (first|lia|omega)
theorem SJ.led {h:Heap} {ds:List Int} (T:SJ P w h S es ep t ds):Led w t:=T.ld.elim .inl fun l=>.inr ⟨l,T.pn,T.rs⟩
theorem SJ.elems {h:Heap} {ds:List Int} (T:SJ P w h S es ep t ds):ElemsOf (intKind P w) es.toList:=fun e he=>by
 obtain ⟨k,tk,rfl⟩:=T.el e he
 exact ⟨⟨k,intKind_is _ _ _ _,rfl⟩,rfl⟩
theorem zj8 {j:Nat} (hd:t.dummies=#[]) (h:t.slot j=.empty) (l:t.place.toList.Pairwise (·<·)):j∉t.place.toList:=by
 intro hm
 obtain ⟨i,ei⟩:=List.getElem?_of_mem hm
 rw [Array.getElem?_toList] at ei
 obtain ⟨h1,h2,h3⟩:=zdo j l
 have a1:¬ i<SetTable.below t.place j:=fun z=>absurd (h2 i j ei z) (Nat.lt_irrefl _)
 have a2:¬ SetTable.below t.place j<i:=fun z=>by
  have hi:=(Array.getElem?_eq_some_iff.mp ei).1
  have e2:t.place[SetTable.below t.place j]?=some t.place[SetTable.below t.place j]:=Array.getElem?_eq_getElem (by (first|lia|omega))
  have u:=h3 _ _ e2 (Nat.le_refl _)
  rw [← Array.getElem?_toList] at ei e2
  obtain ⟨l1,z1⟩:=List.getElem?_eq_some_iff.mp ei
  obtain ⟨l2,z2⟩:=List.getElem?_eq_some_iff.mp e2
  have u2:=List.pairwise_iff_getElem.mp l _ _ l2 l1 z
  (first|lia|omega)
 have:SetTable.below t.place j=i:=by (first|lia|omega)
 unfold SetTable.slot at h
 rw [this] at h
 dsimp only at h
 rw [ei,if_pos (by simp)] at h
 cases h
theorem zkI {x:Int} (hd:t.dummies=#[]):∀ (n fuel:Nat) (p:SetTable.Probe),St.Reach t n p→n<fuel→p.dummy=none→∃ j,SetTable.probe.go t (fun _=>x+1) x fuel p=some (.empty j none)∧t.slot j=.empty
 | n,0,p,_,hn,_=>by (first|lia|omega)
 | n,fuel+1,p,hr,hn,hp=>by
  rw [SetTable.probe.go]
  rcases St.slot_cases hd p.j with e | ⟨i,e,_⟩
  ·exact ⟨p.j,by rw [e];simp [hp],e⟩
  ·obtain ⟨r,r1,r2⟩:=hr
   match r,r1,r2 with
   | 0,r1,r2=>exact absurd (show t.slot p.j=.empty from r2) (by rw [e];simp)
   | r+1,r1,r2 =>
    obtain ⟨j,a,b⟩:=zkI (x:=x) hd (n - 1) fuel (t.advance p) ⟨r,by (first|lia|omega),r2⟩ (by (first|lia|omega)) (by rw [St.adv_dummy,hp])
    have c:((x+1:Int) == x)=false:=by
     rw [Bool.eq_false_iff]
     intro z
     have:=eq_of_beq z
     (first|lia|omega)
    exact ⟨j,by rw [e];simpa [c] using a,b⟩
theorem zm5 {h:Heap} {ds:List Int} (T:SJ P w h S es ep t ds) (x:Int) (v:Value):∃ (p:Nat) (t2:SetTable),layNew t es x v=(SetTable.insertAt es p (x,v),t2,false,false)∧t2.mask=t.mask∧t2.dummies=#[]∧t2.place.size=es.size+1∧t2.plain=true∧t2.led=t.led∧t2.place.toList.Pairwise (·<·):=by
 have lo:=T.lo
 have hl:t.place.size<t.mask+1:=by rw [T.pl];(first|lia|omega)
 have hr:=St.reach_start T.ms T.dm hl x
 have hf:∃ j,t.freeSlot x=some (j,false)∧t.slot j=.empty:=by
  unfold SetTable.freeSlot SetTable.probe
  obtain ⟨j,a,b⟩:=zkI (x:=x) T.dm _ (10*SetTable.turns t.mask) _ hr (by unfold SetTable.turns;(first|lia|omega)) rfl
  exact ⟨j,by rw [a];rfl,b⟩
 obtain ⟨j,e1,e2⟩:=hf
 obtain ⟨a1,a2,a3⟩:=St.put_ok (t:=t) (j:=j) T.dm
 refine ⟨SetTable.below t.place j,(t.put j).1,?_,a3,a1,by rw [a2,T.pl],T.pn,rfl,zlR T.rs (zj8 T.dm e2 T.rs)⟩
 unfold layNew
 rw [e1]
 have fit:(t.put j).1.fits (SetTable.insertAt es (SetTable.below t.place j) (x,v)).size=true:=by
  simp only [SetTable.fits,SetTable.fill,a1,a2,a3,St.ins_size,T.pl,Bool.and_eq_true,beq_self_eq_true,decide_eq_true_eq,true_and]
  show es.size+1+0≤t.mask
  (first|lia|omega)
 show ((SetTable.insertAt es (SetTable.below t.place j) (x,v)),((t.put j).1.orStandIn (SetTable.insertAt es (SetTable.below t.place j) (x,v)).size),false,!((t.put j).1.fits (SetTable.insertAt es (SetTable.below t.place j) (x,v)).size))=_
 unfold SetTable.orStandIn
 rw [if_pos fit,fit]
 rfl
theorem zlu {α:Type} (xs:Array α) (p:Nat) (x:α):(SetTable.insertAt xs p x).toList.Perm (x::xs.toList):=by
 refine (SetTable.insertAt_perm xs p x).trans ?_
 rw [Array.toList_push]
 exact List.perm_append_comm
theorem zkb:∀ (r l:List Nat),r.Nodup→(∀ v∈r,v∈l)→l.length=r.length→l.Perm r
 | [],l,_,_,e=>by rw [List.eq_nil_of_length_eq_zero e]
 | a::r,l,n,h,e=>by
  have ha:=h a List.mem_cons_self
  rw [List.nodup_cons] at n
  refine (List.perm_cons_erase ha).trans (List.Perm.cons _ (zkb r (l.erase a) n.2 (fun v hv=>?_) ?_))
  ·exact (List.mem_erase_of_ne (fun (z:v=a)=>n.1 (z ▸ hv))).mpr (h v (List.mem_cons_of_mem _ hv))
  ·rw [List.length_erase_of_mem ha,e]
   rfl
theorem zhq {M:Nat} {ow:Array (Option Nat)}:∀ (fuel i p j:Nat),SetTable.layClean.free M ow fuel i p=some j→ow.getD j (some 0)=none
 | 0,i,p,j,e=>by
  unfold SetTable.layClean.free at e
  cases e
 | fuel+1,i,p,j,e=>by
  unfold SetTable.layClean.free at e
  split at e
  ·rename_i k hk
   cases e
   have:=List.find?_some hk
   simpa using this
  ·exact zhq fuel _ _ j e
theorem ziQ {M:Nat}:∀ (hs:List Int) (ow ow':Array (Option Nat)) (k k':Nat),(∀ v,v<k→some v∈ow.toList) →
  (hs.foldl (fun (acc:Option (Array (Option Nat)×Nat)) h=>do
   let (owner,k) ← acc
   let j ← SetTable.layClean.free M owner (SetTable.turns M) (SetTable.bits h % (M+1)) (SetTable.bits h)
   pure (owner.setIfInBounds j (some k),k+1)) (some (ow,k)))=some (ow',k')→∀ v,v<k'→some v∈ow'.toList
 | [],ow,ow',k,k',h,e=>by
  cases e
  exact h
 | x::hs,ow,ow',k,k',h,e=>by
  rw [List.foldl_cons] at e
  cases c:SetTable.layClean.free M ow (SetTable.turns M) (SetTable.bits x % (M+1)) (SetTable.bits x) with
  | none =>
   simp only [c,Option.bind_eq_bind,Option.bind_some,Option.bind_none] at e
   exfalso
   have:∀ l:List Int,(l.foldl (fun (acc:Option (Array (Option Nat)×Nat)) h=>acc.bind fun q=>(SetTable.layClean.free M q.1 (SetTable.turns M) (SetTable.bits h % (M+1)) (SetTable.bits h)).bind fun j=>pure (q.1.setIfInBounds j (some q.2),q.2+1)) none)=none:=fun l=>by
    induction l with
    | nil=>rfl
    | cons y l ih=>rw [List.foldl_cons];exact ih
   have z:=(this hs).symm.trans e
   cases z
  | some j =>
   simp only [c,Option.bind_eq_bind,Option.bind_some] at e
   refine ziQ hs _ ow' _ k' (fun v hv=>?_) e
   have nj:=zhq _ _ _ _ c
   obtain ⟨lj,gj⟩:=St.getD_lt nj
   rw [Array.toList_setIfInBounds]
   rcases Nat.lt_or_ge v k with l | l
   ·obtain ⟨i,ei⟩:=List.getElem?_of_mem (h v l)
    have ne:j≠i:=fun z=>by
     subst z
     rw [Array.getElem?_toList,Array.getElem?_eq_getElem lj,gj] at ei
     cases ei
    exact List.mem_of_getElem? (by rw [List.getElem?_set_ne ne];exact ei)
   ·obtain rfl:v=k:=by (first|lia|omega)
    exact List.mem_of_getElem? (List.getElem?_set_self (by rw [Array.length_toList];exact lj))
theorem zlE {n:Nat} {t2:SetTable} {es2:Array (Int×Value)} (hM:St.Msk t2.mask) (hn:es2.size=n+1) (c1:n*5<t2.mask*3) (c2:(n+1)*5≥t2.mask*3) (hz:n<300) (pn:t2.plain=true) :
  ∃ (es3:Array (Int×Value)) (t3:SetTable),relayAll t2 es2 (SetTable.grown es2.size)=(es3,t3,false)∧es3.toList.Perm es2.toList∧St.Msk t3.mask∧(n+1)*5<t3.mask*3∧t3.dummies=#[]∧t3.place.size=n+1∧t3.plain=true∧t3.led=t2.led∧t3.place.toList.Pairwise (·<·):=by
 obtain ⟨g1,g2,g3⟩:=St.grow hM c1 c2 hz
 rw [← hn] at g1 g2
 obtain ⟨t3,od,r1,r2,r3,r4,r5,r6,r7⟩:=St.relaid_ok (t:=t2) (hs:=es2.map (·.1)) g1 (by rw [Array.size_map];(first|lia|omega))
 rw [Array.size_map] at r4 r6 r7
 have key:t3.plain=true∧t3.place.toList.Pairwise (·<·)∧∀ v,v<es2.size→v∈od.toList:=by
  have r:=r1
  obtain ⟨ow,a,o1,o2,o3⟩:=St.fold_ok g1 (es2.map (·.1)).toList (Array.replicate (SetTable.sizeAbove (SetTable.grown es2.size) - 1+1) none) 0 ⟨by simp,by simp [List.countP_replicate],by simp⟩ (by simp;(first|lia|omega))
  have al:=ziQ _ _ _ _ _ (fun v hv=>absurd hv (Nat.not_lt_zero v)) a
  rw [Nat.zero_add,Array.length_toList,Array.size_map] at al
  unfold SetTable.relaid SetTable.laid SetTable.layClean at r
  rw [← Array.foldl_toList,a] at r
  simp only [Option.map_some,Option.bind_eq_bind,Option.bind_some] at r
  have r':=Option.some.inj r
  cases r'
  refine ⟨pn,?_,fun v hv=>?_⟩
  ·show (List.toArray _).toList.Pairwise (·<·)
   rw [List.toList_toArray,List.pairwise_map]
   refine List.Pairwise.filterMap _ (fun a a' l b hb b' hb'=>?_) List.pairwise_lt_range
   obtain ⟨u,_,rfl⟩:=Option.map_eq_some_iff.mp hb
   obtain ⟨u',_,rfl⟩:=Option.map_eq_some_iff.mp hb'
   exact l
  ·rw [List.toList_toArray,List.mem_map]
   obtain ⟨j,ej⟩:=List.getElem?_of_mem (al v hv)
   rw [Array.getElem?_toList] at ej
   have lj:=(Array.getElem?_eq_some_iff.mp ej).1
   refine ⟨(j,v),List.mem_filterMap.mpr ⟨j,List.mem_range.mpr (by (first|lia|omega)),?_⟩,rfl⟩
   rw [Array.getD_eq_getD_getElem?,ej]
   rfl
 obtain ⟨k1,k2,k3⟩:=key
 have pm:od.toList.Perm (List.range es2.size):=zkb _ _ List.nodup_range (fun v hv=>k3 v (List.mem_range.mp hv)) (by rw [Array.length_toList,r6,List.length_range])
 have cv:coversAll od es2.size=true:=by
  unfold coversAll
  exact List.isPerm_iff.mpr pm
 have pe:(od.filterMap (es2[·]?)).toList.Perm es2.toList:=by
  rw [Array.toList_filterMap]
  refine (pm.filterMap _).trans (.of_eq (filterMap_getElem?_range es2))
 have sz:(od.filterMap (es2[·]?)).size=es2.size:=by rw [← Array.length_toList,pe.length_eq,Array.length_toList]
 have ft:t3.fits (od.filterMap (es2[·]?)).size=true:=by
  simp only [SetTable.fits,SetTable.fill,r3,r4,sz,Bool.and_eq_true,beq_self_eq_true,decide_eq_true_eq,true_and]
  show es2.size+0≤t3.mask
  rw [r2]
  (first|lia|omega)
 refine ⟨_,t3,?_,pe,by rw [r2];exact g1,by rw [r2,← hn];exact g2,r3,by rw [r4,hn],k1,r5,k2⟩
 unfold relayAll
 rw [r1]
 dsimp only
 rw [if_pos (by rw [cv,ft];rfl)]
theorem addJ {k:Int} {tk:Tok} {ds:List Int} {Q:Bool→Shared→Prop} (T:SJ P w s.heap S es ep t ds) (hz:es.size<300)
  (q:∀ h' b es' ep' t',SJ P w h' S es' ep' t' (if k∈ds then ds else k::ds)→Heap.SameBut S s.heap h'→Q b { s with heap:=h' }) :
  wpAny (model P w) A (setAddHashed S (.int k tk) ((intKind P w).hash k)) Q E s:=by
 have bd:es.size<scanBound:=Nat.lt_trans hz (by decide);unfold setAddHashed setAddHashedIn
 refine wpAny_holding (wpAny_bind (zdm T.ob T.fits ?_))
 dsimp only
 rw [byScan_of (knd:=intKind P w) rfl bd T.elems,if_pos rfl]
 unfold setAddByScan
 refine wpAny_bind (wpAny_bind (wpAny_rule (wpAny_bind (wpAny_setScan_of (knd:=intKind P w) (intKind_is _ _ _ _) T.ob rfl T.fits T.elems ?_))))
 have mem:∀ e∈es.toList,(intKind P w).is k e.2=true↔vI e.2=k:=fun e he=>by
  obtain ⟨k',tk',rfl⟩:=T.el e he
  simp only [intKind,Value.isInt,vI]
  exact beq_iff_eq
 have inD:k∈ds↔∃ e∈es.toList,(intKind P w).is k e.2=true:=by
  rw [← T.ks.mem_iff,List.mem_map]
  exact ⟨fun ⟨e,h1,h2⟩=>⟨e,h1,(mem e h1).mpr h2⟩,fun ⟨e,h1,h2⟩=>⟨e,h1,(mem e h1).mp h2⟩⟩
 cases hr:List.findIdx? (fun e=>(intKind P w).is k e.2) es.toList with
 | some j =>
  obtain ⟨hj,hp,_⟩:=List.findIdx?_eq_some_iff_getElem.mp hr
  have hk:k∈ds:=inD.mpr ⟨_,List.getElem_mem hj,hp⟩
  rw [if_pos hk] at q
  exact wpAny_pure (wpAny_pure (q s.heap false es ep t T (Heap.SameBut.refl S s.heap)))
 | none =>
  have hk:k∉ds:=fun z=>by
   obtain ⟨e,h1,h2⟩:=inD.mp z
   rw [List.findIdx?_eq_none_iff.mp hr e h1] at h2
   cases h2
  rw [if_neg hk] at q
  obtain ⟨p,t2,e1,m2,d2,p2,pn2,l2,r2⟩:=zm5 T ((intKind P w).hash k) (.int k tk)
  dsimp only
  rw [e1]
  dsimp only
  have sz:(SetTable.insertAt es p ((intKind P w).hash k,Value.int k tk)).size=es.size+1:=St.ins_size _ _ _
  have pm:=zlu es p ((intKind P w).hash k,Value.int k tk)
  generalize SetTable.insertAt es p ((intKind P w).hash k,Value.int k tk)=es2 at sz pm ⊢
  have zl:es.size+1≤sizeLine:=by rw [sizeLine_eq];(first|lia|omega)
  have fl:t2.fill=es.size+1:=by simp [SetTable.fill,d2,p2]
  have el2:∀ e∈es2.toList,∃ k tk,e=((intKind P w).hash k,Value.int k tk):=fun e he=>by
   rcases List.mem_cons.mp (pm.mem_iff.mp he) with rfl | he
   ·exact ⟨_,_,rfl⟩
   ·exact T.el e he
  have ks2:(es2.toList.map fun e=>vI e.2).Perm (k::ds):=(pm.map _).trans (List.Perm.cons _ T.ks)
  have ld2:w.params.followText "set-order"=true∨t2.led=true:=by rw [l2];exact T.ld
  show wpAny _ _ (pure () >>= _) _ _ s;refine wpAny_bind (wpAny_pure ?_)
  rw [if_pos pn2,hashByValue_scannable 8 (x:=.int k tk) rfl];refine wpAny_bind (wpAny_pure ?_)
  dsimp only [plainKind]
  rw [if_pos rfl]
  refine wpAny_bind (wpAny_storeSet_of T.ob rfl ?_ (by rw [sz];exact zl))
  have sb:=Heap.SameBut.update s.heap S (Obj.putSet es2 t2)
  have o1:=St.lay_self (es':=es2) (t':=t2) T.ob
  by_cases c:(!false&&t2.tooFull)=true
  ·rw [if_pos c]
   have c':(es.size+1)*5≥t.mask*3:=by
    simp only [Bool.not_false,Bool.true_and,SetTable.tooFull,decide_eq_true_eq,fl,m2] at c
    exact c
   obtain ⟨es3,t3,f1,f2,f3,f4,f5,f6,f7,f8,f9⟩:=zlE (n:=es.size) (t2:=t2) (es2:=es2) (by rw [m2];exact T.ms) sz (by rw [m2];exact T.lo) (by rw [m2];exact c') hz pn2
   rw [f1]
   dsimp only
   have sz3:es3.size=es.size+1:=by rw [← Array.length_toList,f2.length_eq,Array.length_toList,sz]
   show wpAny _ _ (pure () >>= _) _ _ _;refine wpAny_bind (wpAny_pure ?_)
   refine wpAny_bind (wpAny_storeSet_of (s:={ s with heap:=_ }) o1 rfl ?_ (by rw [sz3];exact zl))
   refine wpAny_pure (wpAny_pure (q _ true es3 _ t3 ⟨St.lay_self o1,by rw [f6,sz3],f5,f3,by rw [sz3];exact f4,f7,by rw [f8];exact ld2,f9,fun e he=>el2 e (f2.mem_iff.mp he),(f2.map _).trans ks2⟩ (sb.trans (Heap.SameBut.update _ S _))))
  ·rw [if_neg c]
   refine wpAny_pure (wpAny_pure (q _ true es2 _ t2 ⟨o1,by rw [p2,sz],d2,by rw [m2];exact T.ms,?_,pn2,ld2,r2,el2,ks2⟩ sb))
   simp only [Bool.not_false,Bool.true_and,SetTable.tooFull,decide_eq_true_eq,fl,m2] at c
   rw [sz,m2]
   (first|lia|omega)
def dd (val:Nat→Int):Nat→List Int
 | 0=>[]
 | i+1=>if val i∈dd val i then dd val i else val i::dd val i
theorem dd_len (val:Nat→Int):∀ i,(dd val i).length≤i
 | 0=>Nat.le_refl _
 | i+1=>by
  have:=dd_len val i
  unfold dd
  split
  ·(first|lia|omega)
  ·rw [List.length_cons]
   (first|lia|omega)
theorem dd_nodup (val:Nat→Int):∀ i,(dd val i).Nodup
 | 0=>List.nodup_nil
 | i+1=>by
  unfold dd
  split
  ·exact dd_nodup val i
  ·exact List.nodup_cons.mpr ⟨by assumption,dd_nodup val i⟩
theorem dd_mem (val:Nat→Int) {x:Int}:∀ {i},x∈dd val i↔∃ j,j<i∧val j=x
 | 0=>⟨fun h=>(nomatch h),fun ⟨j,h,_⟩=>absurd h (Nat.not_lt_zero j)⟩
 | i+1=>by
  have ih:=dd_mem val (x:=x) (i:=i)
  have e:x∈dd val (i+1)↔x∈dd val i∨val i=x:=by
   show x∈(if val i∈dd val i then dd val i else val i::dd val i)↔_
   split
   ·rename_i h
    exact ⟨.inl,fun z=>z.elim id fun e=>e ▸ h⟩
   ·rw [List.mem_cons]
    exact ⟨fun z=>z.elim (fun e=>.inr e.symm) .inl,fun z=>z.elim .inr fun e=>.inl e.symm⟩
  rw [e,ih]
  constructor
  ·rintro (⟨j,h1,h2⟩ | h)
   ·exact ⟨j,by (first|lia|omega),h2⟩
   ·exact ⟨i,by (first|lia|omega),h⟩
  ·rintro ⟨j,h1,h2⟩
   rcases Nat.lt_or_ge j i with l | l
   ·exact .inl ⟨j,l,h2⟩
   ·obtain rfl:j=i:=by (first|lia|omega)
    exact .inr h2
theorem SJ.keep {h h':Heap} {ds:List Int} (T:SJ P w h S es ep t ds) (e:∀ o,h.get? S=some o→h'.get? S=some o):SJ P w h' S es ep t ds :=
 ⟨e _ T.ob,T.pl,T.dm,T.ms,T.lo,T.pn,T.ld,T.rs,T.el,T.ks⟩
theorem SJ.size {h:Heap} {ds:List Int} (T:SJ P w h S es ep t ds):es.size=ds.length:=by
 rw [← T.ks.length_eq,List.length_map,Array.length_toList]
theorem loopJ {R:Result→Shared→Prop} {I:Addr} {fp wr:List Addr} {G:Array GenState→Array GenState→Prop} {n:Nat} {V:Nat→Value→Prop} {Z:Nat→Shared→Prop}
  (W:WalksS P w A.in1 I fp wr G n V Z) (S:Addr) (nS:S∉fp) (val:Nat→Int) (hv:∀ i v,V i v→∃ tk,v=.int (val i) tk) (hz:n<300) :
  ∀ (k i:Nat) (s:Shared) (es:Array (Int×Value)) (ep:Nat) (t:SetTable),n - i=k→i≤n→Z i s→SJ P w s.heap S es ep t (dd val i) →
   (∀ s' es' ep' t',Moved (S::wr) G s s'→SJ P w s'.heap S es' ep' t' (dd val n)→R (.ok (.ret .none)) s') →
   codeAny (model P w) A (.builtin "set.update.loop" ⟨[.ref S,.ref I],[]⟩) R s:=by
 have nW:S∉wr:=fun h=>nS (W.sub _ h)
 have sb:∀ b∈wr,b∈S::wr:=fun b hb=>List.mem_cons_of_mem _ hb
 intro k
 induction k with
 | zero =>
  intro i s es ep t ek hi st T q
  obtain rfl:i=n:=by (first|lia|omega)
  refine codeAny_builtin PyProof.Rows.F.entry_set_update_loop ?_;rw [Around.under_plainId PyProof.Rows.F.plain_set_update_loop _]
  show wpAny _ A.in1 (pyNext (.ref I) >>= _) _ _ s;refine wpAny_bind (W.done s _ _ st fun s' hm=>?_)
  show wpAny _ A.in1 (ret Value.none) _ _ s';exact wpAny_pure (q s' es ep t (hm.mono sb) (T.keep fun o e=>hm.heap S o nW e))
 | succ k ih =>
  intro i s es ep t ek hi st T q
  have lt:i<n:=by (first|lia|omega)
  refine codeAny_builtin PyProof.Rows.F.entry_set_update_loop ?_;rw [Around.under_plainId PyProof.Rows.F.plain_set_update_loop _]
  show wpAny _ A.in1 (pyNext (.ref I) >>= _) _ _ s;refine wpAny_bind (W.item i s _ _ lt st fun v s' hP st' hm=>?_)
  obtain ⟨tk,rfl⟩:=hv i v hP
  have T':SJ P w s'.heap S es ep t (dd val i):=T.keep fun o e=>hm.heap S o nW e
  have zl:=dd_len val i
  have sz:=T'.size
  show wpAny _ A.in1 (holding [Value.int (val i) tk] (setAdd S (.int (val i) tk)) >>= _) _ _ s';refine wpAny_bind (wpAny_holding ?_)
  unfold setAdd
  refine wpAny_holding (wpAny_bind ((intKind P w).pyHash (k:=val i) (intKind_is _ _ _ _) ?_))
  refine addJ (s:={ s' with toks:=s'.toks+1 }) T' (by (first|lia|omega)) fun h' b es' ep' t' T2 sm=>?_
  refine wpAny_pure ⟨plainId_quiet PyProof.Rows.F.plain_set_update_loop _,ih (i+1) _ es' ep' t' (by (first|lia|omega)) lt (W.frame _ s' _ _ st' (Nat.le_succ _) fun b hb o e=>?_) T2 fun s'' es'' ep'' t'' hm'' T3=>?_⟩
  ·rw [sm.2 b (fun h:b=S=>nS (by rw [← h];exact hb))];exact e
  ·refine q s'' es'' ep'' t'' (Moved.trans W.gtrans ((hm.mono sb).then_heap (Nat.le_succ _) fun b o hb e=>?_) hm'') T3
   rw [sm.2 b (fun h:b=S=>hb (by rw [h];exact List.mem_cons_self))];exact e
theorem zoe (v:Value) {Q₁:Value→Shared→Prop} (h:Q₁ (.ref s.heap.objs.size) { s with heap:=s.heap.push { cls:=.type "set",dict:=none,data:=.set #[] 0 (.fresh 0 0 (!w.params.followText "set-order")) } }) :
  codeAny (model P w) A (.call (.builtin "set.__new__") ⟨[.type "set",v],[]⟩) (wants Q₁ E) s:=by
 refine codeAny_of_tree ?_;show wpAny _ A.in1 (do checkBuiltinCall "set.__new__" ⟨[.type "set",v],[]⟩;again (.builtin "set.__new__" ⟨[.type "set",v],[]⟩)) _ _ s
 refine wpAny_bind (wpAny_of_eq (PySem.F.newCall_set_1 v) (wpAny_pure ⟨plainId_quiet PySem.F.plain_set_new _,codeAny_builtin PySem.F.entry_set_new ?_⟩));rw [Around.under_plainId PySem.F.plain_set_new _]
 unfold Builtin.«set.__new__» Builtin.Frozenset.newClass;have hsub:=PySem.sub_set_self;obtain ⟨hp,g,d,tk,os⟩:=s
 dsimp only;wp_walk
 refine wpAny_askSetting (wpAny_pure ?_);dsimp only;simp only [newObj]
 refine wpAny_bind (wpAny_alloc (wpAny_pure ?_));exact wpAny_pure h
set_option maxHeartbeats 3200000 in
theorem call_setJ {l:Addr} {its:Array Value} {val:Nat→Int} {Q:Value→Shared→Prop}
  (hh:A.handled=none) (hl:s.heap.IsList l its) (hv:∀ (i:Nat) v,its[i]?=some v→∃ tk,v=.int (val i) tk) (hz:its.size<300)
  (q:∀ (h':Heap) (u:Nat) es ep t,SJ P w h' s.heap.objs.size es ep t (dd val its.size)→(∀ b o,s.heap.get? b=some o→h'.get? b=some o)→Q (.ref s.heap.objs.size) { s with heap:=h',toks:=u }) :
  wpAny (model P w) A (call (.type "set") [.ref l]) Q E s:=by
 obtain ⟨c0,tl0,mr⟩:=PySem.F.called_set.mro
 have mad:=PySem.F.called_set.made;have sub0:=PySem.F.called_set.sub;refine wpAny_call (codeAny_of_tree ?_)
 show wpAny _ _ (callAny (.type "set") _) _ _ _;refine wpAny_pure ⟨Code.quiet_builtin _ (by decide +kernel),codeAny_builtin PySem.F.entry_type_call ?_⟩;rw [Around.under_plain (weight_type_call_type "set" [.ref l] []) rfl]
 have h1:=PySem.F.called_set.notType;have h2:=PySem.F.called_set.canCreate;have tc:=PySem.F.typeCall_set_1 (.ref l);repeat (any_goals (first | assumption | wp_step))
 refine codeAny_mono (zoe (.ref l) (E:=E) (Q₁:=fun ob s₁=>∃ led:Bool,led=!w.params.followText "set-order"∧ob=.ref s.heap.objs.size∧s₁={ s with heap:=s.heap.push { cls:=.type "set",dict:=none,data:=.set #[] 0 (.fresh 0 0 led) } }) ⟨_,rfl,rfl,rfl⟩) fun r s₁ hr=>?_
 cases r with
 | error e=>exact hr
 | ok fl =>
  cases fl with
  | ret ob =>
   obtain ⟨led,hled,rfl,rfl⟩:=hr
   have gS:(s.heap.push { cls:=.type "set",dict:=none,data:=.set #[] 0 (.fresh 0 0 led) }).get? s.heap.objs.size=some { cls:=.type "set",dict:=none,data:=.set #[] 0 (.fresh 0 0 led) }:=Heap.get?_push_size _ rfl
   have tyS:Shared.TypeIs { s with heap:=s.heap.push { cls:=.type "set",dict:=none,data:=.set #[] 0 (.fresh 0 0 led) } } (.ref s.heap.objs.size) "set":=⟨_,gS,rfl⟩
   have li:=PySem.F.called_set.init.lookup;have bi:=PySem.F.called_set.init.bind (.ref s.heap.objs.size);repeat (any_goals (first | assumption | wp_step))
   refine codeAny_mono (codeAny_call_builtin (R:=wants (fun r s₂=>r=.none∧∃ h' u es ep t,s₂={ s with heap:=h',toks:=u }∧SJ P w h' s.heap.objs.size es ep t (dd val its.size)∧(∀ b o,s.heap.get? b=some o→h'.get? b=some o)) E) PySem.F.called_set.init.plain PySem.F.entry_set_init (check_set_init_1 tyS ?_)) fun r₂ s₂ hr₂=>?_
   ·obtain ⟨⟨oc,od,odt,os⟩,go,gc,nl,gd⟩:=hl
    simp only at gc gd
    subst gc;subst gd
    have go':(s.heap.push { cls:=.type "set",dict:=none,data:=.set #[] 0 (.fresh 0 0 led) }).get? l=some { cls:=.type "list",dict:=od,data:=.seq its nl,slots:=os }:=Heap.get?_push_of_some _ go
    have b1:=PySem.F.sub_list_set;have b2:=PySem.F.sub_list_frozenset
    have b3:(Value.type "list" == Value.type "dict")=false:=by decide
    have hl1:(s.heap.push { cls:=.type "set",dict:=none,data:=.set #[] 0 (.fresh 0 0 led) }).IsList l its:=⟨_,go',rfl,nl,rfl⟩;unfold Builtin.«set.__init__» noKeywords Builtin.Frozenset.updateFrom
    generalize ePI:pyIter=PI
    wp_walk
    subst ePI
    refine wpAny_pyIter_list hl1 ?_;refine wpAny_bind (wpAny_runValue ?_)
    have lS:l<s.heap.objs.size:=Heap.lt_size go;have hh3:A.in1.in1.in1.handled=none:=by simp [hh]
    have sz1:(s.heap.push { cls:=.type "set",dict:=none,data:=.set #[] 0 (.fresh 0 0 led) }).objs.size=s.heap.objs.size+1:=Heap.size_push ..
    have nI:l≠(s.heap.push { cls:=.type "set",dict:=none,data:=.set #[] 0 (.fresh 0 0 led) }).objs.size:=by rw [sz1];exact Nat.ne_of_lt (Nat.lt_succ_of_lt lS)
    have nSf:s.heap.objs.size∉[(s.heap.push { cls:=.type "set",dict:=none,data:=.set #[] 0 (.fresh 0 0 led) }).objs.size,l]:=by
     rw [sz1];simp only [List.mem_cons,List.not_mem_nil,or_false,not_or]
     exact ⟨Nat.ne_of_lt (Nat.lt_succ_self _),Nat.ne_of_gt lS⟩
    refine loopJ ((Walks.list hh3 _ l nI its).toS) s.heap.objs.size nSf val hv hz (its.size - 0) 0 _ #[] 0 (.fresh 0 0 led) (by (first|lia|omega)) (Nat.zero_le _) ⟨⟨_,Heap.get?_push_size _ rfl,rfl,rfl⟩,(hl1.push _)⟩ ⟨Heap.get?_push_of_some _ gS,rfl,rfl,.inl rfl,(by show 0*5<7*3;decide),rfl,?_,List.Pairwise.nil,fun e he=>by simp at he,List.Perm.refl _⟩ ?_
    ·show w.params.followText "set-order"=true∨led=true
     rw [hled]
     cases w.params.followText "set-order" <;> simp
    ·intro s' es ep t hm T
     obtain ⟨h',g',d',tk',os'⟩:=s';have eg:g'=s.gens:=hm.gens;have ed:d'=s.drawn:=hm.drawn
     have eo:os'=s.os:=hm.os
     subst eg;subst ed;subst eo
     show wpAny _ _ _ _ _ _;refine wpAny_pure ?_;show wpAny _ _ (ret Value.none) _ _ _
     refine wpAny_pure ⟨rfl,h',tk',es,ep,t,rfl,T,fun b o e=>?_⟩
     have:=Heap.lt_size e
     refine hm.heap b o ?_ (Heap.get?_push_of_some _ (Heap.get?_push_of_some _ e))
     simp only [List.mem_cons,List.not_mem_nil,or_false,not_or]
     rw [sz1]
     exact ⟨Nat.ne_of_lt this,Nat.ne_of_lt (Nat.lt_succ_of_lt this)⟩
   ·cases r₂ with
    | error e=>exact hr₂
    | ok fl₂ =>
     cases fl₂ with
     | ret r =>
      obtain ⟨rfl,h',u,es,ep,t,rfl,g1,g4⟩:=hr₂;repeat (any_goals (first | assumption | wp_step))
      exact q _ _ _ _ _ g1 g4
     | _=>exact hr₂.elim
  | _=>exact hr.elim
end
end L2.Sw
namespace L2
open PySem PySem.Spec PyProof.Rows
def zeL (K:PySem.W.Frag):List V→Hp→VK→Prop:=fun xs H Q=>∃ (p:Addr) (ns:List Int),xs=[.ref p]∧SqL K H p (ns.map V.int)∧ns.length<64∧∀ (l:Addr) (ms:List Int),H l=none→(∀ x,x∈ms↔x∈ns)→ms.Pairwise (·<·)→ms.length≤ns.length→Q (.ref l) (upd H l (.lst (ms.map V.int)))
section
variable {X:Cx} {e:Expr} {t:TA} {p1 p2 pos1 pos2:Pos}
theorem zkS:∀ {ms:List Int},ms.Pairwise (·≤·)→ms.Nodup→ms.Pairwise (·<·)
 | [],_,_=>.nil
 | a::ms,h,n=>by
  rw [List.pairwise_cons] at h ⊢
  rw [List.nodup_cons] at n
  refine ⟨fun b hb=>?_,zkS h.2 n.2⟩
  have h1:=h.1 b hb
  have h2:a≠b:=fun z=>n.1 (z ▸ hb)
  (first|lia|omega)
theorem zjd (hgl:Gl X "sorted") (hml:X.mg "sorted"=none) (hgs:Gl X "set") (hms:X.mg "set"=none) (ha:PA X [e] t) (hc:X.calm=true:=by rfl)
  (he:starEach [e] X.env=(false,eval e X.env)::starEach [] X.env:=by rfl) (hpl:∀ pos,(backTo pos (starEach [] X.env)).any (·.1)=false:=by intro _;rfl)
  (he2:starEach [.Call (.Name "set" p2) [e] [] pos2] X.env=(false,eval (.Call (.Name "set" p2) [e] [] pos2) X.env)::starEach [] X.env:=by rfl) :
  PE X (.Call (.Name "sorted" p1) [.Call (.Name "set" p2) [e] [] pos2] [] pos1) (tCB (zeL X.K) t):=by
 intro pins s σ H Q I h
 refine wpAny_Call_Name_kw (ze1 I hgl hml boot_sorted ?_ (by decide) (by decide))
 refine PyProof.Rows.callWith_builtin1 ?_ he2 (hpl _);rw [he2]
 show wpAny _ _ (spliced ((false,eval (.Call (.Name "set" p2) [e] [] pos2) X.env)::backTo pos1 (starEach [] X.env))) _ _ s;refine Calls.spliced_cons ?_
 refine wpAny_Call_Name_kw (ze1 I hgs hms PyProof.Rows.boot_set ?_ (by decide) (by decide))
 refine PyProof.Rows.callWith_type1 (thn (ha pos2 pins s σ H _ I h) fun us s1 hQ'=>?_) he (hpl _)
 obtain ⟨vs,H1,I1,r1,q1⟩:=hQ'
 obtain ⟨p,ns,rfl,hp,l64,q⟩:=q1
 obtain ⟨u,rfl,rx⟩:=zlW r1
 cases rx
 obtain ⟨its,rv,pl,hz⟩:=I1.list hp
 have hlen:its.length=ns.length:=by rw [← rv.length,List.length_map]
 refine Sw.call_setJ (its:=its.toArray) (val:=fun i=>ns.getD i 0) (I1.ok.hd hc) pl.isList (fun i v e=>?_) (by rw [List.size_toArray,hlen];(first|lia|omega)) fun h' tk es ep tb T g4=>?_
 ·have hi:i<ns.length:=by
   have:=(Array.getElem?_eq_some_iff.mp e).1
   rw [List.size_toArray,hlen] at this
   exact this
  obtain ⟨u,eu,ru⟩:=rv.get (show (ns.map V.int)[i]?=some (V.int ns[i]) by simp [hi])
  have e':its[i]?=some v:=by simpa using e
  rw [e'] at eu
  cases eu
  rw [List.getD_eq_getElem?_getD,List.getElem?_eq_getElem hi]
  exact ru
 ·refine Calls.spliced_nil ?_
  have szi:its.toArray.size=ns.length:=by rw [List.size_toArray];exact hlen
  rw [szi] at T
  have I2:Inv X pins σ H1 { s1 with heap:=h',toks:=tk }:=I1.kept (t':=tk) g4
  generalize s1.heap.objs.size=S at T ⊢
  have hes:=T.size
  have hdd:=Sw.dd_len (fun i=>ns.getD i 0) ns.length
  refine Calls.call_function_entry kind_sorted plain_sorted entry_sorted (args_sorted1 _) ?_;unfold Builtin.«sorted»;refine wpAny_bind (m:=checkCount "sorted" 1 1 _) (wpAny_pure ?_)
  refine wpAny_bind (PySem.W.kdu_collect (A:=X.A.in1) (s:={ s1 with heap:=h',toks:=tk }) (Sw.src (P:=X.prog) (w:=X.w) T.fits T.led) (I1.ok.hd hc) T.ob (by rw [sizeLine_eq];(first|lia|omega)) fun h2 tk2 acc hkp hacc=>?_)
  have pm:=(Sw.ord_perm (w:=X.w) (S:=S) (es:=es) (ep:=ep))
  have osz:(Sw.ord X.w S es ep).size=es.size:=by rw [← Array.length_toList,pm.length_eq,Array.length_toList]
  have hla:acc.toList.length=es.size:=by rw [Array.length_toList,hacc.1]
  have hI:IntsAre acc.toList ((Sw.ord X.w S es ep).toList.map fun e=>Sw.vI e.2):=by
   refine ziT (zkm (by rw [List.length_map,List.length_map,hla,Array.length_toList,osz]) fun j x w e1 e2=>?_)
   rw [List.getElem?_map,Option.map_eq_some_iff] at e1
   obtain ⟨k,hk,rfl⟩:=e1
   rw [List.getElem?_map,Option.map_eq_some_iff] at hk
   obtain ⟨y,hy,rfl⟩:=hk
   have e3:((Sw.ord X.w S es ep)[j]?).map (·.2)=some w:=hacc.2 j w (by rw [← Array.getElem?_toList];exact e2)
   rw [← Array.getElem?_toList,hy] at e3
   cases e3
   obtain ⟨k',tk',rfl⟩:=T.el y (pm.mem_iff.mp (List.mem_of_getElem? hy))
   exact ⟨tk',rfl⟩
  have hpk:((Sw.ord X.w S es ep).toList.map fun e=>Sw.vI e.2).Perm (Sw.dd (fun i=>ns.getD i 0) ns.length):=(pm.map _).trans T.ks
  refine wpAny_bind (wpAny_newList ?_ (by rw [hla,sizeLine_eq];(first|lia|omega)))
  have hoL:(h2.push (seqObj "list" acc.toList.toArray 0)).get? h2.objs.size=some (seqObj "list" acc.toList.toArray 0):=Heap.get?_push_size _ rfl
  refine wpAny_bind (wpAny_holding (wpAny_call_entry slot_list_sort ⟨_,hoL,rfl⟩ entry_list_sort (list_sort_tree hoL hI (by rw [hla];(first|lia|omega)) fun out ns' a1 a2 a3=>⟨_,rfl,?_⟩) (args_list_sort _)))
  obtain ⟨e,he⟩:=sortedHeap_at (out:=out) hoL;refine wpAny_pure ⟨_,rfl,?_⟩
  have I':Inv X pins σ H1 { s1 with heap:=h2,toks:=tk2 }:=I2.kept (t':=tk2) hkp
  have a4:=a2.trans hpk
  refine zjc (s:={ s1 with heap:=h2,toks:=tk2 }) (h':=sortedHeap (h2.push (seqObj "list" acc.toList.toArray 0)) h2.objs.size acc.toList out) (tk:=tk2) I' (fun b o hb'=>?_) (Nat.le_refl _) he a1 (by rw [a4.length_eq];(first|lia|omega)) fun hn=>q _ ns' hn (fun x=>?_) (zkS a3 (a4.nodup_iff.mpr (Sw.dd_nodup _ _))) (by rw [a4.length_eq];exact hdd)
  ·have hlt:=Heap.lt_size hb'
   rw [sortedHeap_old (Nat.ne_of_lt hlt) (by rw [size_push'];exact Nat.lt_succ_of_lt hlt)]
   exact Heap.get?_push_of_some _ hb'
  ·rw [a4.mem_iff,Sw.dd_mem]
   constructor
   ·rintro ⟨j,hj,rfl⟩
    rw [List.getD_eq_getElem?_getD,List.getElem?_eq_getElem hj]
    exact List.getElem_mem hj
   ·intro hx
    obtain ⟨j,ej⟩:=List.getElem?_of_mem hx
    exact ⟨j,(List.getElem?_eq_some_iff.mp ej).1,by rw [List.getD_eq_getElem?_getD,ej];rfl⟩
end
end L2
set_option maxHeartbeats 4000000
local macro_rules
 | `(tactic| simp_all only [$xs,*])=>do
  let ds ← ("znI znH zn6 znc znm znT zn1 znF znO zn2 zls zlD zlS rI_c rI0_c zqE ex_bl zp7 zqG zqY zp4 zmg zlC zmp zmh zms zlG zlp zlm zlZ zkf zj7 zjC zjK zeL zmo zgE zaH tSl zcb zfd zj5 zbo zjx tBM zm8 zbM zaV zbr za1 zcj zaD zck tCB zab zap tC tOp tUn tTru zf9 zno tIf zbq zeI zdU zcs zaq rU zpA zlM zjr rRep zmB zjz zfz zby tB zjy zcY zmq tAnd zgt rEqT zo0 zkZ rEq rAll zht tOr rNe tPar".splitOn " ").toArray.mapM fun s=>`(Lean.Parser.Tactic.simpLemma| ↓ $(Lean.mkIdent s.toName):ident)
  let ps ← ("zoB Option.bind_some Option.bind_none Option.join_some Option.map_some List.getElem?_cons_zero List.getElem?_cons_succ V.str.injEq V.ty.injEq zac rI rI0 zc1 L2.start zlx znl zle zoh List.map_cons List.map_nil List.length_cons List.length_nil List.replicate List.cons_append List.nil_append List.append_nil Option.some.injEq exists_eq_left' exists_eq_left exists_and_left List.cons.injEq V.int.injEq V.ref.injEq V.bl.injEq and_true true_and List.set_cons_zero List.set_cons_succ Nat.reduceAdd Nat.reduceSub Int.reduceToNat Int.reducePow Int.reduceNeg Int.reduceMul Int.reduceAdd Int.reduceSub decide_eq_true_eq Bool.not_eq_true' decide_eq_false_iff_not exists_const and_assoc exists_eq exists_eq' if_true if_false Bool.false_eq_true Bool.true_eq_false reduceCtorEq not_true_eq_false not_false_eq_true zbl".splitOn " ").toArray.mapM fun s=>`(Lean.Parser.Tactic.simpLemma| $(Lean.mkIdent s.toName):ident)
  `(tactic| simp only [$xs,*,$ds,*,$ps,*])
namespace My
local macro_rules | `(tactic| omega)=>`(tactic| lia)
open PySem L2
def top (i:Nat):Stmt:=PySem.Challenge.pw_hideworth_k25_whole_boxes_told_otherwise.main.body.getD i (.Pass ⟨0,0,0,0⟩)
abbrev zeY:Stmt:=top 6
abbrev ziu:Stmt:=top 7
abbrev zjI:Stmt:=top 8
abbrev zib:Stmt:=top 9
abbrev zh3:Stmt:=top 10
abbrev zjW:Stmt:=top 11
abbrev zhV:Stmt:=top 12
abbrev zeU:Stmt:=top 13
abbrev zb0:Stmt:=top 14
abbrev zeR:Stmt:=top 15
abbrev zez:Stmt:=top 17
abbrev zdE:Stmt:=top 18
abbrev zf5:Stmt:=top 24
abbrev zcp:Stmt:=top 25
abbrev zcO:Stmt:=top 26
abbrev ziw:Stmt:=top 27
abbrev zgy:Stmt:=top 28
abbrev zgp:Stmt:=top 29
abbrev zkC:Stmt:=top 30
abbrev zdl:Stmt:=top 31
abbrev zij:Stmt:=top 32
abbrev zcv:Stmt:=top 33
abbrev zbO:Stmt:=top 34
abbrev zbS:Stmt:=top 35
abbrev zba:Stmt:=top 36
abbrev zb5:Stmt:=top 37
abbrev zdq:Stmt:=top 38
abbrev zdp:Stmt:=top 39
abbrev zb4:Stmt:=top 40
abbrev zc7:Stmt:=top 41
abbrev zcy:Stmt:=top 42
abbrev zeo:Stmt:=top 44
abbrev zcq:Stmt:=top 45
abbrev zdD:Stmt:=top 46
abbrev zdM:Stmt:=top 47
abbrev zc6:Stmt:=top 48
abbrev zcF:Stmt:=top 51
abbrev zdR:Stmt:=top 52
abbrev zdG:Stmt:=top 53
abbrev zdK:Stmt:=top 54
abbrev zdF:Stmt:=top 62
abbrev zcJ:Stmt:=top 63
abbrev zdb:Stmt:=top 64
abbrev zfI:Stmt:=top 65
set_option genInjectivity false in
set_option genSizeOf false in
structure Ad where
 f_divisor:Addr
 d_divisor:FuncData
 f_ratio:Addr
 d_ratio:FuncData
 f_plus:Addr
 d_plus:FuncData
 f_minus:Addr
 d_minus:FuncData
 f_times:Addr
 d_times:FuncData
 f_over:Addr
 d_over:FuncData
 f_below:Addr
 d_below:FuncData
 f_common:Addr
 d_common:FuncData
 f_shared_divisor:Addr
 d_shared_divisor:FuncData
 f_lowest:Addr
 d_lowest:FuncData
 f_is_whole:Addr
 d_is_whole:FuncData
 f_is_within:Addr
 d_is_within:FuncData
 f_is_box:Addr
 d_is_box:FuncData
 f_look_boxes:Addr
 d_look_boxes:FuncData
 f_look_budget:Addr
 d_look_budget:FuncData
 f_power:Addr
 d_power:FuncData
 f_missed:Addr
 d_missed:FuncData
 f_chance:Addr
 d_chance:FuncData
 f_gain:Addr
 d_gain:FuncData
 f_cost_sum:Addr
 d_cost_sum:FuncData
 f_added:Addr
 d_added:FuncData
 f_least_chance:Addr
 d_least_chance:FuncData
 f_fair_weights:Addr
 d_fair_weights:FuncData
 f_chance_for:Addr
 d_chance_for:FuncData
 f_counts_and_worth:Addr
 d_counts_and_worth:FuncData
 f_look_shares:Addr
 d_look_shares:FuncData
 f_mix_of:Addr
 d_mix_of:FuncData
 f_paper_of:Addr
 d_paper_of:FuncData
 f_sure_answer:Addr
 d_sure_answer:FuncData
 f_is_sure:Addr
 d_is_sure:FuncData
 f_budget_worth:Addr
 d_budget_worth:FuncData
 f__law_mix:Addr
 d__law_mix:FuncData
 f__law_cell_at:Addr
 d__law_cell_at:FuncData
 f__law_left:Addr
 d__law_left:FuncData
 f__law_draw:Addr
 d__law_draw:FuncData
 f__law_boxes:Addr
 d__law_boxes:FuncData
 f__law_lowest:Addr
 d__law_lowest:FuncData
 f__law_miss:Addr
 d__law_miss:FuncData
 f__law_plus:Addr
 d__law_plus:FuncData
 f__law_less:Addr
 d__law_less:FuncData
 f__law_turn:Addr
 d__law_turn:FuncData
 f__law_better:Addr
 d__law_better:FuncData
 f__law_alike:Addr
 d__law_alike:FuncData
 f_law:Addr
 d_law:FuncData
 c_NoNumber:Addr
 c_NoBoxes:Addr
 c_NoBudget:Addr
 k_MOST_BOXES:Tok
 k_MOST_COST:Tok
 k_MOST_OF:Tok
 k_MOST_BUDGET:Tok
structure Txt (K:PySem.W.Frag) (mg:Str→Option Value) (a:Ad):Prop where
 F_divisor:Fun K "divisor" "divisor" zeY a.f_divisor a.d_divisor
 b_divisor:zbc K a.d_divisor ["one","other"] []
 m_divisor:mg "divisor"=some (.ref a.f_divisor)
 F_ratio:Fun K "ratio" "ratio" ziu a.f_ratio a.d_ratio
 b_ratio:zbc K a.d_ratio ["top","bottom"] []
 m_ratio:mg "ratio"=some (.ref a.f_ratio)
 F_plus:Fun K "plus" "plus" zjI a.f_plus a.d_plus
 b_plus:zbc K a.d_plus ["one","other"] []
 m_plus:mg "plus"=some (.ref a.f_plus)
 F_minus:Fun K "minus" "minus" zib a.f_minus a.d_minus
 b_minus:zbc K a.d_minus ["one","other"] []
 m_minus:mg "minus"=some (.ref a.f_minus)
 F_times:Fun K "times" "times" zh3 a.f_times a.d_times
 b_times:zbc K a.d_times ["one","other"] []
 m_times:mg "times"=some (.ref a.f_times)
 F_over:Fun K "over" "over" zjW a.f_over a.d_over
 b_over:zbc K a.d_over ["one","other"] []
 m_over:mg "over"=some (.ref a.f_over)
 F_below:Fun K "below" "below" zhV a.f_below a.d_below
 b_below:zbc K a.d_below ["one","other"] []
 m_below:mg "below"=some (.ref a.f_below)
 F_common:Fun K "common" "common" zeU a.f_common a.d_common
 b_common:zbc K a.d_common ["fractions"] []
 m_common:mg "common"=some (.ref a.f_common)
 F_shared_divisor:Fun K "shared_divisor" "shared_divisor" zb0 a.f_shared_divisor a.d_shared_divisor
 b_shared_divisor:zbc K a.d_shared_divisor ["numbers"] []
 m_shared_divisor:mg "shared_divisor"=some (.ref a.f_shared_divisor)
 F_lowest:Fun K "lowest" "lowest" zeR a.f_lowest a.d_lowest
 b_lowest:zbc K a.d_lowest ["weights"] []
 m_lowest:mg "lowest"=some (.ref a.f_lowest)
 F_is_whole:Fun K "is_whole" "is_whole" zez a.f_is_whole a.d_is_whole
 b_is_whole:zbc K a.d_is_whole ["thing"] []
 m_is_whole:mg "is_whole"=some (.ref a.f_is_whole)
 F_is_within:Fun K "is_within" "is_within" zdE a.f_is_within a.d_is_within
 b_is_within:zbc K a.d_is_within ["thing","least","most"] []
 m_is_within:mg "is_within"=some (.ref a.f_is_within)
 F_is_box:Fun K "is_box" "is_box" zf5 a.f_is_box a.d_is_box
 b_is_box:zbc K a.d_is_box ["thing"] []
 m_is_box:mg "is_box"=some (.ref a.f_is_box)
 F_look_boxes:Fun K "look_boxes" "look_boxes" zcp a.f_look_boxes a.d_look_boxes
 b_look_boxes:zbc K a.d_look_boxes ["boxes"] []
 m_look_boxes:mg "look_boxes"=some (.ref a.f_look_boxes)
 F_look_budget:Fun K "look_budget" "look_budget" zcO a.f_look_budget a.d_look_budget
 b_look_budget:zbc K a.d_look_budget ["budget"] []
 m_look_budget:mg "look_budget"=some (.ref a.f_look_budget)
 F_power:Fun K "power" "power" ziw a.f_power a.d_power
 b_power:zbc K a.d_power ["base","count"] []
 m_power:mg "power"=some (.ref a.f_power)
 F_missed:Fun K "missed" "missed" zgy a.f_missed a.d_missed
 b_missed:zbc K a.d_missed ["box","count"] []
 m_missed:mg "missed"=some (.ref a.f_missed)
 F_chance:Fun K "chance" "chance" zgp a.f_chance a.d_chance
 b_chance:zbc K a.d_chance ["box","count"] []
 m_chance:mg "chance"=some (.ref a.f_chance)
 F_gain:Fun K "gain" "gain" zkC a.f_gain a.d_gain
 b_gain:zbc K a.d_gain ["box","count"] []
 m_gain:mg "gain"=some (.ref a.f_gain)
 F_cost_sum:Fun K "cost_sum" "cost_sum" zdl a.f_cost_sum a.d_cost_sum
 b_cost_sum:zbc K a.d_cost_sum ["boxes","plan"] []
 m_cost_sum:mg "cost_sum"=some (.ref a.f_cost_sum)
 F_added:Fun K "added" "added" zij a.f_added a.d_added
 b_added:zbc K a.d_added ["fractions"] []
 m_added:mg "added"=some (.ref a.f_added)
 F_least_chance:Fun K "least_chance" "least_chance" zcv a.f_least_chance a.d_least_chance
 b_least_chance:zbc K a.d_least_chance ["chances"] []
 m_least_chance:mg "least_chance"=some (.ref a.f_least_chance)
 F_fair_weights:Fun K "fair_weights" "fair_weights" zbO a.f_fair_weights a.d_fair_weights
 b_fair_weights:zbc K a.d_fair_weights ["boxes","counts"] []
 m_fair_weights:mg "fair_weights"=some (.ref a.f_fair_weights)
 F_chance_for:Fun K "chance_for" "chance_for" zbS a.f_chance_for a.d_chance_for
 b_chance_for:zbc K a.d_chance_for ["boxes","budget","counts"] []
 m_chance_for:mg "chance_for"=some (.ref a.f_chance_for)
 F_counts_and_worth:Fun K "counts_and_worth" "counts_and_worth" zba a.f_counts_and_worth a.d_counts_and_worth
 b_counts_and_worth:zbc K a.d_counts_and_worth ["boxes","budget"] []
 m_counts_and_worth:mg "counts_and_worth"=some (.ref a.f_counts_and_worth)
 F_look_shares:Fun K "look_shares" "look_shares" zb5 a.f_look_shares a.d_look_shares
 b_look_shares:zbc K a.d_look_shares ["boxes","counts","worth"] []
 m_look_shares:mg "look_shares"=some (.ref a.f_look_shares)
 F_mix_of:Fun K "mix_of" "mix_of" zdq a.f_mix_of a.d_mix_of
 b_mix_of:zbc K a.d_mix_of ["boxes","counts","worth"] []
 m_mix_of:mg "mix_of"=some (.ref a.f_mix_of)
 F_paper_of:Fun K "paper_of" "paper_of" zdp a.f_paper_of a.d_paper_of
 b_paper_of:zbc K a.d_paper_of ["boxes","counts"] []
 m_paper_of:mg "paper_of"=some (.ref a.f_paper_of)
 F_sure_answer:Fun K "sure_answer" "sure_answer" zb4 a.f_sure_answer a.d_sure_answer
 b_sure_answer:zbc K a.d_sure_answer ["boxes"] []
 m_sure_answer:mg "sure_answer"=some (.ref a.f_sure_answer)
 F_is_sure:Fun K "is_sure" "is_sure" zc7 a.f_is_sure a.d_is_sure
 b_is_sure:zbc K a.d_is_sure ["boxes","budget"] []
 m_is_sure:mg "is_sure"=some (.ref a.f_is_sure)
 F_budget_worth:Fun K "budget_worth" "budget_worth" zcy a.f_budget_worth a.d_budget_worth
 b_budget_worth:zbc K a.d_budget_worth ["boxes","budget"] []
 m_budget_worth:mg "budget_worth"=some (.ref a.f_budget_worth)
 F__law_mix:Fun K "_law_mix" "_law_mix" zeo a.f__law_mix a.d__law_mix
 b__law_mix:zbc K a.d__law_mix ["_law_number","_law_k"] []
 m__law_mix:mg "_law_mix"=some (.ref a.f__law_mix)
 F__law_cell_at:Fun K "_law_cell_at" "_law_cell_at" zcq a.f__law_cell_at a.d__law_cell_at
 b__law_cell_at:zbc K a.d__law_cell_at ["_law_script","_law_k"] []
 m__law_cell_at:mg "_law_cell_at"=some (.ref a.f__law_cell_at)
 F__law_left:Fun K "_law_left" "_law_left" zdD a.f__law_left a.d__law_left
 b__law_left:zbc K a.d__law_left ["_law_script","_law_k"] []
 m__law_left:mg "_law_left"=some (.ref a.f__law_left)
 F__law_draw:Fun K "_law_draw" "_law_draw" zdM a.f__law_draw a.d__law_draw
 b__law_draw:zbc K a.d__law_draw ["_law_left_here","_law_base"] []
 m__law_draw:mg "_law_draw"=some (.ref a.f__law_draw)
 F__law_boxes:Fun K "_law_boxes" "_law_boxes" zc6 a.f__law_boxes a.d__law_boxes
 b__law_boxes:zbc K a.d__law_boxes ["_law_left_here","_law_most"] []
 m__law_boxes:mg "_law_boxes"=some (.ref a.f__law_boxes)
 F__law_lowest:Fun K "_law_lowest" "_law_lowest" zcF a.f__law_lowest a.d__law_lowest
 b__law_lowest:zbc K a.d__law_lowest ["_law_top","_law_bottom"] []
 m__law_lowest:mg "_law_lowest"=some (.ref a.f__law_lowest)
 F__law_miss:Fun K "_law_miss" "_law_miss" zdR a.f__law_miss a.d__law_miss
 b__law_miss:zbc K a.d__law_miss ["_law_box","_law_many"] []
 m__law_miss:mg "_law_miss"=some (.ref a.f__law_miss)
 F__law_plus:Fun K "_law_plus" "_law_plus" zdG a.f__law_plus a.d__law_plus
 b__law_plus:zbc K a.d__law_plus ["_law_one","_law_other"] []
 m__law_plus:mg "_law_plus"=some (.ref a.f__law_plus)
 F__law_less:Fun K "_law_less" "_law_less" zdK a.f__law_less a.d__law_less
 b__law_less:zbc K a.d__law_less ["_law_one","_law_other"] []
 m__law_less:mg "_law_less"=some (.ref a.f__law_less)
 F__law_turn:Fun K "_law_turn" "_law_turn" zdF a.f__law_turn a.d__law_turn
 b__law_turn:zbc K a.d__law_turn ["_law_left_here","_law_many"] []
 m__law_turn:mg "_law_turn"=some (.ref a.f__law_turn)
 F__law_better:Fun K "_law_better" "_law_better" zcJ a.f__law_better a.d__law_better
 b__law_better:zbc K a.d__law_better ["_law_left_here","_law_boxes_here","_law_budget","_law_worth"] []
 m__law_better:mg "_law_better"=some (.ref a.f__law_better)
 F__law_alike:Fun K "_law_alike" "_law_alike" zdb a.f__law_alike a.d__law_alike
 b__law_alike:zbc K a.d__law_alike ["_law_box","_law_many","_law_budget"] []
 m__law_alike:mg "_law_alike"=some (.ref a.f__law_alike)
 F_law:Fun K "law" "law" zfI a.f_law a.d_law
 b_law:zbc K a.d_law ["_law_script"] []
 m_law:mg "law"=some (.ref a.f_law)
 z_set:mg "set"=none
 z_isinstance:mg "isinstance"=none
 z_range:mg "range"=none
 z_all:mg "all"=none
 z_sorted:mg "sorted"=none
 z_abs:mg "abs"=none
 z_sum:mg "sum"=none
 z_len:mg "len"=none
 z_list:mg "list"=none
 z_zip:mg "zip"=none
 z_int:mg "int"=none
 z_bool:mg "bool"=none
 z_tuple:mg "tuple"=none
 z_max:mg "max"=none
 z_min:mg "min"=none
 m_NoNumber:mg "NoNumber"=some (.ref a.c_NoNumber)
 m_NoBoxes:mg "NoBoxes"=some (.ref a.c_NoBoxes)
 m_NoBudget:mg "NoBudget"=some (.ref a.c_NoBudget)
 m_MOST_BOXES:mg "MOST_BOXES"=some (.int 6 a.k_MOST_BOXES)
 m_MOST_COST:mg "MOST_COST"=some (.int 60 a.k_MOST_COST)
 m_MOST_OF:mg "MOST_OF"=some (.int 50 a.k_MOST_OF)
 m_MOST_BUDGET:mg "MOST_BUDGET"=some (.int 60 a.k_MOST_BUDGET)
 x_NoNumber:PySem.W.excIn K a.c_NoNumber zjn "ValueError.__new__"=true
 x_NoBoxes:PySem.W.excIn K a.c_NoBoxes zjn "ValueError.__new__"=true
 x_NoBudget:PySem.W.excIn K a.c_NoBudget zjn "ValueError.__new__"=true
def Bd (m:Nat) (x:Int):Prop:=x.natAbs<2 ^ m
theorem Bd.mono {m n:Nat} {x:Int} (h:Bd m x) (l:m≤n):Bd n x:=Nat.lt_of_lt_of_le h (Nat.pow_le_pow_right (by decide) l)
theorem Bd.mul {m n:Nat} {x y:Int} (hx:Bd m x) (hy:Bd n y):Bd (m+n) (x*y):=by
 unfold Bd at *
 rw [Int.natAbs_mul,Nat.pow_add]
 exact Nat.mul_lt_mul'' hx hy
theorem Bd.add {m:Nat} {x y:Int} (hx:Bd m x) (hy:Bd m y):Bd (m+1) (x+y):=by
 unfold Bd at *
 rw [Nat.pow_succ,Nat.mul_two]
 exact Nat.lt_of_le_of_lt (Int.natAbs_add_le x y) (Nat.add_lt_add hx hy)
theorem Bd.sub {m:Nat} {x y:Int} (hx:Bd m x) (hy:Bd m y):Bd (m+1) (x - y):=by
 unfold Bd at *
 rw [Nat.pow_succ,Nat.mul_two]
 exact Nat.lt_of_le_of_lt (Int.natAbs_sub_le x y) (Nat.add_lt_add hx hy)
theorem Bd.le {m:Nat} {x y:Int} (hy:Bd m y) (h:x.natAbs≤y.natAbs):Bd m x:=Nat.lt_of_le_of_lt h hy
def sg (t b:Int):Int:=if b<0 then -(Int.gcd t b:Int) else (Int.gcd t b:Int)
def zmb (t b:Int):Int:=t.fdiv (sg t b)
def zh4 (t b:Int):Int:=b.fdiv (sg t b)
theorem zkF {t b:Int} (h:b≠0):Int.gcd t b≠0:=fun e=>h (Int.gcd_eq_zero_iff.mp e).2
theorem zhx {t b:Int} (h:b≠0):sg t b≠0:=by
 have:=zkF (t:=t) h
 unfold sg
 split <;> omega
theorem zmS (t b:Int):(sg t b).natAbs=Int.gcd t b:=by
 unfold sg
 split <;> omega
theorem zom (t b:Int):sg t b∣t:=by
 unfold sg
 split
 ·exact Int.neg_dvd.mpr (Int.gcd_dvd_left ..)
 ·exact Int.gcd_dvd_left ..
theorem znV (t b:Int):sg t b∣b:=by
 unfold sg
 split
 ·exact Int.neg_dvd.mpr (Int.gcd_dvd_right ..)
 ·exact Int.gcd_dvd_right ..
theorem zdj {x g:Int} (h:g∣x):x.fdiv g*g=x:=by
 rw [Int.fdiv_eq_ediv_of_dvd h]
 exact Int.ediv_mul_cancel h
theorem zgl (t b:Int):zmb t b*sg t b=t:=zdj (zom t b)
theorem zd8 (t b:Int):zh4 t b*sg t b=b:=zdj (znV t b)
theorem zpl {t b:Int} (h:b≠0):(sg t b).natAbs≤b.natAbs:=by
 rw [zmS]
 exact Nat.le_of_dvd (by omega) (Int.natAbs_dvd_natAbs.mpr (Int.gcd_dvd_right t b))
theorem zes {q g x:Int} (h:q*g=x) (hg:g≠0):q.natAbs≤x.natAbs:=by
 rw [← h,Int.natAbs_mul]
 exact Nat.le_mul_of_pos_right _ (by omega)
theorem zn9 {t b:Int} (h:b≠0):(zmb t b).natAbs≤t.natAbs:=zes (zgl t b) (zhx h)
theorem znB {t b:Int} (h:b≠0):(zh4 t b).natAbs≤b.natAbs:=zes (zd8 t b) (zhx h)
theorem zjb {q g x:Int} (h:q*g=x) (s:(0<x∧0<g)∨(x<0∧g<0)):0<q:=by
 rcases s with ⟨a,c⟩ | ⟨a,c⟩
 ·exact Int.pos_of_mul_pos_left (by rw [h];exact a) c
 ·by_cases z:0<q
  ·exact z
  ·have h1:0≤(-q)*(-g):=Int.mul_nonneg (by omega) (by omega)
   rw [Int.neg_mul_neg,h] at h1
   omega
theorem zlK {t b:Int} (h:b≠0):0<zh4 t b:=by
 refine zjb (zd8 t b) ?_
 have g:=zkF (t:=t) h
 unfold sg
 split <;> omega
theorem zol {t b:Int} (h:b≠0):Int.gcd (zmb t b) (zh4 t b)=1:=by
 have e:Int.gcd (zmb t b*sg t b) (zh4 t b*sg t b)=Int.gcd (zmb t b) (zh4 t b)*(sg t b).natAbs:=Int.gcd_mul_right ..
 rw [zgl,zd8,zmS] at e
 exact Nat.eq_of_mul_eq_mul_right (Nat.pos_of_ne_zero (zkF h)) (by rw [Nat.one_mul];exact e.symm)
theorem zfP {t b:Int} (h:b≠0):(Rat.divInt t b).num=zmb t b∧((Rat.divInt t b).den:Int)=zh4 t b:=by
 have p:=zlK (t:=t) h
 have g:=zol (t:=t) h
 have e2:((zh4 t b).toNat:Int)=zh4 t b:=by omega
 have nz:(zh4 t b).toNat≠0:=by omega
 have red:(zmb t b).natAbs.Coprime (zh4 t b).toNat:=by
  have e:(zh4 t b).toNat=(zh4 t b).natAbs:=by omega
  rw [e]
  exact g
 have e:Rat.divInt t b=⟨zmb t b,(zh4 t b).toNat,nz,red⟩:=by
  rw [Rat.mk_eq_divInt,e2,Rat.divInt_eq_divInt_iff h (by omega)]
  have h1:=zgl t b
  have h2:=zd8 t b
  generalize zmb t b=x at h1 ⊢
  generalize zh4 t b=y at h2 ⊢
  rw [← h1,← h2]
  grind
 rw [e]
 exact ⟨rfl,e2⟩
abbrev fr (q:Rat):List L2.V:=[.int q.num,.int (q.den:Int)]
abbrev nf (q:Rat):List Int:=[q.num,(q.den:Int)]
theorem zbt (q:Rat):(q.den:Int)≠0:=by
 have:=q.den_nz
 omega
theorem zda (q:Rat):0<(q.den:Int):=by
 have:=q.den_nz
 omega
theorem zkr (p q:Rat):Rat.divInt (p.num*q.den+q.num*p.den) (p.den*q.den)=p+q:=by
 rw [← Rat.divInt_add_divInt _ _ (zbt p) (zbt q),Rat.num_divInt_den,Rat.num_divInt_den]
theorem zkH (p q:Rat):Rat.divInt (p.num*q.den - q.num*p.den) (p.den*q.den)=p - q:=by
 rw [← Rat.divInt_sub_divInt _ _ (zbt p) (zbt q),Rat.num_divInt_den,Rat.num_divInt_den]
theorem zkO (p q:Rat):Rat.divInt (p.num*q.num) (p.den*q.den)=p*q:=by
 rw [← Rat.divInt_mul_divInt,Rat.num_divInt_den,Rat.num_divInt_den]
theorem zgi (p q:Rat):Rat.divInt (p.num*q.den) (p.den*q.num)=p / q:=by
 rw [← Rat.divInt_mul_divInt,Rat.num_divInt_den,← Rat.inv_divInt,Rat.num_divInt_den,Rat.div_def]
structure Bq (n:Nat) (q:Rat):Prop where
 top:Bd n q.num
 bot:Bd n (q.den:Int)
theorem Bq.mono {m n:Nat} {q:Rat} (h:Bq m q) (l:m≤n):Bq n q:=⟨h.top.mono l,h.bot.mono l⟩
theorem zbv {n:Nat} {t b:Int} (h:b≠0) (ht:Bd n t) (hb:Bd n b):Bq n (Rat.divInt t b):=by
 obtain ⟨e1,e2⟩:=zfP (t:=t) h
 exact ⟨by rw [e1];exact ht.le (zn9 h),by rw [e2];exact hb.le (znB h)⟩
theorem ziF {q:Rat} (h:q≠0):q.num≠0:=fun e=>h (Rat.num_eq_zero.mp e)
theorem zl7 {x y:Int} (hx:0≤x) (hy:0<y):Int.gcd y (x % y)=Int.gcd x y:=by
 obtain ⟨m,rfl⟩:=Int.eq_ofNat_of_zero_le hx
 obtain ⟨n,rfl⟩:=Int.eq_ofNat_of_zero_le (Int.le_of_lt hy)
 rw [← Int.natCast_emod]
 show Nat.gcd n (m % n)=Nat.gcd m n
 rw [Nat.gcd_comm n,← Nat.gcd_rec,Nat.gcd_comm]
theorem zg3 {x y:Int} (hx:0≤x) (hy:0<y):Int.gcd y (x.fmod y)=Int.gcd x y:=by
 rw [Int.fmod_eq_emod_of_nonneg x (Int.le_of_lt hy)]
 exact zl7 hx hy
theorem zmA (i:Int):(if i<0 then -i else i)=(i.natAbs:Int):=by
 split <;> omega
theorem zfQ (u:Int) (h:0≤u):((Int.gcd u 0:Nat):Int)=u:=by
 show ((Nat.gcd u.natAbs 0:Nat):Int)=u
 rw [Nat.gcd_zero_right]
 omega
theorem zqZ:zoQ 10 18:=⟨by decide,by decide,by decide⟩
def zjf:Sp:=fun vs H Q _=>∃ a b:Int,vs=[.int a,.int b]∧Q (.int (Int.gcd a b:Nat)) H
def zku:Sp:=fun vs H Q _=>∃ a:Int,vs=[.int a]∧Q (.bl true) H
abbrev Box:=Int×Int×Int
abbrev bx (b:Box):List V:=[.int b.1,.int b.2.1,.int b.2.2]
def GB (b:Box):Prop:=1≤b.1∧b.1≤60∧1≤b.2.1∧b.2.1≤b.2.2∧b.2.2≤50
theorem zaE {α β:Type} {f:α→β} {l:List α} {i:Nat} {y:β} (h:(l.map f)[i]?=some y):∃ x,l[i]?=some x∧y=f x:=by
 rw [List.getElem?_map] at h
 obtain ⟨x,h1,h2⟩:=Option.map_eq_some_iff.mp h
 exact ⟨x,h1,h2.symm⟩
def Tps {α:Type} (f:α→List V) (H:Hp) (ts:List Addr) (bs:List α):Prop:=ts.length=bs.length∧∀ (i:Nat) t b,ts[i]?=some t→bs[i]?=some b→H t=some (.tup (f b))
theorem Tps.same {α:Type} {f:α→List V} {H H':Hp} {ts:List Addr} {bs:List α} (h:Tps f H ts bs) (s:zaR H H'):Tps f H' ts bs:=⟨h.1,fun i t b e1 e2=>s _ _ (h.2 i t b e1 e2)⟩
theorem Tps.nil {α:Type} {f:α→List V} {H:Hp}:Tps f H [] ([]:List α):=⟨rfl,fun i t b e=>by simp at e⟩
theorem Tps.put {α:Type} {f:α→List V} {H H':Hp} {ts:List Addr} {bs:List α} {t:Addr} {b:α} (h:Tps f H ts bs) (s:∀ (x:Addr) (u:List V),H x=some (.tup u)→H' x=some (.tup u)) (e:H' t=some (.tup (f b))):Tps f H' (ts++[t]) (bs++[b]):=by
 refine ⟨by rw [List.length_append,List.length_append,h.1];rfl,fun i x y e1 e2=>?_⟩
 by_cases c:i<ts.length
 ·rw [List.getElem?_append_left c] at e1
  rw [List.getElem?_append_left (by rw [← h.1];exact c)] at e2
  exact s _ _ (h.2 i x y e1 e2)
 ·have c1:ts.length≤i:=by omega
  rw [List.getElem?_append_right c1] at e1
  rw [List.getElem?_append_right (by rw [← h.1];exact c1),← h.1] at e2
  have z:i - ts.length=0:=by
   have:=(List.getElem?_eq_some_iff.mp e1).1
   simp only [List.length_cons,List.length_nil] at this
   omega
  rw [z] at e1 e2
  simp only [List.getElem?_cons_zero,Option.some.injEq] at e1 e2
  rw [← e1,← e2]
  exact e
theorem Tps.app {α:Type} {f:α→List V} {H:Hp} {ts us:List Addr} {bs cs:List α} (h:Tps f H ts bs) (h2:Tps f H us cs):Tps f H (ts++us) (bs++cs):=by
 refine ⟨by rw [List.length_append,List.length_append,h.1,h2.1],fun i x y e1 e2=>?_⟩
 by_cases c:i<ts.length
 ·rw [List.getElem?_append_left c] at e1
  rw [List.getElem?_append_left (by rw [← h.1];exact c)] at e2
  exact h.2 i x y e1 e2
 ·have c1:ts.length≤i:=by omega
  rw [List.getElem?_append_right c1] at e1
  rw [List.getElem?_append_right (by rw [← h.1];exact c1),← h.1] at e2
  exact h2.2 _ x y e1 e2
theorem Tps.at {α:Type} {f:α→List V} {H:Hp} {ts:List Addr} {bs:List α} (h:Tps f H ts bs) {i:Nat} {t:Addr} (e:ts[i]?=some t):∃ b,bs[i]?=some b∧H t=some (.tup (f b)):=by
 have hi:=(List.getElem?_eq_some_iff.mp e).1
 rw [h.1] at hi
 exact ⟨bs[i],List.getElem?_eq_getElem hi,h.2 i t _ e (List.getElem?_eq_getElem hi)⟩
theorem zar {α:Type} {l:List α} {i:Nat} {x:α} (e:l[i]?=some x):x∈l:=List.mem_of_getElem? e
structure BP (H:Hp) (l pl:Addr) (ts:List Addr) (bs:List Box) (ns:List Int):Prop where
 hl:H l=some (.lst (ts.map V.ref))
 hb:Tps bx H ts bs
 hp:H pl=some (.lst (ns.map V.int))
 len:ns.length=bs.length
 gb:∀ b∈bs,GB b
 gn:∀ n∈ns,0≤n∧n≤60
 l1:1≤bs.length
 l6:bs.length≤6
theorem BP.same {H H':Hp} {l pl:Addr} {ts:List Addr} {bs:List Box} {ns:List Int} (h:BP H l pl ts bs ns) (s:zaR H H'):BP H' l pl ts bs ns :=
 ⟨s _ _ h.hl,h.hb.same s,s _ _ h.hp,h.len,h.gb,h.gn,h.l1,h.l6⟩
def chq (b:Box) (n:Int):Rat:=Rat.divInt (b.2.2 ^ n.toNat - (b.2.2 - b.2.1) ^ n.toNat) (b.2.2 ^ n.toNat)
def zaO (bs:List Box) (ns:List Int):List Int:=List.zipWith (fun b n=>b.1*n) bs ns
def zoL (bs:List Box) (ns:List Int):List Rat:=List.zipWith chq bs ns
def Off (p c:Addr) (H:Hp):Hp:=fun b=>if b=p∨b=c then none else H b
theorem za0 (p c:Addr) (H:Hp):zaR (Off p c H) H:=fun b o h=>by
 unfold Off at h
 split at h
 ·cases h
 ·exact h
theorem zgU {p c b:Addr} {H:Hp} (h1:b≠p) (h2:b≠c):Off p c H b=H b:=if_neg (fun z=>z.elim h1 h2)
theorem zpz {p c b:Addr} {H:Hp} {o:HO} (h:Off p c H b=some o):b≠p∧b≠c:=by
 unfold Off at h
 split at h
 ·cases h
 ·rename_i z
  exact ⟨fun e=>z (.inl e),fun e=>z (.inr e)⟩
theorem zpV {p c:Addr} {H:Hp} {o:HO}:Off p c (upd H p o)=Off p c H:=by
 funext b
 unfold Off upd
 split
 ·rfl
 ·rename_i z
  rw [if_neg fun e=>z (.inl e)]
theorem zer {p c b:Addr} {H:Hp} {o:HO} (h1:b≠p) (h2:b≠c):Off p c (upd H b o)=upd (Off p c H) b o:=by
 funext x
 unfold Off upd
 by_cases e:x=b
 ·subst e
  rw [if_neg fun z=>z.elim h1 h2,if_pos rfl,if_pos rfl]
 ·rw [if_neg e,if_neg e]
theorem zf1 {H:Hp} {p c b:Addr} (hb:H b=none):Off p c H b=none:=by
 unfold Off
 split
 ·rfl
 ·exact hb
theorem zeK {H H':Hp} (p c:Addr) (s:zaR H H'):zaR (Off p c H) (Off p c H'):=fun b o h=>by
 have n:=zpz h
 rw [zgU n.1 n.2] at h ⊢
 exact s _ _ h
def zcn:Sp:=fun vs H Q _=>∃ x l m:Int,vs=[.int x,.int l,.int m]∧l≤x∧x≤m∧Q (.bl true) H
def zkY:Sp:=fun vs H Q _=>∃ (p:Addr) (b:Box),vs=[.ref p]∧H p=some (.tup (bx b))∧GB b∧Q (.bl true) H
def zmD:Sp:=fun vs H Q _=>∃ (l:Addr) (ts:List Addr) (bs:List Box),vs=[.ref l]∧H l=some (.lst (ts.map V.ref))∧Tps bx H ts bs∧(∀ b∈bs,GB b)∧1≤bs.length∧bs.length≤6∧∀ H',zaR H H'→Q .non H'
def znP:Sp:=fun vs H Q _=>∃ b n:Int,vs=[.int b,.int n]∧0≤n∧n≤60∧0≤b∧b≤50∧Q (.int (b ^ n.toNat)) H
def zgB:Sp:=fun vs H Q _=>∃ (p:Addr) (b:Box) (n:Int),vs=[.ref p,.int n]∧H p=some (.tup (bx b))∧GB b∧0≤n∧n≤60∧∀ (r:Addr) (H':Hp),zaR H H'→H' r=some (.tup [.int ((b.2.2 - b.2.1) ^ n.toNat),.int (b.2.2 ^ n.toNat)])→Q (.ref r) H'
def zeb:Sp:=fun vs H Q _=>∃ (p:Addr) (b:Box) (n:Int),vs=[.ref p,.int n]∧H p=some (.tup (bx b))∧GB b∧0≤n∧n≤60∧∀ (r:Addr) (H':Hp),zaR H H'→H' r=some (.tup (fr (chq b n)))→Q (.ref r) H'
def zmy:Sp:=fun vs H Q _=>∃ (l pl:Addr) (ts:List Addr) (bs:List Box) (ns:List Int),vs=[.ref l,.ref pl]∧BP H l pl ts bs ns∧∀ H',zaR H H'→Q (.int (zaO bs ns).sum) H'
def zhC:Sp:=fun vs H Q _=>∃ t b:Int,vs=[.int t,.int b]∧b≠0∧Bd 6000 b∧∀ (r:Addr) (H':Hp),zaR H H'→H' r=some (.tup (fr (Rat.divInt t b)))→Q (.ref r) H'
theorem zmM {t b:Int} (h:b≠0) (hb:Bd 6000 b):(sg t b).natAbs.log2<9000:=zeA 6000 (zhx h) (hb.le (zpl h))
theorem zaZ {p:Rat} (p0:0≤p) (p1:p≤1):∀ n:Nat,1 - (1 - p) ^ n≤(n:Rat)*p∧0≤(1 - p) ^ n∧(1 - p) ^ n≤1
 | 0=>by
  rw [Rat.pow_zero]
  refine ⟨?_,?_,Rat.le_refl⟩ <;> grind
 | n+1=>by
  obtain ⟨h1,h2,h3⟩:=zaZ p0 p1 n
  have q0:0≤1 - p:=by grind
  have m1:0≤(1 - p) ^ n*(1 - p):=Rat.mul_nonneg h2 q0
  have m2:0≤(1 - p) ^ n*p:=Rat.mul_nonneg h2 p0
  have m3:(1 - p) ^ n*p≤1*p:=Rat.mul_le_mul_of_nonneg_right h3 p0
  rw [Rat.pow_succ]
  have c:((n+1:Nat):Rat)=(n:Rat)+1:=by exact_mod_cast rfl
  rw [c]
  refine ⟨?_,m1,?_⟩ <;> grind
theorem zdz {p:Rat} (p0:0≤p) (p1:p≤1):∀ n:Nat,(n:Rat)*p*(1 - p) ^ n≤1 - (1 - p) ^ n
 | 0=>by
  rw [Rat.pow_zero]
  have c:((0:Nat):Rat)=0:=rfl
  rw [c]
  grind
 | n+1=>by
  have h:=zdz p0 p1 n
  obtain ⟨_,h2,h3⟩:=zaZ p0 p1 n
  have c:((n+1:Nat):Rat)=(n:Rat)+1:=by exact_mod_cast rfl
  have n0:(0:Rat)≤(n:Rat):=by exact_mod_cast Nat.zero_le n
  have a1:0≤((n:Rat)+1)*p:=Rat.mul_nonneg (by grind) p0
  have a2:0≤((n:Rat)+1)*p*(1 - p) ^ n:=Rat.mul_nonneg a1 h2
  have a3:0≤((n:Rat)+1)*p*(1 - p) ^ n*p:=Rat.mul_nonneg a2 p0
  rw [Rat.pow_succ,c]
  have e1:((n:Rat)+1)*p*((1 - p) ^ n*(1 - p))=((n:Rat)+1)*p*(1 - p) ^ n - ((n:Rat)+1)*p*(1 - p) ^ n*p:=by grind
  have e2:((n:Rat)+1)*p*(1 - p) ^ n=(n:Rat)*p*(1 - p) ^ n+(1 - p) ^ n*p:=by grind
  rw [e1]
  grind
theorem zgI (a:Rat) (m:Nat):∀ k:Nat,a ^ (m+k)=a ^ m*a ^ k
 | 0=>by rw [Nat.add_zero,Rat.pow_zero,Rat.mul_one]
 | k+1=>by rw [← Nat.add_assoc,Rat.pow_succ,Rat.pow_succ,zgI a m k,Rat.mul_assoc]
theorem conc {p:Rat} (p0:0≤p) (p1:p≤1) (m n:Nat):(1 - p) ^ m - (1 - p) ^ n≤((n:Rat) - (m:Rat))*((1 - p) ^ m*p):=by
 rcases Nat.le_total m n with h | h
 ·obtain ⟨k,rfl⟩:=Nat.exists_eq_add_of_le h
  obtain ⟨h1,h2,h3⟩:=zaZ p0 p1 k
  obtain ⟨_,g2,_⟩:=zaZ p0 p1 m
  have c:((m+k:Nat):Rat)=(m:Rat)+(k:Rat):=by exact_mod_cast rfl
  rw [c,zgI]
  have a:=Rat.mul_le_mul_of_nonneg_left h1 g2
  grind
 ·obtain ⟨k,rfl⟩:=Nat.exists_eq_add_of_le h
  have h1:=zdz p0 p1 k
  obtain ⟨_,g2,_⟩:=zaZ p0 p1 n
  have c:((n+k:Nat):Rat)=(n:Rat)+(k:Rat):=by exact_mod_cast rfl
  rw [c,zgI]
  have a:=Rat.mul_le_mul_of_nonneg_left h1 g2
  grind
structure Drw (H:Hp) (p:Addr) (c:Int):Prop where
 hp:∃ n f:Int,H p=some (.lst [.int n,.int f,.int c])∧n.natAbs<2 ^ 2 ^ 20∧(f=0∨f=1∧0≤n)
 c0:0≤c
theorem Drw.new {H:Hp} {p:Addr} {c:Int} (h:Drw H p c) {b:Addr} (hb:H b=none):b≠p:=by
 obtain ⟨n,f,hp,_⟩:=h.hp
 exact (zaP hp hb).symm
theorem Drw.upd {H:Hp} {p:Addr} {c:Int} (h:Drw H p c) {b:Addr} {o:HO} (h1:b≠p):Drw (L2.upd H b o) p c:=by
 obtain ⟨n,f,hp,e⟩:=h.hp
 exact ⟨⟨n,f,by rw [zaY h1.symm];exact hp,e⟩,h.c0⟩
theorem Drw.same {H H':Hp} {p:Addr} {c:Int} (h:Drw H p c) (s:zaR H H'):Drw H' p c:=by
 obtain ⟨n,f,hp,e⟩:=h.hp
 exact ⟨⟨n,f,s _ _ hp,e⟩,h.c0⟩
theorem znu {H H1 H2:Hp} {p:Addr} (hp:H p=none) (s1:zaR H H1) (s2:zaR (Off p p H1) (Off p p H2)):zaR H H2:=fun b o h=>by
 have n:b≠p:=zaP h hp
 have:=s2 b o (by rw [zgU n n];exact s1 _ _ h)
 rwa [zgU n n] at this
theorem Drw.mk2 {H:Hp} {p:Addr} {c:Int} (h:Drw H p c) {b:Addr} (hb:H b=none) (o:HO):∃ H2,H2=L2.upd H b o∧Drw H2 p c∧zaR (Off p p H) (Off p p H2)∧Off p p H2 b=some o∧zaR H H2:=by
 have n:=h.new hb
 refine ⟨_,rfl,h.upd n,?_,?_,zal hb _⟩
 ·rw [zer n n]
  exact zal (zf1 hb) _
 ·rw [zer n n]
  exact zah
theorem Drw.put {H0 H:Hp} {p:Addr} {c:Int} (h:Drw H p c) {b:Addr} (n:b≠p) (s:zaR (Off p p H0) (Off p p H)) (f:Off p p H0 b=none) (o:HO):∃ H2,H2=L2.upd H b o∧Drw H2 p c∧zaR (Off p p H0) (Off p p H2)∧Off p p H2 b=some o∧∀ x,x≠b→Off p p H2 x=Off p p H x:=by
 refine ⟨_,rfl,h.upd n,?_,?_,fun x hx=>?_⟩
 ·rw [zer n n]
  exact s.put f
 ·rw [zer n n]
  exact zah
 ·rw [zer n n,zaY hx]
def zhN:Sp:=fun vs H Q _=>∃ n k:Int,vs=[.int n,.int k]∧n.natAbs<2 ^ 2 ^ 20∧0≤k∧k≤100000∧∀ r:Int,0≤r→r<2147483587→Q (.int r) H
def ziV (K:PySem.W.Frag):Sp:=fun vs H Q _=>∃ (p:Addr) (x:Int),vs=[.ref p,.int 0]∧H p=some (.lst [.int x])∧Q (.int x) H
def zkD (K:PySem.W.Frag):Sp:=fun vs H Q _=>∃ (p:Addr) (x:Int),vs=[.ref p,.int 0]∧H p=some (.lst [.int x])∧x.natAbs<2 ^ 2 ^ 20∧∀ (l:Addr) (H':Hp),zaR H H'→H l=none→Drw H' l 0→Q (.ref l) H'
def zaT:Sp:=fun vs H Q _=>∃ (p:Addr) (c m:Int),vs=[.ref p,.int m]∧Drw H p c∧c<10000∧0<m∧m≤1000000000000000000000000000000∧∀ (r:Int) (H':Hp),0≤r→r<m→Off p p H'=Off p p H→Drw H' p (c+1)→Q (.int r) H'
section
variable {P:Program} {w:World} {mg:Str→Option Value} {base:Heap}
variable {K:PySem.W.Frag} {H:Hp} {Q:VK} {a:Ad}
def zfs:TS :=
 (zaV (za1 (tOp (rI (fun _ j=>j≠0) fun i j=>.int (i.fmod j)) (zac 0) (zac 1)) (zaf 2))
 (zaV (za1 (zac 1) (zaf 0))
 (za1 (zac 2) (zaf 1))))
theorem zdx (D:zbU) (σ:St) (H:Hp):zfs D σ H=(zaV (za1 (tOp (rI (fun _ j=>j≠0) fun i j=>.int (i.fmod j)) (zac 0) (zac 1)) (zaf 2))
 (zaV (za1 (zac 1) (zaf 0))
 (za1 (zac 2) (zaf 1)))) D σ H:=rfl
def zfj (K:PySem.W.Frag):TS :=
 (zaV (za1 (tCB (fun xs H Q=>∃ i,xs=[.int i]∧Q (.int (if i<0 then -i else i)) H) (zab (zac 0) zap)) (zaf 0))
 (zaV (za1 (tCB (fun xs H Q=>∃ i,xs=[.int i]∧Q (.int (if i<0 then -i else i)) H) (zab (zac 1) zap)) (zaf 1))
 (zaV (zha (tTru K (zac 1)) (zfs))
 (zbq (zac 0)))))
theorem zjp {x y:Int} (q:Q (.int (Int.gcd x y:Nat)) H):zfj K { nx:=fun _ H'=>Q .non H',rt:=Q } (L2.start ["one","other","rest"] [.int x,.int y]) H:=by
 unfold zfj
 simp_all only [zdx,zac]
 refine zgj (fun σ H'=>H'=H∧∃ u v r,σ=[some (.int u),some (.int v),r]∧0≤u∧0≤v∧Int.gcd u v=Int.gcd x y) (fun σ _=>match σ with | [_,some (.int y),_]=>y.toNat | _=>0) ?_ ?_ ?_
 ·rw [zmA,zmA]
  exact ⟨rfl,_,_,_,rfl,by omega,by omega,rfl⟩
 ·rintro σ H' ⟨rfl,u,v,r,rfl,hu,hv,hg⟩
  simp_all only [zdx,zac]
  refine zeH (fun c=>?_) (fun c=>?_)
  ·have c':v≠0:=by simpa using c
   have hv':0<v:=by omega
   refine ⟨c',hv,Int.fmod_nonneg_of_pos u hv',?_,?_⟩
   ·rw [zg3 hu hv',hg]
   ·have:=Int.fmod_lt_of_pos u hv'
    omega
  ·have c':v=0:=by simpa using c
   subst c'
   rw [← hg,zfQ u hu] at q
   exact q
 ·rintro σ H1 Q1 Q2 hQ ⟨v,hv,k,hk,h⟩
  exact ⟨v,hv,k,hk,hQ _ _ h⟩
theorem zb9:zaF ["one","other","rest"] ["one","other"] (zaj zeY):=⟨rfl,rfl,rfl,by decide +kernel,rfl,by decide +kernel,by decide +kernel⟩
theorem zei (T:Txt K mg a):zbT P w K mg base CX0 1 a.f_divisor a.d_divisor ["one","other"] zjf:=by
 refine T.F_divisor.ok zb9 (fun vs H Q E h=>?_) (fun cdv A outer s H vs Q E hr h=>?_)
 ·obtain ⟨x,y,rfl,q⟩:=h
  rfl
 obtain ⟨x,y,rfl,q⟩:=h
 exact ⟨zfj K,(zae (zaK (i:=0) zb9.nd rfl (Or.inl rfl) (za6 ziE rfl T.z_abs PyProof.Rows.boot_abs (zaa (pv 0) zad)))
 (zae (zaK (i:=1) zb9.nd rfl (Or.inl rfl) (za6 ziE rfl T.z_abs PyProof.Rows.boot_abs (zaa (pv 1) zad)))
 (zae (zf8 PassesOwn.never (zi0 (pv 1) (fun _=>rfl)) (zae (zaK (i:=2) zb9.nd rfl (Or.inl rfl) (zat zeg (pv 0) (pv 1)))
 (zae (zaK (i:=0) zb9.nd rfl (Or.inl rfl) (pv 1))
 (zan (zaK (i:=1) zb9.nd rfl (Or.inl rfl) (pv 2))))))
 (zan (zaL (pv 0)))))),
  zjp q⟩
def zfl:TS :=
 (zbq (zcs (zab (tOp (rI (fun _ j=>j≠0∧j.natAbs.log2<9000) fun i j=>.int (i.fdiv j)) (zac 0) (zac 2)) (zab (tOp (rI (fun _ j=>j≠0∧j.natAbs.log2<9000) fun i j=>.int (i.fdiv j)) (zac 1) (zac 2)) zap))))
theorem zbQ (D:zbU) (σ:St) (H:Hp):zfl D σ H=(zbq (zcs (zab (tOp (rI (fun _ j=>j≠0∧j.natAbs.log2<9000) fun i j=>.int (i.fdiv j)) (zac 0) (zac 2)) (zab (tOp (rI (fun _ j=>j≠0∧j.natAbs.log2<9000) fun i j=>.int (i.fdiv j)) (zac 1) (zac 2)) zap)))) D σ H:=rfl
def zgN:TS :=
 (zaV (za1 (zaq zjf [] E0 (zab (zac 0) (zab (zac 1) zap))) (zaf 2))
 (zaV (zeG (zcY (zby (tOp (rI0 fun i j=>.bl (decide (i<j))) (zac 1) (tC (.int 0)))) (za1 (tUn (rU fun i=>.int (-i)) (zac 2)) (zaf 2)) zbr))
 (zfl)))
theorem zbR (D:zbU) (σ:St) (H:Hp):zgN D σ H=(zaV (za1 (zaq zjf [] E0 (zab (zac 0) (zab (zac 1) zap))) (zaf 2))
 (zaV (zeG (zcY (zby (tOp (rI0 fun i j=>.bl (decide (i<j))) (zac 1) (tC (.int 0)))) (za1 (tUn (rU fun i=>.int (-i)) (zac 2)) (zaf 2)) zbr))
 (zfl))) D σ H:=rfl
def zh2:TS :=
 (zaV (zeG (zcY (zby (tOp rEq (zac 1) (tC (.int 0)))) ziK zbr))
 (zgN))
theorem zme {t b:Int} (h:b≠0) (hb:Bd 6000 b) (q:∀ (r:Addr) (H':Hp),zaR H H'→H' r=some (.tup (fr (Rat.divInt t b)))→Q (.ref r) H') :
  zh2 { nx:=fun _ H'=>Q .non H',rt:=Q } (L2.start ["top","bottom","shared"] [.int t,.int b]) H:=by
 unfold zh2
 simp_all only [zbQ,zbR,zac]
 refine ⟨fun σ H'=>H'=H∧σ=[some (.int t),some (.int b),none],?_,?_⟩
 ·simp_all only [zbQ,zbR,zac]
  exact zeH (fun c=>absurd c h) (fun _=>trivial)
 ·rintro σ H' ⟨e,rfl⟩
  rw [e]
  simp_all only [zbQ,zbR,zac]
  refine ⟨t,b,rfl,?_⟩
  refine ⟨fun σ H'=>H'=H∧σ=[some (.int t),some (.int b),some (.int (sg t b))],?_,?_⟩
  ·simp_all only [zbQ,zbR,zac]
   unfold sg
   exact zeH (fun c=>by rw [if_pos c]) (fun c=>by rw [if_neg c])
  ·rintro σ H' ⟨e,rfl⟩
   rw [e]
   simp_all only [zbQ,zbR,zac]
   refine ⟨zhx h,zmM h hb,zhx h,zmM h hb,by decide,fun p hp=>q p _ (zal hp _) ?_⟩
   rw [fr,(zfP h).1,(zfP h).2]
   exact zah
theorem zf7:zaF ["top","bottom","shared"] ["top","bottom"] (zaj ziu):=⟨rfl,rfl,rfl,by decide +kernel,rfl,by decide +kernel,by decide +kernel⟩
theorem zcN (T:Txt K mg a):zbT P w K mg base CX0 2 a.f_ratio a.d_ratio ["top","bottom"] zhC:=by
 have G_divisor:=zei (P:=P) (w:=w) (base:=base) T
 refine T.F_ratio.ok zf7 (fun vs H Q E h=>?_) (fun cdv A outer s H vs Q E hr h=>?_)
 ·obtain ⟨t,b,rfl,h,hb,q⟩:=h
  rfl
 obtain ⟨t,b,rfl,h,hb,q⟩:=h
 exact ⟨zh2,(zae (zcC (zcB (zbz znw (pv 1) zag (zbB _)) (zan zf4) zbi))
 (zae (zaK (i:=2) zf7.nd rfl (Or.inl rfl) (zak G_divisor (hr.mono (by decide)) rfl T.m_divisor T.F_divisor.kp T.b_divisor .nil zaI (zaa (pv 0) (zaa (pv 1) zad))))
 (zae (zcC (zcB (zbz zjj (pv 1) zag (zbB _)) (zan (zaK (i:=2) zf7.nd rfl (Or.inl rfl) (zqX zmR (pv 2)))) zbi))
 (zan (zaL (zbe (zaa (zat zb6 (pv 0) (pv 2)) (zaa (zat zb6 (pv 1) (pv 2)) zad)))))))),
  zme h hb q⟩
theorem ziC {b:Int} (h0:0≤b) (h1:b≤50):∀ n:Nat,0≤b ^ n∧b ^ n≤50 ^ n
 | 0=>by simp
 | n+1=>by
  obtain ⟨z1,z2⟩:=ziC h0 h1 n
  rw [Int.pow_succ,Int.pow_succ]
  exact ⟨Int.mul_nonneg z1 h0,Int.mul_le_mul z2 h1 h0 (Int.le_trans z1 z2)⟩
theorem zkA {b:Int} (h0:0≤b) (h1:b≤50) {n:Nat} (hn:n≤60):Bd 400 (b ^ n):=by
 obtain ⟨z1,z2⟩:=ziC h0 h1 n
 have z3:(50:Int) ^ n≤50 ^ 60:=by
  exact_mod_cast Nat.pow_le_pow_right (n:=50) (by decide) hn
 have z4:(50:Int) ^ 60<2 ^ 400:=by decide +kernel
 unfold Bd
 have:(b ^ n).natAbs<(2:Int) ^ 400:=by omega
 omega
theorem ziO {b:Int} (h0:1≤b):∀ n:Nat,0<b ^ n
 | 0=>by simp
 | n+1=>by
  rw [Int.pow_succ]
  exact Int.mul_pos (ziO h0 n) (by omega)
def zih:TS :=
 (zaV (za1 (tC (.int 1)) (zaf 2))
 (zaV (zid (zfz (zab (zac 1) zap)) (zaf 3)
 (za1 (tOp (rI IntMulOk fun i j=>.int (i*j)) (zac 2) (zac 0)) (zaf 2)))
 (zbq (zac 2))))
theorem zlk {b n:Int} (n0:0≤n) (n1:n≤60) (b0:0≤b) (b1:b≤50) (q:Q (.int (b ^ n.toNat)) H) :
  zih { nx:=fun _ H'=>Q .non H',rt:=Q } (L2.start ["base","count","product","k"] [.int b,.int n]) H:=by
 unfold zih
 simp_all only [zac]
 refine ⟨by omega,by omega,?_⟩
 refine zdr (fun i σ H'=>H'=H∧∃ k,σ=[some (.int b),some (.int n),some (.int (b ^ i)),k]) ⟨rfl,none,by rw [Int.pow_zero]⟩ ?_ ?_
 ·rintro i σ H' hi ⟨rfl,k,rfl⟩
  simp_all only [zac]
  exact ⟨zgM (by omega) (by omega),by rw [Int.pow_succ]⟩
 ·rintro σ H' ⟨rfl,k,rfl⟩
  simp_all only [zac]
  exact q
theorem zeT:zaF ["base","count","product","k"] ["base","count"] (zaj ziw):=⟨rfl,rfl,rfl,by decide +kernel,rfl,by decide +kernel,by decide +kernel⟩
theorem zlX (T:Txt K mg a):zbT P w K mg base CX0 1 a.f_power a.d_power ["base","count"] znP:=by
 refine T.F_power.ok zeT (fun vs H Q E h=>?_) (fun cdv A outer s H vs Q E hr h=>?_)
 ·obtain ⟨b,n,rfl,n0,n1,b0,b1,q⟩:=h
  rfl
 obtain ⟨b,n,rfl,n0,n1,b0,b1,q⟩:=h
 exact ⟨zih,(zae (zaK (i:=2) zeT.nd rfl (Or.inl rfl) zag)
 (zae (zcT PassesOwn.never rfl (zcD rfl T.z_range (zaa (pv 1) zad)) (zam (i:=3) zeT.nd rfl (Or.inl rfl))
 (zan (zaK (i:=2) zeT.nd rfl (Or.inl rfl) (zat zaJ (pv 2) (pv 0)))))
 (zan (zaL (pv 2))))),
  zlk n0 n1 b0 b1 q⟩
def zgR:Sp:=fun vs H Q _=>∃ (x y:Addr) (u v:Rat),vs=[.ref x,.ref y]∧H x=some (.tup (fr u))∧H y=some (.tup (fr v))∧Bq 2000 u∧Bq 2000 v∧∀ (r:Addr) (H':Hp),zaR H H'→H' r=some (.tup (fr (u*v)))→Q (.ref r) H'
def zhO (K:PySem.W.Frag):TS :=
 (zbq (zaq zhC [] E0 (zab (tOp (rI IntMulOk fun i j=>.int (i*j)) (tOp (zbl K) (zac 0) (tC (.int 0))) (tOp (zbl K) (zac 1) (tC (.int 0)))) (zab (tOp (rI IntMulOk fun i j=>.int (i*j)) (tOp (zbl K) (zac 0) (tC (.int 1))) (tOp (zbl K) (zac 1) (tC (.int 1)))) zap))))
theorem zlB {x y:Addr} {u v:Rat} (hx:H x=some (.tup (fr u))) (hy:H y=some (.tup (fr v))) (bu:Bq 2000 u) (bv:Bq 2000 v)
  (q:∀ (r:Addr) (H':Hp),zaR H H'→H' r=some (.tup (fr (u*v)))→Q (.ref r) H') :
  zhO K { nx:=fun _ H'=>Q .non H',rt:=Q } (L2.start ["one","other"] [.ref x,.ref y]) H:=by
 unfold zhO
 simp_all only [zac]
 rw [← zkO] at q
 have hx:=SqT.of (K:=K) hx
 have hy:=SqT.of (K:=K) hy
 exact ⟨_,hx,_,rfl,_,hy,_,rfl,_,rfl,_,rfl,zeM 2000 2000 bu.top bv.top,_,hx,_,rfl,_,hy,_,rfl,_,rfl,_,rfl,zeM 2000 2000 bu.bot bv.bot,_,_,rfl,Int.mul_ne_zero (zbt u) (zbt v),(bu.bot.mul bv.bot).mono (by decide),q⟩
theorem zmm:zaF ["one","other"] ["one","other"] (zaj zh3):=⟨rfl,rfl,rfl,by decide +kernel,rfl,by decide +kernel,by decide +kernel⟩
theorem zl2 (T:Txt K mg a):zbT P w K mg base CX0 3 a.f_times a.d_times ["one","other"] zgR:=by
 have G_ratio:=zcN (P:=P) (w:=w) (base:=base) T
 refine T.F_times.ok zmm (fun vs H Q E h=>?_) (fun cdv A outer s H vs Q E hr h=>?_)
 ·obtain ⟨x,y,u,v,rfl,hx,hy,bu,bv,q⟩:=h
  rfl
 obtain ⟨x,y,u,v,rfl,hx,hy,bu,bv,q⟩:=h
 exact ⟨zhO K,(zan (zaL (zak G_ratio (hr.mono (by decide)) rfl T.m_ratio T.F_ratio.kp T.b_ratio .nil zaI (zaa (zat zaJ (zaN zaG (pv 0) zag (fun _ _=>rfl)) (zaN zaG (pv 1) zag (fun _ _=>rfl))) (zaa (zat zaJ (zaN zaG (pv 0) zag (fun _ _=>rfl)) (zaN zaG (pv 1) zag (fun _ _=>rfl))) zad))))),
  zlB hx hy bu bv q⟩
theorem zly {b d:Int} (hb:0<b) (hd:0<d):0<b.fdiv (Int.gcd b d:Nat)*d∧b∣b.fdiv (Int.gcd b d:Nat)*d∧d∣b.fdiv (Int.gcd b d:Nat)*d∧(∀ M,b∣M→d∣M→b.fdiv (Int.gcd b d:Nat)*d∣M)∧b.fdiv (Int.gcd b d:Nat)*d≤b*d:=by
 obtain ⟨B,rfl⟩:=Int.eq_ofNat_of_zero_le (Int.le_of_lt hb)
 obtain ⟨D,rfl⟩:=Int.eq_ofNat_of_zero_le (Int.le_of_lt hd)
 have e:((B:Int).fdiv (Int.gcd (B:Int) (D:Int):Nat))*(D:Int)=((Nat.lcm B D:Nat):Int):=by
  rw [Int.fdiv_eq_ediv_of_nonneg _ (by omega)]
  show (((B / Nat.gcd B D:Nat):Int))*(D:Int)=_
  rw [← Int.natCast_mul]
  congr 1
  unfold Nat.lcm
  exact Nat.div_mul_right_comm (Nat.gcd_dvd_left B D) D
 rw [e]
 have B0:0<B:=by omega
 have D0:0<D:=by omega
 refine ⟨?_,Int.natCast_dvd_natCast.mpr (Nat.dvd_lcm_left B D),Int.natCast_dvd_natCast.mpr (Nat.dvd_lcm_right B D),fun M h1 h2=>?_,?_⟩
 ·have:=Nat.lcm_pos B0 D0
  omega
 ·rw [Int.ofNat_dvd_left] at h1 h2 ⊢
  exact Nat.lcm_dvd h1 h2
 ·rw [← Int.natCast_mul]
  have:Nat.lcm B D≤B*D:=Nat.div_le_self _ _
  omega
structure Com (qs:List Rat) (D:Int):Prop where
 pos:0<D
 all:∀ q∈qs,(q.den:Int)∣D
 least:∀ M:Int,(∀ q∈qs,(q.den:Int)∣M)→D∣M
def zf0:Sp:=fun vs H Q _=>∃ (l:Addr) (us:List Addr) (qs:List Rat),vs=[.ref l]∧H l=some (.lst (us.map V.ref))∧Tps fr H us qs∧qs.length≤60∧(∀ q∈qs,Bq 2200 q)∧∀ (r tl:Addr) (D:Int) (H':Hp),zaR H H'→Com qs D→H' r=some (.tup [.ref tl,.int D])→H tl=none→H' tl=some (.lst ((qs.map fun q=>q.num*(D / q.den)).map V.int))→Q (.ref r) H'
def zfW (K:PySem.W.Frag):TS :=
 (za1 (tOp (rI IntMulOk fun i j=>.int (i*j)) (tOp (rI (fun _ j=>j≠0∧j.natAbs.log2<9000) fun i j=>.int (i.fdiv j)) (zac 1) (zaq zjf [] E0 (zab (zac 1) (zab (tOp (zbl K) (zac 2) (tC (.int 1))) zap)))) (tOp (zbl K) (zac 2) (tC (.int 1)))) (zaf 1))
theorem zb3 (K:PySem.W.Frag) (D:zbU) (σ:St) (H:Hp):zfW K D σ H=(za1 (tOp (rI IntMulOk fun i j=>.int (i*j)) (tOp (rI (fun _ j=>j≠0∧j.natAbs.log2<9000) fun i j=>.int (i.fdiv j)) (zac 1) (zaq zjf [] E0 (zab (zac 1) (zab (tOp (zbl K) (zac 2) (tC (.int 1))) zap)))) (tOp (zbl K) (zac 2) (tC (.int 1)))) (zaf 1)) D σ H:=rfl
def zfS (K:PySem.W.Frag):TS :=
 (zbq (zcs (zab (zbh (zbM K (zac 0)) (zaf 0) zaH (tOp (rI IntMulOk fun i j=>.int (i*j)) (tOp (zbl K) (zac 0) (tC (.int 0))) (tOp (rI (fun _ j=>j≠0∧j.natAbs.log2<9000) fun i j=>.int (i.fdiv j)) (zac 1) (tOp (zbl K) (zac 0) (tC (.int 1))))) [none,some 1]) (zab (zac 1) zap))))
theorem zb7 (K:PySem.W.Frag) (D:zbU) (σ:St) (H:Hp):zfS K D σ H=(zbq (zcs (zab (zbh (zbM K (zac 0)) (zaf 0) zaH (tOp (rI IntMulOk fun i j=>.int (i*j)) (tOp (zbl K) (zac 0) (tC (.int 0))) (tOp (rI (fun _ j=>j≠0∧j.natAbs.log2<9000) fun i j=>.int (i.fdiv j)) (zac 1) (tOp (zbl K) (zac 0) (tC (.int 1))))) [none,some 1]) (zab (zac 1) zap)))) D σ H:=rfl
def zgv (K:PySem.W.Frag):TS :=
 (zaV (za1 (tC (.int 1)) (zaf 1))
 (zaV (zid (zbM K (zac 0)) (zaf 2)
 (zfW K))
 (zfS K)))
theorem zjA {l:Addr} {us:List Addr} {qs:List Rat} (hl:H l=some (.lst (us.map V.ref))) (ht:Tps fr H us qs) (h60:qs.length≤60) (hB:∀ q∈qs,Bq 2200 q) (q:∀ (r tl:Addr) (D:Int) (H':Hp),zaR H H'→Com qs D→H' r=some (.tup [.ref tl,.int D])→H tl=none→H' tl=some (.lst ((qs.map fun q=>q.num*(D / q.den)).map V.int))→Q (.ref r) H') :
  zgv K { nx:=fun _ H'=>Q .non H',rt:=Q } (L2.start ["fractions","bottom","fraction"] [.ref l]) H:=by
 unfold zgv
 have ul:=ht.1
 simp_all only [zb3,zb7,zac]
 refine ⟨⟨_,SqL.of hl⟩,?_⟩
 refine zcf (K:=K) (xs:=us.map V.ref) (fun i σ H'=>H'=H∧∃ (b:Int) (x1:Option V),Com (qs.take i) b∧Bd (2200*i+1) b∧σ=[some (.ref l),some (.int b),x1]) ⟨rfl,1,_,⟨by decide,by simp,fun M _=>Int.one_dvd M⟩,by show (1:Nat)<2 ^ 1;decide,rfl⟩ ?_ ?_ ?_
 ·rintro i σ H' _ ⟨rfl,_⟩
  exact SqL.of hl
 ·rintro i v σ H1 hx ⟨rfl,b,x1,C,hb,rfl⟩
  obtain ⟨t,et,rfl⟩:=zaE hx
  obtain ⟨f,ef,hf⟩:=ht.at et
  have li:=(List.getElem?_eq_some_iff.mp ef).1
  have bf:=hB f (zar ef)
  obtain ⟨p1,p2,p3,p4,p5⟩:=zly C.pos (zda f)
  have g0:(Int.gcd b f.den:Int)≠0:=by
   have:=Int.gcd_pos_of_ne_zero_right b (zbt f)
   omega
  have gle:(Int.gcd b f.den:Int).natAbs≤(f.den:Int).natAbs:=by
   have:=Int.gcd_le_natAbs_right b (zbt f)
   omega
  have fdl:(b.fdiv (Int.gcd b f.den:Nat)).natAbs≤b.natAbs:=by
   rw [Int.fdiv_eq_ediv_of_nonneg _ (by omega)]
   have h1:=Int.ediv_le_self (Int.gcd b f.den:Nat) (Int.le_of_lt C.pos)
   have h2:=Int.ediv_nonneg (b:=((Int.gcd b f.den:Nat):Int)) (Int.le_of_lt C.pos) (by omega)
   have:=C.pos
   omega
  simp_all only [zb3,zb7,zac]
  refine ⟨_,SqT.of hf,_,rfl,b,_,rfl,_,rfl,g0,zeA 2200 g0 (bf.bot.le gle),_,SqT.of hf,_,rfl,_,rfl,zeM (2200*i+1) 2200 (hb.le fdl) bf.bot (by omega),rfl,_,⟨p1,fun r hr=>?_,fun M hM=>p4 M (C.least M fun r hr=>hM r ?_) (hM f ?_)⟩,?_,rfl⟩
  ·rw [List.take_add_one,ef] at hr
   rcases List.mem_append.mp hr with h | h
   ·exact Int.dvd_trans (C.all r h) p2
   ·have:r=f:=by simpa using h
    rw [this]
    exact p3
  ·rw [List.take_add_one,ef]
   exact List.mem_append_left _ hr
  ·rw [List.take_add_one,ef]
   exact List.mem_append_right _ (by simp)
  ·have hm:=hb.mul bf.bot
   have h0:=C.pos
   have h1:=zda f
   have h2:=Int.mul_pos h0 h1
   exact (hm.le (by omega)).mono (by omega)
 ·rintro σ H1 ⟨rfl,b,x1,C,hb,rfl⟩
  rw [List.length_map,ul] at C hb
  rw [List.take_of_length_le (Nat.le_refl _)] at C
  have hb2:Bd 132001 b:=hb.mono (by omega)
  simp_all only [zb3,zb7,zac]
  refine ⟨⟨_,SqL.of hl⟩,fun D hD=>?_⟩
  refine zb8 (K:=K) (xs:=us.map V.ref) (fun j ys σ H'=>zaR H1 H'∧ys=((qs.take j).map fun q=>q.num*(b / q.den)).map V.int∧∃ k,σ=[k,some (.int b)]) ⟨zal hD _,rfl,_,rfl⟩ ?_ ?_ ?_
  ·rintro j ys σ H' _ ⟨s,_⟩
   exact SqL.of (s _ _ hl)
  ·rintro j v ys σ H3 hx hD3 ⟨s3,rfl,k,rfl⟩
   obtain ⟨t,et,rfl⟩:=zaE hx
   obtain ⟨f,ef,hf⟩:=ht.at et
   have bf:=hB f (zar ef)
   have lj:=(List.getElem?_eq_some_iff.mp ef).1
   have hf3:=s3 _ _ hf
   have fde:b.fdiv f.den=b / f.den:=Int.fdiv_eq_ediv_of_nonneg _ (Int.le_of_lt (zda f))
   have fdl:(b.fdiv f.den).natAbs≤b.natAbs:=by
    rw [fde]
    have h1:=Int.ediv_le_self (f.den:Int) (Int.le_of_lt C.pos)
    have h2:=Int.ediv_nonneg (b:=(f.den:Int)) (Int.le_of_lt C.pos) (Int.le_of_lt (zda f))
    have:=C.pos
    omega
   simp_all only [zb3,zb7,zac]
   refine ⟨_,SqT.of hf3,_,rfl,_,SqT.of hf3,_,rfl,_,rfl,zbt f,zeA 2200 (zbt f) bf.bot,_,rfl,zeM 2200 132001 bf.top (hb2.le fdl),_,hD3,zbd (by rw [List.length_map,List.length_map,List.length_take];omega),_,zah,s3.put hD,?_⟩
   rw [List.take_add_one,ef,fde]
   simp
  ·rintro ys σ H3 hD3 ⟨s3,rfl,k,rfl⟩
   rw [List.length_map,ul,List.take_of_length_le (Nat.le_refl _)] at hD3
   exact ⟨by decide,fun p hp=>q p D b _ (s3.add hp) C zah hD (by rw [zaY (zaP hD3 hp)];exact hD3)⟩
theorem zd0:zaF ["fractions","bottom","fraction"] ["fractions"] (zaj zeU):=⟨rfl,rfl,rfl,by decide +kernel,rfl,by decide +kernel,by decide +kernel⟩
theorem zg4 (T:Txt K mg a):zbT P w K mg base CX0 2 a.f_common a.d_common ["fractions"] zf0:=by
 have G_divisor:=zei (P:=P) (w:=w) (base:=base) T
 refine T.F_common.ok zd0 (fun vs H Q E h=>?_) (fun cdv A outer s H vs Q E hr h=>?_)
 ·obtain ⟨l,us,qs,rfl,hl,ht,h60,hB,q⟩:=h
  rfl
 obtain ⟨l,us,qs,rfl,hl,ht,h60,hB,q⟩:=h
 exact ⟨zgv K,(zae (zaK (i:=1) zd0.nd rfl (Or.inr rfl) zag)
 (zae (zcT PassesOwn.never rfl (zbj (pv 0)) (zam (i:=2) zd0.nd rfl (Or.inl rfl))
 (zan (zaK (i:=1) zd0.nd rfl (Or.inr rfl) (zat zaJ (zat zb6 (pv 1) (zak G_divisor (hr.mono (by decide)) rfl T.m_divisor T.F_divisor.kp T.b_divisor .nil zaI (zaa (pv 1) (zaa (zaN zaG (pv 2) zag (fun _ _=>rfl)) zad)))) (zaN zaG (pv 2) zag (fun _ _=>rfl))))))
 (zan (zaL (zbe (zaa (zbu (sc:=zaj zeU) (N:=["fractions","bottom","fraction"]) (Nc:=["fraction","bottom"]) (cap:=[none,some 1]) rfl rfl rfl (.of (by decide +kernel)) (zbj (pv 0)) (fun _ _ _ _=>(zam (i:=0) (show List.Nodup (["fraction","bottom"]:List Str) from by decide) rfl (Or.inl rfl))) (fun _ _ _ _=>zbb) (fun _ _ _ _=>(zat zaJ (zaN zaG (pv 0) zag (fun _ _=>rfl)) (zat zb6 (pv 1) (zaN zaG (pv 0) zag (fun _ _=>rfl)))))) (zaa (pv 1) zad))))))),
  zjA hl ht h60 hB q⟩
def zhX:Sp:=fun vs H Q _=>∃ (x y:Addr) (u v:Rat),vs=[.ref x,.ref y]∧H x=some (.tup (fr u))∧H y=some (.tup (fr v))∧Bq 2900 u∧Bq 2900 v∧∀ (r:Addr) (H':Hp),zaR H H'→H' r=some (.tup (fr (u+v)))→Q (.ref r) H'
def ziI:Sp:=fun vs H Q _=>∃ (x y:Addr) (u v:Rat),vs=[.ref x,.ref y]∧H x=some (.tup (fr u))∧H y=some (.tup (fr v))∧Bq 2900 u∧Bq 2900 v∧∀ (r:Addr) (H':Hp),zaR H H'→H' r=some (.tup (fr (u - v)))→Q (.ref r) H'
def zgC:Sp:=fun vs H Q _=>∃ (x y:Addr) (u v:Rat),vs=[.ref x,.ref y]∧H x=some (.tup (fr u))∧H y=some (.tup (fr v))∧v≠0∧Bq 2900 u∧Bq 2900 v∧∀ (r:Addr) (H':Hp),zaR H H'→H' r=some (.tup (fr (u / v)))→Q (.ref r) H'
def zeS:Sp:=fun vs H Q _=>∃ (x y:Addr) (u v:Rat),vs=[.ref x,.ref y]∧H x=some (.tup (fr u))∧H y=some (.tup (fr v))∧Bq 6000 u∧Bq 6000 v∧Q (.bl (decide (u<v))) H
def zkX (K:PySem.W.Frag):TS :=
 (zbq (zaq zhC [] E0 (zab (tOp (rI0 fun i j=>.int (i+j)) (tOp (rI IntMulOk fun i j=>.int (i*j)) (tOp (zbl K) (zac 0) (tC (.int 0))) (tOp (zbl K) (zac 1) (tC (.int 1)))) (tOp (rI IntMulOk fun i j=>.int (i*j)) (tOp (zbl K) (zac 1) (tC (.int 0))) (tOp (zbl K) (zac 0) (tC (.int 1))))) (zab (tOp (rI IntMulOk fun i j=>.int (i*j)) (tOp (zbl K) (zac 0) (tC (.int 1))) (tOp (zbl K) (zac 1) (tC (.int 1)))) zap))))
theorem zny {x y:Addr} {u v:Rat} (hx:H x=some (.tup (fr u))) (hy:H y=some (.tup (fr v))) (bu:Bq 2900 u) (bv:Bq 2900 v) (q:∀ (r:Addr) (H':Hp),zaR H H'→H' r=some (.tup (fr (u+v)))→Q (.ref r) H') :
  zkX K { nx:=fun _ H'=>Q .non H',rt:=Q } (L2.start ["one","other"] [.ref x,.ref y]) H:=by
 unfold zkX
 simp_all only [zac]
 rw [← zkr] at q
 have hx:=SqT.of (K:=K) hx
 have hy:=SqT.of (K:=K) hy
 exact ⟨_,hx,_,rfl,_,hy,_,rfl,_,rfl,_,rfl,zeM 2900 2900 bu.top bv.bot,_,hy,_,rfl,_,hx,_,rfl,_,rfl,_,rfl,zeM 2900 2900 bv.top bu.bot,_,hx,_,rfl,_,hy,_,rfl,_,rfl,_,rfl,zeM 2900 2900 bu.bot bv.bot,_,_,rfl,Int.mul_ne_zero (zbt u) (zbt v),(bu.bot.mul bv.bot).mono (by decide),q⟩
theorem znp:zaF ["one","other"] ["one","other"] (zaj zjI):=⟨rfl,rfl,rfl,by decide +kernel,rfl,by decide +kernel,by decide +kernel⟩
theorem zkw (T:Txt K mg a):zbT P w K mg base CX0 3 a.f_plus a.d_plus ["one","other"] zhX:=by
 have G_ratio:=zcN (P:=P) (w:=w) (base:=base) T
 refine T.F_plus.ok znp (fun vs H Q E h=>?_) (fun cdv A outer s H vs Q E hr h=>?_)
 ·obtain ⟨x,y,u,v,rfl,hx,hy,bu,bv,q⟩:=h
  rfl
 obtain ⟨x,y,u,v,rfl,hx,hy,bu,bv,q⟩:=h
 exact ⟨zkX K,(zan (zaL (zak G_ratio (hr.mono (by decide)) rfl T.m_ratio T.F_ratio.kp T.b_ratio .nil zaI (zaa (zat zbg (zat zaJ (zaN zaG (pv 0) zag (fun _ _=>rfl)) (zaN zaG (pv 1) zag (fun _ _=>rfl))) (zat zaJ (zaN zaG (pv 1) zag (fun _ _=>rfl)) (zaN zaG (pv 0) zag (fun _ _=>rfl)))) (zaa (zat zaJ (zaN zaG (pv 0) zag (fun _ _=>rfl)) (zaN zaG (pv 1) zag (fun _ _=>rfl))) zad))))),
  zny hx hy bu bv q⟩
def zin (K:PySem.W.Frag):TS :=
 (zbq (zaq zhC [] E0 (zab (tOp (rI0 fun i j=>.int (i - j)) (tOp (rI IntMulOk fun i j=>.int (i*j)) (tOp (zbl K) (zac 0) (tC (.int 0))) (tOp (zbl K) (zac 1) (tC (.int 1)))) (tOp (rI IntMulOk fun i j=>.int (i*j)) (tOp (zbl K) (zac 1) (tC (.int 0))) (tOp (zbl K) (zac 0) (tC (.int 1))))) (zab (tOp (rI IntMulOk fun i j=>.int (i*j)) (tOp (zbl K) (zac 0) (tC (.int 1))) (tOp (zbl K) (zac 1) (tC (.int 1)))) zap))))
theorem zlI {x y:Addr} {u v:Rat} (hx:H x=some (.tup (fr u))) (hy:H y=some (.tup (fr v))) (bu:Bq 2900 u) (bv:Bq 2900 v) (q:∀ (r:Addr) (H':Hp),zaR H H'→H' r=some (.tup (fr (u - v)))→Q (.ref r) H') :
  zin K { nx:=fun _ H'=>Q .non H',rt:=Q } (L2.start ["one","other"] [.ref x,.ref y]) H:=by
 unfold zin
 simp_all only [zac]
 rw [← zkH] at q
 have hx:=SqT.of (K:=K) hx
 have hy:=SqT.of (K:=K) hy
 exact ⟨_,hx,_,rfl,_,hy,_,rfl,_,rfl,_,rfl,zeM 2900 2900 bu.top bv.bot,_,hy,_,rfl,_,hx,_,rfl,_,rfl,_,rfl,zeM 2900 2900 bv.top bu.bot,_,hx,_,rfl,_,hy,_,rfl,_,rfl,_,rfl,zeM 2900 2900 bu.bot bv.bot,_,_,rfl,Int.mul_ne_zero (zbt u) (zbt v),(bu.bot.mul bv.bot).mono (by decide),q⟩
theorem zmi:zaF ["one","other"] ["one","other"] (zaj zib):=⟨rfl,rfl,rfl,by decide +kernel,rfl,by decide +kernel,by decide +kernel⟩
theorem zlg (T:Txt K mg a):zbT P w K mg base CX0 3 a.f_minus a.d_minus ["one","other"] ziI:=by
 have G_ratio:=zcN (P:=P) (w:=w) (base:=base) T
 refine T.F_minus.ok zmi (fun vs H Q E h=>?_) (fun cdv A outer s H vs Q E hr h=>?_)
 ·obtain ⟨x,y,u,v,rfl,hx,hy,bu,bv,q⟩:=h
  rfl
 obtain ⟨x,y,u,v,rfl,hx,hy,bu,bv,q⟩:=h
 exact ⟨zin K,(zan (zaL (zak G_ratio (hr.mono (by decide)) rfl T.m_ratio T.F_ratio.kp T.b_ratio .nil zaI (zaa (zat zcW (zat zaJ (zaN zaG (pv 0) zag (fun _ _=>rfl)) (zaN zaG (pv 1) zag (fun _ _=>rfl))) (zat zaJ (zaN zaG (pv 1) zag (fun _ _=>rfl)) (zaN zaG (pv 0) zag (fun _ _=>rfl)))) (zaa (zat zaJ (zaN zaG (pv 0) zag (fun _ _=>rfl)) (zaN zaG (pv 1) zag (fun _ _=>rfl))) zad))))),
  zlI hx hy bu bv q⟩
def zkt (K:PySem.W.Frag):TS :=
 (zbq (zaq zhC [] E0 (zab (tOp (rI IntMulOk fun i j=>.int (i*j)) (tOp (zbl K) (zac 0) (tC (.int 0))) (tOp (zbl K) (zac 1) (tC (.int 1)))) (zab (tOp (rI IntMulOk fun i j=>.int (i*j)) (tOp (zbl K) (zac 0) (tC (.int 1))) (tOp (zbl K) (zac 1) (tC (.int 0)))) zap))))
theorem znY {x y:Addr} {u v:Rat} (hx:H x=some (.tup (fr u))) (hy:H y=some (.tup (fr v))) (v0:v≠0) (bu:Bq 2900 u) (bv:Bq 2900 v) (q:∀ (r:Addr) (H':Hp),zaR H H'→H' r=some (.tup (fr (u / v)))→Q (.ref r) H') :
  zkt K { nx:=fun _ H'=>Q .non H',rt:=Q } (L2.start ["one","other"] [.ref x,.ref y]) H:=by
 unfold zkt
 simp_all only [zac]
 rw [← zgi] at q
 have hx:=SqT.of (K:=K) hx
 have hy:=SqT.of (K:=K) hy
 exact ⟨_,hx,_,rfl,_,hy,_,rfl,_,rfl,_,rfl,zeM 2900 2900 bu.top bv.bot,_,hx,_,rfl,_,hy,_,rfl,_,rfl,_,rfl,zeM 2900 2900 bu.bot bv.top,_,_,rfl,Int.mul_ne_zero (zbt u) (fun z=>v0 (Rat.num_eq_zero.mp z)),(bu.bot.mul bv.top).mono (by decide),q⟩
theorem zn3:zaF ["one","other"] ["one","other"] (zaj zjW):=⟨rfl,rfl,rfl,by decide +kernel,rfl,by decide +kernel,by decide +kernel⟩
theorem zig (T:Txt K mg a):zbT P w K mg base CX0 3 a.f_over a.d_over ["one","other"] zgC:=by
 have G_ratio:=zcN (P:=P) (w:=w) (base:=base) T
 refine T.F_over.ok zn3 (fun vs H Q E h=>?_) (fun cdv A outer s H vs Q E hr h=>?_)
 ·obtain ⟨x,y,u,v,rfl,hx,hy,v0,bu,bv,q⟩:=h
  rfl
 obtain ⟨x,y,u,v,rfl,hx,hy,v0,bu,bv,q⟩:=h
 exact ⟨zkt K,(zan (zaL (zak G_ratio (hr.mono (by decide)) rfl T.m_ratio T.F_ratio.kp T.b_ratio .nil zaI (zaa (zat zaJ (zaN zaG (pv 0) zag (fun _ _=>rfl)) (zaN zaG (pv 1) zag (fun _ _=>rfl))) (zaa (zat zaJ (zaN zaG (pv 0) zag (fun _ _=>rfl)) (zaN zaG (pv 1) zag (fun _ _=>rfl))) zad))))),
  znY hx hy v0 bu bv q⟩
def zh8 (K:PySem.W.Frag):TS :=
 (zbq (tOp (rI0 fun i j=>.bl (decide (i<j))) (tOp (rI IntMulOk fun i j=>.int (i*j)) (tOp (zbl K) (zac 0) (tC (.int 0))) (tOp (zbl K) (zac 1) (tC (.int 1)))) (tOp (rI IntMulOk fun i j=>.int (i*j)) (tOp (zbl K) (zac 1) (tC (.int 0))) (tOp (zbl K) (zac 0) (tC (.int 1))))))
theorem zlo {x y:Addr} {u v:Rat} (hx:H x=some (.tup (fr u))) (hy:H y=some (.tup (fr v))) (bu:Bq 6000 u) (bv:Bq 6000 v) (q:Q (.bl (decide (u<v))) H) :
  zh8 K { nx:=fun _ H'=>Q .non H',rt:=Q } (L2.start ["one","other"] [.ref x,.ref y]) H:=by
 unfold zh8
 simp_all only [zac]
 have hx:=SqT.of (K:=K) hx
 have hy:=SqT.of (K:=K) hy
 rw [decide_eq_decide.mpr (Rat.lt_iff u v)] at q
 exact ⟨_,hx,_,rfl,_,hy,_,rfl,_,rfl,_,rfl,zeM 6000 6000 bu.top bv.bot,_,hy,_,rfl,_,hx,_,rfl,_,rfl,_,rfl,zeM 6000 6000 bv.top bu.bot,q⟩
theorem zml:zaF ["one","other"] ["one","other"] (zaj zhV):=⟨rfl,rfl,rfl,by decide +kernel,rfl,by decide +kernel,by decide +kernel⟩
theorem ziP (T:Txt K mg a):zbT P w K mg base CX0 1 a.f_below a.d_below ["one","other"] zeS:=by
 refine T.F_below.ok zml (fun vs H Q E h=>?_) (fun cdv A outer s H vs Q E hr h=>?_)
 ·obtain ⟨x,y,u,v,rfl,hx,hy,bu,bv,q⟩:=h
  rfl
 obtain ⟨x,y,u,v,rfl,hx,hy,bu,bv,q⟩:=h
 exact ⟨zh8 K,(zan (zaL (ze7 zjj (zat zaJ (zaN zaG (pv 0) zag (fun _ _=>rfl)) (zaN zaG (pv 1) zag (fun _ _=>rfl))) (zat zaJ (zaN zaG (pv 1) zag (fun _ _=>rfl)) (zaN zaG (pv 0) zag (fun _ _=>rfl))) (zbB _)))),
  zlo hx hy bu bv q⟩
def zgA (K:PySem.W.Frag):TS :=
 (zbq (zcs (zab (zaq znP [] E0 (zab (tOp (rI0 fun i j=>.int (i - j)) (tOp (zbl K) (zac 0) (tC (.int 2))) (tOp (zbl K) (zac 0) (tC (.int 1)))) (zab (zac 1) zap))) (zab (zaq znP [] E0 (zab (tOp (zbl K) (zac 0) (tC (.int 2))) (zab (zac 1) zap))) zap))))
theorem zj0 {p:Addr} {b:Box} {n:Int} (hp:H p=some (.tup (bx b))) (g:GB b) (n0:0≤n) (n1:n≤60) (q:∀ (r:Addr) (H':Hp),zaR H H'→H' r=some (.tup [.int ((b.2.2 - b.2.1) ^ n.toNat),.int (b.2.2 ^ n.toNat)])→Q (.ref r) H') :
  zgA K { nx:=fun _ H'=>Q .non H',rt:=Q } (L2.start ["box","count"] [.ref p,.int n]) H:=by
 unfold zgA
 obtain ⟨g1,g2,g3,g4,g5⟩:=g
 simp_all only [zac]
 refine ⟨_,SqT.of hp,_,rfl,_,SqT.of hp,_,rfl,_,rfl,_,rfl,_,_,rfl,n0,n1,by omega,by omega,_,SqT.of hp,_,rfl,_,_,rfl,n0,n1,by omega,by omega,by decide,fun r hr=>q r _ (zal hr _) zah⟩
theorem zk6:zaF ["box","count"] ["box","count"] (zaj zgy):=⟨rfl,rfl,rfl,by decide +kernel,rfl,by decide +kernel,by decide +kernel⟩
theorem zg2 (T:Txt K mg a):zbT P w K mg base CX0 2 a.f_missed a.d_missed ["box","count"] zgB:=by
 have G_power:=zlX (P:=P) (w:=w) (base:=base) T
 refine T.F_missed.ok zk6 (fun vs H Q E h=>?_) (fun cdv A outer s H vs Q E hr h=>?_)
 ·obtain ⟨p,b,n,rfl,hp,g,n0,n1,q⟩:=h
  rfl
 obtain ⟨p,b,n,rfl,hp,g,n0,n1,q⟩:=h
 exact ⟨zgA K,(zan (zaL (zbe (zaa (zak G_power (hr.mono (by decide)) rfl T.m_power T.F_power.kp T.b_power .nil zaI (zaa (zat zcW (zaN zaG (pv 0) zag (fun _ _=>rfl)) (zaN zaG (pv 0) zag (fun _ _=>rfl))) (zaa (pv 1) zad))) (zaa (zak G_power (hr.mono (by decide)) rfl T.m_power T.F_power.kp T.b_power .nil zaI (zaa (zaN zaG (pv 0) zag (fun _ _=>rfl)) (zaa (pv 1) zad))) zad))))),
  zj0 hp g n0 n1 q⟩
theorem zcX {b:Box} (g:GB b) (n:Int):0<b.2.2 ^ n.toNat:=ziO (by obtain ⟨g1,g2,g3,g4,g5⟩:=g;omega) _
theorem zlA {b:Box} (g:GB b) {n:Int} (n1:n≤60):Bd 400 (b.2.2 ^ n.toNat):=zkA (by obtain ⟨g1,g2,g3,g4,g5⟩:=g;omega) g.2.2.2.2 (by omega)
def zgx (K:PySem.W.Frag):TS :=
 (zaV (za1 (zaq zgB [] E0 (zab (zac 0) (zab (zac 1) zap))) (zcj K 2 (zaD (zaf 2) (zaD (zaf 3) zck))))
 (zbq (zaq zhC [] E0 (zab (tOp (rI0 fun i j=>.int (i - j)) (zac 3) (zac 2)) (zab (zac 3) zap)))))
theorem zj2 {p:Addr} {b:Box} {n:Int} (hp:H p=some (.tup (bx b))) (g:GB b) (n0:0≤n) (n1:n≤60) (q:∀ (r:Addr) (H':Hp),zaR H H'→H' r=some (.tup (fr (chq b n)))→Q (.ref r) H') :
  zgx K { nx:=fun _ H'=>Q .non H',rt:=Q } (L2.start ["box","count","top","bottom"] [.ref p,.int n]) H:=by
 unfold zgx
 simp_all only [zac]
 refine ⟨p,b,n,rfl,hp,g,n0,n1,fun r H1 s1 hr=>?_⟩
 simp_all only [zac]
 refine ⟨_,SqT.of hr,rfl,_,_,rfl,_,_,rfl,rfl,_,rfl,_,rfl,?_⟩
 have z:=zcX g n
 exact ⟨_,_,rfl,by omega,(zlA g n1).mono (by decide),fun r H2 s2 hr2=>q r H2 (s1.trans s2) hr2⟩
theorem zfo:zaF ["box","count","top","bottom"] ["box","count"] (zaj zgp):=⟨rfl,rfl,rfl,by decide +kernel,rfl,by decide +kernel,by decide +kernel⟩
theorem zfc (T:Txt K mg a):zbT P w K mg base CX0 3 a.f_chance a.d_chance ["box","count"] zeb:=by
 have G_missed:=zg2 (P:=P) (w:=w) (base:=base) T
 have G_ratio:=zcN (P:=P) (w:=w) (base:=base) T
 refine T.F_chance.ok zfo (fun vs H Q E h=>?_) (fun cdv A outer s H vs Q E hr h=>?_)
 ·obtain ⟨p,b,n,rfl,hp,g,n0,n1,q⟩:=h
  rfl
 obtain ⟨p,b,n,rfl,hp,g,n0,n1,q⟩:=h
 exact ⟨zgx K,(zae (zdd (zak G_missed (hr.mono (by decide)) rfl T.m_missed T.F_missed.kp T.b_missed .nil zaI (zaa (pv 0) (zaa (pv 1) zad))) (zbk rfl (zao (zam (i:=2) zfo.nd rfl (Or.inl rfl)) (zao (zam (i:=3) zfo.nd rfl (Or.inl rfl)) za9))))
 (zan (zaL (zak G_ratio (hr.mono (by decide)) rfl T.m_ratio T.F_ratio.kp T.b_ratio .nil zaI (zaa (zat zcW (pv 3) (pv 2)) (zaa (pv 3) zad)))))),
  zj2 hp g n0 n1 q⟩
theorem ziM {α β γ:Type} (f:α→β→γ) (as:List α) (bs:List β) {i:Nat} {x:α} {y:β} (h1:as[i]?=some x) (h2:bs[i]?=some y) :
  (List.zipWith f as bs).take (i+1)=(List.zipWith f as bs).take i++[f x y]:=by
 rw [List.take_add_one,List.getElem?_zipWith,h1,h2]
 rfl
theorem zky {α β γ:Type} (f:α→β→γ) (as:List α) (bs:List β):(List.zipWith f as bs).take (min as.length bs.length)=List.zipWith f as bs :=
 List.take_of_length_le (by rw [List.length_zipWith];exact Nat.le_refl _)
def zew (K:PySem.W.Frag):TS :=
 (zbq (tCB (zmB K) (zab (zbh (zgE K (zab (zac 0) (zab (zac 1) zap))) (zcj K 2 (zaD (zaf 0) (zaD (zaf 1) zck))) zaH (tOp (rI IntMulOk fun i j=>.int (i*j)) (tOp (zbl K) (zac 0) (tC (.int 0))) (zac 1)) [none,none]) zap)))
theorem zil {l pl:Addr} {ts:List Addr} {bs:List Box} {ns:List Int} (B:BP H l pl ts bs ns) (q:∀ H',zaR H H'→Q (.int (zaO bs ns).sum) H') :
  zew K { nx:=fun _ H'=>Q .non H',rt:=Q } (L2.start ["boxes","plan"] [.ref l,.ref pl]) H:=by
 unfold zew
 simp_all only [zac]
 refine ⟨⟨_,SqL.of B.hl⟩,⟨_,SqL.of B.hp⟩,fun D hD=>?_⟩
 refine zd7 (K:=K) (xs:=ts.map V.ref) (zs:=ns.map V.int) (fun i ys σ H'=>zaR H H'∧ys=((zaO bs ns).take i).map V.int∧∃ x y,σ=[x,y]) ⟨zal hD _,rfl,_,_,rfl⟩ ?_ ?_ ?_
 ·rintro i ys σ H' _ ⟨s,_⟩
  exact ⟨SqL.of (s _ _ B.hl),SqL.of (s _ _ B.hp)⟩
 ·rintro i x z t ys σ H' hx hz hD' ⟨s,rfl,u,v,rfl⟩ ht
  obtain ⟨a,ha,rfl⟩:=zaE hx
  obtain ⟨n,hn,rfl⟩:=zaE hz
  obtain ⟨b,hb1,hb2⟩:=B.hb.at ha
  obtain ⟨n0,n1⟩:=B.gn n (zar hn)
  have li:=(List.getElem?_eq_some_iff.mp hb1).1
  have l6:=B.l6
  have hb3:=s _ _ hb2
  simp_all only [zac]
  refine ⟨_,SqT.of zah,rfl,_,_,rfl,_,_,rfl,rfl,?_⟩
  simp_all only [zac]
  refine ⟨_,SqT.of (by rw [zaY (zaP hb3 ht)];exact hb3),_,rfl,_,rfl,zgM (by omega) (by omega),_,by rw [zaY (zaP hD' ht)];exact hD',zbd (by rw [List.length_map,List.length_take];omega),_,zah,((s.add ht).put hD),?_⟩
  rw [zaO,ziM _ _ _ hb1 hn,List.map_append]
  rfl
 ·rintro ys σ H' hD' ⟨s,rfl,u,v,rfl⟩
  simp_all only [zac]
  refine ⟨_,SqL.of hD',?_⟩
  rw [List.length_map,List.length_map,B.hb.1,zaO,zky]
  exact q _ s
theorem zhQ:zaF ["boxes","plan"] ["boxes","plan"] (zaj zdl):=⟨rfl,rfl,rfl,by decide +kernel,rfl,by decide +kernel,by decide +kernel⟩
theorem zif (T:Txt K mg a):zbT P w K mg base CX0 1 a.f_cost_sum a.d_cost_sum ["boxes","plan"] zmy:=by
 refine T.F_cost_sum.ok zhQ (fun vs H Q E h=>?_) (fun cdv A outer s H vs Q E hr h=>?_)
 ·obtain ⟨l,pl,ts,bs,ns,rfl,B,q⟩:=h
  rfl
 obtain ⟨l,pl,ts,bs,ns,rfl,B,q⟩:=h
 exact ⟨zew K,(zan (zaL (za6 (zeP rfl) rfl T.z_sum PyProof.Rows.boot_sum (zaa (zbu (sc:=zaj zdl) (N:=["boxes","plan"]) (Nc:=["box","count"]) (cap:=[none,none]) rfl rfl rfl (.of (by decide +kernel)) (zdf rfl T.z_zip (zaa (pv 0) (zaa (pv 1) zad))) (fun _ _ _ _=>(zbk rfl (zao (zam (i:=0) (show List.Nodup (["box","count"]:List Str) from by decide) rfl (Or.inl rfl)) (zao (zam (i:=1) (show List.Nodup (["box","count"]:List Str) from by decide) rfl (Or.inl rfl)) za9)))) (fun _ _ _ _=>zbb) (fun _ _ _ _=>(zat zaJ (zaN zaG (pv 0) zag (fun _ _=>rfl)) (pv 1)))) zad)))),
  zil B q⟩
def gnq (b:Box) (n:Int):Rat:=Rat.divInt ((b.2.2 - b.2.1) ^ n.toNat*b.2.1) (b.2.2 ^ n.toNat*b.2.2)
def zik:Sp:=fun vs H Q _=>∃ (p:Addr) (b:Box) (n:Int),vs=[.ref p,.int n]∧H p=some (.tup (bx b))∧GB b∧0≤n∧n≤60∧∀ (r:Addr) (H':Hp),zaR H H'→H' r=some (.tup (fr (gnq b n)))→Q (.ref r) H'
def zko (K:PySem.W.Frag):TS :=
 (zaV (za1 (zaq zgB [] E0 (zab (zac 0) (zab (zac 1) zap))) (zcj K 2 (zaD (zaf 2) (zaD (zaf 3) zck))))
 (zbq (zaq zhC [] E0 (zab (tOp (rI IntMulOk fun i j=>.int (i*j)) (zac 2) (tOp (zbl K) (zac 0) (tC (.int 1)))) (zab (tOp (rI IntMulOk fun i j=>.int (i*j)) (zac 3) (tOp (zbl K) (zac 0) (tC (.int 2)))) zap)))))
theorem zng {p:Addr} {b:Box} {n:Int} (hp:H p=some (.tup (bx b))) (g:GB b) (n0:0≤n) (n1:n≤60) (q:∀ (r:Addr) (H':Hp),zaR H H'→H' r=some (.tup (fr (gnq b n)))→Q (.ref r) H') :
  zko K { nx:=fun _ H'=>Q .non H',rt:=Q } (L2.start ["box","count","top","bottom"] [.ref p,.int n]) H:=by
 unfold zko
 simp_all only [zac]
 refine ⟨p,b,n,rfl,hp,g,n0,n1,fun r H1 s1 hr=>?_⟩
 simp_all only [zac]
 have hp1:=SqT.of (K:=K) (s1 _ _ hp)
 have z:=zcX g n
 have bo:=zlA g n1
 obtain ⟨g1,g2,g3,g4,g5⟩:=g
 have b50:Bd 6 b.2.2:=by show b.2.2.natAbs<2 ^ 6;omega
 refine ⟨_,SqT.of hr,rfl,_,_,rfl,_,_,rfl,rfl,_,hp1,_,rfl,_,rfl,_,rfl,zgM (by omega) (by omega),_,hp1,_,rfl,_,rfl,_,rfl,zgM (by omega) (by omega),?_⟩
 exact ⟨_,_,rfl,Int.mul_ne_zero (by omega) (by omega),(bo.mul b50).mono (by decide),fun r H2 s2 hr2=>q r H2 (s1.trans s2) hr2⟩
theorem zhY:zaF ["box","count","top","bottom"] ["box","count"] (zaj zkC):=⟨rfl,rfl,rfl,by decide +kernel,rfl,by decide +kernel,by decide +kernel⟩
theorem zjE (T:Txt K mg a):zbT P w K mg base CX0 3 a.f_gain a.d_gain ["box","count"] zik:=by
 have G_missed:=zg2 (P:=P) (w:=w) (base:=base) T
 have G_ratio:=zcN (P:=P) (w:=w) (base:=base) T
 refine T.F_gain.ok zhY (fun vs H Q E h=>?_) (fun cdv A outer s H vs Q E hr h=>?_)
 ·obtain ⟨p,b,n,rfl,hp,g,n0,n1,q⟩:=h
  rfl
 obtain ⟨p,b,n,rfl,hp,g,n0,n1,q⟩:=h
 exact ⟨zko K,(zae (zdd (zak G_missed (hr.mono (by decide)) rfl T.m_missed T.F_missed.kp T.b_missed .nil zaI (zaa (pv 0) (zaa (pv 1) zad))) (zbk rfl (zao (zam (i:=2) zhY.nd rfl (Or.inl rfl)) (zao (zam (i:=3) zhY.nd rfl (Or.inl rfl)) za9))))
 (zan (zaL (zak G_ratio (hr.mono (by decide)) rfl T.m_ratio T.F_ratio.kp T.b_ratio .nil zaI (zaa (zat zaJ (pv 2) (zaN zaG (pv 0) zag (fun _ _=>rfl))) (zaa (zat zaJ (pv 3) (zaN zaG (pv 0) zag (fun _ _=>rfl))) zad)))))),
  zng hp g n0 n1 q⟩
theorem Bq.add2 {m n:Nat} {p q:Rat} (hp:Bq m p) (hq:Bq n q):Bq (m+n+1) (p+q):=by
 rw [← zkr]
 have h:Bd (m+n) (q.num*(p.den:Int)):=by rw [Nat.add_comm m n];exact hq.top.mul hp.bot
 exact zbv (Int.mul_ne_zero (zbt p) (zbt q)) ((hp.top.mul hq.bot).add h) ((hp.bot.mul hq.bot).mono (Nat.le_succ _))
def zhZ:Sp:=fun vs H Q _=>∃ (l:Addr) (us:List Addr) (qs:List Rat),vs=[.ref l]∧H l=some (.lst (us.map V.ref))∧Tps fr H us qs∧(∀ i:Nat,Bq 2900 (qs.take i).sum)∧(∀ q∈qs,Bq 2900 q)∧∀ (r:Addr) (H':Hp),zaR H H'→H' r=some (.tup (fr qs.sum))→Q (.ref r) H'
def ziq (K:PySem.W.Frag):TS :=
 (zaV (za1 (zcs (zab (tC (.int 0)) (zab (tC (.int 1)) zap))) (zaf 1))
 (zaV (zid (zbM K (zac 0)) (zaf 2)
 (za1 (zaq zhX [] E0 (zab (zac 1) (zab (zac 2) zap))) (zaf 1)))
 (zbq (zac 1))))
theorem zl0 {l:Addr} {us:List Addr} {qs:List Rat} (hl:H l=some (.lst (us.map V.ref))) (T:Tps fr H us qs) (bs:∀ i:Nat,Bq 2900 (qs.take i).sum) (bq:∀ q∈qs,Bq 2900 q) (q:∀ (r:Addr) (H':Hp),zaR H H'→H' r=some (.tup (fr qs.sum))→Q (.ref r) H') :
  ziq K { nx:=fun _ H'=>Q .non H',rt:=Q } (L2.start ["fractions","total","fraction"] [.ref l]) H:=by
 unfold ziq
 simp_all only [zac]
 refine ⟨by decide,fun r0 n0=>?_⟩
 have s0:=zal n0 (.tup [.int 0,.int 1])
 have h0:(L2.upd H r0 (.tup [.int 0,.int 1])) r0=some (.tup [.int 0,.int 1]):=zah
 generalize L2.upd H r0 (.tup [.int 0,.int 1])=H0 at s0 h0 ⊢
 refine ⟨⟨_,SqL.of (s0 _ _ hl)⟩,?_⟩
 refine zcf (K:=K) (xs:=us.map V.ref) (fun i σ H'=>zaR H0 H'∧∃ (r:Addr) (x:Option V),H' r=some (.tup (fr ((qs.take i).sum)))∧σ=[some (.ref l),some (.ref r),x]) ⟨.refl _,r0,_,h0,rfl⟩ ?_ ?_ ?_
 ·rintro i σ H' _ ⟨s,_⟩
  exact SqL.of (s _ _ (s0 _ _ hl))
 ·rintro i v σ H1 hx ⟨s1,r,x,hr,rfl⟩
  obtain ⟨t,et,rfl⟩:=zaE hx
  obtain ⟨f,ef,hf⟩:=T.at et
  simp_all only [zac]
  refine ⟨r,t,_,f,rfl,hr,s1 _ _ (s0 _ _ hf),bs i,bq f (zar ef),fun r2 H2 s2 h2=>?_⟩
  have e:(qs.take (i+1)).sum=(qs.take i).sum+f:=by
   rw [List.take_add_one,ef,List.sum_append]
   show _+(f+0)=_
   rw [Rat.add_zero]
  exact ⟨s1.trans s2,r2,by rw [e];exact h2,rfl⟩
 ·rintro σ H1 ⟨s1,r,x,hr,rfl⟩
  simp_all only [zac]
  rw [List.length_map,T.1,List.take_length] at hr
  exact q r H1 (s0.trans s1) hr
theorem zeJ:zaF ["fractions","total","fraction"] ["fractions"] (zaj zij):=⟨rfl,rfl,rfl,by decide +kernel,rfl,by decide +kernel,by decide +kernel⟩
theorem zmn (T:Txt K mg a):zbT P w K mg base CX0 4 a.f_added a.d_added ["fractions"] zhZ:=by
 have G_plus:=zkw (P:=P) (w:=w) (base:=base) T
 refine T.F_added.ok zeJ (fun vs H Q E h=>?_) (fun cdv A outer s H vs Q E hr h=>?_)
 ·obtain ⟨l,us,qs,rfl,hl,T',bs,bq,q⟩:=h
  rfl
 obtain ⟨l,us,qs,rfl,hl,T',bs,bq,q⟩:=h
 exact ⟨ziq K,(zae (zaK (i:=1) zeJ.nd rfl (Or.inl rfl) (zbe (zaa zag (zaa zag zad))))
 (zae (zcT PassesOwn.never rfl (zbj (pv 0)) (zam (i:=2) zeJ.nd rfl (Or.inl rfl))
 (zan (zaK (i:=1) zeJ.nd rfl (Or.inl rfl) (zak G_plus (hr.mono (by decide)) rfl T.m_plus T.F_plus.kp T.b_plus .nil zaI (zaa (pv 1) (zaa (pv 2) zad))))))
 (zan (zaL (pv 1))))),
  zl0 hl T' bs bq q⟩
def zf3:Sp:=fun vs H Q _=>∃ (l:Addr) (us:List Addr) (qs:List Rat),vs=[.ref l]∧H l=some (.lst (us.map V.ref))∧Tps fr H us qs∧1≤qs.length∧(∀ q∈qs,Bq 6000 q)∧∀ (r:Addr) (m:Rat),H r=some (.tup (fr m))→m∈qs→(∀ q∈qs,m≤q)→Q (.ref r) H
def zcr (K:PySem.W.Frag):TS :=
 (zaV (za1 (tOp (zc1 K) (zac 0) (tC (.int 0))) (zaf 1))
 (zaV (zid (zbM K (zac 0)) (zaf 2)
 (zcY (tB (zaq zeS [] E0 (zab (zac 2) (zab (zac 1) zap)))) (za1 (zac 2) (zaf 1)) zbr))
 (zbq (zac 1))))
theorem zff {l:Addr} {us:List Addr} {qs:List Rat} (hl:H l=some (.lst (us.map V.ref))) (T:Tps fr H us qs) (l1:1≤qs.length) (bq:∀ q∈qs,Bq 6000 q) (q:∀ (r:Addr) (m:Rat),H r=some (.tup (fr m))→m∈qs→(∀ q∈qs,m≤q)→Q (.ref r) H) :
  zcr K { nx:=fun _ H'=>Q .non H',rt:=Q } (L2.start ["chances","least","one"] [.ref l]) H:=by
 unfold zcr
 simp_all only [zac]
 have hL:=SqL.of (K:=K) hl
 have lu:=T.1
 have e0:us[0]?=some us[0]:=List.getElem?_eq_getElem (by omega)
 obtain ⟨f0,ef0,hf0⟩:=T.at e0
 refine ⟨_,hL,_,zgs (j:=0) (show (us.map V.ref)[0]?=some (V.ref us[0]) by rw [List.getElem?_map,e0];rfl),⟨_,hL⟩,?_⟩
 refine zcf (K:=K) (xs:=us.map V.ref) (fun i σ H'=>H'=H∧∃ (r:Addr) (m:Rat) (x:Option V),H r=some (.tup (fr m))∧m∈qs∧(∀ q∈qs.take i,m≤q)∧σ=[some (.ref l),some (.ref r),x]) ⟨rfl,us[0],f0,_,hf0,zar ef0,by simp,rfl⟩ ?_ ?_ ?_
 ·rintro i σ H' _ ⟨rfl,_⟩
  exact hL
 ·rintro i v σ H1 hx ⟨rfl,r,m,x,hr,hm,hall,rfl⟩
  obtain ⟨t,et,rfl⟩:=zaE hx
  obtain ⟨f,ef,hf⟩:=T.at et
  simp_all only [zac]
  refine ⟨t,r,f,m,rfl,hf,hr,bq f (zar ef),bq m hm,?_⟩
  have tk:∀ y,y∈qs.take (i+1)→y∈qs.take i∨y=f:=fun y hy=>by
   rw [List.take_add_one,ef] at hy
   exact (List.mem_append.mp hy).imp id fun z=>List.mem_singleton.mp z
  refine ⟨_,rfl,?_⟩
  by_cases c:f<m
  ·rw [if_pos (decide_eq_true c)]
   refine ⟨rfl,t,f,hf,zar ef,fun y hy=>?_,rfl⟩
   rcases tk y hy with z | rfl
   ·exact Rat.le_trans (Rat.le_of_lt c) (hall y z)
   ·exact Rat.le_refl
  ·rw [if_neg (by simpa using c)]
   refine ⟨rfl,r,m,hr,hm,fun y hy=>?_,rfl⟩
   rcases tk y hy with z | rfl
   ·exact hall y z
   ·exact Rat.not_lt.mp c
 ·rintro σ H1 ⟨rfl,r,m,x,hr,hm,hall,rfl⟩
  simp_all only [zac]
  rw [List.length_map,T.1,List.take_length] at hall
  exact q r m hr hm hall
theorem zbL:zaF ["chances","least","one"] ["chances"] (zaj zcv):=⟨rfl,rfl,rfl,by decide +kernel,rfl,by decide +kernel,by decide +kernel⟩
theorem ze8 (T:Txt K mg a):zbT P w K mg base CX0 2 a.f_least_chance a.d_least_chance ["chances"] zf3:=by
 have G_below:=ziP (P:=P) (w:=w) (base:=base) T
 refine T.F_least_chance.ok zbL (fun vs H Q E h=>?_) (fun cdv A outer s H vs Q E hr h=>?_)
 ·obtain ⟨l,us,qs,rfl,hl,T',l1,bq,q⟩:=h
  rfl
 obtain ⟨l,us,qs,rfl,hl,T',l1,bq,q⟩:=h
 exact ⟨zcr K,(zae (zaK (i:=1) zbL.nd rfl (Or.inl rfl) (zaN zbw (pv 0) zag (fun _ _=>rfl)))
 (zae (zcT PassesOwn.never rfl (zbj (pv 0)) (zam (i:=2) zbL.nd rfl (Or.inl rfl))
 (zan (zcB (zdt (zak G_below (hr.mono (by decide)) rfl T.m_below T.F_below.kp T.b_below .nil zaI (zaa (pv 2) (zaa (pv 1) zad)))) (zan (zaK (i:=1) zbL.nd rfl (Or.inl rfl) (pv 2))) zbi)))
 (zan (zaL (pv 1))))),
  zff hl T' l1 bq q⟩
def pr (b:Box):Rat:=Rat.divInt b.2.1 b.2.2
theorem powI (a:Int):∀ n:Nat,((a ^ n:Int):Rat)=(a:Rat) ^ n
 | 0=>by rw [Int.pow_zero,Rat.pow_zero];rfl
 | n+1=>by rw [Int.pow_succ,Rat.pow_succ,Rat.intCast_mul,powI a n]
theorem powD (a b:Rat) (hb:b≠0):∀ n:Nat,(a / b) ^ n=a ^ n / b ^ n
 | 0=>by rw [Rat.pow_zero,Rat.pow_zero,Rat.pow_zero];grind
 | n+1=>by
  rw [Rat.pow_succ,Rat.pow_succ,Rat.pow_succ,powD a b hb n]
  grind
theorem zir {b:Rat} (hb:b≠0):∀ n:Nat,b ^ n≠0
 | 0=>by rw [Rat.pow_zero];decide
 | n+1=>by
  rw [Rat.pow_succ]
  have:=zir hb n
  grind
theorem zeF {b:Box} (g:GB b):0<pr b∧pr b≤1∧∀ n:Nat,(((b.2.2 - b.2.1) ^ n:Int):Rat) / ((b.2.2 ^ n:Int):Rat)=(1 - pr b) ^ n:=by
 obtain ⟨g1,g2,g3,g4,g5⟩:=g
 have o0:(0:Rat)<(b.2.2:Rat):=by exact_mod_cast (show (0:Int)<b.2.2 by omega)
 have h0:(0:Rat)<(b.2.1:Rat):=by exact_mod_cast (show (0:Int)<b.2.1 by omega)
 have ho:(b.2.1:Rat)≤(b.2.2:Rat):=by exact_mod_cast g4
 have on:(b.2.2:Rat)≠0:=by grind
 have e:pr b=(b.2.1:Rat) / (b.2.2:Rat):=Rat.divInt_eq_div ..
 refine ⟨?_,?_,fun n=>?_⟩
 ·rw [e]
  rw [Rat.div_def]
  exact Rat.mul_pos h0 (Rat.inv_pos.mpr o0)
 ·rw [e]
  have i0:=Rat.inv_pos.mpr o0
  have m:=Rat.mul_le_mul_of_nonneg_right ho (Rat.le_of_lt i0)
  rw [Rat.mul_inv_cancel _ on] at m
  rw [Rat.div_def]
  exact m
 ·rw [powI,powI,← powD _ _ on,e,Rat.intCast_sub]
  congr 1
  grind
theorem zb2 {b:Box} (g:GB b) (n:Int):chq b n=1 - (1 - pr b) ^ n.toNat:=by
 have h:=(zeF g).2.2 n.toNat
 have on:((b.2.2 ^ n.toNat:Int):Rat)≠0:=by
  have:=zcX g n
  intro z
  have:(b.2.2 ^ n.toNat:Int)=0:=by exact_mod_cast z
  omega
 unfold chq
 rw [Rat.divInt_eq_div,Rat.intCast_sub,← h]
 grind
theorem zdB {b:Box} (g:GB b) (n:Int):gnq b n=(1 - pr b) ^ n.toNat*pr b:=by
 have h:=(zeF g).2.2 n.toNat
 unfold gnq pr
 rw [Rat.divInt_eq_div,Rat.divInt_eq_div,Rat.intCast_mul,Rat.intCast_mul]
 unfold pr at h
 rw [Rat.divInt_eq_div] at h
 rw [← h]
 grind
theorem zd2 {α:Type} {f:α→List V} {p q D:Addr} {xs zs:List V} {te:TE} {rest:St} {x0 y0:Option V} {qs:List α} (hp:H p=some (.lst xs)) (hq:H q=some (.lst zs)) (lq:qs.length=min xs.length zs.length) (l6:qs.length≤1000) (hD:H D=none)
  (st:∀ (i:Nat) (x z:V) (w:α) (H':Hp) (R:VK),xs[i]?=some x→zs[i]?=some z→qs[i]?=some w→zaR H H'→(∀ (r:Addr) (H2:Hp),zaR H' H2→H2 r=some (.tup (f w))→R (.ref r) H2)→te (some x::some z::rest) H' R)
  (hd:∀ (us:List Addr) (H':Hp),zaR H H'→H' D=some (.lst (us.map V.ref))→Tps f H' us qs→Q (.ref D) H') :
  zd9 (Itz K p q) (zcj K 2 (zaD (zaf 0) (zaD (zaf 1) zck))) zaH te D Q (x0::y0::rest) (upd H D (.lst [])):=by
 refine zd7 (K:=K) (xs:=xs) (zs:=zs) (fun i ys σ H'=>zaR H H'∧(∃ us:List Addr,ys=us.map V.ref∧Tps f H' us (qs.take i))∧∃ x y,σ=x::y::rest) ⟨zal hD _,⟨[],rfl,Tps.nil⟩,_,_,rfl⟩ ?_ ?_ ?_
 ·rintro i ys σ H' _ ⟨s,_⟩
  exact ⟨SqL.of (s _ _ hp),SqL.of (s _ _ hq)⟩
 ·rintro i x z t ys σ H' hx hz hD' ⟨s,⟨us,rfl,T⟩,u,v,rfl⟩ ht
  have i1:=(List.getElem?_eq_some_iff.mp hx).1
  have i2:=(List.getElem?_eq_some_iff.mp hz).1
  have hw:qs[i]?=some (qs[i]'(by omega)):=List.getElem?_eq_getElem (by omega)
  have s1:=zal ht (.tup [x,z])
  refine ⟨t,_,rfl,SqT.of zah,rfl,_,_,rfl,_,_,rfl,rfl,?_⟩
  refine st i x z _ _ _ hx hz hw (s.trans s1) fun r H2 s2 h2=>?_
  have s3:=s1.trans s2
  have hD2:=s3 _ _ hD'
  have rD:r≠D:=fun e=>by
   subst e
   rw [h2] at hD2
   cases hD2
  have lu:us.length≤1000:=by
   have e:=T.1
   rw [List.length_take] at e
   omega
  refine ⟨D,_,_,rfl,rfl,hD2,zbd (by rw [List.length_map];exact lu),_,zah,(s.trans s3).put hD,⟨us++[r],by rw [List.map_append];rfl,?_⟩,_,_,rfl⟩
  rw [List.take_add_one,hw]
  refine T.put (fun y w e=>?_) (by rw [zaY rD];exact h2)
  have nx:y≠D:=fun z=>by
   subst z
   rw [e] at hD'
   cases hD'
  rw [zaY nx]
  exact s3 _ _ e
 ·rintro ys σ H' hD' ⟨s,⟨us,rfl,T⟩,u,v,rfl⟩
  rw [← lq,List.take_length] at T
  exact hd us H' s hD' T
theorem zec {p q D:Addr} {xs zs:List V} {te:TE} {rest:St} {x0 y0:Option V} {vs:List V} (hp:H p=some (.lst xs)) (hq:H q=some (.lst zs)) (lq:vs.length=min xs.length zs.length) (l6:vs.length≤1000) (hD:H D=none)
  (st:∀ (i:Nat) (x z v:V) (H':Hp) (R:VK),xs[i]?=some x→zs[i]?=some z→vs[i]?=some v→zaR H H'→(∀ H2:Hp,zaR H' H2→R v H2)→te (some x::some z::rest) H' R)
  (hd:∀ H':Hp,zaR H H'→H' D=some (.lst vs)→Q (.ref D) H') :
  zd9 (Itz K p q) (zcj K 2 (zaD (zaf 0) (zaD (zaf 1) zck))) zaH te D Q (x0::y0::rest) (upd H D (.lst [])):=by
 refine zd7 (K:=K) (xs:=xs) (zs:=zs) (fun i ys σ H'=>zaR H H'∧ys=vs.take i∧∃ x y,σ=x::y::rest) ⟨zal hD _,rfl,_,_,rfl⟩ ?_ ?_ ?_
 ·rintro i ys σ H' _ ⟨s,_⟩
  exact ⟨SqL.of (s _ _ hp),SqL.of (s _ _ hq)⟩
 ·rintro i x z t ys σ H' hx hz hD' ⟨s,rfl,u,v,rfl⟩ ht
  have i1:=(List.getElem?_eq_some_iff.mp hx).1
  have i2:=(List.getElem?_eq_some_iff.mp hz).1
  have hw:vs[i]?=some (vs[i]'(by omega)):=List.getElem?_eq_getElem (by omega)
  have s1:=zal ht (.tup [x,z])
  refine ⟨t,_,rfl,SqT.of zah,rfl,_,_,rfl,_,_,rfl,rfl,?_⟩
  refine st i x z _ _ _ hx hz hw (s.trans s1) fun H2 s2=>?_
  refine ⟨D,_,_,rfl,rfl,s2 _ _ (s1 _ _ hD'),zbd (by rw [List.length_take];omega),_,zah,(s.trans (s1.trans s2)).put hD,?_,_,_,rfl⟩
  rw [List.take_add_one,hw]
  rfl
 ·rintro ys σ H' hD' ⟨s,rfl,u,v,rfl⟩
  rw [← lq,List.take_length] at hD'
  exact hd H' s hD'
theorem zca {p D:Addr} {xs:List V} {te:TE} {rest:St} {x0:Option V} {vs:List V} (hp:H p=some (.lst xs)) (lq:vs.length=xs.length) (l6:vs.length≤1000) (hD:H D=none)
  (st:∀ (i:Nat) (x v:V) (H':Hp) (R:VK),xs[i]?=some x→vs[i]?=some v→zaR H H'→(∀ H2:Hp,zaR H' H2→R v H2)→te (some x::rest) H' R)
  (hd:∀ H':Hp,zaR H H'→H' D=some (.lst vs)→Q (.ref D) H') :
  zd9 (Itl K p) (zaf 0) zaH te D Q (x0::rest) (upd H D (.lst [])):=by
 refine zb8 (K:=K) (xs:=xs) (fun i ys σ H'=>zaR H H'∧ys=vs.take i∧∃ x,σ=x::rest) ⟨zal hD _,rfl,_,rfl⟩ ?_ ?_ ?_
 ·rintro i ys σ H' _ ⟨s,_⟩
  exact SqL.of (s _ _ hp)
 ·rintro i x ys σ H' hx hD' ⟨s,rfl,u,rfl⟩
  have i1:=(List.getElem?_eq_some_iff.mp hx).1
  have hw:vs[i]?=some (vs[i]'(by omega)):=List.getElem?_eq_getElem (by omega)
  refine st i x _ _ _ hx hw s fun H2 s2=>?_
  refine ⟨D,_,_,rfl,rfl,s2 _ _ hD',zbd (by rw [List.length_take];omega),_,zah,(s.trans s2).put hD,?_,_,rfl⟩
  rw [List.take_add_one,hw]
  rfl
 ·rintro ys σ H' hD' ⟨s,rfl,u,rfl⟩
  rw [← lq,List.take_length] at hD'
  exact hd H' s hD'
def wq (b:Box) (n:Int):Rat:=(b.1:Rat) / gnq b n
def wqs (bs:List Box) (ns:List Int):List Rat:=List.zipWith wq bs ns
def Gn (bs:List Box) (ns:List Int):Prop:=∀ (i:Nat) b n,bs[i]?=some b→ns[i]?=some n→gnq b n≠0
theorem zkq {b:Box} (g:GB b) {n:Int} (n1:n≤60):Bq 410 (gnq b n):=by
 have bo:=zlA g n1
 have bt:Bd 400 ((b.2.2 - b.2.1) ^ n.toNat):=zkA (by obtain ⟨g1,g2,g3,g4,g5⟩:=g;omega) (by obtain ⟨g1,g2,g3,g4,g5⟩:=g;omega) (by omega)
 have o0:=zcX g n
 obtain ⟨g1,g2,g3,g4,g5⟩:=g
 have h1:Bd 10 b.2.1:=by show b.2.1.natAbs<2 ^ 10;omega
 have h2:Bd 10 b.2.2:=by show b.2.2.natAbs<2 ^ 10;omega
 exact zbv (Int.mul_ne_zero (by omega) (by omega)) (bt.mul h1) (bo.mul h2)
def zjH:Sp:=fun vs H Q _=>∃ (l pl:Addr) (ts:List Addr) (bs:List Box) (ns:List Int),vs=[.ref l,.ref pl]∧BP H l pl ts bs ns∧Gn bs ns∧∀ (r:Addr) (us:List Addr) (H':Hp),zaR H H'→H' r=some (.lst (us.map V.ref))→Tps fr H' us (wqs bs ns)→Q (.ref r) H'
def zcw (K:PySem.W.Frag):TS :=
 (zbq (zbh (zgE K (zab (zac 0) (zab (zac 1) zap))) (zcj K 2 (zaD (zaf 0) (zaD (zaf 1) zck))) zaH (zaq zgC [] E0 (zab (zcs (zab (tOp (zbl K) (zac 0) (tC (.int 0))) (zab (tC (.int 1)) zap))) (zab (zaq zik [] E0 (zab (zac 0) (zab (zac 1) zap))) zap))) [none,none]))
theorem zeV {l pl:Addr} {ts:List Addr} {bs:List Box} {ns:List Int} (B:BP H l pl ts bs ns) (G:Gn bs ns) (q:∀ (r:Addr) (us:List Addr) (H':Hp),zaR H H'→H' r=some (.lst (us.map V.ref))→Tps fr H' us (wqs bs ns)→Q (.ref r) H') :
  zcw K { nx:=fun _ H'=>Q .non H',rt:=Q } (L2.start ["boxes","counts"] [.ref l,.ref pl]) H:=by
 unfold zcw
 simp_all only [zac]
 refine ⟨⟨_,SqL.of B.hl⟩,⟨_,SqL.of B.hp⟩,fun D hD=>?_⟩
 refine zd7 (K:=K) (xs:=ts.map V.ref) (zs:=ns.map V.int) (fun i ys σ H'=>zaR H H'∧(∃ us:List Addr,ys=us.map V.ref∧Tps fr H' us ((wqs bs ns).take i)∧∀ u∈us,u≠D)∧∃ x y,σ=[x,y]) ⟨zal hD _,⟨[],rfl,Tps.nil,by simp⟩,_,_,rfl⟩ ?_ ?_ ?_
 ·rintro i ys σ H' _ ⟨s,_⟩
  exact ⟨SqL.of (s _ _ B.hl),SqL.of (s _ _ B.hp)⟩
 ·rintro i x z t ys σ H' hx hz hD' ⟨s,⟨us,rfl,T,nu⟩,u,v,rfl⟩ ht
  obtain ⟨a,ha,rfl⟩:=zaE hx
  obtain ⟨n,hn,rfl⟩:=zaE hz
  obtain ⟨b,hb1,hb2⟩:=B.hb.at ha
  obtain ⟨n0,n1⟩:=B.gn n (zar hn)
  have g:=B.gb b (zar hb1)
  have hb3:=s _ _ hb2
  simp_all only [zac]
  refine ⟨_,SqT.of zah,rfl,_,_,rfl,_,_,rfl,rfl,?_⟩
  simp_all only [zac]
  have s1:=zal ht (.tup [V.ref a,V.int n])
  have h1:(L2.upd H' t (.tup [V.ref a,V.int n])) t=some (.tup [V.ref a,V.int n]):=zah
  generalize L2.upd H' t (.tup [V.ref a,V.int n])=H1 at s1 h1 ⊢
  refine ⟨_,SqT.of (s1 _ _ hb3),_,rfl,by decide,fun p np=>?_⟩
  have s2:=zal np (.tup [V.int b.1,V.int 1])
  have h2:(L2.upd H1 p (.tup [V.int b.1,V.int 1])) p=some (.tup [V.int b.1,V.int 1]):=zah
  generalize L2.upd H1 p (.tup [V.int b.1,V.int 1])=H2 at s2 h2 ⊢
  have hb4:=s2 _ _ (s1 _ _ hb3)
  refine ⟨a,b,n,rfl,hb4,g,n0,n1,fun r H3 s3 h3=>?_⟩
  have b1:Bq 2900 (b.1:Rat):=⟨by show b.1.natAbs<2 ^ 2900;exact Nat.lt_of_lt_of_le (by have:=g.1;have:=g.2.1;omega:b.1.natAbs<2 ^ 6) (Nat.pow_le_pow_right (by decide) (by decide)),by show (1:Nat)<2 ^ 2900;exact Nat.one_lt_two_pow (by decide)⟩
  refine ⟨p,r,(b.1:Rat),gnq b n,rfl,s3 _ _ h2,h3,G i b n hb1 hn,b1,(zkq g n1).mono (by decide),fun y H4 s4 h4=>?_⟩
  have s14:=s1.trans (s2.trans (s3.trans s4))
  have hD4:=s14 _ _ hD'
  have yD:y≠D:=fun z=>by
   subst z
   rw [h4] at hD4
   cases hD4
  have lu:us.length≤6:=by
   have:=B.l6
   have e:=T.1
   rw [List.length_take,wqs,List.length_zipWith] at e
   omega
  refine ⟨_,hD4,zbd (by rw [List.length_map];omega),_,zah,(s.trans s14).put hD,us++[y],by rw [List.map_append];rfl,?_,fun u hu=>?_⟩
  ·rw [wqs,ziM _ _ _ hb1 hn]
   refine T.put (fun x w e=>?_) (by rw [zaY yD];exact h4)
   have nx:x≠D:=fun z=>by
    subst z
    rw [e] at hD'
    cases hD'
   rw [zaY nx]
   exact s14 _ _ e
  ·rcases List.mem_append.mp hu with hu | hu
   ·exact nu u hu
   ·rw [List.mem_singleton.mp hu]
    exact yD
 ·rintro ys σ H' hD' ⟨s,⟨us,rfl,T,nu⟩,u,v,rfl⟩
  rw [List.length_map,List.length_map,B.hb.1,wqs,zky] at T
  exact q D us H' s hD' T
theorem zfe:zaF ["boxes","counts"] ["boxes","counts"] (zaj zbO):=⟨rfl,rfl,rfl,by decide +kernel,rfl,by decide +kernel,by decide +kernel⟩
theorem zc9 (T:Txt K mg a):zbT P w K mg base CX0 4 a.f_fair_weights a.d_fair_weights ["boxes","counts"] zjH:=by
 have G_gain:=zjE (P:=P) (w:=w) (base:=base) T
 have G_over:=zig (P:=P) (w:=w) (base:=base) T
 refine T.F_fair_weights.ok zfe (fun vs H Q E h=>?_) (fun cdv A outer s H vs Q E hr h=>?_)
 ·obtain ⟨l,pl,ts,bs,ns,rfl,B,G,q⟩:=h
  rfl
 obtain ⟨l,pl,ts,bs,ns,rfl,B,G,q⟩:=h
 exact ⟨zcw K,(zan (zaL (zbu (sc:=zaj zbO) (N:=["boxes","counts"]) (Nc:=["box","count"]) (cap:=[none,none]) rfl rfl rfl (.of (by decide +kernel)) (zdf rfl T.z_zip (zaa (pv 0) (zaa (pv 1) zad))) (fun _ _ _ _=>(zbk rfl (zao (zam (i:=0) (show List.Nodup (["box","count"]:List Str) from by decide) rfl (Or.inl rfl)) (zao (zam (i:=1) (show List.Nodup (["box","count"]:List Str) from by decide) rfl (Or.inl rfl)) za9)))) (fun _ _ _ _=>zbb) (fun _ _ _ _=>(zak G_over (hr.mono (by decide)) rfl T.m_over T.F_over.kp T.b_over .nil zaI (zaa (zbe (zaa (zaN zaG (pv 0) zag (fun _ _=>rfl)) (zaa zag zad))) (zaa (zak G_gain (hr.mono (by decide)) rfl T.m_gain T.F_gain.kp T.b_gain .nil zaI (zaa (pv 0) (zaa (pv 1) zad))) zad))))))),
  zeV B G q⟩
theorem Bq.mul2 {m n:Nat} {p q:Rat} (hp:Bq m p) (hq:Bq n q):Bq (m+n) (p*q):=by
 rw [← zkO]
 exact zbv (Int.mul_ne_zero (zbt p) (zbt q)) (hp.top.mul hq.top) (hp.bot.mul hq.bot)
theorem zcu {b:Int} (h0:0≤b) (h1:b≤50) (n:Nat):Bd (6*n+1) (b ^ n):=by
 obtain ⟨z1,z2⟩:=ziC h0 h1 n
 have z3:(50:Nat) ^ n≤64 ^ n:=Nat.pow_le_pow_left (by decide) n
 have z4:(64:Nat) ^ n=2 ^ (6*n):=by rw [Nat.pow_mul]
 have z5:((50 ^ n:Nat):Int)=(50:Int) ^ n:=by exact_mod_cast rfl
 have z6:(2:Nat) ^ (6*n+1)=2 ^ (6*n)*2:=Nat.pow_succ ..
 have z7:0<(2:Nat) ^ (6*n):=Nat.pow_pos (by decide)
 show (b ^ n).natAbs<2 ^ (6*n+1)
 omega
theorem zi6 {b:Box} (g:GB b) (n:Int):Bq (6*n.toNat+2) (chq b n):=by
 have o0:=zcX g n
 obtain ⟨g1,g2,g3,g4,g5⟩:=g
 exact zbv (by omega) ((zcu (by omega) g5 _).sub (zcu (by omega) (by omega) _)) ((zcu (by omega) g5 _).mono (by omega))
theorem zjR {b:Box} (g:GB b) (n:Int):Bq (6*n.toNat+7) (gnq b n):=by
 have o0:=zcX g n
 obtain ⟨g1,g2,g3,g4,g5⟩:=g
 have h1:Bd 6 b.2.1:=by show b.2.1.natAbs<2 ^ 6;omega
 have h2:Bd 6 b.2.2:=by show b.2.2.natAbs<2 ^ 6;omega
 exact zbv (Int.mul_ne_zero (by omega) (by omega)) (((zcu (by omega) (by omega) _).mul h1).mono (by omega)) (((zcu (by omega) g5 _).mul h2).mono (by omega))
theorem zgS {b:Box} (g:GB b) {n:Int} (gn:gnq b n≠0):Bq (6*n.toNat+14) (wq b n):=by
 have hb:=zjR g n
 unfold wq
 rw [← zgi]
 have c:Bd 7 b.1:=by have:=g.1;have:=g.2.1;show b.1.natAbs<2 ^ 7;omega
 exact zbv (Int.mul_ne_zero (by show (1:Int)≠0;decide) (ziF gn)) ((c.mul hb.bot).mono (by omega)) (((show Bd 1 (1:Int) from by show (1:Nat)<2 ^ 1;decide).mul hb.top).mono (by omega))
theorem zgm {j k:Nat} {f:Box×Int→Rat}:∀ xs:List (Box×Int),(∀ x∈xs,Bq (j*x.2.toNat+k) (f x))→Bq (j*(xs.map fun x=>x.2.toNat).sum+(k+1)*xs.length+1) (xs.map f).sum
 | [],_=>⟨by show (0:Nat)<2 ^ _;exact Nat.pow_pos (by decide),by show (1:Nat)<2 ^ _;exact Nat.one_lt_two_pow (by omega)⟩
 | x::xs,h=>by
  have ih:=zgm xs fun y hy=>h y (List.mem_cons_of_mem _ hy)
  rw [List.map_cons,List.sum_cons,List.map_cons,List.sum_cons,List.length_cons,Nat.mul_add,Nat.mul_add]
  exact ((h x List.mem_cons_self).add2 ih).mono (by omega)
theorem zd5:∀ (bs:List Box) (ns:List Int),(∀ b∈bs,GB b)→(∀ n∈ns,0≤n)→((((List.zip bs ns).map fun x=>x.2.toNat).sum:Nat):Int)≤(zaO bs ns).sum
 | [],_,_,_=>by simp [zaO]
 | _::_,[],_,_=>by simp [zaO]
 | b::bs,n::ns,gb,n0=>by
  have ih:=zd5 bs ns (fun x hx=>gb x (List.mem_cons_of_mem _ hx)) (fun x hx=>n0 x (List.mem_cons_of_mem _ hx))
  obtain ⟨g1,_⟩:=gb b List.mem_cons_self
  have hn:=n0 n List.mem_cons_self
  have m1:1*n≤b.1*n:=Int.mul_le_mul_of_nonneg_right g1 hn
  rw [Int.one_mul] at m1
  rw [List.zip_cons_cons,List.map_cons,List.sum_cons]
  show ((n.toNat+_:Nat):Int)≤b.1*n+(zaO bs ns).sum
  omega
theorem Bq.div2 {m n:Nat} {p q:Rat} (hp:Bq m p) (hq:Bq n q) (q0:q≠0):Bq (m+n) (p / q):=by
 rw [← zgi]
 exact zbv (Int.mul_ne_zero (zbt p) (ziF q0)) (hp.top.mul hq.bot) (hp.bot.mul hq.top)
theorem Bq.sub2 {m n:Nat} {p q:Rat} (hp:Bq m p) (hq:Bq n q):Bq (m+n+1) (p - q):=by
 rw [← zkH]
 have h:Bd (m+n) (q.num*(p.den:Int)):=by rw [Nat.add_comm m n];exact hq.top.mul hp.bot
 exact zbv (Int.mul_ne_zero (zbt p) (zbt q)) ((hp.top.mul hq.bot).sub h) ((hp.bot.mul hq.bot).mono (Nat.le_succ _))
theorem zds {α β γ:Type} {f:α→β→γ} {as:List α} {bs:List β} (P:γ→Prop) (h:∀ (i:Nat) a b,as[i]?=some a→bs[i]?=some b→P (f a b)):∀ x∈List.zipWith f as bs,P x:=fun x hx=>by
 obtain ⟨i,ei⟩:=List.getElem?_of_mem hx
 rw [List.getElem?_zipWith] at ei
 cases e1:as[i]? with
 | none=>rw [e1] at ei;cases ei
 | some a =>
  cases e2:bs[i]? with
  | none=>rw [e1,e2] at ei;cases ei
  | some b =>
   rw [e1,e2] at ei
   cases ei
   exact h i a b e1 e2
theorem zfC {α β γ:Type} {f:α→β→γ} {as:List α} {bs:List β} {i:Nat} {a:α} {b:β} {c:γ} (e1:as[i]?=some a) (e2:bs[i]?=some b) (e3:(List.zipWith f as bs)[i]?=some c):c=f a b:=by
 rw [List.getElem?_zipWith,e1,e2] at e3
 exact (Option.some.inj e3).symm
theorem zjM:∀ (l:List Nat) (i:Nat),(l.take i).sum≤l.sum
 | [],i=>by simp
 | x::l,0=>by simp
 | x::l,i+1=>by
  have:=zjM l i
  rw [List.take_succ_cons,List.sum_cons,List.sum_cons]
  omega
theorem zg5 {j k:Nat} {f:Box×Int→Rat} (xs:List (Box×Int)) (h:∀ x∈xs,Bq (j*x.2.toNat+k) (f x)) (i:Nat):Bq (j*(xs.map fun x=>x.2.toNat).sum+(k+1)*xs.length+1) ((xs.map f).take i).sum:=by
 have b:=zgm (j:=j) (k:=k) (f:=f) (xs.take i) fun x hx=>h x (List.mem_of_mem_take hx)
 rw [← List.map_take]
 have t:=zjM (xs.map fun x=>x.2.toNat) i
 rw [← List.map_take] at t
 have l:=List.length_take_le i xs
 exact b.mono (Nat.add_le_add_right (Nat.add_le_add (Nat.mul_le_mul_left j t) (Nat.mul_le_mul_left (k+1) (by rw [List.length_take];omega))) 1)
theorem zp1 {b:Box} (g:GB b) {n:Int} (n1:n≤60) (gn:gnq b n≠0):Bq 420 (wq b n):=by
 have hb:=zkq g n1
 unfold wq
 rw [← zgi]
 have c:Bd 7 b.1:=by have:=g.1;have:=g.2.1;show b.1.natAbs<2 ^ 7;omega
 exact zbv (Int.mul_ne_zero (by show (1:Int)≠0;decide) (ziF gn)) ((c.mul hb.bot).mono (by decide)) (((show Bd 1 (1:Int) from by show (1:Nat)<2 ^ 1;decide).mul hb.top).mono (by decide))
theorem zmJ {b:Box} (g:GB b) {n:Int} (n1:n≤60):Bq 401 (chq b n):=by
 have bo:=zlA g n1
 have bt:Bd 400 ((b.2.2 - b.2.1) ^ n.toNat):=zkA (by obtain ⟨g1,g2,g3,g4,g5⟩:=g;omega) (by obtain ⟨g1,g2,g3,g4,g5⟩:=g;omega) (by omega)
 have o0:=zcX g n
 exact zbv (by omega) (bo.sub bt) (bo.mono (by decide))
theorem zi1:∀ (bs:List Box) (ns:List Int),(∀ b∈bs,GB b)→(∀ n∈ns,0≤n∧n≤60)→0≤(zaO bs ns).sum∧(zaO bs ns).sum≤3600*bs.length
 | [],ns,_,_=>by simp [zaO]
 | b::bs,[],_,_=>by simp [zaO];omega
 | b::bs,n::ns,h1,h2=>by
  obtain ⟨z1,z2⟩:=zi1 bs ns (fun x hx=>h1 x (List.mem_cons_of_mem _ hx)) (fun x hx=>h2 x (List.mem_cons_of_mem _ hx))
  obtain ⟨g1,g2,_⟩:=h1 b List.mem_cons_self
  obtain ⟨n0,n1⟩:=h2 n List.mem_cons_self
  have m1:0≤b.1*n:=Int.mul_nonneg (by omega) n0
  have m2:b.1*n≤60*60:=Int.mul_le_mul g2 n1 n0 (by decide)
  show 0≤b.1*n+(zaO bs ns).sum∧b.1*n+(zaO bs ns).sum≤3600*((bs.length+1:Nat):Int)
  omega
def zfH (bs:List Box) (ns:List Int):List Rat:=List.zipWith (fun x y:Rat=>x*y) (wqs bs ns) (zoL bs ns)
theorem zdw {α β γ:Type} (f:α→β→γ):∀ (as:List α) (bs:List β),List.zipWith f as bs=(List.zip as bs).map fun x=>f x.1 x.2
 | [],_=>by simp
 | _::_,[]=>by simp
 | a::as,b::bs=>by
  rw [List.zipWith_cons_cons,List.zip_cons_cons,List.map_cons,zdw f as bs]
theorem ze6 (bs:List Box) (ns:List Int):zfH bs ns=(List.zip bs ns).map fun x=>wq x.1 x.2*chq x.1 x.2:=by
 unfold zfH wqs zoL
 rw [zdw wq,zdw chq,List.zipWith_map_left,List.zipWith_map_right]
 generalize List.zip bs ns=l
 induction l with
 | nil=>rfl
 | cons x l ih=>rw [List.zipWith_cons_cons,List.map_cons,ih]
def zdJ (bs:List Box) (ns:List Int) (bud:Int):Rat:=((zfH bs ns).sum+((bud - (zaO bs ns).sum:Int):Rat)) / (wqs bs ns).sum
def zdN:Sp:=fun vs H Q _=>∃ (l pl:Addr) (ts:List Addr) (bs:List Box) (ns:List Int) (bud:Int),vs=[.ref l,.int bud,.ref pl]∧BP H l pl ts bs ns∧(zaO bs ns).sum≤60∧Gn bs ns∧0≤bud∧bud≤60∧(wqs bs ns).sum≠0∧∀ (r:Addr) (H':Hp),zaR H H'→H' r=some (.tup (fr (zdJ bs ns bud)))→Q (.ref r) H'
def zc8 (K:PySem.W.Frag):TS :=
 (zaV (za1 (zaq zjH [] E0 (zab (zac 0) (zab (zac 2) zap))) (zaf 3))
 (zaV (za1 (zbh (zgE K (zab (zac 0) (zab (zac 2) zap))) (zcj K 2 (zaD (zaf 0) (zaD (zaf 1) zck))) zaH (zaq zeb [] E0 (zab (zac 0) (zab (zac 1) zap))) [none,none]) (zaf 4))
 (zaV (za1 (zaq zhZ [] E0 (zab (zbh (zgE K (zab (zac 3) (zab (zac 4) zap))) (zcj K 2 (zaD (zaf 0) (zaD (zaf 1) zck))) zaH (zaq zgR [] E0 (zab (zac 0) (zab (zac 1) zap))) [none,none]) zap)) (zaf 5))
 (zaV (za1 (tOp (rI0 fun i j=>.int (i - j)) (zac 1) (zaq zmy [] E0 (zab (zac 0) (zab (zac 2) zap)))) (zaf 6))
 (zbq (zaq zgC [] E0 (zab (zaq zhX [] E0 (zab (zac 5) (zab (zcs (zab (zac 6) (zab (tC (.int 1)) zap))) zap))) (zab (zaq zhZ [] E0 (zab (zac 3) zap)) zap))))))))
theorem zgH {l pl:Addr} {ts:List Addr} {bs:List Box} {ns:List Int} {bud:Int} (B:BP H l pl ts bs ns) (cs:(zaO bs ns).sum≤60) (G:Gn bs ns) (d0:0≤bud) (d1:bud≤60) (ws:(wqs bs ns).sum≠0) (q:∀ (r:Addr) (H':Hp),zaR H H'→H' r=some (.tup (fr (zdJ bs ns bud)))→Q (.ref r) H') :
  zc8 K { nx:=fun _ H'=>Q .non H',rt:=Q } (L2.start ["boxes","budget","counts","weights","chances","found","spare"] [.ref l,.int bud,.ref pl]) H:=by
 unfold zc8
 simp_all only [zac]
 refine ⟨l,pl,ts,bs,ns,rfl,B,G,fun wl us H1 s1 hw TW=>?_⟩
 have B1:=B.same s1
 simp_all only [zac]
 refine ⟨⟨_,SqL.of B1.hl⟩,⟨_,SqL.of B1.hp⟩,fun D hD=>?_⟩
 have l6:=B.l6
 have len:=B.len
 have lC:(zoL bs ns).length=bs.length:=by rw [zoL,List.length_zipWith,len];omega
 have lW:(wqs bs ns).length=bs.length:=by rw [wqs,List.length_zipWith,len];omega
 have lP:(zfH bs ns).length=bs.length:=by rw [zfH,List.length_zipWith,lW,lC];omega
 refine zd2 (f:=fr) (qs:=zoL bs ns) B1.hl B1.hp (by rw [lC,List.length_map,List.length_map,B.hb.1,len];omega) (by omega) hD (fun i x z w H3 R hx hz hv s3 k=>?_) fun vs H' s hD' T=>?_
 ·obtain ⟨a,ha,rfl⟩:=zaE hx
  obtain ⟨n,hn,rfl⟩:=zaE hz
  obtain ⟨b,hb1,hb2⟩:=B1.hb.at ha
  obtain ⟨n0,n1⟩:=B1.gn n (zar hn)
  have e:=zfC hb1 hn hv
  subst e
  simp_all only [zac]
  exact ⟨a,b,n,rfl,s3 _ _ hb2,B1.gb b (zar hb1),n0,n1,k⟩
 simp_all only [zac]
 have hw1:=s _ _ hw
 have TW1:=TW.same s
 have n0:∀ n∈ns,0≤n:=fun n hn=>(B.gn n hn).1
 have mb:∀ x∈List.zip bs ns,GB x.1∧gnq x.1 x.2≠0:=fun x hx=>by
  obtain ⟨i,ei⟩:=List.getElem?_of_mem hx
  rw [List.getElem?_zip_eq_some] at ei
  exact ⟨B.gb _ (zar ei.1),G i _ _ ei.1 ei.2⟩
 have st:=zd5 bs ns B.gb n0
 have zl:(List.zip bs ns).length≤6:=by rw [List.length_zip];omega
 have pW:∀ i:Nat,Bq 500 ((wqs bs ns).take i).sum:=fun i=>by
  have h:=zg5 (j:=6) (k:=14) (f:=fun x=>wq x.1 x.2) (List.zip bs ns) (fun x hx=>zgS (mb x hx).1 (mb x hx).2) i
  rw [wqs,zdw]
  exact h.mono (by omega)
 have pP:∀ i:Nat,Bq 900 ((zfH bs ns).take i).sum:=fun i=>by
  have h:=zg5 (j:=12) (k:=16) (f:=fun x=>wq x.1 x.2*chq x.1 x.2) (List.zip bs ns) (fun x hx=>((zgS (mb x hx).1 (mb x hx).2).mul2 (zi6 (mb x hx).1 x.2)).mono (by omega)) i
  rw [ze6]
  exact h.mono (by omega)
 have bW:∀ x∈wqs bs ns,Bq 420 x:=zds _ fun i b n e1 e2=>zp1 (B.gb b (zar e1)) (B.gn n (zar e2)).2 (G i b n e1 e2)
 have bC:∀ x∈zoL bs ns,Bq 401 x:=zds _ fun i b n e1 e2=>zmJ (B.gb b (zar e1)) (B.gn n (zar e2)).2
 have bP:∀ x∈zfH bs ns,Bq 900 x:=zds _ fun i x y e1 e2=>((bW x (zar e1)).mul2 (bC y (zar e2))).mono (by decide)
 refine ⟨⟨_,SqL.of hw1⟩,⟨_,SqL.of hD'⟩,fun D2 hD2=>?_⟩
 refine zd2 (f:=fr) (qs:=zfH bs ns) hw1 hD' (by rw [lP,List.length_map,List.length_map,TW1.1,T.1,lW,lC];omega) (by omega) hD2 (fun i x z w H3 R hx hz hv s3 k=>?_) fun rs H2 s2 hD2' TR=>?_
 ·obtain ⟨a,ha,rfl⟩:=zaE hx
  obtain ⟨c,hc,rfl⟩:=zaE hz
  obtain ⟨f,ef,hf⟩:=TW1.at ha
  obtain ⟨g,eg,hg⟩:=T.at hc
  have e:=zfC ef eg hv
  subst e
  simp_all only [zac]
  exact ⟨a,c,f,g,rfl,s3 _ _ hf,s3 _ _ hg,(bW f (zar ef)).mono (by decide),(bC g (zar eg)).mono (by decide),k⟩
 have hP:Bq 900 (zfH bs ns).sum:=by
  have:=pP (zfH bs ns).length
  rwa [List.take_length] at this
 have hW:Bq 500 (wqs bs ns).sum:=by
  have:=pW (wqs bs ns).length
  rwa [List.take_length] at this
 refine ⟨D2,rs,_,rfl,hD2',TR,fun i=>(pP i).mono (by decide),fun x hx=>(bP x hx).mono (by decide),fun fd H3 s3 h3=>?_⟩
 have S3:=s.trans (s2.trans s3)
 refine ⟨l,pl,ts,bs,ns,rfl,B1.same S3,fun H4 s4=>?_⟩
 simp_all only [zac]
 refine ⟨by decide,fun p np=>?_⟩
 have s5:=zal np (.tup [V.int (bud - (zaO bs ns).sum),V.int 1])
 have h5:(L2.upd H4 p (.tup [V.int (bud - (zaO bs ns).sum),V.int 1])) p=some (.tup [V.int (bud - (zaO bs ns).sum),V.int 1]):=zah
 generalize L2.upd H4 p (.tup [V.int (bud - (zaO bs ns).sum),V.int 1])=H5 at s5 h5 ⊢
 obtain ⟨z1,z2⟩:=zi1 bs ns B.gb B.gn
 have bS:Bq 20 ((bud - (zaO bs ns).sum:Int):Rat):=⟨by show (bud - (zaO bs ns).sum).natAbs<2 ^ 20;omega,by show (1:Nat)<2 ^ 20;decide⟩
 refine ⟨fd,p,_,((bud - (zaO bs ns).sum:Int):Rat),rfl,s5 _ _ (s4 _ _ h3),h5,hP.mono (by omega),bS.mono (by decide),fun r1 H6 s6 h6=>?_⟩
 have S6:=S3.trans (s4.trans (s5.trans s6))
 refine ⟨wl,us,_,rfl,S6 _ _ hw,TW.same S6,fun i=>(pW i).mono (by decide),fun x hx=>(bW x hx).mono (by decide),fun r2 H7 s7 h7=>?_⟩
 exact ⟨r1,r2,_,_,rfl,s7 _ _ h6,h7,ws,(hP.add2 bS).mono (by omega),hW.mono (by omega),fun r3 H8 s8 h8=>q r3 H8 (s1.trans (S6.trans (s7.trans s8))) h8⟩
theorem zbJ:zaF ["boxes","budget","counts","weights","chances","found","spare"] ["boxes","budget","counts"] (zaj zbS):=⟨rfl,rfl,rfl,by decide +kernel,rfl,by decide +kernel,by decide +kernel⟩
theorem zgn (T:Txt K mg a):zbT P w K mg base CX0 5 a.f_chance_for a.d_chance_for ["boxes","budget","counts"] zdN:=by
 have G_added:=zmn (P:=P) (w:=w) (base:=base) T
 have G_chance:=zfc (P:=P) (w:=w) (base:=base) T
 have G_cost_sum:=zif (P:=P) (w:=w) (base:=base) T
 have G_fair_weights:=zc9 (P:=P) (w:=w) (base:=base) T
 have G_over:=zig (P:=P) (w:=w) (base:=base) T
 have G_plus:=zkw (P:=P) (w:=w) (base:=base) T
 have G_times:=zl2 (P:=P) (w:=w) (base:=base) T
 refine T.F_chance_for.ok zbJ (fun vs H Q E h=>?_) (fun cdv A outer s H vs Q E hr h=>?_)
 ·obtain ⟨l,pl,ts,bs,ns,bud,rfl,B,cs,G,d0,d1,ws,q⟩:=h
  rfl
 obtain ⟨l,pl,ts,bs,ns,bud,rfl,B,cs,G,d0,d1,ws,q⟩:=h
 exact ⟨zc8 K,(zae (zaK (i:=3) zbJ.nd rfl (Or.inl rfl) (zak G_fair_weights (hr.mono (by decide)) rfl T.m_fair_weights T.F_fair_weights.kp T.b_fair_weights .nil zaI (zaa (pv 0) (zaa (pv 2) zad))))
 (zae (zbE (i:=4) zbJ.nd rfl rfl (sc:=zaj zbS) (N:=["boxes","budget","counts","weights","chances","found","spare"]) (Nc:=["box","count"]) (cap:=[none,none]) rfl rfl rfl (.of (by decide +kernel)) (zdf rfl T.z_zip (zaa (pv 0) (zaa (pv 2) zad))) (fun _ _ _ _=>(zbk rfl (zao (zam (i:=0) (show List.Nodup (["box","count"]:List Str) from by decide) rfl (Or.inl rfl)) (zao (zam (i:=1) (show List.Nodup (["box","count"]:List Str) from by decide) rfl (Or.inl rfl)) za9)))) (fun _ _ _ _=>zbb) (fun _ _ _ _=>(zak G_chance (hr.mono (by decide)) rfl T.m_chance T.F_chance.kp T.b_chance .nil zaI (zaa (pv 0) (zaa (pv 1) zad)))))
 (zae (zaK (i:=5) zbJ.nd rfl (Or.inl rfl) (zak G_added (hr.mono (by decide)) rfl T.m_added T.F_added.kp T.b_added .nil zaI (zaa (zbu (sc:=zaj zbS) (N:=["boxes","budget","counts","weights","chances","found","spare"]) (Nc:=["weight","one"]) (cap:=[none,none]) rfl rfl rfl (.of (by decide +kernel)) (zdf rfl T.z_zip (zaa (pv 3) (zaa (pv 4) zad))) (fun _ _ _ _=>(zbk rfl (zao (zam (i:=0) (show List.Nodup (["weight","one"]:List Str) from by decide) rfl (Or.inl rfl)) (zao (zam (i:=1) (show List.Nodup (["weight","one"]:List Str) from by decide) rfl (Or.inl rfl)) za9)))) (fun _ _ _ _=>zbb) (fun _ _ _ _=>(zak G_times (hr.mono (by decide)) rfl T.m_times T.F_times.kp T.b_times .nil zaI (zaa (pv 0) (zaa (pv 1) zad))))) zad)))
 (zae (zaK (i:=6) zbJ.nd rfl (Or.inl rfl) (zat zcW (pv 1) (zak G_cost_sum (hr.mono (by decide)) rfl T.m_cost_sum T.F_cost_sum.kp T.b_cost_sum .nil zaI (zaa (pv 0) (zaa (pv 2) zad)))))
 (zan (zaL (zak G_over (hr.mono (by decide)) rfl T.m_over T.F_over.kp T.b_over .nil zaI (zaa (zak G_plus (hr.mono (by decide)) rfl T.m_plus T.F_plus.kp T.b_plus .nil zaI (zaa (pv 5) (zaa (zbe (zaa (pv 6) (zaa zag zad))) zad))) (zaa (zak G_added (hr.mono (by decide)) rfl T.m_added T.F_added.kp T.b_added .nil zaI (zaa (pv 3) zad)) zad))))))))),
  zgH B cs G d0 d1 ws q⟩
theorem zkh {α:Type} (w ch c:α→Rat) (J:α→Bool) (V E:Rat):∀ xs:List α,(∀ x∈xs,J x=true→c x=w x*(E - ch x)) →
  (xs.map fun x=>w x*(V - ch x)).sum - (xs.map fun x=>if J x=true then c x else 0).sum=(xs.map fun x=>if J x=true then 0 else w x*(E - ch x)).sum+(V - E)*(xs.map w).sum
 | [],_=>by
  simp only [List.map_nil,List.sum_nil]
  grind
 | x::xs,h=>by
  have ih:=zkh w ch c J V E xs fun y hy=>h y (List.mem_cons_of_mem _ hy)
  simp only [List.map_cons,List.sum_cons]
  by_cases j:J x=true
  ·have hx:=h x List.mem_cons_self j
   simp only [j,if_true]
   rw [hx]
   grind
  ·simp only [j]
   grind
theorem zex {α:Type} (f:α→Rat):∀ xs:List α,(∀ x∈xs,0≤f x)→0≤(xs.map f).sum
 | [],_=>Rat.le_refl
 | x::xs,h=>by
  have ih:=zex f xs fun y hy=>h y (List.mem_cons_of_mem _ hy)
  have hx:=h x List.mem_cons_self
  simp only [List.map_cons,List.sum_cons]
  grind
theorem zjF {α:Type} (f:α→Rat):∀ xs:List α,xs≠[]→(∀ x∈xs,0<f x)→0<(xs.map f).sum
 | [],n,_=>absurd rfl n
 | x::xs,_,h=>by
  have ih:=zex f xs fun y hy=>Rat.le_of_lt (h y (List.mem_cons_of_mem _ hy))
  have hx:=h x List.mem_cons_self
  simp only [List.map_cons,List.sum_cons]
  grind
theorem zjY {α:Type} {w ch c:α→Rat} {J:α→Bool} {V E S:Rat} {xs:List α} (ne:xs≠[]) (w0:∀ x∈xs,0<w x) (hc:∀ x∈xs,J x=true→c x=w x*(E - ch x)) (lo:∀ x∈xs,ch x≤E) (ve:E<V) (hS:(xs.map fun x=>w x*(V - ch x)).sum=S) :
  (xs.map fun x=>if J x=true then 0 else w x*(E - ch x)).sum<S - (xs.map fun x=>if J x=true then c x else 0).sum∧0<S - (xs.map fun x=>if J x=true then c x else 0).sum:=by
 have id:=zkh w ch c J V E xs hc
 rw [hS] at id
 have wp:=zjF w xs ne w0
 have vp:0<V - E:=by grind
 have m:=Rat.mul_pos vp wp
 have nn:=zex (fun x=>if J x=true then 0 else w x*(E - ch x)) xs fun x hx=>by
  have h1:0≤E - ch x:=by have:=lo x hx;grind
  have h2:=Rat.mul_nonneg (Rat.le_of_lt (w0 x hx)) h1
  show 0≤(if J x=true then 0 else w x*(E - ch x))
  split
  ·exact Rat.le_refl
  ·exact h2
 constructor <;> grind
theorem zgc {α:Type} (w ch:α→Rat) (V:Rat):∀ xs:List α,(xs.map fun x=>w x*(V - ch x)).sum=V*(xs.map w).sum - (xs.map fun x=>w x*ch x).sum
 | []=>by
  simp only [List.map_nil,List.sum_nil]
  grind
 | x::xs=>by
  have ih:=zgc w ch V xs
  simp only [List.map_cons,List.sum_cons]
  grind
theorem zeQ {bs:List Box} {ns:List Int} {bud:Int} (ws:(wqs bs ns).sum≠0):((List.zip bs ns).map fun x=>wq x.1 x.2*(zdJ bs ns bud - chq x.1 x.2)).sum=((bud - (zaO bs ns).sum:Int):Rat):=by
 rw [zgc (fun x:Box×Int=>wq x.1 x.2) (fun x=>chq x.1 x.2)]
 have e1:((List.zip bs ns).map fun x=>wq x.1 x.2).sum=(wqs bs ns).sum:=by rw [wqs,zdw]
 rw [e1,← ze6]
 unfold zdJ
 generalize (wqs bs ns).sum=W at ws ⊢
 grind
theorem zqI {b:Box} (g:GB b) {n:Int} (n0:0≤n) (gn:gnq b n≠0):wq b n*(chq b (n+1) - chq b n)=(b.1:Rat):=by
 have e:chq b (n+1) - chq b n=gnq b n:=by
  rw [zb2 g,zb2 g,zdB g,show (n+1).toNat=n.toNat+1 by omega,Rat.pow_succ]
  grind
 rw [e]
 unfold wq
 grind
def nxt (E:Rat) (bs:List Box) (ns:List Int):List Int:=List.zipWith (fun b n=>if chq b (n+1)=E then n+1 else n) bs ns
theorem zii (E:Rat):∀ (bs:List Box) (ns:List Int),List.zip bs (nxt E bs ns)=(List.zip bs ns).map fun x=>(x.1,if chq x.1 (x.2+1)=E then x.2+1 else x.2)
 | [],_=>by simp [nxt]
 | _::_,[]=>by simp [nxt]
 | b::bs,n::ns=>by
  show List.zip (b::bs) ((if chq b (n+1)=E then n+1 else n)::nxt E bs ns)=_
  rw [List.zip_cons_cons,List.zip_cons_cons,List.map_cons,zii E bs ns]
theorem ziG (E:Rat):∀ (bs:List Box) (ns:List Int),(((zaO bs (nxt E bs ns)).sum:Int):Rat)=(((zaO bs ns).sum:Int):Rat)+((List.zip bs ns).map fun x=>if decide (chq x.1 (x.2+1)=E)=true then (x.1.1:Rat) else 0).sum
 | [],_=>by
  simp only [zaO,nxt,List.zipWith_nil_left,List.zip_nil_left,List.map_nil,List.sum_nil]
  grind
 | b::bs,[]=>by
  simp only [zaO,nxt,List.zipWith_nil_right,List.zip_nil_right,List.map_nil,List.sum_nil]
  grind
 | b::bs,n::ns=>by
  have ih:=ziG E bs ns
  show (((b.1*(if chq b (n+1)=E then n+1 else n)+(zaO bs (nxt E bs ns)).sum:Int)):Rat)=((b.1*n+(zaO bs ns).sum:Int):Rat)+((if decide (chq b (n+1)=E)=true then (b.1:Rat) else 0)+((List.zip bs ns).map fun x=>if decide (chq x.1 (x.2+1)=E)=true then (x.1.1:Rat) else 0).sum)
  rw [Rat.intCast_add,Rat.intCast_add,ih,Rat.intCast_mul,Rat.intCast_mul]
  by_cases c:chq b (n+1)=E
  ·rw [if_pos c,if_pos (decide_eq_true c),Rat.intCast_add]
   grind
  ·rw [if_neg c,if_neg (by simpa using c)]
   grind
theorem ziB {b:Box} (g:GB b) {n:Int} (gn:gnq b n≠0):0<wq b n:=by
 obtain ⟨p0,p1,_⟩:=zeF g
 have c0:(0:Rat)<(b.1:Rat):=by exact_mod_cast (show (0:Int)<b.1 by have:=g.1;omega)
 have g0:0≤gnq b n:=by
  rw [zdB g]
  exact Rat.mul_nonneg (zaZ (Rat.le_of_lt p0) p1 _).2.1 (Rat.le_of_lt p0)
 have gp:0<gnq b n:=by grind
 unfold wq
 rw [Rat.div_def]
 exact Rat.mul_pos c0 (Rat.inv_pos.mpr gp)
theorem zla {bs:List Box} {ns:List Int} {bud:Int} {E:Rat} (gb:∀ b∈bs,GB b) (n0:∀ n∈ns,0≤n) (G:Gn bs ns) (ne:List.zip bs ns≠[]) (lo:∀ x∈List.zip bs ns,chq x.1 x.2≤E) (ws:(wqs bs ns).sum≠0) (ve:E<zdJ bs ns bud) :
  ((List.zip bs (nxt E bs ns)).map fun x=>wq x.1 x.2*(E - chq x.1 x.2)).sum<((bud - (zaO bs (nxt E bs ns)).sum:Int):Rat)∧(zaO bs (nxt E bs ns)).sum<bud:=by
 have mb:∀ x∈List.zip bs ns,GB x.1∧0≤x.2∧gnq x.1 x.2≠0:=fun x hx=>by
  obtain ⟨i,ei⟩:=List.getElem?_of_mem hx
  rw [List.getElem?_zip_eq_some] at ei
  exact ⟨gb _ (zar ei.1),n0 _ (zar ei.2),G i _ _ ei.1 ei.2⟩
 have h:=zjY (w:=fun x:Box×Int=>wq x.1 x.2) (ch:=fun x=>chq x.1 x.2) (c:=fun x=>(x.1.1:Rat)) (J:=fun x=>decide (chq x.1 (x.2+1)=E)) ne (fun x hx=>ziB (mb x hx).1 (mb x hx).2.2) (fun x hx j=>?_) lo ve (zeQ ws)
 ·have e1:((bud - (zaO bs (nxt E bs ns)).sum:Int):Rat)=((bud - (zaO bs ns).sum:Int):Rat) - ((List.zip bs ns).map fun x=>if decide (chq x.1 (x.2+1)=E)=true then (x.1.1:Rat) else 0).sum:=by
   rw [Rat.intCast_sub,Rat.intCast_sub,ziG]
   grind
  rw [← e1] at h
  refine ⟨?_,?_⟩
  ·refine (congrArg (fun z=>z<((bud - (zaO bs (nxt E bs ns)).sum:Int):Rat)) ?_).mpr h.1
   rw [zii,List.map_map]
   congr 1
   refine List.map_congr_left fun x _=>?_
   show wq x.1 (if chq x.1 (x.2+1)=E then x.2+1 else x.2)*(E - chq x.1 (if chq x.1 (x.2+1)=E then x.2+1 else x.2))=if decide (chq x.1 (x.2+1)=E)=true then 0 else wq x.1 x.2*(E - chq x.1 x.2)
   by_cases c:chq x.1 (x.2+1)=E
   ·rw [if_pos c,if_pos (decide_eq_true c),c]
    grind
   ·rw [if_neg c,if_neg (by simpa using c)]
  ·have h2:=h.2
   have:(0:Int)<bud - (zaO bs (nxt E bs ns)).sum:=by exact_mod_cast h2
   omega
 ·have e:=of_decide_eq_true j
  obtain ⟨g1,g2,g3⟩:=mb x hx
  show (x.1.1:Rat)=wq x.1 x.2*(E - chq x.1 x.2)
  rw [← zqI g1 g2 g3,e]
theorem zpN {b:Box} (g:GB b) (h:pr b=1):b.2.1=b.2.2:=by
 have on:(b.2.2:Rat)≠0:=fun z=>by
  have:b.2.2=0:=by exact_mod_cast z
  obtain ⟨g1,g2,g3,g4,g5⟩:=g
  omega
 have e:pr b=(b.2.1:Rat) / (b.2.2:Rat):=Rat.divInt_eq_div ..
 rw [e] at h
 have:(b.2.1:Rat)=(b.2.2:Rat):=by grind
 exact_mod_cast this
theorem zg8 {b:Box} (g:GB b) (h:pr b=1) {n:Int} (n0:0≤n) (gn:gnq b n≠0):n=0:=by
 rw [zdB g,h] at gn
 rcases Nat.eq_zero_or_pos n.toNat with z | z
 ·omega
 ·exfalso
  apply gn
  obtain ⟨k,hk⟩:∃ k,n.toNat=k+1:=⟨n.toNat - 1,by omega⟩
  rw [hk,Rat.pow_succ]
  grind
theorem ziR (V:Rat):∀ (bs:List Box) (ns:List Int),ns.length=bs.length→((List.zip bs ns).map fun x=>(x.1.1:Rat)*V).sum=V*(((bs.map fun b=>b.1).sum:Int):Rat)
 | [],_,_=>by
  simp only [List.zip_nil_left,List.map_nil,List.sum_nil]
  grind
 | _::_,[],h=>by cases h
 | b::bs,n::ns,h=>by
  have ih:=ziR V bs ns (Nat.succ.inj h)
  rw [List.zip_cons_cons,List.map_cons,List.sum_cons,List.map_cons,List.sum_cons,Rat.intCast_add,ih]
  grind
theorem zel:∀ (bs:List Box) (ns:List Int),(∀ n∈ns,n=0)→(zaO bs ns).sum=0
 | [],_,_=>by simp [zaO]
 | _::_,[],_=>by simp [zaO]
 | b::bs,n::ns,h=>by
  have ih:=zel bs ns fun x hx=>h x (List.mem_cons_of_mem _ hx)
  show b.1*n+(zaO bs ns).sum=0
  rw [ih,h n List.mem_cons_self,Int.mul_zero]
  rfl
theorem zgh:∀ (bs:List Box),(∀ b∈bs,GB b)→bs≠[]→0<(bs.map fun b=>b.1).sum
 | [],_,n=>absurd rfl n
 | [b],h,_=>by
  have:=(h b List.mem_cons_self).1
  simp only [List.map_cons,List.map_nil,List.sum_cons,List.sum_nil]
  omega
 | b::c::bs,h,_=>by
  have ih:=zgh (c::bs) (fun x hx=>h x (List.mem_cons_of_mem _ hx)) (by simp)
  have:=(h b List.mem_cons_self).1
  rw [List.map_cons,List.sum_cons]
  omega
theorem zpu {bs:List Box} {ns:List Int} {bud:Int} {E:Rat} (len:ns.length=bs.length) (gb:∀ b∈bs,GB b) (n0:∀ n∈ns,0≤n) (G:Gn bs ns) (ws:(wqs bs ns).sum≠0) (ve:E<zdJ bs ns bud) (mn:∀ x∈List.zip bs ns,E≤chq x.1 (x.2+1))
  (hs:(∀ b∈bs,b.2.1=b.2.2)→bud<(bs.map fun b=>b.1).sum):Gn bs (nxt E bs ns):=by
 intro i b m hb hm
 rw [nxt,List.getElem?_zipWith,hb] at hm
 cases hn:ns[i]? with
 | none=>rw [hn] at hm;cases hm
 | some n =>
  rw [hn] at hm
  replace hm:(if chq b (n+1)=E then n+1 else n)=m:=Option.some.inj hm
  have g:=gb b (zar hb)
  have gn:=G i b n hb hn
  have hn0:=n0 n (zar hn)
  by_cases c:chq b (n+1)=E
  ·rw [if_pos c] at hm
   subst hm
   obtain ⟨p0,p1,_⟩:=zeF g
   by_cases s:pr b=1
   ·exfalso
    have z:=zg8 g s hn0 gn
    subst z
    have eE:E=1:=by
     rw [← c,zb2 g,s]
     show (1:Rat) - (1 - 1) ^ 1=1
     rw [Rat.pow_succ,Rat.pow_zero]
     grind
    have all:∀ x∈List.zip bs ns,pr x.1=1∧x.2=0∧GB x.1:=fun x hx=>by
     have hm:=mn x hx
     obtain ⟨k,ek⟩:=List.getElem?_of_mem hx
     rw [List.getElem?_zip_eq_some] at ek
     have gx:=gb x.1 (zar ek.1)
     obtain ⟨q0,q1,_⟩:=zeF gx
     have hx0:=n0 x.2 (zar ek.2)
     rw [eE,zb2 gx] at hm
     have px:pr x.1=1:=by
      refine Classical.byContradiction fun ne=>?_
      have h1:(1 - pr x.1)≠0:=by grind
      have h2:=zir h1 (x.2+1).toNat
      have h3:=(zaZ (Rat.le_of_lt q0) q1 (x.2+1).toNat).2.1
      grind
     exact ⟨px,zg8 gx px hx0 (G k _ _ ek.1 ek.2),gx⟩
    have sure:∀ b∈bs,b.2.1=b.2.2:=fun b' hb'=>by
     obtain ⟨k,ek⟩:=List.getElem?_of_mem hb'
     have lk:=(List.getElem?_eq_some_iff.mp ek).1
     have en:ns[k]?=some ns[k]:=List.getElem?_eq_getElem (by omega)
     have hz:(b',ns[k])∈List.zip bs ns:=List.mem_of_getElem? (List.getElem?_zip_eq_some.mpr ⟨ek,en⟩)
     exact zpN (gb b' hb') (all _ hz).1
    have hlt:=hs sure
    have W:=zeQ (bud:=bud) ws
    have zs:∀ n∈ns,n=0:=fun n' hn'=>by
     obtain ⟨k,ek⟩:=List.getElem?_of_mem hn'
     have lk:=(List.getElem?_eq_some_iff.mp ek).1
     have eb:bs[k]?=some bs[k]:=List.getElem?_eq_getElem (by omega)
     have hz:(bs[k],n')∈List.zip bs ns:=List.mem_of_getElem? (List.getElem?_zip_eq_some.mpr ⟨eb,ek⟩)
     exact (all _ hz).2.1
    rw [zel bs ns zs] at W
    have e1:((List.zip bs ns).map fun x=>wq x.1 x.2*(zdJ bs ns bud - chq x.1 x.2))=(List.zip bs ns).map fun x=>(x.1.1:Rat)*zdJ bs ns bud:=by
     refine List.map_congr_left fun x hx=>?_
     obtain ⟨a1,a2,a3⟩:=all x hx
     rw [a2]
     unfold wq
     rw [zdB a3,zb2 a3,a1]
     show (x.1.1:Rat) / ((1 - 1) ^ 0*1)*(zdJ bs ns bud - (1 - (1 - 1) ^ 0))=_
     rw [Rat.pow_zero]
     grind
    rw [e1,ziR _ _ _ len] at W
    have C0:=zgh bs gb (fun z=>by rw [z] at hb;cases hb)
    have C1:(0:Rat)<(((bs.map fun b=>b.1).sum:Int):Rat):=by exact_mod_cast C0
    have C2:((bud - 0:Int):Rat)<(((bs.map fun b=>b.1).sum:Int):Rat):=by
     rw [Int.sub_zero]
     exact_mod_cast hlt
    rw [eE] at ve
    have m:=Rat.mul_lt_mul_of_pos_right ve C1
    grind
   ·rw [zdB g]
    have h1:(1 - pr b)≠0:=by grind
    have h2:=zir h1 (n+1).toNat
    grind
  ·rw [if_neg c] at hm
   subst hm
   exact gn
theorem zi4 {b:Box} (g:GB b) {n:Int} (n0:0≤n):chq b n≤chq b (n+1):=by
 obtain ⟨p0,p1,_⟩:=zeF g
 have h:=(zaZ (Rat.le_of_lt p0) p1 n.toNat).2.1
 have m:=Rat.mul_nonneg h (Rat.le_of_lt p0)
 rw [zb2 g,zb2 g,show (n+1).toNat=n.toNat+1 by omega,Rat.pow_succ]
 grind
theorem zd6 {b:Box} (g:GB b):chq b 0=0:=by
 rw [zb2 g]
 show (1:Rat) - (1 - pr b) ^ 0=0
 rw [Rat.pow_zero]
 grind
def Mid (bs:List Box) (ns:List Int) (t:Rat):Prop:=∀ x∈List.zip bs ns,chq x.1 x.2≤t∧t≤chq x.1 (x.2+1)
theorem ze9:∀ (bs:List Box) (ns:List Int),(∀ b∈bs,GB b)→(∀ n∈ns,0≤n)→ns.length=bs.length→0≤(zaO bs ns).sum∧∀ n∈ns,n≤(zaO bs ns).sum
 | [],[],_,_,_=>by simp [zaO]
 | [],_::_,_,_,h=>by cases h
 | _::_,[],_,_,h=>by cases h
 | b::bs,n::ns,gb,n0,h=>by
  obtain ⟨z1,z2⟩:=ze9 bs ns (fun x hx=>gb x (List.mem_cons_of_mem _ hx)) (fun x hx=>n0 x (List.mem_cons_of_mem _ hx)) (Nat.succ.inj h)
  obtain ⟨g1,_⟩:=gb b List.mem_cons_self
  have hn:=n0 n List.mem_cons_self
  have m1:1*n≤b.1*n:=Int.mul_le_mul_of_nonneg_right g1 hn
  rw [Int.one_mul] at m1
  refine ⟨?_,fun m hm=>?_⟩
  ·show 0≤b.1*n+(zaO bs ns).sum
   omega
  ·show m≤b.1*n+(zaO bs ns).sum
   rcases List.mem_cons.mp hm with rfl | hm
   ·omega
   ·have:=z2 m hm
    omega
theorem ziJ (E:Rat):∀ (bs:List Box) (ns:List Int),(∀ b∈bs,GB b)→(zaO bs ns).sum≤(zaO bs (nxt E bs ns)).sum∧((∃ x∈List.zip bs ns,chq x.1 (x.2+1)=E)→(zaO bs ns).sum<(zaO bs (nxt E bs ns)).sum)
 | [],_,_=>by simp [zaO]
 | b::bs,[],_=>by simp [zaO,nxt]
 | b::bs,n::ns,gb=>by
  obtain ⟨z1,z2⟩:=ziJ E bs ns (fun x hx=>gb x (List.mem_cons_of_mem _ hx))
  obtain ⟨g1,_⟩:=gb b List.mem_cons_self
  have e:(zaO (b::bs) (nxt E (b::bs) (n::ns))).sum=b.1*(if chq b (n+1)=E then n+1 else n)+(zaO bs (nxt E bs ns)).sum:=rfl
  have e2:(zaO (b::bs) (n::ns)).sum=b.1*n+(zaO bs ns).sum:=rfl
  rw [e,e2]
  by_cases c:chq b (n+1)=E
  ·rw [if_pos c,Int.mul_add,Int.mul_one]
   exact ⟨by omega,fun _=>by omega⟩
  ·rw [if_neg c]
   refine ⟨by omega,fun hQ'=>?_⟩
   obtain ⟨x,hx,ex⟩:=hQ'
   rw [List.zip_cons_cons] at hx
   rcases List.mem_cons.mp hx with rfl | hx
   ·exact absurd ex c
   ·have:=z2 ⟨x,hx,ex⟩
    omega
theorem zie (E:Rat) (bs:List Box) (ns:List Int) (h:ns.length=bs.length):(nxt E bs ns).length=bs.length:=by rw [nxt,List.length_zipWith];omega
theorem znL (E:Rat) (bs:List Box) (ns:List Int) (h:∀ n∈ns,0≤n):∀ n∈nxt E bs ns,0≤n:=fun m hm=>by
 obtain ⟨i,ei⟩:=List.getElem?_of_mem hm
 rw [nxt,List.getElem?_zipWith] at ei
 cases e1:bs[i]? with
 | none=>rw [e1] at ei;cases ei
 | some b =>
  cases e2:ns[i]? with
  | none=>rw [e1,e2] at ei;cases ei
  | some n =>
   rw [e1,e2] at ei
   have:=h n (zar e2)
   replace ei:(if chq b (n+1)=E then n+1 else n)=m:=Option.some.inj ei
   rw [← ei]
   split <;> omega
theorem zod {bs:List Box} {ns:List Int} {t E:Rat} (gb:∀ b∈bs,GB b) (n0:∀ n∈ns,0≤n) (M:Mid bs ns t) (te:t≤E) (mn:∀ x∈List.zip bs ns,E≤chq x.1 (x.2+1)):Mid bs (nxt E bs ns) E:=by
 intro y hy
 rw [zii] at hy
 obtain ⟨x,hx,rfl⟩:=List.mem_map.mp hy
 obtain ⟨i,ei⟩:=List.getElem?_of_mem hx
 rw [List.getElem?_zip_eq_some] at ei
 have g:=gb x.1 (zar ei.1)
 have h0:=n0 x.2 (zar ei.2)
 obtain ⟨m1,m2⟩:=M x hx
 have m3:=mn x hx
 show chq x.1 (if chq x.1 (x.2+1)=E then x.2+1 else x.2)≤E∧E≤chq x.1 ((if chq x.1 (x.2+1)=E then x.2+1 else x.2)+1)
 by_cases c:chq x.1 (x.2+1)=E
 ·rw [if_pos c]
  refine ⟨by rw [c];exact Rat.le_refl,?_⟩
  have:=zi4 g (n:=x.2+1) (by omega)
  rw [c] at this
  exact this
 ·rw [if_neg c]
  exact ⟨Rat.le_trans m1 te,m3⟩
theorem zem {bs:List Box} {ns:List Int} (gb:∀ b∈bs,GB b) (G:Gn bs ns) (ne:List.zip bs ns≠[]):0<(wqs bs ns).sum:=by
 rw [wqs,zdw]
 refine zjF (fun x:Box×Int=>wq x.1 x.2) _ ne fun x hx=>?_
 obtain ⟨i,ei⟩:=List.getElem?_of_mem hx
 rw [List.getElem?_zip_eq_some] at ei
 exact ziB (gb _ (zar ei.1)) (G i _ _ ei.1 ei.2)
theorem zgo {bs:List Box} {ns:List Int} {bud:Int} {t:Rat} (W:0<(wqs bs ns).sum) (h:((List.zip bs ns).map fun x=>wq x.1 x.2*(t - chq x.1 x.2)).sum≤((bud - (zaO bs ns).sum:Int):Rat)):t≤zdJ bs ns bud:=by
 have w:=zeQ (bud:=bud) (bs:=bs) (ns:=ns) (by grind)
 rw [← w,zgc (fun x:Box×Int=>wq x.1 x.2) (fun x=>chq x.1 x.2),zgc (fun x:Box×Int=>wq x.1 x.2) (fun x=>chq x.1 x.2)] at h
 have e1:((List.zip bs ns).map fun x=>wq x.1 x.2).sum=(wqs bs ns).sum:=by rw [wqs,zdw]
 rw [e1] at h
 refine Classical.byContradiction fun c=>?_
 have c':zdJ bs ns bud<t:=Rat.not_le.mp c
 have m:=Rat.mul_lt_mul_of_pos_right c' W
 grind
structure Lev (bs:List Box) (ns:List Int) (bud:Int) (t:Rat):Prop where
 len:ns.length=bs.length
 n0:∀ n∈ns,0≤n
 n59:∀ n∈ns,n≤59
 gn:Gn bs ns
 mid:Mid bs ns t
 tw:t≤zdJ bs ns bud
 cb:(zaO bs ns).sum≤bud
theorem zfN {bs:List Box} {ns:List Int} (l1:1≤bs.length) (h:ns.length=bs.length):List.zip bs ns≠[]:=fun z=>by
 have:=congrArg List.length z
 rw [List.length_zip,List.length_nil] at this
 omega
theorem Lev.zero {bs:List Box} {bud:Int} (gb:∀ b∈bs,GB b) (l1:1≤bs.length) (d0:0≤bud):Lev bs (bs.map fun _=>0) bud 0:=by
 have len:(bs.map fun _=>(0:Int)).length=bs.length:=List.length_map ..
 have z:∀ n∈(bs.map fun _=>(0:Int)),n=0:=fun n hn=>by
  obtain ⟨_,_,e⟩:=List.mem_map.mp hn
  exact e.symm
 have gn:Gn bs (bs.map fun _=>(0:Int)):=fun i b n e1 e2=>by
  have:=z n (zar e2)
  subst this
  have g:=gb b (zar e1)
  rw [zdB g]
  have:=(zeF g).1
  show (1 - pr b) ^ 0*pr b≠0
  rw [Rat.pow_zero]
  grind
 have cz:=zel bs _ z
 have zz:∀ x∈List.zip bs (bs.map fun _=>(0:Int)),GB x.1∧x.2=0:=fun x hx=>by
  obtain ⟨i,ei⟩:=List.getElem?_of_mem hx
  rw [List.getElem?_zip_eq_some] at ei
  exact ⟨gb _ (zar ei.1),z _ (zar ei.2)⟩
 refine ⟨len,fun n hn=>by rw [z n hn];decide,fun n hn=>by rw [z n hn];decide,gn,fun x hx=>?_,zgo (zem gb gn (zfN l1 len)) ?_,by omega⟩
 ·obtain ⟨g,e⟩:=zz x hx
  rw [e,zd6 g]
  refine ⟨Rat.le_refl,?_⟩
  have:=zi4 g (n:=0) (by decide)
  rw [zd6 g] at this
  exact this
 ·have e:((List.zip bs (bs.map fun _=>(0:Int))).map fun x=>wq x.1 x.2*(0 - chq x.1 x.2)).sum=0:=by
   rw [show ((List.zip bs (bs.map fun _=>(0:Int))).map fun x=>wq x.1 x.2*(0 - chq x.1 x.2))=(List.zip bs (bs.map fun _=>(0:Int))).map fun _=>(0:Rat) from List.map_congr_left fun x hx=>by
    obtain ⟨g,e⟩:=zz x hx
    rw [e,zd6 g]
    grind]
   generalize List.zip bs (bs.map fun _=>(0:Int))=l
   induction l with
   | nil=>rfl
   | cons x l ih =>
    rw [List.map_cons,List.sum_cons,ih]
    grind
  rw [e,cz]
  exact_mod_cast (show (0:Int)≤bud - 0 by omega)
theorem Lev.step {bs:List Box} {ns:List Int} {bud:Int} {t E:Rat} (L:Lev bs ns bud t) (gb:∀ b∈bs,GB b) (l1:1≤bs.length) (d1:bud≤60) (hs:(∀ b∈bs,b.2.1=b.2.2)→bud<(bs.map fun b=>b.1).sum)
  (mn:∀ x∈List.zip bs ns,E≤chq x.1 (x.2+1)) (me:∃ x∈List.zip bs ns,chq x.1 (x.2+1)=E) (ve:E<zdJ bs ns bud) :
  Lev bs (nxt E bs ns) bud E∧(bud - (zaO bs (nxt E bs ns)).sum).toNat<(bud - (zaO bs ns).sum).toNat:=by
 have ne:=zfN l1 L.len
 have W:=zem gb L.gn ne
 have te:t≤E:=by
  obtain ⟨x,hx,ex⟩:=me
  rw [← ex]
  exact (L.mid x hx).2
 obtain ⟨t1,t2⟩:=zla (bud:=bud) gb L.n0 L.gn ne (fun x hx=>Rat.le_trans (L.mid x hx).1 te) (by grind) ve
 have gn:=zpu L.len gb L.n0 L.gn (by grind) ve mn hs
 have len:=zie E bs ns L.len
 have n0:=znL E bs ns L.n0
 have ce:=ze9 bs _ gb n0 len
 have mo:=(ziJ E bs ns gb).2 me
 refine ⟨⟨len,n0,fun n hn=>?_,gn,zod gb L.n0 L.mid te mn,zgo (zem gb gn (zfN l1 len)) (Rat.le_of_lt t1),by omega⟩,by omega⟩
 have:=ce.2 n hn
 omega
def zki (vs:List V):List Int:=vs.map fun v=>match v with | .int n=>n | _=>0
theorem zjs (ns:List Int):zki (ns.map V.int)=ns:=by
 unfold zki
 rw [List.map_map]
 exact List.map_id ns
def zka (bs:List Box) (bud:Int):St→Hp→Nat:=fun σ H=>match σ with
 | _::_::some (.ref p)::_=>(match H p with | some (.lst vs)=>(bud - (zaO bs (zki vs)).sum).toNat | _=>0)
 | _=>0
theorem zhm {bs:List Box} {bud:Int} {x y:Option V} {p:Addr} {r:St} {H:Hp} {ns:List Int} (h:H p=some (.lst (ns.map V.int))):zka bs bud (x::y::some (.ref p)::r) H=(bud - (zaO bs ns).sum).toNat:=by
 unfold zka
 simp only [h,zjs]
theorem zmF (u v:Rat):[u.num,(u.den:Int)]=[v.num,(v.den:Int)]↔u=v:=by
 refine ⟨fun h=>?_,fun h=>by rw [h]⟩
 simp only [List.cons.injEq,and_true] at h
 exact Rat.ext h.1 (Int.ofNat.inj h.2)
theorem zjU {bs:List Box} {ns:List Int} {bud:Int} {t:Rat} (L:Lev bs ns bud t) (gb:∀ b∈bs,GB b) (l1:1≤bs.length) (l6:bs.length≤6) (d1:bud≤60):Bq 1300 (zdJ bs ns bud):=by
 have W:=zem gb L.gn (zfN l1 L.len)
 have st:=zd5 bs ns gb L.n0
 have cb:=L.cb
 have ce:=(ze9 bs ns gb L.n0 L.len).1
 have zl:(List.zip bs ns).length≤6:=by rw [List.length_zip];omega
 have mb:∀ x∈List.zip bs ns,GB x.1∧gnq x.1 x.2≠0:=fun x hx=>by
  obtain ⟨i,ei⟩:=List.getElem?_of_mem hx
  rw [List.getElem?_zip_eq_some] at ei
  exact ⟨gb _ (zar ei.1),L.gn i _ _ ei.1 ei.2⟩
 have h1:=zgm (j:=12) (k:=16) (f:=fun x=>wq x.1 x.2*chq x.1 x.2) (List.zip bs ns) fun x hx=>((zgS (mb x hx).1 (mb x hx).2).mul2 (zi6 (mb x hx).1 x.2)).mono (by omega)
 have h2:=zgm (j:=6) (k:=14) (f:=fun x=>wq x.1 x.2) (List.zip bs ns) fun x hx=>zgS (mb x hx).1 (mb x hx).2
 have e1:((List.zip bs ns).map fun x=>wq x.1 x.2).sum=(wqs bs ns).sum:=by rw [wqs,zdw]
 rw [← ze6] at h1
 rw [e1] at h2
 have bS:Bq 20 ((bud - (zaO bs ns).sum:Int):Rat):=⟨by show (bud - (zaO bs ns).sum).natAbs<2 ^ 20;omega,by show (1:Nat)<2 ^ 20;decide⟩
 have h3:=(h1.add2 bS).div2 h2 (by grind)
 exact h3.mono (by omega)
def nend (b:Box) (n:Int):Rat:=chq b (n+1)
def zgL:Sp:=fun vs H Q _=>∃ (l:Addr) (ts:List Addr) (bs:List Box) (bud:Int),vs=[.ref l,.int bud]∧H l=some (.lst (ts.map V.ref))∧Tps bx H ts bs∧(∀ b∈bs,GB b)∧1≤bs.length∧bs.length≤6∧0≤bud∧bud≤60∧((∀ b∈bs,b.2.1=b.2.2)→bud<(bs.map fun b=>b.1).sum) ∧
 ∀ (r pl wr:Addr) (ns:List Int) (H':Hp),zaR H H'→H' r=some (.tup [.ref pl,.ref wr])→BP H' l pl ts bs ns→Lev bs ns bud (zdJ bs ns bud)→H' wr=some (.tup (fr (zdJ bs ns bud)))→Q (.ref r) H'
def zbA (K:PySem.W.Frag):TS :=
 (za1 (zbh (zgE K (zab (zac 2) (zab (zac 4) zap))) (zcj K 2 (zaD (zaf 0) (zaD (zaf 1) zck))) zaH (tIf (zby (tOp (rEqT K) (zac 1) (zac 2))) (tOp (rI0 fun i j=>.int (i+j)) (zac 0) (tC (.int 1))) (zac 0)) [none,none,some 5]) (zaf 2))
theorem zaU (K:PySem.W.Frag) (D:zbU) (σ:St) (H:Hp):zbA K D σ H=(za1 (zbh (zgE K (zab (zac 2) (zab (zac 4) zap))) (zcj K 2 (zaD (zaf 0) (zaD (zaf 1) zck))) zaH (tIf (zby (tOp (rEqT K) (zac 1) (zac 2))) (tOp (rI0 fun i j=>.int (i+j)) (zac 0) (tC (.int 1))) (zac 0)) [none,none,some 5]) (zaf 2)) D σ H:=rfl
def zb1 (K:PySem.W.Frag):TS :=
 (zaV (za1 (zaq zdN [] E0 (zab (zac 0) (zab (zac 1) (zab (zac 2) zap)))) (zaf 3))
 (zaV (za1 (zbh (zgE K (zab (zac 0) (zab (zac 2) zap))) (zcj K 2 (zaD (zaf 0) (zaD (zaf 1) zck))) zaH (zaq zeb [] E0 (zab (zac 0) (zab (tOp (rI0 fun i j=>.int (i+j)) (zac 1) (tC (.int 1))) zap))) [none,none]) (zaf 4))
 (zaV (za1 (zaq zf3 [] E0 (zab (zac 4) zap)) (zaf 5))
 (zaV (zeG (zcY (zjy (tB (zaq zeS [] E0 (zab (zac 5) (zab (zac 3) zap))))) (zbq (zcs (zab (zac 2) (zab (zac 3) zap)))) zbr))
 (zbA K)))))
theorem zaQ (K:PySem.W.Frag) (D:zbU) (σ:St) (H:Hp):zb1 K D σ H=(zaV (za1 (zaq zdN [] E0 (zab (zac 0) (zab (zac 1) (zab (zac 2) zap)))) (zaf 3))
 (zaV (za1 (zbh (zgE K (zab (zac 0) (zab (zac 2) zap))) (zcj K 2 (zaD (zaf 0) (zaD (zaf 1) zck))) zaH (zaq zeb [] E0 (zab (zac 0) (zab (tOp (rI0 fun i j=>.int (i+j)) (zac 1) (tC (.int 1))) zap))) [none,none]) (zaf 4))
 (zaV (za1 (zaq zf3 [] E0 (zab (zac 4) zap)) (zaf 5))
 (zaV (zeG (zcY (zjy (tB (zaq zeS [] E0 (zab (zac 5) (zab (zac 3) zap))))) (zbq (zcs (zab (zac 2) (zab (zac 3) zap)))) zbr))
 (zbA K))))) D σ H:=rfl
def zbI (K:PySem.W.Frag):TS :=
 (zaV (za1 (zbh (zbM K (zac 0)) (zaf 0) zaH (tC (.int 0)) [none]) (zaf 2))
 (zha (tB (tC (.bl true))) (zb1 K)))
theorem zdP {l:Addr} {ts:List Addr} {bs:List Box} {bud:Int} (hl:H l=some (.lst (ts.map V.ref))) (T:Tps bx H ts bs) (gb:∀ b∈bs,GB b) (l1:1≤bs.length) (l6:bs.length≤6) (d0:0≤bud) (d1:bud≤60) (hs:(∀ b∈bs,b.2.1=b.2.2)→bud<(bs.map fun b=>b.1).sum)
  (q:∀ (r pl wr:Addr) (ns:List Int) (H':Hp),zaR H H'→H' r=some (.tup [.ref pl,.ref wr])→BP H' l pl ts bs ns→Lev bs ns bud (zdJ bs ns bud)→H' wr=some (.tup (fr (zdJ bs ns bud)))→Q (.ref r) H') :
  zbI K { nx:=fun _ H'=>Q .non H',rt:=Q } (L2.start ["boxes","budget","counts","worth","ends","end"] [.ref l,.int bud]) H:=by
 unfold zbI
 simp_all only [zaU,zaQ,zac]
 refine ⟨⟨_,SqL.of hl⟩,fun D hD=>?_⟩
 refine zca (vs:=(bs.map fun _=>(0:Int)).map V.int) hl (by simp [T.1]) (by simp;omega) hD (fun i x v H' R _ hv s k=>?_) fun H1 s1 h1=>?_
 ·obtain ⟨n,en,rfl⟩:=zaE hv
  obtain ⟨_,_,rfl⟩:=zaE en
  exact k _ (.refl _)
 refine zgj (fun σ H'=>zaR H H'∧∃ (pl:Addr) (ns:List Int) (t:Rat) (x y z:Option V),H' pl=some (.lst (ns.map V.int))∧Lev bs ns bud t∧σ=[some (.ref l),some (.int bud),some (.ref pl),x,y,z]) (zka bs bud) ⟨s1,D,_,0,_,_,_,h1,Lev.zero gb l1 d0,rfl⟩ ?_ ?_
 ·rintro σ H' ⟨s,pl,ns,t,x,y,z,hp,L,rfl⟩
  rw [zhm hp]
  have B:BP H' l pl ts bs ns:=⟨s _ _ hl,T.same s,hp,L.len,gb,fun n hn=>⟨L.n0 n hn,by have:=L.n59 n hn;omega⟩,l1,by omega⟩
  have W:=zem gb L.gn (zfN l1 L.len)
  simp_all only [zaU,zaQ,zac]
  refine ⟨l,pl,ts,bs,ns,bud,rfl,B,(by have:=L.cb;omega),L.gn,d0,d1,by grind,fun wr H2 s2 hw=>?_⟩
  have B2:=B.same s2
  refine ⟨⟨_,SqL.of B2.hl⟩,⟨_,SqL.of B2.hp⟩,fun D2 hD2=>?_⟩
  have lE:(List.zipWith nend bs ns).length=bs.length:=by rw [List.length_zipWith,L.len];omega
  refine zd2 (f:=fr) (qs:=List.zipWith nend bs ns) B2.hl B2.hp (by rw [lE,List.length_map,List.length_map,T.1,L.len];omega) (by omega) hD2 (fun i x z w H3 R hx hz hw s3 k=>?_) fun us H3 s3 h3 TE=>?_
  ·obtain ⟨a,ha,rfl⟩:=zaE hx
   obtain ⟨n,hn,rfl⟩:=zaE hz
   obtain ⟨b,hb1,hb2⟩:=B2.hb.at ha
   have e:=zfC hb1 hn hw
   subst e
   simp_all only [zaU,zaQ,zac]
   have:=L.n0 n (zar hn)
   have:=L.n59 n (zar hn)
   exact ⟨a,b,n+1,rfl,s3 _ _ hb2,gb b (zar hb1),by omega,by omega,k⟩
  ·have bE:∀ x∈List.zipWith nend bs ns,Bq 401 x:=zds _ fun i b n h1 h2=>zmJ (gb b (zar h1)) (by have:=L.n59 n (zar h2);omega)
   refine ⟨D2,us,_,rfl,h3,TE,by omega,fun x hx=>(bE x hx).mono (by decide),fun er E hE mE lE=>?_⟩
   have hw3:=s3 _ _ hw
   have mn:∀ x∈List.zip bs ns,E≤chq x.1 (x.2+1):=fun x hx=>by
    refine lE _ ?_
    rw [zdw]
    exact List.mem_map.mpr ⟨x,hx,rfl⟩
   have me:∃ x∈List.zip bs ns,chq x.1 (x.2+1)=E:=by
    rw [zdw] at mE
    obtain ⟨x,hx,e⟩:=List.mem_map.mp mE
    exact ⟨x,hx,e⟩
   have S3:=s2.trans s3
   refine ⟨fun σ H'=>H'=H3∧E<zdJ bs ns bud∧σ=[some (.ref l),some (.int bud),some (.ref pl),some (.ref wr),some (.ref D2),some (.ref er)],?_,?_⟩
   ·simp_all only [zaU,zaQ,zac]
    refine ⟨er,wr,E,_,rfl,hE,hw3,(bE E mE).mono (by decide),(zjU L gb l1 l6 d1).mono (by decide),?_⟩
    refine ⟨_,rfl,?_⟩
    by_cases c:E<zdJ bs ns bud
    ·rw [if_neg (by simp [c])]
     exact ⟨rfl,c⟩
    ·rw [if_pos (by simp [c])]
     have c':=Rat.not_lt.mp c
     refine ⟨by decide,fun p np=>?_⟩
     refine q p pl wr ns _ ((s.trans S3).add np) zah ((B.same S3).same (zal np _)) ⟨L.len,L.n0,L.n59,L.gn,fun x hx=>⟨Rat.le_trans (L.mid x hx).1 L.tw,Rat.le_trans c' (mn x hx)⟩,Rat.le_refl,L.cb⟩ (by rw [zaY (zaP hw3 np)];exact hw3)
   ·rintro σ H4 ⟨rfl,ve,rfl⟩
    simp_all only [zaU,zaQ,zac]
    obtain ⟨Lv,dn⟩:=L.step gb l1 d1 hs mn me ve
    have hp3:=S3 _ _ hp
    refine ⟨⟨_,SqL.of hp3⟩,⟨_,SqL.of h3⟩,fun D3 hD3=>?_⟩
    refine zec (vs:=(nxt E bs ns).map V.int) hp3 h3 ?_ ?_ hD3 (fun i x z v H5 R hx hz hv s5 k=>?_) fun H5 s5 h5=>?_
    ·rw [List.length_map,List.length_map,List.length_map,zie E bs ns L.len,TE.1,List.length_zipWith,L.len]
     omega
    ·rw [List.length_map,zie E bs ns L.len]
     omega
    ·obtain ⟨n,hn,rfl⟩:=zaE hx
     obtain ⟨a,ha,rfl⟩:=zaE hz
     obtain ⟨m,hm,rfl⟩:=zaE hv
     obtain ⟨f,hf1,hf2⟩:=TE.at ha
     have hi:=(List.getElem?_eq_some_iff.mp hn).1
     have hb:bs[i]?=some (bs[i]'(by rw [← L.len];exact hi)):=List.getElem?_eq_getElem (by rw [← L.len];exact hi)
     have e:=zfC hb hn hm
     have e2:=zfC hb hn hf1
     simp_all only [zaU,zaQ,zac]
     refine ⟨[f.num,(f.den:Int)],SqT.of (s5 _ _ hf2),[E.num,(E.den:Int)],SqT.of (s5 _ _ hE),?_⟩
     rw [e2,nend]
     by_cases c:chq (bs[i]'(by rw [← L.len];exact hi)) (n+1)=E
     ·rw [if_pos ((zmF _ _).mpr c)]
      rw [e,if_pos c] at k
      exact k _ (.refl _)
     ·rw [if_neg (fun z=>c ((zmF _ _).mp z))]
      rw [e,if_neg c] at k
      exact k _ (.refl _)
    ·exact ⟨s.trans (S3.trans s5),⟨D3,_,h5,E,Lv,rfl⟩,by rw [zhm h5];exact dn⟩
 ·rintro σ H1 Q1 Q2 hQ ⟨c,e,h⟩
  exact ⟨c,e,hQ _ _ h⟩
theorem za2:zaF ["boxes","budget","counts","worth","ends","end"] ["boxes","budget"] (zaj zba):=⟨rfl,rfl,rfl,by decide +kernel,rfl,by decide +kernel,by decide +kernel⟩
theorem zdT (T:Txt K mg a):zbT P w K mg base CX0 6 a.f_counts_and_worth a.d_counts_and_worth ["boxes","budget"] zgL:=by
 have G_below:=ziP (P:=P) (w:=w) (base:=base) T
 have G_chance:=zfc (P:=P) (w:=w) (base:=base) T
 have G_chance_for:=zgn (P:=P) (w:=w) (base:=base) T
 have G_least_chance:=ze8 (P:=P) (w:=w) (base:=base) T
 refine T.F_counts_and_worth.ok za2 (fun vs H Q E h=>?_) (fun cdv A outer s H vs Q E hr h=>?_)
 ·obtain ⟨l,ts,bs,bud,rfl,hl,T',gb,l1,l6,d0,d1,hs,q⟩:=h
  rfl
 obtain ⟨l,ts,bs,bud,rfl,hl,T',gb,l1,l6,d0,d1,hs,q⟩:=h
 exact ⟨zbI K,(zae (zbE (i:=2) za2.nd rfl rfl (sc:=zaj zba) (N:=["boxes","budget","counts","worth","ends","end"]) (Nc:=["box"]) (cap:=[none]) rfl rfl rfl (.of (by decide +kernel)) (zbj (pv 0)) (fun _ _ _ _=>(zam (i:=0) (show List.Nodup (["box"]:List Str) from by decide) rfl (Or.inl rfl))) (fun _ _ _ _=>zbb) (fun _ _ _ _=>zag))
 (zan (zf8 PassesOwn.never (zdt zfu) (zae (zaK (i:=3) za2.nd rfl (Or.inl rfl) (zak G_chance_for (hr.mono (by decide)) rfl T.m_chance_for T.F_chance_for.kp T.b_chance_for .nil zaI (zaa (pv 0) (zaa (pv 1) (zaa (pv 2) zad)))))
 (zae (zbE (i:=4) za2.nd rfl rfl (sc:=zaj zba) (N:=["boxes","budget","counts","worth","ends","end"]) (Nc:=["box","count"]) (cap:=[none,none]) rfl rfl rfl (.of (by decide +kernel)) (zdf rfl T.z_zip (zaa (pv 0) (zaa (pv 2) zad))) (fun _ _ _ _=>(zbk rfl (zao (zam (i:=0) (show List.Nodup (["box","count"]:List Str) from by decide) rfl (Or.inl rfl)) (zao (zam (i:=1) (show List.Nodup (["box","count"]:List Str) from by decide) rfl (Or.inl rfl)) za9)))) (fun _ _ _ _=>zbb) (fun _ _ _ _=>(zak G_chance (hr.mono (by decide)) rfl T.m_chance T.F_chance.kp T.b_chance .nil zaI (zaa (pv 0) (zaa (zat zbg (pv 1) zag) zad)))))
 (zae (zaK (i:=5) za2.nd rfl (Or.inr rfl) (zak G_least_chance (hr.mono (by decide)) rfl T.m_least_chance T.F_least_chance.kp T.b_least_chance .nil zaI (zaa (pv 4) zad)))
 (zae (zcC (zcB (zft (zdt (zak G_below (hr.mono (by decide)) rfl T.m_below T.F_below.kp T.b_below .nil zaI (zaa (pv 5) (zaa (pv 3) zad))))) (zan (zaL (zbe (zaa (pv 2) (zaa (pv 3) zad))))) zbi))
 (zan (zbE (i:=2) za2.nd rfl rfl (sc:=zaj zba) (N:=["boxes","budget","counts","worth","ends","end"]) (Nc:=["count","one","end"]) (cap:=[none,none,some 5]) rfl rfl rfl (.of (by decide +kernel)) (zdf rfl T.z_zip (zaa (pv 2) (zaa (pv 4) zad))) (fun _ _ _ _=>(zbk rfl (zao (zam (i:=0) (show List.Nodup (["count","one","end"]:List Str) from by decide) rfl (Or.inl rfl)) (zao (zam (i:=1) (show List.Nodup (["count","one","end"]:List Str) from by decide) rfl (Or.inl rfl)) za9)))) (fun _ _ _ _=>zbb) (fun _ _ _ _=>(ziH (zbz (zqa hr.units0) (pv 1) (pv 2) (zbB _)) (zat zbg (pv 0) zag) (pv 0)))))))))))),
  zdP hl T' gb l1 l6 d0 d1 hs q⟩
structure zjv (ns:List Int) (g:Int):Prop where
 g0:0≤g
 all:∀ n∈ns,g∣n
 most:∀ d:Int,(∀ n∈ns,d∣n)→d∣g
theorem zjv.ne {ns:List Int} {g n:Int} (h:zjv ns g) (hn:n∈ns) (n0:n≠0):0<g:=by
 have h1:=h.all n hn
 have h2:=h.g0
 refine Classical.byContradiction fun c=>n0 ?_
 have:g=0:=by omega
 subst this
 exact Int.zero_dvd.mp h1
theorem zjv.le {ns:List Int} {g n:Int} (h:zjv ns g) (hn:n∈ns) (n0:n≠0):g.natAbs≤n.natAbs:=Nat.le_of_dvd (by omega) (Int.natAbs_dvd_natAbs.mpr (h.all n hn))
theorem zjv.log {ns:List Int} {g n:Int} (h:zjv ns g) (hn:n∈ns) (n0:n≠0) (b:Bd 9000 n):g.natAbs.log2<9000:=zeA 9000 (by have:=h.ne hn n0;omega) (b.le (h.le hn n0))
def zf6:Sp:=fun vs H Q _=>∃ (l:Addr) (ns:List Int),vs=[.ref l]∧H l=some (.lst (ns.map V.int))∧∀ g:Int,zjv ns g→Q (.int g) H
def zbW (K:PySem.W.Frag):TS :=
 (zaV (za1 (tC (.int 0)) (zaf 1))
 (zaV (zid (zbM K (zac 0)) (zaf 2)
 (za1 (zaq zjf [] E0 (zab (zac 1) (zab (zac 2) zap))) (zaf 1)))
 (zbq (zac 1))))
theorem zek {l:Addr} {ns:List Int} (hl:H l=some (.lst (ns.map V.int))) (q:∀ g:Int,zjv ns g→Q (.int g) H) :
  zbW K { nx:=fun _ H'=>Q .non H',rt:=Q } (L2.start ["numbers","shared","number"] [.ref l]) H:=by
 unfold zbW
 simp_all only [zac]
 refine ⟨⟨_,SqL.of hl⟩,?_⟩
 refine zcf (K:=K) (xs:=ns.map V.int) (fun i σ H'=>H'=H∧∃ (g:Int) (x:Option V),zjv (ns.take i) g∧σ=[some (.ref l),some (.int g),x]) ⟨rfl,0,_,⟨by decide,by simp,fun d _=>Int.dvd_zero d⟩,rfl⟩ ?_ ?_ ?_
 ·rintro i σ H' _ ⟨rfl,_⟩
  exact SqL.of hl
 ·rintro i v σ H1 hx ⟨rfl,g,x,G,rfl⟩
  obtain ⟨n,en,rfl⟩:=zaE hx
  simp_all only [zac]
  refine ⟨g,n,rfl,rfl,_,⟨by omega,fun m hm=>?_,fun d hd=>?_⟩,rfl⟩
  ·rw [List.take_add_one,en] at hm
   rcases List.mem_append.mp hm with h | h
   ·exact Int.dvd_trans (Int.gcd_dvd_left ..) (G.all m h)
   ·have:m=n:=by simpa using h
    rw [this]
    exact Int.gcd_dvd_right ..
  ·rw [List.take_add_one,en] at hd
   exact Int.dvd_coe_gcd (G.most d fun m hm=>hd m (List.mem_append_left _ hm)) (hd n (List.mem_append_right _ (by simp)))
 ·rintro σ H1 ⟨rfl,g,x,G,rfl⟩
  rw [List.length_map,List.take_length] at G
  simp_all only [zac]
  exact q g G
theorem zbx:zaF ["numbers","shared","number"] ["numbers"] (zaj zb0):=⟨rfl,rfl,rfl,by decide +kernel,rfl,by decide +kernel,by decide +kernel⟩
theorem zcE (T:Txt K mg a):zbT P w K mg base CX0 2 a.f_shared_divisor a.d_shared_divisor ["numbers"] zf6:=by
 have G_divisor:=zei (P:=P) (w:=w) (base:=base) T
 refine T.F_shared_divisor.ok zbx (fun vs H Q E h=>?_) (fun cdv A outer s H vs Q E hr h=>?_)
 ·obtain ⟨l,ns,rfl,hl,q⟩:=h
  rfl
 obtain ⟨l,ns,rfl,hl,q⟩:=h
 exact ⟨zbW K,(zae (zaK (i:=1) zbx.nd rfl (Or.inl rfl) zag)
 (zae (zcT PassesOwn.never rfl (zbj (pv 0)) (zam (i:=2) zbx.nd rfl (Or.inl rfl))
 (zan (zaK (i:=1) zbx.nd rfl (Or.inl rfl) (zak G_divisor (hr.mono (by decide)) rfl T.m_divisor T.F_divisor.kp T.b_divisor .nil zaI (zaa (pv 1) (zaa (pv 2) zad))))))
 (zan (zaL (pv 1))))),
  zek hl q⟩
def zgd:Sp:=fun vs H Q _=>∃ (l:Addr) (ns:List Int) (m:Int),vs=[.ref l]∧H l=some (.lst (ns.map V.int))∧ns.length≤1000∧m∈ns∧m≠0∧Bd 9000 m∧∀ (r:Addr) (g:Int) (H':Hp),zaR H H'→zjv ns g→H' r=some (.lst ((ns.map fun n=>n.fdiv g).map V.int))→Q (.ref r) H'
def zgk (K:PySem.W.Frag):TS :=
 (zaV (za1 (zaq zf6 [] E0 (zab (zac 0) zap)) (zaf 1))
 (zbq (zbh (zbM K (zac 0)) (zaf 0) zaH (tOp (rI (fun _ j=>j≠0∧j.natAbs.log2<9000) fun i j=>.int (i.fdiv j)) (zac 0) (zac 1)) [none,some 1])))
theorem zkM {l:Addr} {ns:List Int} {m:Int} (hl:H l=some (.lst (ns.map V.int))) (l1:ns.length≤1000) (hm:m∈ns) (m0:m≠0) (mb:Bd 9000 m) (q:∀ (r:Addr) (g:Int) (H':Hp),zaR H H'→zjv ns g→H' r=some (.lst ((ns.map fun n=>n.fdiv g).map V.int))→Q (.ref r) H') :
  zgk K { nx:=fun _ H'=>Q .non H',rt:=Q } (L2.start ["weights","shared"] [.ref l]) H:=by
 unfold zgk
 simp_all only [zac]
 refine ⟨l,ns,rfl,hl,fun g G=>?_⟩
 refine ⟨⟨_,SqL.of hl⟩,fun D hD=>?_⟩
 refine zca (vs:=(ns.map fun n=>n.fdiv g).map V.int) hl (by simp) (by simpa using l1) hD (fun i x v H' R hx hv s k=>?_) fun H1 s1 h1=>q D g H1 s1 G h1
 obtain ⟨n,en,rfl⟩:=zaE hx
 obtain ⟨y,ey,rfl⟩:=zaE hv
 obtain ⟨n',en',rfl⟩:=zaE ey
 rw [en] at en'
 cases en'
 simp_all only [zac]
 exact ⟨by have:=G.ne hm m0;omega,G.log hm m0 mb,k _ (.refl _)⟩
theorem zgT:zaF ["weights","shared"] ["weights"] (zaj zeR):=⟨rfl,rfl,rfl,by decide +kernel,rfl,by decide +kernel,by decide +kernel⟩
theorem zk1 (T:Txt K mg a):zbT P w K mg base CX0 3 a.f_lowest a.d_lowest ["weights"] zgd:=by
 have G_shared_divisor:=zcE (P:=P) (w:=w) (base:=base) T
 refine T.F_lowest.ok zgT (fun vs H Q E h=>?_) (fun cdv A outer s H vs Q E hr h=>?_)
 ·obtain ⟨l,ns,m,rfl,hl,l1,hm,m0,mb,q⟩:=h
  rfl
 obtain ⟨l,ns,m,rfl,hl,l1,hm,m0,mb,q⟩:=h
 exact ⟨zgk K,(zae (zaK (i:=1) zgT.nd rfl (Or.inr rfl) (zak G_shared_divisor (hr.mono (by decide)) rfl T.m_shared_divisor T.F_shared_divisor.kp T.b_shared_divisor .nil zaI (zaa (pv 0) zad)))
 (zan (zaL (zbu (sc:=zaj zeR) (N:=["weights","shared"]) (Nc:=["weight","shared"]) (cap:=[none,some 1]) rfl rfl rfl (.of (by decide +kernel)) (zbj (pv 0)) (fun _ _ _ _=>(zam (i:=0) (show List.Nodup (["weight","shared"]:List Str) from by decide) rfl (Or.inl rfl))) (fun _ _ _ _=>zbb) (fun _ _ _ _=>(zat zb6 (pv 0) (pv 1))))))),
  zkM hl l1 hm m0 mb q⟩
def shq (V:Rat) (b:Box) (n:Int):Rat:=(V - chq b n) / gnq b n
def ziN:Sp:=fun vs H Q _=>∃ (l pl wr:Addr) (ts:List Addr) (bs:List Box) (ns:List Int) (W:Rat),vs=[.ref l,.ref pl,.ref wr]∧BP H l pl ts bs ns∧Gn bs ns∧H wr=some (.tup (fr W))∧Bq 1300 W∧∀ (r:Addr) (us:List Addr) (H':Hp),zaR H H'→H' r=some (.lst (us.map V.ref))→Tps fr H' us (List.zipWith (shq W) bs ns)→Q (.ref r) H'
def zcI (K:PySem.W.Frag):TS :=
 (zbq (zbh (zgE K (zab (zac 0) (zab (zac 1) zap))) (zcj K 2 (zaD (zaf 0) (zaD (zaf 1) zck))) zaH (zaq zgC [] E0 (zab (zaq ziI [] E0 (zab (zac 2) (zab (zaq zeb [] E0 (zab (zac 0) (zab (zac 1) zap))) zap))) (zab (zaq zik [] E0 (zab (zac 0) (zab (zac 1) zap))) zap))) [none,none,some 2]))
theorem zfG {l pl wr:Addr} {ts:List Addr} {bs:List Box} {ns:List Int} {W:Rat} (B:BP H l pl ts bs ns) (G:Gn bs ns) (hw:H wr=some (.tup (fr W))) (bW:Bq 1300 W) (q:∀ (r:Addr) (us:List Addr) (H':Hp),zaR H H'→H' r=some (.lst (us.map V.ref))→Tps fr H' us (List.zipWith (shq W) bs ns)→Q (.ref r) H') :
  zcI K { nx:=fun _ H'=>Q .non H',rt:=Q } (L2.start ["boxes","counts","worth"] [.ref l,.ref pl,.ref wr]) H:=by
 unfold zcI
 simp_all only [zac]
 have l6:=B.l6
 refine ⟨⟨_,SqL.of B.hl⟩,⟨_,SqL.of B.hp⟩,fun D hD=>?_⟩
 refine zd2 (f:=fr) (qs:=List.zipWith (shq W) bs ns) B.hl B.hp (by rw [List.length_zipWith,List.length_map,List.length_map,B.hb.1]) (by rw [List.length_zipWith];omega) hD (fun i x z w H3 R hx hz hv s3 k=>?_) fun us H3 s3 h3 TE=>q D us H3 s3 h3 TE
 obtain ⟨a,ha,rfl⟩:=zaE hx
 obtain ⟨n,hn,rfl⟩:=zaE hz
 obtain ⟨b,hb1,hb2⟩:=B.hb.at ha
 have e:=zfC hb1 hn hv
 subst e
 have g:=B.gb b (zar hb1)
 obtain ⟨n0,n1⟩:=B.gn n (zar hn)
 have bC:=zi6 g n
 have bG:=zjR g n
 simp_all only [zac]
 refine ⟨a,b,n,rfl,s3 _ _ hb2,g,n0,n1,fun c H4 s4 h4=>?_⟩
 refine ⟨wr,c,W,_,rfl,s4 _ _ (s3 _ _ hw),h4,bW.mono (by decide),bC.mono (by omega),fun d H5 s5 h5=>?_⟩
 refine ⟨a,b,n,rfl,s5 _ _ (s4 _ _ (s3 _ _ hb2)),g,n0,n1,fun e H6 s6 h6=>?_⟩
 exact ⟨d,e,_,_,rfl,s6 _ _ h5,h6,G i b n hb1 hn,(bW.sub2 bC).mono (by omega),bG.mono (by omega),fun r H7 s7 h7=>k r H7 (s4.trans (s5.trans (s6.trans s7))) h7⟩
theorem zfF:zaF ["boxes","counts","worth"] ["boxes","counts","worth"] (zaj zb5):=⟨rfl,rfl,rfl,by decide +kernel,rfl,by decide +kernel,by decide +kernel⟩
theorem zfJ (T:Txt K mg a):zbT P w K mg base CX0 4 a.f_look_shares a.d_look_shares ["boxes","counts","worth"] ziN:=by
 have G_chance:=zfc (P:=P) (w:=w) (base:=base) T
 have G_gain:=zjE (P:=P) (w:=w) (base:=base) T
 have G_minus:=zlg (P:=P) (w:=w) (base:=base) T
 have G_over:=zig (P:=P) (w:=w) (base:=base) T
 refine T.F_look_shares.ok zfF (fun vs H Q E h=>?_) (fun cdv A outer s H vs Q E hr h=>?_)
 ·obtain ⟨l,pl,wr,ts,bs,ns,W,rfl,B,G,hw,bW,q⟩:=h
  rfl
 obtain ⟨l,pl,wr,ts,bs,ns,W,rfl,B,G,hw,bW,q⟩:=h
 exact ⟨zcI K,(zan (zaL (zbu (sc:=zaj zb5) (N:=["boxes","counts","worth"]) (Nc:=["box","count","worth"]) (cap:=[none,none,some 2]) rfl rfl rfl (.of (by decide +kernel)) (zdf rfl T.z_zip (zaa (pv 0) (zaa (pv 1) zad))) (fun _ _ _ _=>(zbk rfl (zao (zam (i:=0) (show List.Nodup (["box","count","worth"]:List Str) from by decide) rfl (Or.inl rfl)) (zao (zam (i:=1) (show List.Nodup (["box","count","worth"]:List Str) from by decide) rfl (Or.inl rfl)) za9)))) (fun _ _ _ _=>zbb) (fun _ _ _ _=>(zak G_over (hr.mono (by decide)) rfl T.m_over T.F_over.kp T.b_over .nil zaI (zaa (zak G_minus (hr.mono (by decide)) rfl T.m_minus T.F_minus.kp T.b_minus .nil zaI (zaa (pv 2) (zaa (zak G_chance (hr.mono (by decide)) rfl T.m_chance T.F_chance.kp T.b_chance .nil zaI (zaa (pv 0) (zaa (pv 1) zad))) zad))) (zaa (zak G_gain (hr.mono (by decide)) rfl T.m_gain T.F_gain.kp T.b_gain .nil zaI (zaa (pv 0) (zaa (pv 1) zad))) zad))))))),
  zfG B G hw bW q⟩
theorem zpo {b:Box} (g:GB b) {n:Int} (n0:0≤n) (n1:n≤60) (gn:gnq b n≠0) {W:Rat} (bW:Bq 1300 W):Bq 2200 (shq W b n):=((bW.sub2 (zi6 g n)).div2 (zjR g n) gn).mono (by omega)
theorem Com.bd {m:Nat}:∀ {qs:List Rat} {D:Int},Com qs D→(∀ q∈qs,Bq m q)→Bd (m*qs.length+1) D:=by
 intro qs D C h
 have key:∀ rs:List Rat,(∀ q∈rs,Bq m q)→∃ M:Int,0<M∧Bd (m*rs.length+1) M∧∀ q∈rs,(q.den:Int)∣M:=by
  intro rs
  induction rs with
  | nil=>exact fun _=>⟨1,by decide,by show (1:Nat)<2 ^ _;exact Nat.one_lt_two_pow (by omega),by simp⟩
  | cons r rs ih =>
   intro h
   obtain ⟨M,M0,hM,hd⟩:=ih fun q hq=>h q (List.mem_cons_of_mem _ hq)
   refine ⟨(r.den:Int)*M,Int.mul_pos (zda r) M0,(((h r List.mem_cons_self).bot.mul hM).mono (by rw [List.length_cons,Nat.mul_add];omega)),fun q hq=>?_⟩
   rcases List.mem_cons.mp hq with rfl | hq
   ·exact Int.dvd_mul_right ..
   ·exact Int.dvd_trans (hd q hq) (Int.dvd_mul_left ..)
 obtain ⟨M,M0,hM,hd⟩:=key qs h
 exact hM.le (Nat.le_of_dvd (by omega) (Int.natAbs_dvd_natAbs.mpr (C.least M hd)))
theorem znW (t b:Int) (h:b≠0):((Rat.divInt t b).den:Int)∣b:=by
 rw [(zfP h).2]
 exact ⟨_,(zd8 t b).symm⟩
theorem zp6 {N D A M O X:Rat} (a1:D≠0) (a2:A≠0) (a3:M≠0) (a4:X≠0) (a5:O≠0):((N / D - (A - M) / A) / (M*X / (A*O)))=((N - D)*(A*O)+D*(M*O)) / (D*(M*X)):=by
 have h1:M*X / (A*O)≠0:=by
  rw [Rat.div_def]
  intro z
  rcases Rat.mul_eq_zero.mp z with h | h
  ·rcases Rat.mul_eq_zero.mp h with h | h
   ·exact a3 h
   ·exact a4 h
  ·have h9:A*O≠0:=fun z=>(Rat.mul_eq_zero.mp z).elim a2 a5
   have:=Rat.mul_inv_cancel _ h9
   rw [h] at this
   grind
 have h2:D*(M*X)≠0:=by
  intro z
  rcases Rat.mul_eq_zero.mp z with h | h
  ·exact a1 h
  ·rcases Rat.mul_eq_zero.mp h with h | h
   ·exact a3 h
   ·exact a4 h
 have h3:A*O≠0:=by
  intro z
  rcases Rat.mul_eq_zero.mp z with h | h
  ·exact a2 h
  ·exact a5 h
 have e1:((N - D)*(A*O)+D*(M*O)) / (D*(M*X))*(M*X / (A*O))=N / D - (A - M) / A:=by
  have e2:((N - D)*(A*O)+D*(M*O)) / (D*(M*X))*(M*X / (A*O))=((N - D)*(A*O)+D*(M*O)) / D / (A*O):=by grind
  rw [e2]
  have e3:N / D - (A - M) / A=(N - D) / D+M / A:=by grind
  rw [e3]
  have e4:((N - D)*(A*O)+D*(M*O)) / D / (A*O)=(N - D) / D+(D*(M*O)) / D / (A*O):=by grind
  rw [e4]
  grind
 rw [← e1]
 grind
theorem zpi {b:Box} (g:GB b) {n:Int} (n0:0≤n) (gn:gnq b n≠0) (W:Rat):((shq W b n).den:Int)∣(W.den:Int)*((b.2.2 - b.2.1) ^ n.toNat*b.2.1):=by
 have m0:(b.2.2 - b.2.1) ^ n.toNat*b.2.1≠0:=fun z=>by
  refine gn ?_
  unfold gnq
  rw [z,Rat.zero_divInt]
 have d0:=zbt W
 have o:=zcX g n
 have h:shq W b n=Rat.divInt ((W.num - W.den)*(b.2.2 ^ n.toNat*b.2.2)+W.den*((b.2.2 - b.2.1) ^ n.toNat*b.2.2)) ((W.den:Int)*((b.2.2 - b.2.1) ^ n.toNat*b.2.1)):=by
  unfold shq chq gnq
  have hW:=Rat.num_divInt_den W
  rw [Rat.divInt_eq_div] at hW ⊢
  rw [Rat.divInt_eq_div,Rat.divInt_eq_div]
  simp only [Rat.intCast_mul,Rat.intCast_add,Rat.intCast_sub] at *
  have a1:((W.den:Int):Rat)≠0:=fun z=>d0 (by exact_mod_cast z)
  have a2:((b.2.2 ^ n.toNat:Int):Rat)≠0:=fun z=>by
   have:(b.2.2 ^ n.toNat:Int)=0:=by exact_mod_cast z
   omega
  have a3:(((b.2.2 - b.2.1) ^ n.toNat:Int):Rat)≠0:=fun z=>by
   have:((b.2.2 - b.2.1) ^ n.toNat:Int)=0:=by exact_mod_cast z
   exact m0 (by rw [this,Int.zero_mul])
  have a4:(b.2.1:Rat)≠0:=fun z=>by
   have:b.2.1=0:=by exact_mod_cast z
   exact m0 (by rw [this,Int.mul_zero])
  have a5:(b.2.2:Rat)≠0:=fun z=>by
   have:b.2.2=0:=by exact_mod_cast z
   have:=g.2.2.1
   have:=g.2.2.2.1
   omega
  generalize ((b.2.2 ^ n.toNat:Int):Rat)=A at *
  generalize (((b.2.2 - b.2.1) ^ n.toNat:Int):Rat)=M at *
  generalize (b.2.2:Rat)=O at *
  generalize (b.2.1:Rat)=X at *
  generalize (W.num:Rat)=N at *
  generalize ((W.den:Int):Rat)=D at *
  rw [← hW]
  exact zp6 a1 a2 a3 a4 a5
 rw [h]
 exact znW _ _ (Int.mul_ne_zero d0 m0)
theorem znE {bs:List Box} {ns:List Int} {W:Rat} {D:Int} (gb:∀ b∈bs,GB b) (n0:∀ n∈ns,0≤n) (G:Gn bs ns) (l6:bs.length≤6) (cs:(zaO bs ns).sum≤60) (bW:Bq 1300 W) (C:Com (List.zipWith (shq W) bs ns) D):Bd 1800 D:=by
 have st:=zd5 bs ns gb n0
 have key:∀ xs:List (Box×Int),(∀ x∈xs,GB x.1∧0≤x.2∧gnq x.1 x.2≠0)→∃ M:Int,0<M∧Bd (6*(xs.map fun x=>x.2.toNat).sum+8*xs.length+1) M∧∀ x∈xs,(x.1.2.2 - x.1.2.1) ^ x.2.toNat*x.1.2.1∣M:=by
  intro xs
  induction xs with
  | nil=>exact fun _=>⟨1,by decide,by show (1:Nat)<2 ^ _;exact Nat.one_lt_two_pow (by omega),by simp⟩
  | cons x xs ih =>
   intro h
   obtain ⟨M,M0,hM,hd⟩:=ih fun y hy=>h y (List.mem_cons_of_mem _ hy)
   obtain ⟨g,x0,gx⟩:=h x List.mem_cons_self
   have z:(x.1.2.2 - x.1.2.1) ^ x.2.toNat*x.1.2.1≠0:=fun z=>by
    refine gx ?_
    unfold gnq
    rw [z,Rat.zero_divInt]
   obtain ⟨g1,g2,g3,g4,g5⟩:=g
   have p:=(ziC (b:=x.1.2.2 - x.1.2.1) (by omega) (by omega) x.2.toNat).1
   have p2:=Int.mul_nonneg p (show 0≤x.1.2.1 by omega)
   have hb:Bd 6 x.1.2.1:=by show x.1.2.1.natAbs<2 ^ 6;omega
   have b1:=((zcu (b:=x.1.2.2 - x.1.2.1) (by omega) (by omega) x.2.toNat).mul hb).mul hM
   refine ⟨_,Int.mul_pos (by omega) M0,b1.mono (by rw [List.map_cons,List.sum_cons,List.length_cons];omega),fun y hy=>?_⟩
   rcases List.mem_cons.mp hy with rfl | hy
   ·exact Int.dvd_mul_right ..
   ·exact Int.dvd_trans (hd y hy) (Int.dvd_mul_left ..)
 obtain ⟨M,M0,hM,hd⟩:=key (List.zip bs ns) fun x hx=>by
  obtain ⟨i,ei⟩:=List.getElem?_of_mem hx
  rw [List.getElem?_zip_eq_some] at ei
  exact ⟨gb _ (zar ei.1),n0 _ (zar ei.2),G i _ _ ei.1 ei.2⟩
 have zl:(List.zip bs ns).length≤6:=by rw [List.length_zip];omega
 have dv:D∣(W.den:Int)*M:=C.least _ (zds _ fun i b n e1 e2=>Int.dvd_trans (zpi (gb b (zar e1)) (n0 n (zar e2)) (G i b n e1 e2) W) (Int.mul_dvd_mul_left _ (hd (b,n) (List.mem_of_getElem? (List.getElem?_zip_eq_some.mpr ⟨e1,e2⟩)))))
 have pos:=Int.mul_pos (zda W) M0
 exact ((bW.bot.mul hM).le (Nat.le_of_dvd (by omega) (Int.natAbs_dvd_natAbs.mpr dv))).mono (by omega)
def wds (R:Int) (ms:List Int):List Int:=List.zipWith (fun a b=>b - a) ms (ms.drop 1++[R])
theorem ziY (R:Int):∀ ms:List Int,ms≠[]→∃ x∈ms,R - x∈wds R ms
 | [],n=>absurd rfl n
 | [x],_=>⟨x,by simp,by simp [wds]⟩
 | x::y::ms,_=>by
  obtain ⟨z,h1,h2⟩:=ziY R (y::ms) (by simp)
  exact ⟨z,List.mem_cons_of_mem _ h1,List.mem_cons_of_mem _ h2⟩
theorem zn7 (R:Int) (ms:List Int) (n:ms≠[]):(wds R ms).length=ms.length:=by
 have:=List.length_pos_iff.mpr n
 rw [wds,List.length_zipWith,List.length_append,List.length_drop,List.length_singleton]
 omega
open HT in
theorem cut1 (xs:List V):zed xs (some 1) none=xs.drop 1:=by
 unfold zed
 rw [zeO,show (some (1:Int))=some ((1:Nat):Int) from rfl,zgu]
 cases xs with
 | nil=>rfl
 | cons x xs =>
  rw [List.length_cons,show min 1 (xs.length+1)=1 by omega]
  exact List.take_of_length_le (by rw [List.length_drop,List.length_cons];omega)
def zic:Sp:=fun vs H Q _=>∃ (l pl wr:Addr) (ts:List Addr) (bs:List Box) (ns:List Int) (W:Rat),vs=[.ref l,.ref pl,.ref wr]∧BP H l pl ts bs ns∧Gn bs ns∧H wr=some (.tup (fr W))∧Bq 1300 W∧(zaO bs ns).sum≤60∧∀ (r:Addr) (H':Hp),zaR H H'→Q (.ref r) H'
def zeh (K:PySem.W.Frag):TS :=
 (zaV (za1 (zbh (zgE K (zab (zac 5) (zab (zac 3) zap))) (zcj K 2 (zaD (zaf 0) (zaD (zaf 1) zck))) zaH (tOp (rI0 fun i j=>.bl (decide (i<j))) (tOp (rI (fun _ j=>j≠0) fun i j=>.int (i.fmod j)) (tOp (rI0 fun i j=>.int (i - j)) (zac 3) (zac 0)) (zac 2)) (zac 1)) [none,none,some 4,some 10]) (zaf 12))
 (zaV (za1 (zbh (zgE K (zab (zac 1) (zab (zac 12) zap))) (zcj K 2 (zaD (zaf 0) (zaD (zaf 1) zck))) zaH (tIf (tTru K (zac 1)) (tOp (rI0 fun i j=>.int (i+j)) (zac 0) (tC (.int 1))) (zac 0)) [none,none]) (zaf 13))
 (zeI (tBM K "list" zbo (zac 9) (zab (zcs (zab (zac 13) (zab (zac 11) zap))) zap)))))
theorem za5 (K:PySem.W.Frag) (D:zbU) (σ:St) (H:Hp):zeh K D σ H=(zaV (za1 (zbh (zgE K (zab (zac 5) (zab (zac 3) zap))) (zcj K 2 (zaD (zaf 0) (zaD (zaf 1) zck))) zaH (tOp (rI0 fun i j=>.bl (decide (i<j))) (tOp (rI (fun _ j=>j≠0) fun i j=>.int (i.fmod j)) (tOp (rI0 fun i j=>.int (i - j)) (zac 3) (zac 0)) (zac 2)) (zac 1)) [none,none,some 4,some 10]) (zaf 12))
 (zaV (za1 (zbh (zgE K (zab (zac 1) (zab (zac 12) zap))) (zcj K 2 (zaD (zaf 0) (zaD (zaf 1) zck))) zaH (tIf (tTru K (zac 1)) (tOp (rI0 fun i j=>.int (i+j)) (zac 0) (tC (.int 1))) (zac 0)) [none,none]) (zaf 13))
 (zeI (tBM K "list" zbo (zac 9) (zab (zcs (zab (zac 13) (zab (zac 11) zap))) zap))))) D σ H:=rfl
def zfU (K:PySem.W.Frag):TS :=
 (zeI (tBM K "list" zbo (zac 5) (zab (tOp (rI (fun _ j=>j≠0) fun i j=>.int (i.fmod j)) (tOp (rI0 fun i j=>.int (i+j)) (tOp (zc1 K) (zac 5) (tUn (rU fun i=>.int (-i)) (tC (.int 1)))) (zac 6)) (zac 4)) zap)))
theorem za8 (K:PySem.W.Frag) (D:zbU) (σ:St) (H:Hp):zfU K D σ H=(zeI (tBM K "list" zbo (zac 5) (zab (tOp (rI (fun _ j=>j≠0) fun i j=>.int (i.fmod j)) (tOp (rI0 fun i j=>.int (i+j)) (tOp (zc1 K) (zac 5) (tUn (rU fun i=>.int (-i)) (tC (.int 1)))) (zac 6)) (zac 4)) zap))) D σ H:=rfl
def zfO (K:PySem.W.Frag):TS :=
 (zaV (za1 (tCB (zeL K) (zab (zac 5) zap)) (zaf 7))
 (zaV (za1 (zbh (zgE K (zab (zac 7) (zab (tOp zjx (tSl (zj5 K) (zac 7) (zfd (tC (.int 1))) zcb) (zdU (zab (zac 4) zap))) zap))) (zcj K 2 (zaD (zaf 0) (zaD (zaf 1) zck))) zaH (tOp (rI0 fun i j=>.int (i - j)) (zac 1) (zac 0)) [none,none]) (zaf 8))
 (zaV (za1 (zdU zap) (zaf 9))
 (zaV (zid (zgE K (zab (zac 7) (zab (zaq zgd [] E0 (zab (zac 8) zap)) zap))) (zcj K 2 (zaD (zaf 10) (zaD (zaf 11) zck)))
 (zeh K))
 (zbq (zac 9))))))
theorem za7 (K:PySem.W.Frag) (D:zbU) (σ:St) (H:Hp):zfO K D σ H=(zaV (za1 (tCB (zeL K) (zab (zac 5) zap)) (zaf 7))
 (zaV (za1 (zbh (zgE K (zab (zac 7) (zab (tOp zjx (tSl (zj5 K) (zac 7) (zfd (tC (.int 1))) zcb) (zdU (zab (zac 4) zap))) zap))) (zcj K 2 (zaD (zaf 0) (zaD (zaf 1) zck))) zaH (tOp (rI0 fun i j=>.int (i - j)) (zac 1) (zac 0)) [none,none]) (zaf 8))
 (zaV (za1 (zdU zap) (zaf 9))
 (zaV (zid (zgE K (zab (zac 7) (zab (zaq zgd [] E0 (zab (zac 8) zap)) zap))) (zcj K 2 (zaD (zaf 10) (zaD (zaf 11) zck)))
 (zeh K))
 (zbq (zac 9)))))) D σ H:=rfl
def zgr (K:PySem.W.Frag):TS :=
 (zaV (za1 (zaq zf0 [] E0 (zab (zaq ziN [] E0 (zab (zac 0) (zab (zac 1) (zab (zac 2) zap)))) zap)) (zcj K 2 (zaD (zaf 3) (zaD (zaf 4) zck))))
 (zaV (za1 (zdU (zab (tC (.int 0)) zap)) (zaf 5))
 (zaV (zid (zbM K (zac 3)) (zaf 6)
 (zfU K))
 (zfO K))))
theorem zjZ {l pl wr:Addr} {ts:List Addr} {bs:List Box} {ns:List Int} {W:Rat} (B:BP H l pl ts bs ns) (G:Gn bs ns) (hw:H wr=some (.tup (fr W))) (bW:Bq 1300 W) (cs:(zaO bs ns).sum≤60) (q:∀ (r:Addr) (H':Hp),zaR H H'→Q (.ref r) H') :
  zgr K { nx:=fun _ H'=>Q .non H',rt:=Q } (L2.start ["boxes","counts","worth","lengths","ring","starts","length","edges","widths","mix","edge","weight","more","plan"] [.ref l,.ref pl,.ref wr]) H:=by
 unfold zgr
 have l6:=B.l6
 simp_all only [za5,za8,za7,zac]
 refine ⟨l,pl,wr,ts,bs,ns,W,rfl,B,G,hw,bW,fun sr us H1 s1 h1 T1=>?_⟩
 have lq:(List.zipWith (shq W) bs ns).length=bs.length:=by rw [List.length_zipWith,B.len];omega
 have bq:∀ x∈List.zipWith (shq W) bs ns,Bq 2200 x:=zds _ fun i b n h1 h2=>zpo (B.gb b (zar h1)) (B.gn n (zar h2)).1 (B.gn n (zar h2)).2 (G i b n h1 h2) bW
 refine ⟨sr,us,_,rfl,h1,T1,by omega,bq,fun cr tl R H2 s2 C h2 ntl htl=>?_⟩
 have R0:=C.pos
 have bR:Bd 1800 R:=znE B.gb (fun n hn=>(B.gn n hn).1) G l6 cs bW C
 generalize hls:((List.zipWith (shq W) bs ns).map fun q=>q.num*(R / q.den))=ls at htl
 have ll:ls.length=bs.length:=by rw [← hls,List.length_map,lq]
 simp_all only [za5,za8,za7,zac]
 refine ⟨_,SqT.of h2,rfl,_,_,rfl,_,_,rfl,rfl,by decide,fun sl nsl=>?_⟩
 have s3:=zal nsl (.lst [V.int 0])
 have h3:(L2.upd H2 sl (.lst [V.int 0])) sl=some (.lst [V.int 0]):=zah
 generalize L2.upd H2 sl (.lst [V.int 0])=H3 at s3 h3 ⊢
 have htl3:=s3 _ _ htl
 refine ⟨_,rfl,⟨_,SqL.of htl3⟩,?_⟩
 refine zcf (K:=K) (xs:=ls.map V.int) (fun i σ H'=>zaR H2 H'∧∃ (ss:List Int) (x:Option V),H' sl=some (.lst (ss.map V.int))∧ss.length=i+1∧(∀ s∈ss,0≤s∧s<R)∧σ=[some (.ref l),some (.ref pl),some (.ref wr),some (.ref tl),some (.int R),some (.ref sl),x,none,none,none,none,none,none,none]) ⟨s3,[0],_,h3,rfl,by simp;exact R0,rfl⟩ ?_ ?_ ?_
 ·rintro i σ H' _ ⟨s,_⟩
  exact SqL.of (s _ _ htl)
 ·rintro i v σ H4 hx ⟨s4,ss,x,h4,lss,hss,rfl⟩
  obtain ⟨n,en,rfl⟩:=zaE hx
  have li:=(List.getElem?_eq_some_iff.mp en).1
  obtain ⟨ss',s',rfl⟩:∃ ss' s',ss=ss'++[s']:=⟨ss.dropLast,ss.getLast (by intro z;rw [z] at lss;simp at lss),(List.dropLast_concat_getLast _).symm⟩
  have f0:=Int.fmod_nonneg_of_pos (s'+n) R0
  have f1:=Int.fmod_lt_of_pos (s'+n) R0
  simp_all only [za5,za8,za7,zac]
  refine ⟨.inl ⟨rfl,_,SqL.of h4⟩,_,SqL.of h4,_,by rw [List.map_append];exact zl5 _ _,_,rfl,by omega,_,h4,zbd (by rw [List.length_map];omega),s4.put nsl,ss'++[s']++[(s'+n).fmod R],by rw [zah,List.map_append (l₂:=[(s'+n).fmod R])];rfl,by rw [List.length_append,lss];rfl,fun s hs=>?_⟩
  rcases List.mem_append.mp hs with z | z
  ·exact hss s z
  ·rw [List.mem_singleton.mp z]
   exact ⟨f0,f1⟩
 ·rintro σ H4 ⟨s4,ss,x,h4,lss,hss,rfl⟩
  rw [List.length_map] at lss
  simp_all only [za5,za8,za7,zac]
  refine ⟨_,SqL.of h4,by omega,fun el ms nel mem srt lms=>?_⟩
  have s5:=zal nel (.lst (ms.map V.int))
  have h5:(L2.upd H4 el (.lst (ms.map V.int))) el=some (.lst (ms.map V.int)):=zah
  generalize L2.upd H4 el (.lst (ms.map V.int))=H5 at s5 h5 ⊢
  have mne:ms≠[]:=fun z=>by
   rw [z] at mem
   cases ss with
   | nil=>simp at lss
   | cons s ss=>exact absurd ((mem s).mpr List.mem_cons_self) (by simp)
  have lm:=zn7 R ms mne
  refine ⟨_,SqL.of h5,fun e2 ne2=>?_⟩
  have s6:=zal ne2 (.lst (zed (ms.map V.int) (some 1) none))
  have h6:(L2.upd H5 e2 (.lst (zed (ms.map V.int) (some 1) none))) e2=some (.lst (zed (ms.map V.int) (some 1) none)):=zah
  generalize L2.upd H5 e2 (.lst (zed (ms.map V.int) (some 1) none))=H6 at s6 h6 ⊢
  rw [cut1] at h6
  refine ⟨by decide,fun e3 ne3=>?_⟩
  have s7:=zal ne3 (.lst [V.int R])
  have h7:(L2.upd H6 e3 (.lst [V.int R])) e3=some (.lst [V.int R]):=zah
  generalize L2.upd H6 e3 (.lst [V.int R])=H7 at s7 h7 ⊢
  refine ⟨_,s7 _ _ h6,_,h7,?_,fun e4 ne4=>?_⟩
  ·have:((ms.map V.int).drop 1).length≤1000:=by rw [List.length_drop,List.length_map];omega
   exact Nat.le_trans (Nat.succ_le_succ this) (by decide)
  have s8:=zal ne4 (.lst ((ms.map V.int).drop 1++[V.int R]))
  have h8:(L2.upd H7 e4 (.lst ((ms.map V.int).drop 1++[V.int R]))) e4=some (.lst ((ms.map V.int).drop 1++[V.int R])):=zah
  generalize L2.upd H7 e4 (.lst ((ms.map V.int).drop 1++[V.int R]))=H8 at s8 h8 ⊢
  have S8:=s5.trans (s6.trans (s7.trans s8))
  have h5':=s8 _ _ (s7 _ _ (s6 _ _ h5))
  refine ⟨⟨_,SqL.of h5'⟩,⟨_,SqL.of h8⟩,fun D hD=>?_⟩
  have e8:(ms.map V.int).drop 1++[V.int R]=(ms.drop 1++[R]).map V.int:=by rw [List.map_append,List.map_drop];rfl
  rw [e8] at h8
  refine zec (vs:=(wds R ms).map V.int) h5' h8 ?_ ?_ hD (fun i x z v H9 R' hx hz hv s9 k=>?_) fun H9 s9 h9=>?_
  ·rw [List.length_map,List.length_map,List.length_map,wds,List.length_zipWith]
  ·rw [List.length_map]
   omega
  ·obtain ⟨a,ha,rfl⟩:=zaE hx
   obtain ⟨b,hb,rfl⟩:=zaE hz
   obtain ⟨c,hc,rfl⟩:=zaE hv
   have e:=zfC ha hb hc
   subst e
   simp_all only [za5,za8,za7,zac]
   exact k _ (.refl _)
  ·refine ⟨by decide,fun ml nml=>?_⟩
   have sa:=zal nml (.lst [])
   have ha:(L2.upd H9 ml (.lst [])) ml=some (.lst []):=zah
   generalize L2.upd H9 ml (.lst [])=Ha at sa ha ⊢
   obtain ⟨x0,hx0,wx0⟩:=ziY R ms mne
   obtain ⟨x1,x2⟩:=hss x0 ((mem x0).mp hx0)
   have bw:Bd 9000 (R - x0):=(bR.le (by omega)).mono (by decide)
   refine ⟨D,wds R ms,R - x0,rfl,sa _ _ h9,by omega,wx0,by omega,bw,fun lo g Hb sb Gg hb=>?_⟩
   have Sb:=S8.trans (s9.trans (sa.trans sb))
   have h5b:=sb _ _ (sa _ _ (s9 _ _ h5'))
   refine ⟨_,rfl,⟨_,SqL.of h5b⟩,⟨_,SqL.of hb⟩,?_⟩
   have S9:zaR H2 H9:=s4.trans (S8.trans s9)
   have Sab:zaR H9 Hb:=sa.trans sb
   refine zlV (K:=K) (xs:=ms.map V.int) (ys:=((wds R ms).map fun n=>n.fdiv g).map V.int) (fun i σ H'=>zaR H9 H'∧H' el=some (.lst (ms.map V.int))∧H' lo=some (.lst (((wds R ms).map fun n=>n.fdiv g).map V.int))∧∃ (ys:List V) (y1 y2 y3 y4:Option V),H' ml=some (.lst ys)∧ys.length≤i∧σ=[some (.ref l),some (.ref pl),some (.ref wr),some (.ref tl),some (.int R),some (.ref sl),x,some (.ref el),some (.ref D),some (.ref ml),y1,y2,y3,y4]) ⟨Sab,h5b,hb,[],_,_,_,_,sb _ _ ha,by simp,rfl⟩ ?_ ?_ ?_
   ·rintro i σ H' _ ⟨_,h1,h2,_⟩
    exact ⟨SqL.of h1,SqL.of h2⟩
   ·rintro i v1 v2 t σ Hc hv1 hv2 ⟨sc,hec,hlc,ys,y1,y2,y3,y4,hmc,ly,rfl⟩ ht
    obtain ⟨e,ee,rfl⟩:=zaE hv1
    obtain ⟨wt,ew,rfl⟩:=zaE hv2
    have li:=(List.getElem?_eq_some_iff.mp ee).1
    simp_all only [za5,za8,za7,zac]
    have sd:=zal ht (.tup [V.int e,V.int wt])
    have hd:(L2.upd Hc t (.tup [V.int e,V.int wt])) t=some (.tup [V.int e,V.int wt]):=zah
    generalize L2.upd Hc t (.tup [V.int e,V.int wt])=Hd at sd hd ⊢
    refine ⟨_,SqT.of hd,rfl,_,_,rfl,_,_,rfl,rfl,?_⟩
    have S9d:zaR H9 Hd:=sc.trans sd
    have Sd:zaR H4 Hd:=S8.trans (s9.trans S9d)
    have hsd:=Sd _ _ h4
    have htd:Hd tl=some (.lst (ls.map V.int)):=S9d _ _ (S9 _ _ htl)
    have hpd:Hd pl=some (.lst (ns.map V.int)):=S9d _ _ (S9 _ _ (s2 _ _ (s1 _ _ B.hp)))
    refine ⟨⟨_,SqL.of hsd⟩,⟨_,SqL.of htd⟩,fun D1 hD1=>?_⟩
    refine zec (vs:=(List.zipWith (fun s n=>decide ((e - s).fmod R<n)) ss ls).map V.bl) hsd htd (by rw [List.length_map,List.length_map,List.length_map,List.length_zipWith]) (by rw [List.length_map,List.length_zipWith];omega) hD1 (fun i x z v H' R' hx hz hv s k=>?_) fun He se he=>?_
    ·obtain ⟨a,ha,rfl⟩:=zaE hx
     obtain ⟨b,hb,rfl⟩:=zaE hz
     obtain ⟨c,hc,rfl⟩:=zaE hv
     have e:=zfC ha hb hc
     subst e
     simp_all only [za5,za8,za7,zac]
     exact ⟨by omega,k _ (.refl _)⟩
    have hpe:=se _ _ hpd
    simp_all only [za5,za8,za7,zac]
    refine ⟨⟨_,SqL.of hpe⟩,⟨_,SqL.of he⟩,fun D2 hD2=>?_⟩
    refine zec (vs:=(List.zipWith (fun n (b:Bool)=>if b=true then n+1 else n) ns (List.zipWith (fun s n=>decide ((e - s).fmod R<n)) ss ls)).map V.int) hpe he (by rw [List.length_map,List.length_map,List.length_map,List.length_zipWith]) (by rw [List.length_map,List.length_zipWith,B.len];omega) hD2 (fun i x z v H' R' hx hz hv s k=>?_) fun Hf sf hf=>?_
    ·obtain ⟨a,ha,rfl⟩:=zaE hx
     obtain ⟨b,hb,rfl⟩:=zaE hz
     obtain ⟨c,hc,rfl⟩:=zaE hv
     have e:=zfC ha hb hc
     subst e
     simp_all only [za5,za8,za7,zac]
     by_cases c:b=true
     ·rw [if_pos c] at k ⊢
      exact k _ (.refl _)
     ·rw [if_neg c] at k ⊢
      exact k _ (.refl _)
    have Sf:zaR Hc Hf:=sd.trans (se.trans sf)
    refine ⟨.inl ⟨rfl,_,SqL.of (Sf _ _ hmc)⟩,by decide,fun p np=>?_⟩
    have sg:=zal np (.tup [V.ref D2,V.int wt])
    have hg:(L2.upd Hf p (.tup [V.ref D2,V.int wt])) p=some (.tup [V.ref D2,V.int wt]):=zah
    generalize L2.upd Hf p (.tup [V.ref D2,V.int wt])=Hg at sg hg ⊢
    have Sg:=Sf.trans sg
    have eml:el≠ml:=zaP (s9 _ _ h5') nml
    have lml:lo≠ml:=fun z=>by
     subst z
     have z1:=sb _ _ ha
     rw [hb] at z1
     have z2:=congrArg List.length (HO.lst.inj (Option.some.inj z1))
     rw [List.length_map,List.length_map,lm] at z2
     exact mne (List.length_eq_zero_iff.mp z2)
    refine ⟨_,Sg _ _ hmc,zbd (by omega),(sc.trans Sg).put nml,by rw [zaY eml];exact Sg _ _ hec,by rw [zaY lml];exact Sg _ _ hlc,_,zah,by rw [List.length_append];exact Nat.succ_le_succ ly⟩
   ·rintro σ Hc ⟨sc,hec,hlc,ys,y1,y2,y3,y4,hmc,ly,rfl⟩
    simp_all only [za5,za8,za7,zac]
    exact q ml Hc (s1.trans (s2.trans (S9.trans sc)))
theorem zbp:zaF ["boxes","counts","worth","lengths","ring","starts","length","edges","widths","mix","edge","weight","more","plan"] ["boxes","counts","worth"] (zaj zdq):=⟨rfl,rfl,rfl,by decide +kernel,rfl,by decide +kernel,by decide +kernel⟩
theorem zk7 (T:Txt K mg a):zbT P w K mg base CX0 5 a.f_mix_of a.d_mix_of ["boxes","counts","worth"] zic:=by
 have G_common:=zg4 (P:=P) (w:=w) (base:=base) T
 have G_look_shares:=zfJ (P:=P) (w:=w) (base:=base) T
 have G_lowest:=zk1 (P:=P) (w:=w) (base:=base) T
 refine T.F_mix_of.ok zbp (fun vs H Q E h=>?_) (fun cdv A outer s H vs Q E hr h=>?_)
 ·obtain ⟨l,pl,wr,ts,bs,ns,W,rfl,B,G,hw,bW,cs,q⟩:=h
  rfl
 obtain ⟨l,pl,wr,ts,bs,ns,W,rfl,B,G,hw,bW,cs,q⟩:=h
 exact ⟨zgr K,(zae (zdd (zak G_common (hr.mono (by decide)) rfl T.m_common T.F_common.kp T.b_common .nil zaI (zaa (zak G_look_shares (hr.mono (by decide)) rfl T.m_look_shares T.F_look_shares.kp T.b_look_shares .nil zaI (zaa (pv 0) (zaa (pv 1) (zaa (pv 2) zad)))) zad)) (zbk rfl (zao (zam (i:=3) zbp.nd rfl (Or.inl rfl)) (zao (zam (i:=4) zbp.nd rfl (Or.inr rfl)) za9))))
 (zae (zaK (i:=5) zbp.nd rfl (Or.inl rfl) (zbN (zaa zag zad)))
 (zae (zcT PassesOwn.never rfl (zbj (pv 3)) (zam (i:=6) zbp.nd rfl (Or.inl rfl))
 (zan (zeq (zl6 PySem.F.plainAttrs_list PySem.F.slot_list_append PySem.F.type_list_append zdZ (pv 5) (zaa (zat zeg (zat zbg (zaN zbw (pv 5) (zqX zmR zag) (fun _ _=>rfl)) (pv 6)) (pv 4)) zad)))))
 (zae (zaK (i:=7) zbp.nd rfl (Or.inl rfl) (zjd rfl T.z_sorted rfl T.z_set (zaa (pv 5) zad)))
 (zae (zbE (i:=8) zbp.nd rfl rfl (sc:=zaj zdq) (N:=["boxes","counts","worth","lengths","ring","starts","length","edges","widths","mix","edge","weight","more","plan"]) (Nc:=["ahead","behind"]) (cap:=[none,none]) rfl rfl rfl (.of (by decide +kernel)) (zdf rfl T.z_zip (zaa (pv 7) (zaa (zat zeD (zco zdc (pv 7) (zc3 zag) zdh) (zbN (zaa (pv 4) zad))) zad))) (fun _ _ _ _=>(zbk rfl (zao (zam (i:=0) (show List.Nodup (["ahead","behind"]:List Str) from by decide) rfl (Or.inl rfl)) (zao (zam (i:=1) (show List.Nodup (["ahead","behind"]:List Str) from by decide) rfl (Or.inl rfl)) za9)))) (fun _ _ _ _=>zbb) (fun _ _ _ _=>(zat zcW (pv 1) (pv 0))))
 (zae (zaK (i:=9) zbp.nd rfl (Or.inl rfl) (zbN zad))
 (zae (zcT PassesOwn.never rfl (zdf rfl T.z_zip (zaa (pv 7) (zaa (zak G_lowest (hr.mono (by decide)) rfl T.m_lowest T.F_lowest.kp T.b_lowest .nil zaI (zaa (pv 8) zad)) zad))) (zbk rfl (zao (zam (i:=10) zbp.nd rfl (Or.inr rfl)) (zao (zam (i:=11) zbp.nd rfl (Or.inl rfl)) za9)))
 (zae (zbE (i:=12) zbp.nd rfl rfl (sc:=zaj zdq) (N:=["boxes","counts","worth","lengths","ring","starts","length","edges","widths","mix","edge","weight","more","plan"]) (Nc:=["start","length","ring","edge"]) (cap:=[none,none,some 4,some 10]) rfl rfl rfl (.of (by decide +kernel)) (zdf rfl T.z_zip (zaa (pv 5) (zaa (pv 3) zad))) (fun _ _ _ _=>(zbk rfl (zao (zam (i:=0) (show List.Nodup (["start","length","ring","edge"]:List Str) from by decide) rfl (Or.inl rfl)) (zao (zam (i:=1) (show List.Nodup (["start","length","ring","edge"]:List Str) from by decide) rfl (Or.inl rfl)) za9)))) (fun _ _ _ _=>zbb) (fun _ _ _ _=>(ze7 zjj (zat zeg (zat zcW (pv 3) (pv 0)) (pv 2)) (pv 1) (zbB _))))
 (zae (zbE (i:=13) zbp.nd rfl rfl (sc:=zaj zdq) (N:=["boxes","counts","worth","lengths","ring","starts","length","edges","widths","mix","edge","weight","more","plan"]) (Nc:=["count","one"]) (cap:=[none,none]) rfl rfl rfl (.of (by decide +kernel)) (zdf rfl T.z_zip (zaa (pv 1) (zaa (pv 12) zad))) (fun _ _ _ _=>(zbk rfl (zao (zam (i:=0) (show List.Nodup (["count","one"]:List Str) from by decide) rfl (Or.inl rfl)) (zao (zam (i:=1) (show List.Nodup (["count","one"]:List Str) from by decide) rfl (Or.inl rfl)) za9)))) (fun _ _ _ _=>zbb) (fun _ _ _ _=>(ziH (zi0 (pv 1) (fun _=>rfl)) (zat zbg (pv 0) zag) (pv 0))))
 (zan (zeq (zl6 PySem.F.plainAttrs_list PySem.F.slot_list_append PySem.F.type_list_append zdZ (pv 9) (zaa (zbe (zaa (pv 13) (zaa (pv 11) zad))) zad)))))))
 (zan (zaL (pv 9)))))))))),
  zjZ B G hw bW cs q⟩
def zep (K:PySem.W.Frag):TS :=
 (zbq (zf9 (tCB (zlc K) (zab (zac 0) (zab (tC (.ty "int")) zap))) (zno (tCB (zlc K) (zab (zac 0) (zab (tC (.ty "bool")) zap))))))
theorem zhU {x:Int} (q:Q (.bl true) H):zep K { nx:=fun _ H'=>Q .non H',rt:=Q } (L2.start ["thing"] [.int x]) H:=by
 unfold zep
 simp_all only [zac]
 refine zhR ⟨_,rfl,zoP ?_⟩
 exact zhI ⟨_,rfl,q⟩
theorem zh5:zaF ["thing"] ["thing"] (zaj zez):=⟨rfl,rfl,rfl,by decide +kernel,rfl,by decide +kernel,by decide +kernel⟩
theorem zh9 (T:Txt K mg a):zbT P w K mg base CX0 1 a.f_is_whole a.d_is_whole ["thing"] zku:=by
 refine T.F_is_whole.ok zh5 (fun vs H Q E h=>?_) (fun cdv A outer s H vs Q E hr h=>?_)
 ·obtain ⟨x,rfl,q⟩:=h
  rfl
 obtain ⟨x,rfl,q⟩:=h
 exact ⟨zep K,(zan (zaL (zhK (za6 zcM rfl T.z_isinstance PyProof.Rows.boot_isinstance (zaa (pv 0) (zaa (zfZ rfl T.z_int zlw rfl) zad))) (ziD (zpE (za6 zcM rfl T.z_isinstance PyProof.Rows.boot_isinstance (zaa (pv 0) (zaa (zfZ rfl T.z_bool zj6 rfl) zad)))))))),
  zhU q⟩
def zdI:TS :=
 (zbq (zf9 (zaq zku [] E0 (zab (zac 0) zap)) (zht (rI0 fun i j=>.bl (decide (i≤j))) (rI0 fun i j=>.bl (decide (i≤j))) (zac 1) (zac 0) (zac 2))))
theorem zgW {x l m:Int} (h1:l≤x) (h2:x≤m) (q:Q (.bl true) H):zdI { nx:=fun _ H'=>Q .non H',rt:=Q } (L2.start ["thing","least","most"] [.int x,.int l,.int m]) H:=by
 unfold zdI
 simp_all only [zac]
 refine ⟨x,rfl,true,rfl,zoP ?_⟩
 refine zeH (fun _=>?_) (fun z=>absurd h1 z)
 rw [decide_eq_true h2]
 exact q
theorem zhd:zaF ["thing","least","most"] ["thing","least","most"] (zaj zdE):=⟨rfl,rfl,rfl,by decide +kernel,rfl,by decide +kernel,by decide +kernel⟩
theorem zeC (T:Txt K mg a):zbT P w K mg base CX0 2 a.f_is_within a.d_is_within ["thing","least","most"] zcn:=by
 have G_is_whole:=zh9 (P:=P) (w:=w) (base:=base) T
 refine T.F_is_within.ok zhd (fun vs H Q E h=>?_) (fun cdv A outer s H vs Q E hr h=>?_)
 ·obtain ⟨x,l,m,rfl,h1,h2,q⟩:=h
  rfl
 obtain ⟨x,l,m,rfl,h1,h2,q⟩:=h
 exact ⟨zdI,(zan (zaL (zhK (zak G_is_whole (hr.mono (by decide)) rfl T.m_is_whole T.F_is_whole.kp T.b_is_whole .nil zaI (zaa (pv 0) zad)) (ziD (zlJ zix zix (pv 1) (pv 0) (pv 2)))))),
  zgW h1 h2 q⟩
def zfV (K:PySem.W.Frag):TS :=
 (zaV (za1 (zac 0) (zcj K 3 (zaD (zaf 1) (zaD (zaf 2) (zaD (zaf 3) zck)))))
 (zbq (zf9 (zaq zcn [] E0 (zab (zac 1) (zab (tC (.int 1)) (zab (tC (.int 60)) zap)))) (zf9 (zaq zcn [] E0 (zab (zac 3) (zab (tC (.int 1)) (zab (tC (.int 50)) zap)))) (zaq zcn [] E0 (zab (zac 2) (zab (tC (.int 1)) (zab (zac 3) zap))))))))
theorem zcK (K:PySem.W.Frag) (D:zbU) (σ:St) (H:Hp):zfV K D σ H=(zaV (za1 (zac 0) (zcj K 3 (zaD (zaf 1) (zaD (zaf 2) (zaD (zaf 3) zck)))))
 (zbq (zf9 (zaq zcn [] E0 (zab (zac 1) (zab (tC (.int 1)) (zab (tC (.int 60)) zap)))) (zf9 (zaq zcn [] E0 (zab (zac 3) (zab (tC (.int 1)) (zab (tC (.int 50)) zap)))) (zaq zcn [] E0 (zab (zac 2) (zab (tC (.int 1)) (zab (zac 3) zap)))))))) D σ H:=rfl
def zfT (K:PySem.W.Frag):TS :=
 (zcY (tOr (zjy (tB (tCB (zlc K) (zab (zac 0) (zab (tC (.ty "tuple")) zap))))) (zby (tOp rNe (tCB (fun xs H Q=>∃ p ys,xs=[.ref p]∧(SqL K H p ys∨SqT K H p ys)∧Q (.int ys.length) H) (zab (zac 0) zap)) (tC (.int 3))))) (zbq (tC (.bl false))) zbr)
theorem zcQ (K:PySem.W.Frag) (D:zbU) (σ:St) (H:Hp):zfT K D σ H=(zcY (tOr (zjy (tB (tCB (zlc K) (zab (zac 0) (zab (tC (.ty "tuple")) zap))))) (zby (tOp rNe (tCB (fun xs H Q=>∃ p ys,xs=[.ref p]∧(SqL K H p ys∨SqT K H p ys)∧Q (.int ys.length) H) (zab (zac 0) zap)) (tC (.int 3))))) (zbq (tC (.bl false))) zbr) D σ H:=rfl
def zgF (K:PySem.W.Frag):TS :=
 (zaV (zeG (zfT K))
 (zfV K))
theorem zjT {p:Addr} {b:Box} (hp:H p=some (.tup (bx b))) (g:GB b) (q:Q (.bl true) H):zgF K { nx:=fun _ H'=>Q .non H',rt:=Q } (L2.start ["thing","cost","hits","of"] [.ref p]) H:=by
 unfold zgF
 obtain ⟨g1,g2,g3,g4,g5⟩:=g
 simp_all only [zcK,zcQ,zac]
 refine ⟨fun σ H'=>H'=H∧σ=[some (.ref p),none,none,none],?_,?_⟩
 ·simp_all only [zcK,zcQ,zac]
  refine zh7 hp ⟨true,rfl,?_⟩
  refine zeH (fun z=>absurd z (by decide)) (fun _=>?_)
  refine ⟨_,.inr (SqT.of hp),?_⟩
  exact zeH (fun z=>absurd rfl z) (fun _=>rfl)
 ·rintro σ H' ⟨e,rfl⟩
  rw [e]
  simp_all only [zcK,zcQ,zac]
  refine ⟨_,SqT.of hp,rfl,_,_,rfl,_,_,rfl,_,_,rfl,rfl,?_⟩
  exact ⟨_,_,_,rfl,g1,g2,true,rfl,zoP ⟨_,_,_,rfl,by omega,g5,true,rfl,zoP ⟨_,_,_,rfl,g3,g4,q⟩⟩⟩
theorem zd4:zaF ["thing","cost","hits","of"] ["thing"] (zaj zf5):=⟨rfl,rfl,rfl,by decide +kernel,rfl,by decide +kernel,by decide +kernel⟩
theorem zkd (T:Txt K mg a):zbT P w K mg base CX0 3 a.f_is_box a.d_is_box ["thing"] zkY:=by
 have G_is_within:=zeC (P:=P) (w:=w) (base:=base) T
 refine T.F_is_box.ok zd4 (fun vs H Q E h=>?_) (fun cdv A outer s H vs Q E hr h=>?_)
 ·obtain ⟨p,b,rfl,hp,g,q⟩:=h
  rfl
 obtain ⟨p,b,rfl,hp,g,q⟩:=h
 exact ⟨zgF K,(zae (zcC (zcB (PW.pt (znq (zft (zdt (za6 zcM rfl T.z_isinstance PyProof.Rows.boot_isinstance (zaa (pv 0) (zaa (zfZ rfl T.z_tuple zjt rfl) zad))))) (zmV (zbz op_ne (za6 zbH rfl T.z_len PySem.boot_len (zaa (pv 0) zad)) zag (zbB _))))) (zan (zaL zfu)) zbi))
 (zae (zdd (pv 0) (zbk rfl (zao (zam (i:=1) zd4.nd rfl (Or.inl rfl)) (zao (zam (i:=2) zd4.nd rfl (Or.inl rfl)) (zao (zam (i:=3) zd4.nd rfl (Or.inl rfl)) za9)))))
 (zan (zaL (zhK (zak G_is_within (hr.mono (by decide)) rfl T.m_is_within T.F_is_within.kp T.b_is_within .nil zaI (zaa (pv 1) (zaa zag (zaa (zge rfl T.m_MOST_COST ⟨_,rfl⟩) zad)))) (zhK (zak G_is_within (hr.mono (by decide)) rfl T.m_is_within T.F_is_within.kp T.b_is_within .nil zaI (zaa (pv 3) (zaa zag (zaa (zge rfl T.m_MOST_OF ⟨_,rfl⟩) zad)))) (ziD (zak G_is_within (hr.mono (by decide)) rfl T.m_is_within T.F_is_within.kp T.b_is_within .nil zaI (zaa (pv 2) (zaa zag (zaa (pv 3) zad))))))))))),
  zjT hp g q⟩
theorem zis {K:PySem.W.Frag} {H:Hp} {Q:VK} {r:Addr} {xs:List V} (h:H r=some (.lst xs)) (q:Q (.bl true) H):zlc K [.ref r,.ty "list"] H Q:=⟨_,_,_,_,true,rfl,rfl,.of (.lst h),rfl,q⟩
theorem zio {bs:List Bool} (h:∀ b∈bs,b=true):bs.all id=true:=List.all_eq_true.mpr h
def zdg (K:PySem.W.Frag):TS :=
 (zcY (tOr (zjy (tB (tCB (zlc K) (zab (zac 0) (zab (tC (.ty "list")) zap))))) (tOr (zjy (zby (zht (rI0 fun i j=>.bl (decide (i≤j))) (rI0 fun i j=>.bl (decide (i≤j))) (tC (.int 1)) (tCB (fun xs H Q=>∃ p ys,xs=[.ref p]∧(SqL K H p ys∨SqT K H p ys)∧Q (.int ys.length) H) (zab (zac 0) zap)) (tC (.int 6))))) (zjy (tB (tCB (rAll K) (zab (zbh (zbM K (zac 0)) (zaf 0) zaH (zaq zkY [] E0 (zab (zac 0) zap)) [none]) zap)))))) ziK zbr)
theorem zfY {l:Addr} {ts:List Addr} {bs:List Box} (hl:H l=some (.lst (ts.map V.ref))) (hb:Tps bx H ts bs) (gb:∀ b∈bs,GB b) (l1:1≤bs.length) (l6:bs.length≤6) (q:∀ H',zaR H H'→Q .non H') :
  zdg K { nx:=fun _ H'=>Q .non H',rt:=Q } (L2.start ["boxes"] [.ref l]) H:=by
 unfold zdg
 simp_all only [zac]
 refine zis hl ⟨true,rfl,?_⟩
 refine zeH (fun z=>absurd z (by decide)) (fun _=>?_)
 refine ⟨_,.inl (SqL.of hl),?_⟩
 rw [List.length_map,hb.1]
 refine zeH (fun _=>?_) (fun z=>absurd (show (1:Int)≤(bs.length:Int) by omega) z)
 refine zeH (fun z=>absurd (show (bs.length:Int)≤6 by omega) z) (fun _=>?_)
 refine ⟨⟨_,SqL.of hl⟩,fun D hD=>?_⟩
 refine zb8 (K:=K) (xs:=ts.map V.ref) (fun i ys σ H'=>zaR H H'∧∃ cs:List Bool,ys=cs.map V.bl∧(∀ b∈cs,b=true)∧cs.length≤i∧∃ z,σ=[z]) ⟨zal hD _,[],rfl,by simp,by simp,_,rfl⟩ ?_ ?_ ?_
 ·rintro i ys σ H' _ ⟨s,_⟩
  exact SqL.of (s _ _ hl)
 ·rintro i x ys σ H' hx hD' ⟨s,cs,rfl,hc,lc,z,rfl⟩
  obtain ⟨t,ht,rfl⟩:=zaE hx
  obtain ⟨b,hb1,hb2⟩:=hb.at ht
  have hi:=(List.getElem?_eq_some_iff.mp ht).1
  simp_all only [zac]
  refine ⟨t,b,rfl,s _ _ hb2,gb b (zar hb1),_,hD',zbd (by rw [List.length_map];have:=hb.1;omega),_,zah,s.put hD,cs++[true],by simp,?_,by rw [List.length_append];exact Nat.succ_le_succ lc⟩
  intro b hb
  rcases List.mem_append.mp hb with h | h
  ·exact hc b h
  ·simpa using h
 ·rintro ys σ H' hD' ⟨s,cs,rfl,hc,_,z,rfl⟩
  simp_all only [zac]
  refine ⟨_,SqL.of hD',?_⟩
  rw [zio hc]
  exact zeH (fun z=>absurd z (by decide)) (fun _=>q _ s)
theorem zgg:zaF ["boxes"] ["boxes"] (zaj zcp):=⟨rfl,rfl,rfl,by decide +kernel,rfl,by decide +kernel,by decide +kernel⟩
theorem zgK (T:Txt K mg a):zbT P w K mg base CX0 4 a.f_look_boxes a.d_look_boxes ["boxes"] zmD:=by
 have G_is_box:=zkd (P:=P) (w:=w) (base:=base) T
 refine T.F_look_boxes.ok zgg (fun vs H Q E h=>?_) (fun cdv A outer s H vs Q E hr h=>?_)
 ·obtain ⟨l,ts,bs,rfl,hl,hb,gb,l1,l6,q⟩:=h
  rfl
 obtain ⟨l,ts,bs,rfl,hl,hb,gb,l1,l6,q⟩:=h
 exact ⟨zdg K,(zan (zcB (PW.pt (znq (zft (zdt (za6 zcM rfl T.z_isinstance PyProof.Rows.boot_isinstance (zaa (pv 0) (zaa (zfZ rfl T.z_list zcg rfl) zad))))) (znq (zft (zlN zix zix zag (za6 zbH rfl T.z_len PySem.boot_len (zaa (pv 0) zad)) (zge rfl T.m_MOST_BOXES ⟨_,rfl⟩))) (zmV (zft (zdt (za6 (ziU rfl) rfl T.z_all PyProof.Rows.boot_all (zaa (zbu (sc:=zaj zcp) (N:=["boxes"]) (Nc:=["box"]) (cap:=[none]) rfl rfl rfl (.of (by decide +kernel)) (zbj (pv 0)) (fun _ _ _ _=>(zam (i:=0) (show List.Nodup (["box"]:List Str) from by decide) rfl (Or.inl rfl))) (fun _ _ _ _=>zbb) (fun _ _ _ _=>(zak G_is_box (hr.mono (by decide)) rfl T.m_is_box T.F_is_box.kp T.b_is_box .nil zaI (zaa (pv 0) zad)))) zad)))))))) (zan zf4) zbi)),
  zfY hl hb gb l1 l6 q⟩
structure PapW (bs:List Box) (ns Ws:List Int) (P:Rat):Prop where
 len:Ws.length=bs.length
 eq:∀ (i:Nat) b n w,bs[i]?=some b→ns[i]?=some n→Ws[i]?=some w→(w:Rat)=wq b n*P
 p0:0<P
 wb:∀ w∈Ws,Bd 2700 w
 pb:Bq 2700 P
theorem zo9 {q:Rat} {D:Int} (h:(q.den:Int)∣D):((q.num*(D / q.den):Int):Rat)=q*(D:Rat):=by
 obtain ⟨k,rfl⟩:=h
 have d0:=zda q
 rw [Int.mul_ediv_cancel_left _ (by omega),Rat.intCast_mul,Rat.intCast_mul]
 have e:((q.den:Int):Rat)*q=(q.num:Rat):=by
  have h:=Rat.num_divInt_den q
  rw [Rat.divInt_eq_div] at h
  have z:((q.den:Int):Rat)≠0:=fun z=>by
   have:(q.den:Int)=0:=by exact_mod_cast z
   omega
  have h2:(q.num:Rat)=q*((q.den:Int):Rat):=by
   generalize (q.num:Rat)=a at h ⊢
   generalize ((q.den:Int):Rat)=b at h z ⊢
   grind
  rw [h2,Rat.mul_comm]
 grind
theorem papW {bs:List Box} {ns:List Int} {D g:Int} (gb:∀ b∈bs,GB b) (n0:∀ n∈ns,0≤n∧n≤60) (G:Gn bs ns) (len:ns.length=bs.length) (l1:1≤bs.length) (l6:bs.length≤6) (C:Com (wqs bs ns) D) (Gg:zjv ((wqs bs ns).map fun q=>q.num*(D / q.den)) g) :
  PapW bs ns (((wqs bs ns).map fun q=>q.num*(D / q.den)).map fun n=>n.fdiv g) (Rat.divInt D g)∧0<g∧Bd 2661 g:=by
 have lw:(wqs bs ns).length=bs.length:=by rw [wqs,List.length_zipWith];omega
 have bw:∀ q∈wqs bs ns,Bq 380 q∧0<q:=zds _ fun i b n e1 e2=>⟨(zgS (gb b (zar e1)) (G i b n e1 e2)).mono (by have:=n0 n (zar e2);omega),ziB (gb b (zar e1)) (G i b n e1 e2)⟩
 have D0:=C.pos
 have bD:Bd 2281 D:=(C.bd fun q hq=>(bw q hq).1).mono (by omega)
 have tp:∀ q∈wqs bs ns,0<q.num*(D / q.den)∧Bd 2661 (q.num*(D / q.den)):=fun q hq=>by
  obtain ⟨b1,q0⟩:=bw q hq
  have hd:=C.all q hq
  have dp:=zda q
  have h1:0<D / (q.den:Int):=Int.ediv_pos_of_pos_of_dvd D0 (Int.le_of_lt dp) hd
  have h2:0<q.num:=by
   have a:=Rat.num_nonneg.mpr (Rat.le_of_lt q0)
   have b:q.num≠0:=ziF (by grind)
   omega
  have h3:=Int.ediv_le_self (q.den:Int) (Int.le_of_lt D0)
  exact ⟨Int.mul_pos h2 h1,(b1.top.mul (bD.le (x:=D / (q.den:Int)) (by omega))).mono (by decide)⟩
 obtain ⟨q0,hq0⟩:∃ q,q∈wqs bs ns:=⟨(wqs bs ns)[0]'(by omega),List.getElem_mem _⟩
 have hm0:q0.num*(D / q0.den)∈(wqs bs ns).map fun q=>q.num*(D / q.den):=List.mem_map.mpr ⟨q0,hq0,rfl⟩
 obtain ⟨t1,t2⟩:=tp q0 hq0
 have g0:=Gg.ne hm0 (by omega)
 have bg:Bd 2661 g:=t2.le (Gg.le hm0 (by omega))
 refine ⟨⟨by rw [List.length_map,List.length_map,lw],fun i b n w e1 e2 e3=>?_,?_,fun w hw=>?_,zbv (by omega) (bD.mono (by decide)) (bg.mono (by decide))⟩,g0,bg⟩
 ·obtain ⟨x,ex,rfl⟩:=zaE e3
  obtain ⟨q,eq,rfl⟩:=zaE ex
  have e:=zfC e1 e2 eq
  have hd:=Gg.all _ (List.mem_map.mpr ⟨q,zar eq,rfl⟩)
  have f:=zdj hd
  have h:=zo9 (C.all q (zar eq))
  rw [← f,Rat.intCast_mul] at h
  have gr:(g:Rat)≠0:=fun z=>by
   have:g=0:=by exact_mod_cast z
   omega
  rw [Rat.divInt_eq_div,← e]
  generalize (((q.num*(D / (q.den:Int))).fdiv g:Int):Rat)=w at h ⊢
  grind
 ·rw [Rat.divInt_eq_div,Rat.div_def]
  exact Rat.mul_pos (by exact_mod_cast D0) (Rat.inv_pos.mpr (by exact_mod_cast g0))
 ·obtain ⟨x,hx,rfl⟩:=List.mem_map.mp hw
  obtain ⟨q,hq,rfl⟩:=List.mem_map.mp hx
  have f:=zdj (Gg.all _ hx)
  exact ((tp q hq).2.le (zes f (by omega))).mono (by decide)
def zeW:Sp:=fun vs H Q _=>∃ (l pl:Addr) (ts:List Addr) (bs:List Box) (ns:List Int),vs=[.ref l,.ref pl]∧BP H l pl ts bs ns∧Gn bs ns∧bs.length≤6∧∀ (r wl pp cl:Addr) (Ws:List Int) (P:Rat) (H':Hp),zaR H H'→H' r=some (.tup [.ref wl,.ref pp,.ref cl])→H' wl=some (.lst (Ws.map V.int))→H' pp=some (.tup (fr P))→H' cl=some (.lst (ns.map V.int))→PapW bs ns Ws P→H wl=none→Q (.ref r) H'
def zej (K:PySem.W.Frag):TS :=
 (zaV (za1 (zaq zf0 [] E0 (zab (zaq zjH [] E0 (zab (zac 0) (zab (zac 1) zap))) zap)) (zcj K 2 (zaD (zaf 2) (zaD (zaf 3) zck))))
 (zaV (za1 (zaq zf6 [] E0 (zab (zac 2) zap)) (zaf 4))
 (zbq (zcs (zab (zbh (zbM K (zac 2)) (zaf 0) zaH (tOp (rI (fun _ j=>j≠0∧j.natAbs.log2<9000) fun i j=>.int (i.fdiv j)) (zac 0) (zac 1)) [none,some 4]) (zab (zaq zhC [] E0 (zab (zac 3) (zab (zac 4) zap))) (zab (tCB (fun xs H Q=>∃ p ys,xs=[.ref p]∧(SqL K H p ys∨SqT K H p ys)∧∀ l,H l=none→Q (.ref l) (upd H l (.lst ys))) (zab (zac 1) zap)) zap)))))))
theorem zh6 {l pl:Addr} {ts:List Addr} {bs:List Box} {ns:List Int} (B:BP H l pl ts bs ns) (G:Gn bs ns) (l6:bs.length≤6) (q:∀ (r wl pp cl:Addr) (Ws:List Int) (P:Rat) (H':Hp),zaR H H'→H' r=some (.tup [.ref wl,.ref pp,.ref cl])→H' wl=some (.lst (Ws.map V.int))→H' pp=some (.tup (fr P))→H' cl=some (.lst (ns.map V.int))→PapW bs ns Ws P→H wl=none→Q (.ref r) H') :
  zej K { nx:=fun _ H'=>Q .non H',rt:=Q } (L2.start ["boxes","counts","weights","bottom","shared"] [.ref l,.ref pl]) H:=by
 unfold zej
 simp_all only [zac]
 refine ⟨l,pl,ts,bs,ns,rfl,B,G,fun fl us H1 s1 h1 T1=>?_⟩
 have lw:(wqs bs ns).length=bs.length:=by rw [wqs,List.length_zipWith,B.len];omega
 refine ⟨fl,us,_,rfl,h1,T1,by omega,zds _ fun i b n e1 e2=>(zp1 (B.gb b (zar e1)) (B.gn n (zar e2)).2 (G i b n e1 e2)).mono (by decide),fun cr tl D H2 s2 C h2 ntl htl=>?_⟩
 simp_all only [zac]
 refine ⟨_,SqT.of h2,rfl,_,_,rfl,_,_,rfl,rfl,?_⟩
 refine ⟨tl,_,rfl,htl,fun g Gg=>?_⟩
 obtain ⟨PW,g0,bg⟩:=papW B.gb B.gn G B.len B.l1 l6 C Gg
 simp_all only [zac]
 refine ⟨⟨_,SqL.of htl⟩,fun D1 hD1=>?_⟩
 refine zca (vs:=(((wqs bs ns).map fun q=>q.num*(D / q.den)).map fun n=>n.fdiv g).map V.int) htl (by simp) (by simp;omega) hD1 (fun i x v H' R hx hv s k=>?_) fun H3 s3 h3=>?_
 ·obtain ⟨n,en,rfl⟩:=zaE hx
  obtain ⟨y,ey,rfl⟩:=zaE hv
  obtain ⟨n',en',rfl⟩:=zaE ey
  rw [en] at en'
  cases en'
  simp_all only [zac]
  exact ⟨by omega,zeA 2661 (by omega) bg,k _ (.refl _)⟩
 refine ⟨_,_,rfl,by omega,bg.mono (by decide),fun pp H4 s4 h4=>?_⟩
 have hp4:=s4 _ _ (s3 _ _ (s2 _ _ (s1 _ _ B.hp)))
 refine ⟨_,.inl (SqL.of hp4),fun cl ncl=>?_⟩
 have s5:=zal ncl (.lst (ns.map V.int))
 have h5:(L2.upd H4 cl (.lst (ns.map V.int))) cl=some (.lst (ns.map V.int)):=zah
 generalize L2.upd H4 cl (.lst (ns.map V.int))=H5 at s5 h5 ⊢
 refine ⟨by decide,fun r nr=>?_⟩
 have s6:=zal nr (.tup [V.ref D1,V.ref pp,V.ref cl])
 have h6:(L2.upd H5 r (.tup [V.ref D1,V.ref pp,V.ref cl])) r=some (.tup [V.ref D1,V.ref pp,V.ref cl]):=zah
 generalize L2.upd H5 r (.tup [V.ref D1,V.ref pp,V.ref cl])=H6 at s6 h6 ⊢
 exact q r D1 pp cl _ _ H6 (s1.trans (s2.trans (s3.trans (s4.trans (s5.trans s6))))) h6 (s6 _ _ (s5 _ _ (s4 _ _ h3))) (s6 _ _ (s5 _ _ h4)) (s6 _ _ h5) PW ((s1.trans s2).free hD1)
theorem zcL:zaF ["boxes","counts","weights","bottom","shared"] ["boxes","counts"] (zaj zdp):=⟨rfl,rfl,rfl,by decide +kernel,rfl,by decide +kernel,by decide +kernel⟩
theorem zim (T:Txt K mg a):zbT P w K mg base CX0 5 a.f_paper_of a.d_paper_of ["boxes","counts"] zeW:=by
 have G_common:=zg4 (P:=P) (w:=w) (base:=base) T
 have G_fair_weights:=zc9 (P:=P) (w:=w) (base:=base) T
 have G_ratio:=zcN (P:=P) (w:=w) (base:=base) T
 have G_shared_divisor:=zcE (P:=P) (w:=w) (base:=base) T
 refine T.F_paper_of.ok zcL (fun vs H Q E h=>?_) (fun cdv A outer s H vs Q E hr h=>?_)
 ·obtain ⟨l,pl,ts,bs,ns,rfl,B,G,l6,q⟩:=h
  rfl
 obtain ⟨l,pl,ts,bs,ns,rfl,B,G,l6,q⟩:=h
 exact ⟨zej K,(zae (zdd (zak G_common (hr.mono (by decide)) rfl T.m_common T.F_common.kp T.b_common .nil zaI (zaa (zak G_fair_weights (hr.mono (by decide)) rfl T.m_fair_weights T.F_fair_weights.kp T.b_fair_weights .nil zaI (zaa (pv 0) (zaa (pv 1) zad))) zad)) (zbk rfl (zao (zam (i:=2) zcL.nd rfl (Or.inl rfl)) (zao (zam (i:=3) zcL.nd rfl (Or.inl rfl)) za9))))
 (zae (zaK (i:=4) zcL.nd rfl (Or.inr rfl) (zak G_shared_divisor (hr.mono (by decide)) rfl T.m_shared_divisor T.F_shared_divisor.kp T.b_shared_divisor .nil zaI (zaa (pv 2) zad)))
 (zan (zaL (zbe (zaa (zbu (sc:=zaj zdp) (N:=["boxes","counts","weights","bottom","shared"]) (Nc:=["weight","shared"]) (cap:=[none,some 4]) rfl rfl rfl (.of (by decide +kernel)) (zbj (pv 2)) (fun _ _ _ _=>(zam (i:=0) (show List.Nodup (["weight","shared"]:List Str) from by decide) rfl (Or.inl rfl))) (fun _ _ _ _=>zbb) (fun _ _ _ _=>(zat zb6 (pv 0) (pv 1)))) (zaa (zak G_ratio (hr.mono (by decide)) rfl T.m_ratio T.F_ratio.kp T.b_ratio .nil zaI (zaa (pv 3) (zaa (pv 4) zad))) (zaa (zcA zbF rfl T.z_list zcg (zaa (pv 1) zad)) zad)))))))),
  zh6 B G l6 q⟩
def zeB:Sp:=fun vs H Q _=>∃ n:Int,vs=[.int n]∧0≤n∧n≤60∧Q .non H
def zcP:TS :=
 (zcY (zjy (tB (zaq zcn [] E0 (zab (zac 0) (zab (tC (.int 0)) (zab (tC (.int 60)) zap)))))) ziK zbr)
theorem zfL {n:Int} (n0:0≤n) (n1:n≤60) (q:Q .non H):zcP { nx:=fun _ H'=>Q .non H',rt:=Q } (L2.start ["budget"] [.int n]) H:=by
 unfold zcP
 simp_all only [zac]
 exact ⟨n,0,60,rfl,n0,n1,true,rfl,zeH (fun z=>absurd z (by decide)) (fun _=>q)⟩
theorem zfA:zaF ["budget"] ["budget"] (zaj zcO):=⟨rfl,rfl,rfl,by decide +kernel,rfl,by decide +kernel,by decide +kernel⟩
theorem zfK (T:Txt K mg a):zbT P w K mg base CX0 3 a.f_look_budget a.d_look_budget ["budget"] zeB:=by
 have G_is_within:=zeC (P:=P) (w:=w) (base:=base) T
 refine T.F_look_budget.ok zfA (fun vs H Q E h=>?_) (fun cdv A outer s H vs Q E hr h=>?_)
 ·obtain ⟨n,rfl,n0,n1,q⟩:=h
  rfl
 obtain ⟨n,rfl,n0,n1,q⟩:=h
 exact ⟨zcP,(zan (zcB (zft (zdt (zak G_is_within (hr.mono (by decide)) rfl T.m_is_within T.F_is_within.kp T.b_is_within .nil zaI (zaa (pv 0) (zaa zag (zaa (zge rfl T.m_MOST_BUDGET ⟨_,rfl⟩) zad)))))) (zan zf4) zbi)),
  zfL n0 n1 q⟩
def ziA:Sp:=fun vs H Q _=>∃ (l:Addr) (ts:List Addr) (bs:List Box) (bud:Int),vs=[.ref l,.int bud]∧H l=some (.lst (ts.map V.ref))∧Tps bx H ts bs∧bs.length≤6∧∀ (c:Bool) (H':Hp),zaR H H'→(c=true↔(∀ b∈bs,b.2.1=b.2.2)∧(bs.map fun b=>b.1).sum≤bud)→Q (.bl c) H'
def zeZ (K:PySem.W.Frag):TS :=
 (zbq (zf9 (tCB (rAll K) (zab (zbh (zbM K (zac 0)) (zcj K 3 (zaD (zaf 0) (zaD (zaf 1) (zaD (zaf 2) zck)))) zaH (tOp rEq (zac 1) (zac 2)) [none,none,none]) zap)) (tOp (rI0 fun i j=>.bl (decide (i≤j))) (tCB (zmB K) (zab (zbh (zbM K (zac 0)) (zaf 0) zaH (tOp (zbl K) (zac 0) (tC (.int 0))) [none]) zap)) (zac 1))))
theorem zi9 {l:Addr} {ts:List Addr} {bs:List Box} {bud:Int} (hl:H l=some (.lst (ts.map V.ref))) (T:Tps bx H ts bs) (l6:bs.length≤6) (q:∀ (c:Bool) (H':Hp),zaR H H'→(c=true↔(∀ b∈bs,b.2.1=b.2.2)∧(bs.map fun b=>b.1).sum≤bud)→Q (.bl c) H') :
  zeZ K { nx:=fun _ H'=>Q .non H',rt:=Q } (L2.start ["boxes","budget"] [.ref l,.int bud]) H:=by
 unfold zeZ
 simp_all only [zac]
 refine ⟨⟨_,SqL.of hl⟩,fun D hD=>?_⟩
 refine zb8 (K:=K) (xs:=ts.map V.ref) (fun i ys σ H'=>zaR H H'∧ys=((bs.take i).map fun b=>decide (b.2.1=b.2.2)).map V.bl∧∃ x y z,σ=[x,y,z]) ⟨zal hD _,rfl,_,_,_,rfl⟩ ?_ ?_ ?_
 ·rintro i ys σ H' _ ⟨s,_⟩
  exact SqL.of (s _ _ hl)
 ·rintro i x ys σ H' hx hD' ⟨s,rfl,x,y,z,rfl⟩
  obtain ⟨t,ht,rfl⟩:=zaE hx
  obtain ⟨b,hb1,hb2⟩:=T.at ht
  simp_all only [zac]
  refine ⟨_,SqT.of (s _ _ hb2),rfl,_,_,rfl,_,_,rfl,_,_,rfl,rfl,?_⟩
  simp_all only [zac]
  refine ⟨_,hD',zbd (by rw [List.length_map,List.length_map,List.length_take];omega),_,zah,s.put hD,?_⟩
  rw [List.take_add_one,hb1]
  simp
 ·rintro ys σ H1 h1 ⟨s1,rfl,x,y,z,rfl⟩
  rw [List.length_map,T.1,List.take_length] at h1
  simp_all only [zac]
  refine ⟨_,SqL.of h1,?_⟩
  by_cases c:∀ b∈bs,b.2.1=b.2.2
  ·have e:((bs.map fun b=>decide (b.2.1=b.2.2)).all id)=true:=List.all_eq_true.mpr fun x hx=>by
    obtain ⟨b,hb,rfl⟩:=List.mem_map.mp hx
    exact decide_eq_true (c b hb)
   rw [e]
   refine zoP ?_
   have hl1:=s1 _ _ hl
   refine ⟨⟨_,SqL.of hl1⟩,fun D2 hD2=>?_⟩
   refine zca (vs:=(bs.map fun b=>b.1).map V.int) hl1 (by simp [T.1]) (by simp;omega) hD2 (fun i x v H' R hx hv s k=>?_) fun H2 s2 h2=>?_
   ·obtain ⟨t,ht,rfl⟩:=zaE hx
    obtain ⟨w,hw,rfl⟩:=zaE hv
    obtain ⟨b,hb,rfl⟩:=zaE hw
    obtain ⟨b',hb1,hb2⟩:=T.at ht
    rw [hb] at hb1
    cases hb1
    simp_all only [zac]
    exact ⟨_,SqT.of (s _ _ (s1 _ _ hb2)),_,rfl,k _ (.refl _)⟩
   ·simp_all only [zac]
    refine ⟨_,SqL.of h2,?_⟩
    exact q _ H2 (s1.trans s2) ⟨fun h=>⟨c,of_decide_eq_true h⟩,fun h=>decide_eq_true h.2⟩
  ·have e:((bs.map fun b=>decide (b.2.1=b.2.2)).all id)=false:=by
    rw [Bool.eq_false_iff]
    intro z
    refine c fun b hb=>?_
    have:=List.all_eq_true.mp z _ (List.mem_map.mpr ⟨b,hb,rfl⟩)
    exact of_decide_eq_true this
   rw [e]
   refine iteF ?_
   exact q _ H1 s1 ⟨fun h=>absurd h (by decide),fun h=>absurd h.1 c⟩
theorem zjk:zaF ["boxes","budget"] ["boxes","budget"] (zaj zc7):=⟨rfl,rfl,rfl,by decide +kernel,rfl,by decide +kernel,by decide +kernel⟩
theorem zi8 (T:Txt K mg a):zbT P w K mg base CX0 1 a.f_is_sure a.d_is_sure ["boxes","budget"] ziA:=by
 refine T.F_is_sure.ok zjk (fun vs H Q E h=>?_) (fun cdv A outer s H vs Q E hr h=>?_)
 ·obtain ⟨l,ts,bs,bud,rfl,hl,T',l6,q⟩:=h
  rfl
 obtain ⟨l,ts,bs,bud,rfl,hl,T',l6,q⟩:=h
 exact ⟨zeZ K,(zan (zaL (zhK (za6 (ziU rfl) rfl T.z_all PyProof.Rows.boot_all (zaa (zbu (sc:=zaj zc7) (N:=["boxes","budget"]) (Nc:=["cost","hits","of"]) (cap:=[none,none,none]) rfl rfl rfl (.of (by decide +kernel)) (zbj (pv 0)) (fun _ _ _ _=>(zbk rfl (zao (zam (i:=0) (show List.Nodup (["cost","hits","of"]:List Str) from by decide) rfl (Or.inl rfl)) (zao (zam (i:=1) (show List.Nodup (["cost","hits","of"]:List Str) from by decide) rfl (Or.inl rfl)) (zao (zam (i:=2) (show List.Nodup (["cost","hits","of"]:List Str) from by decide) rfl (Or.inl rfl)) za9))))) (fun _ _ _ _=>zbb) (fun _ _ _ _=>(ze7 znw (pv 1) (pv 2) (zbB _)))) zad)) (ziD (ze7 zix (za6 (zeP rfl) rfl T.z_sum PyProof.Rows.boot_sum (zaa (zbu (sc:=zaj zc7) (N:=["boxes","budget"]) (Nc:=["box"]) (cap:=[none]) rfl rfl rfl (.of (by decide +kernel)) (zbj (pv 0)) (fun _ _ _ _=>(zam (i:=0) (show List.Nodup (["box"]:List Str) from by decide) rfl (Or.inl rfl))) (fun _ _ _ _=>zbb) (fun _ _ _ _=>(zaN zaG (pv 0) zag (fun _ _=>rfl)))) zad)) (pv 1) (zbB _)))))),
  zi9 hl T' l6 q⟩
def zmG:Sp:=fun vs H Q _=>∃ (l:Addr) (ts:List Addr),vs=[.ref l]∧H l=some (.lst (ts.map V.ref))∧ts.length≤6∧∀ (r wr mr pr wl pp cl:Addr) (H':Hp),zaR H H'→H' r=some (.tup [.ref wr,.ref mr,.ref pr])→H' wr=some (.tup (fr 1))→H' pr=some (.tup [.ref wl,.ref pp,.ref cl])→H' wl=some (.lst ((ts.map fun _=>(1:Int)).map V.int))→H' pp=some (.tup (fr 0))→H wl=none→Q (.ref r) H'
def zcS (K:PySem.W.Frag):TS :=
 (zaV (za1 (zbh (zbM K (zac 0)) (zaf 0) zaH (tC (.int 1)) [none]) (zaf 1))
 (zbq (zcs (zab (zcs (zab (tC (.int 1)) (zab (tC (.int 1)) zap))) (zab (zdU (zab (zcs (zab (tCB (fun xs H Q=>∃ p ys,xs=[.ref p]∧(SqL K H p ys∨SqT K H p ys)∧∀ l,H l=none→Q (.ref l) (upd H l (.lst ys))) (zab (zac 1) zap)) (zab (tC (.int 1)) zap))) zap)) (zab (zcs (zab (tCB (fun xs H Q=>∃ p ys,xs=[.ref p]∧(SqL K H p ys∨SqT K H p ys)∧∀ l,H l=none→Q (.ref l) (upd H l (.lst ys))) (zab (zac 1) zap)) (zab (zcs (zab (tC (.int 0)) (zab (tC (.int 1)) zap))) (zab (tCB (fun xs H Q=>∃ p ys,xs=[.ref p]∧(SqL K H p ys∨SqT K H p ys)∧∀ l,H l=none→Q (.ref l) (upd H l (.lst ys))) (zab (zac 1) zap)) zap)))) zap))))))
theorem zfD {l:Addr} {ts:List Addr} (hl:H l=some (.lst (ts.map V.ref))) (l6:ts.length≤6) (q:∀ (r wr mr pr wl pp cl:Addr) (H':Hp),zaR H H'→H' r=some (.tup [.ref wr,.ref mr,.ref pr])→H' wr=some (.tup (fr 1))→H' pr=some (.tup [.ref wl,.ref pp,.ref cl])→H' wl=some (.lst ((ts.map fun _=>(1:Int)).map V.int))→H' pp=some (.tup (fr 0))→H wl=none→Q (.ref r) H') :
  zcS K { nx:=fun _ H'=>Q .non H',rt:=Q } (L2.start ["boxes","ones"] [.ref l]) H:=by
 unfold zcS
 simp_all only [zac]
 refine ⟨⟨_,SqL.of hl⟩,fun D hD=>?_⟩
 refine zca (vs:=(ts.map fun _=>(1:Int)).map V.int) hl (by simp) (by simp;omega) hD (fun i x v H' R _ hv s k=>?_) fun H1 s1 h1=>?_
 ·obtain ⟨n,en,rfl⟩:=zaE hv
  obtain ⟨_,_,rfl⟩:=zaE en
  exact k _ (.refl _)
 simp_all only [zac]
 refine ⟨by decide,fun p1 n1=>?_⟩
 have s2:=zal n1 (.tup [V.int 1,V.int 1])
 have h2:(L2.upd H1 p1 (.tup [V.int 1,V.int 1])) p1=some (.tup [V.int 1,V.int 1]):=zah
 generalize L2.upd H1 p1 (.tup [V.int 1,V.int 1])=H2 at s2 h2 ⊢
 refine ⟨_,.inl (SqL.of (s2 _ _ h1)),fun p2 n2=>?_⟩
 have s3:=zal n2 (.lst ((ts.map fun _=>(1:Int)).map V.int))
 have h3:(L2.upd H2 p2 (.lst ((ts.map fun _=>(1:Int)).map V.int))) p2=some (.lst ((ts.map fun _=>(1:Int)).map V.int)):=zah
 generalize L2.upd H2 p2 (.lst ((ts.map fun _=>(1:Int)).map V.int))=H3 at s3 h3 ⊢
 refine ⟨by decide,fun p3 n3=>?_⟩
 have s4:=zal n3 (.tup [V.ref p2,V.int 1])
 have h4:(L2.upd H3 p3 (.tup [V.ref p2,V.int 1])) p3=some (.tup [V.ref p2,V.int 1]):=zah
 generalize L2.upd H3 p3 (.tup [V.ref p2,V.int 1])=H4 at s4 h4 ⊢
 refine ⟨by decide,fun p4 n4=>?_⟩
 have s5:=zal n4 (.lst [V.ref p3])
 have h5:(L2.upd H4 p4 (.lst [V.ref p3])) p4=some (.lst [V.ref p3]):=zah
 generalize L2.upd H4 p4 (.lst [V.ref p3])=H5 at s5 h5 ⊢
 have S5:=s2.trans (s3.trans (s4.trans s5))
 refine ⟨_,.inl (SqL.of (S5 _ _ h1)),fun p5 n5=>?_⟩
 have s6:=zal n5 (.lst ((ts.map fun _=>(1:Int)).map V.int))
 have h6:(L2.upd H5 p5 (.lst ((ts.map fun _=>(1:Int)).map V.int))) p5=some (.lst ((ts.map fun _=>(1:Int)).map V.int)):=zah
 generalize L2.upd H5 p5 (.lst ((ts.map fun _=>(1:Int)).map V.int))=H6 at s6 h6 ⊢
 refine ⟨by decide,fun p6 n6=>?_⟩
 have s7:=zal n6 (.tup [V.int 0,V.int 1])
 have h7:(L2.upd H6 p6 (.tup [V.int 0,V.int 1])) p6=some (.tup [V.int 0,V.int 1]):=zah
 generalize L2.upd H6 p6 (.tup [V.int 0,V.int 1])=H7 at s7 h7 ⊢
 refine ⟨_,.inl (SqL.of (s7 _ _ (s6 _ _ (S5 _ _ h1)))),fun p7 n7=>?_⟩
 have s8:=zal n7 (.lst ((ts.map fun _=>(1:Int)).map V.int))
 have h8:(L2.upd H7 p7 (.lst ((ts.map fun _=>(1:Int)).map V.int))) p7=some (.lst ((ts.map fun _=>(1:Int)).map V.int)):=zah
 generalize L2.upd H7 p7 (.lst ((ts.map fun _=>(1:Int)).map V.int))=H8 at s8 h8 ⊢
 refine ⟨by decide,fun p8 n8=>?_⟩
 have s9:=zal n8 (.tup [V.ref p5,V.ref p6,V.ref p7])
 have h9:(L2.upd H8 p8 (.tup [V.ref p5,V.ref p6,V.ref p7])) p8=some (.tup [V.ref p5,V.ref p6,V.ref p7]):=zah
 generalize L2.upd H8 p8 (.tup [V.ref p5,V.ref p6,V.ref p7])=H9 at s9 h9 ⊢
 refine ⟨by decide,fun r nr=>?_⟩
 have sa:=zal nr (.tup [V.ref p1,V.ref p4,V.ref p8])
 have ha:(L2.upd H9 r (.tup [V.ref p1,V.ref p4,V.ref p8])) r=some (.tup [V.ref p1,V.ref p4,V.ref p8]):=zah
 generalize L2.upd H9 r (.tup [V.ref p1,V.ref p4,V.ref p8])=Ha at sa ha ⊢
 have S9:=s8.trans (s9.trans sa)
 exact q r p1 p4 p8 p5 p6 p7 Ha (s1.trans (S5.trans (s6.trans (s7.trans S9)))) ha (S9 _ _ (s7 _ _ (s6 _ _ (s5 _ _ (s4 _ _ (s3 _ _ h2)))))) (sa _ _ h9) (S9 _ _ (s7 _ _ h6)) (S9 _ _ h7) ((s1.trans S5).free n5)
theorem zdy:zaF ["boxes","ones"] ["boxes"] (zaj zb4):=⟨rfl,rfl,rfl,by decide +kernel,rfl,by decide +kernel,by decide +kernel⟩
theorem zfx (T:Txt K mg a):zbT P w K mg base CX0 1 a.f_sure_answer a.d_sure_answer ["boxes"] zmG:=by
 refine T.F_sure_answer.ok zdy (fun vs H Q E h=>?_) (fun cdv A outer s H vs Q E hr h=>?_)
 ·obtain ⟨l,ts,rfl,hl,l6,q⟩:=h
  rfl
 obtain ⟨l,ts,rfl,hl,l6,q⟩:=h
 exact ⟨zcS K,(zae (zbE (i:=1) zdy.nd rfl rfl (sc:=zaj zb4) (N:=["boxes","ones"]) (Nc:=["box"]) (cap:=[none]) rfl rfl rfl (.of (by decide +kernel)) (zbj (pv 0)) (fun _ _ _ _=>(zam (i:=0) (show List.Nodup (["box"]:List Str) from by decide) rfl (Or.inl rfl))) (fun _ _ _ _=>zbb) (fun _ _ _ _=>zag))
 (zan (zaL (zbe (zaa (zbe (zaa zag (zaa zag zad))) (zaa (zbN (zaa (zbe (zaa (zcA zbF rfl T.z_list zcg (zaa (pv 1) zad)) (zaa zag zad))) zad)) (zaa (zbe (zaa (zcA zbF rfl T.z_list zcg (zaa (pv 1) zad)) (zaa (zbe (zaa zag (zaa zag zad))) (zaa (zcA zbF rfl T.z_list zcg (zaa (pv 1) zad)) zad)))) zad))))))),
  zfD hl l6 q⟩
abbrev Yb:=Box×Int×Rat
def Fv (z:Yb):Rat:=chq z.1 z.2.1+z.2.2*gnq z.1 z.2.1
def yv (z:Yb):Rat:=(z.2.1:Rat)+z.2.2
def cy (z:Yb):Rat:=(z.1.1:Rat)*yv z
def GY (z:Yb):Prop:=0≤z.2.1∧0≤z.2.2∧z.2.2≤1
def bxs (zs:List Yb):List Box:=zs.map fun z=>z.1
def cys (zs:List Yb):Rat:=(zs.map cy).sum
theorem zfX {b:Box} (g:GB b) (n:Int):chq b n≤1:=by
 obtain ⟨p0,p1,_⟩:=zeF g
 have h:=(zaZ (Rat.le_of_lt p0) p1 n.toNat).2.1
 rw [zb2 g]
 grind
theorem zdn {b:Box} (g:GB b) {n:Int} (n0:0≤n):chq b (n+1)=chq b n+gnq b n:=by
 rw [zb2 g,zb2 g,zdB g,show (n+1).toNat=n.toNat+1 by omega,Rat.pow_succ]
 grind
theorem zef {b:Box} (g:GB b) (n:Int):0≤gnq b n:=by
 obtain ⟨p0,p1,_⟩:=zeF g
 rw [zdB g]
 exact Rat.mul_nonneg (zaZ (Rat.le_of_lt p0) p1 _).2.1 (Rat.le_of_lt p0)
theorem zp0 {n:Int} (n0:0≤n):((n.toNat:Nat):Rat)=(n:Rat):=by
 have:((n.toNat:Nat):Int)=n:=Int.toNat_of_nonneg n0
 exact_mod_cast congrArg (Int.cast (R:=Rat)) this
theorem zjV {b:Box} (g:GB b) {m n:Int} (m0:0≤m) (n0:0≤n):chq b m≤chq b n+gnq b n*((m:Rat) - (n:Rat)):=by
 obtain ⟨p0,p1,_⟩:=zeF g
 have hc:=conc (Rat.le_of_lt p0) p1 n.toNat m.toNat
 rw [zp0 n0,zp0 m0,← zdB g n] at hc
 rw [zb2 g m,zb2 g n]
 grind
theorem zkP {z:Yb} (g:GB z.1) (h:GY z) {n:Int} (n0:0≤n):Fv z≤chq z.1 n+gnq z.1 n*(yv z - (n:Rat)):=by
 obtain ⟨h0,h1,h2⟩:=h
 have a:=zjV g h0 n0
 have b:=zjV g (m:=z.2.1+1) (by omega) n0
 rw [zdn g h0,Rat.intCast_add,show ((1:Int):Rat)=1 from rfl] at b
 have a1:=Rat.mul_le_mul_of_nonneg_left a (show 0≤1 - z.2.2 by grind)
 have b1:=Rat.mul_le_mul_of_nonneg_left b h1
 unfold Fv yv
 generalize chq z.1 z.2.1=A at *
 generalize gnq z.1 z.2.1=B at *
 generalize chq z.1 n=C at *
 generalize gnq z.1 n=D at *
 generalize (z.2.1:Rat)=M at *
 generalize (n:Rat)=N at *
 generalize z.2.2=S at *
 grind
theorem zhc {z:Yb} (g:GB z.1) (h:GY z):Fv z≤1:=by
 obtain ⟨h0,h1,h2⟩:=h
 have a:=zfX g z.2.1
 have b:=zfX g (z.2.1+1)
 rw [zdn g h0] at b
 have c:=Rat.mul_le_mul_of_nonneg_right h2 (zef g z.2.1)
 unfold Fv
 grind
theorem zn5 {z z':Yb} (e:z.1=z'.1) (g:GB z.1) (h:GY z) (h':GY z') (le:yv z≤yv z'):Fv z≤Fv z':=by
 have a:=zkP g h h'.1
 have b:=Rat.mul_le_mul_of_nonneg_left (show yv z - (z'.2.1:Rat)≤yv z' - (z'.2.1:Rat) by grind) (zef g z'.2.1)
 have c:Fv z'=chq z'.1 z'.2.1+gnq z'.1 z'.2.1*(yv z' - (z'.2.1:Rat)):=by
  unfold Fv yv
  grind
 rw [c,← e]
 exact Rat.le_trans a (by grind)
structure Wth (bs:List Box) (bud:Int) (W:Rat):Prop where
 bq:Bq 1300 W
 lo:∃ zs:List Yb,bxs zs=bs∧(∀ z∈zs,GY z∧Fv z=W)∧cys zs≤(bud:Rat)
 hi:∀ (t:Rat) (zs:List Yb),bxs zs=bs→(∀ z∈zs,GY z∧t≤Fv z)→cys zs≤(bud:Rat)→t≤W
theorem zmO:∀ (zs:List Yb) (ns:List Int) (t:Rat),(∀ z∈zs,GB z.1∧GY z∧t≤Fv z)→(∀ n∈ns,0≤n)→Gn (bxs zs) ns→ns.length=zs.length→((List.zip (bxs zs) ns).map fun x=>wq x.1 x.2*(t - chq x.1 x.2)).sum≤cys zs - ((zaO (bxs zs) ns).sum:Rat)
 | [],ns,t,_,_,_,_=>by
  simp only [bxs,cys,zaO,List.map_nil,List.zip_nil_left,List.zipWith_nil_left,List.sum_nil]
  rw [show ((0:Int):Rat)=0 from rfl]
  grind
 | _::_,[],_,_,_,_,h=>by cases h
 | z::zs,n::ns,t,hz,n0,G,len=>by
  have ih:=zmO zs ns t (fun y hy=>hz y (List.mem_cons_of_mem _ hy)) (fun y hy=>n0 y (List.mem_cons_of_mem _ hy)) (fun i b' n' e1 e2=>G (i+1) b' n' e1 e2) (Nat.succ.inj len)
  obtain ⟨g,y,tf⟩:=hz z List.mem_cons_self
  have hn:=n0 n List.mem_cons_self
  have gn:=G 0 z.1 n rfl rfl
  have s:=zkP g y hn
  have w:=ziB g gn
  have s2:t - chq z.1 n≤gnq z.1 n*(yv z - (n:Rat)):=by grind
  have s3:=Rat.mul_le_mul_of_nonneg_left s2 (Rat.le_of_lt w)
  have e:wq z.1 n*(gnq z.1 n*(yv z - (n:Rat)))=(z.1.1:Rat)*(yv z - (n:Rat)):=by
   unfold wq
   grind
  rw [e] at s3
  show wq z.1 n*(t - chq z.1 n)+((List.zip (bxs zs) ns).map fun x=>wq x.1 x.2*(t - chq x.1 x.2)).sum≤(cy z+cys zs) - ((z.1.1*n+(zaO (bxs zs) ns).sum:Int):Rat)
  rw [Rat.intCast_add,Rat.intCast_mul]
  unfold cy
  generalize ((List.zip (bxs zs) ns).map fun x=>wq x.1 x.2*(t - chq x.1 x.2)).sum=A at *
  generalize wq z.1 n*(t - chq z.1 n)=B at *
  generalize ((zaO (bxs zs) ns).sum:Rat)=C at *
  grind
theorem zmz (W:Rat):∀ (bs:List Box) (ns:List Int),(∀ b∈bs,GB b)→Gn bs ns→ns.length=bs.length→cys (List.zipWith (fun b n=>(b,n,shq W b n)) bs ns)=((zaO bs ns).sum:Rat)+((List.zip bs ns).map fun x=>wq x.1 x.2*(W - chq x.1 x.2)).sum
 | [],ns,_,_,_=>by
  simp only [cys,zaO,List.map_nil,List.zip_nil_left,List.zipWith_nil_left,List.sum_nil]
  rw [show ((0:Int):Rat)=0 from rfl]
  grind
 | _::_,[],_,_,h=>by cases h
 | b::bs,n::ns,gb,G,len=>by
  have ih:=zmz W bs ns (fun x hx=>gb x (List.mem_cons_of_mem _ hx)) (fun i b' n' e1 e2=>G (i+1) b' n' e1 e2) (Nat.succ.inj len)
  have gn:=G 0 b n rfl rfl
  show cy (b,n,shq W b n)+cys (List.zipWith (fun b n=>(b,n,shq W b n)) bs ns)=((b.1*n+(zaO bs ns).sum:Int):Rat)+(wq b n*(W - chq b n)+((List.zip bs ns).map fun x=>wq x.1 x.2*(W - chq x.1 x.2)).sum)
  rw [ih,Rat.intCast_add,Rat.intCast_mul]
  have e:cy (b,n,shq W b n)=(b.1:Rat)*(n:Rat)+wq b n*(W - chq b n):=by
   show (b.1:Rat)*((n:Rat)+shq W b n)=_
   unfold shq wq
   grind
  rw [e]
  grind
theorem zkz (f:Box→Int→Rat):∀ (bs:List Box) (ns:List Int),ns.length=bs.length→bxs (List.zipWith (fun b n=>(b,n,f b n)) bs ns)=bs
 | [],_,_=>by simp [bxs]
 | _::_,[],h=>by cases h
 | b::bs,n::ns,h=>by
  show b::bxs (List.zipWith (fun b n=>(b,n,f b n)) bs ns)=b::bs
  rw [zkz f bs ns (Nat.succ.inj h)]
theorem Wth.of {bs:List Box} {ns:List Int} {bud:Int} (gb:∀ b∈bs,GB b) (l1:1≤bs.length) (l6:bs.length≤6) (d1:bud≤60) (L:Lev bs ns bud (zdJ bs ns bud)):Wth bs bud (zdJ bs ns bud):=by
 have ne:=zfN l1 L.len
 have W:=zem gb L.gn ne
 have wi:=zeQ (bud:=bud) (bs:=bs) (ns:=ns) (by grind)
 refine ⟨zjU L gb l1 l6 d1,⟨List.zipWith (fun b n=>(b,n,shq (zdJ bs ns bud) b n)) bs ns,zkz _ bs ns L.len,zds _ fun i b n e1 e2=>?_,?_⟩,fun t zs hz h hc=>?_⟩
 ·have g:=gb b (zar e1)
  have n0:=L.n0 n (zar e2)
  have gn:=L.gn i b n e1 e2
  have gp:0<gnq b n:=by
   have:=zef g n
   grind
  obtain ⟨m1,m2⟩:=L.mid (b,n) (List.mem_of_getElem? (List.getElem?_zip_eq_some.mpr ⟨e1,e2⟩))
  replace m1:chq b n≤zdJ bs ns bud:=m1
  replace m2:zdJ bs ns bud≤chq b (n+1):=m2
  rw [zdn g n0] at m2
  have ip:=Rat.inv_pos.mpr gp
  refine ⟨⟨n0,?_,?_⟩,?_⟩
  ·show 0≤(zdJ bs ns bud - chq b n) / gnq b n
   rw [Rat.div_def]
   exact Rat.mul_nonneg (by grind) (Rat.le_of_lt ip)
  ·show (zdJ bs ns bud - chq b n) / gnq b n≤1
   have:=Rat.mul_le_mul_of_nonneg_right (show zdJ bs ns bud - chq b n≤gnq b n by grind) (Rat.le_of_lt ip)
   rw [Rat.mul_inv_cancel _ gn] at this
   rw [Rat.div_def]
   exact this
  ·show chq b n+(zdJ bs ns bud - chq b n) / gnq b n*gnq b n=zdJ bs ns bud
   generalize zdJ bs ns bud=V at *
   grind
 ·rw [zmz _ bs ns gb L.gn L.len,wi,Rat.intCast_sub]
  grind
 ·subst hz
  have s:=zmO zs ns t (fun z hm=>⟨gb _ (List.mem_map.mpr ⟨z,hm,rfl⟩),h z hm⟩) L.n0 L.gn (by rw [L.len];exact List.length_map ..)
  refine zgo W (Rat.le_trans s ?_)
  rw [Rat.intCast_sub]
  grind
theorem zga {b:Box} (h:b.2.1=b.2.2) (g:GB b):chq b 1=1∧gnq b 0=1:=by
 have o0:(b.2.2:Rat)≠0:=fun z=>by
  have:b.2.2=0:=by exact_mod_cast z
  have:=g.2.2.1
  have:=g.2.2.2.1
  omega
 have p:pr b=1:=by
  unfold pr
  rw [h,Rat.divInt_eq_div]
  grind
 rw [zb2 g,zdB g,p]
 constructor
 ·show (1:Rat) - (1 - 1) ^ 1=1
  rw [Rat.pow_succ,Rat.pow_zero]
  grind
 ·show ((1:Rat) - 1) ^ 0*1=1
  rw [Rat.pow_zero]
  grind
theorem ziL:∀ bs:List Box,cys (bs.map fun b=>(b,(1:Int),(0:Rat)))=(((bs.map fun b=>b.1).sum:Int):Rat)
 | []=>rfl
 | b::bs=>by
  show cy (b,1,0)+cys (bs.map fun b=>(b,(1:Int),(0:Rat)))=((b.1+(bs.map fun b=>b.1).sum:Int):Rat)
  rw [ziL bs,Rat.intCast_add]
  show (b.1:Rat)*(((1:Int):Rat)+0)+_=_
  rw [show ((1:Int):Rat)=1 from rfl]
  grind
theorem Wth.sure {bs:List Box} {bud:Int} (gb:∀ b∈bs,GB b) (l1:1≤bs.length) (h:∀ b∈bs,b.2.1=b.2.2) (hc:(bs.map fun b=>b.1).sum≤bud):Wth bs bud 1:=by
 refine ⟨⟨by show (1:Nat)<2 ^ 1300;exact Nat.one_lt_two_pow (by decide),by show (1:Nat)<2 ^ 1300;exact Nat.one_lt_two_pow (by decide)⟩,⟨bs.map fun b=>(b,1,0),?_,fun z hz=>?_,?_⟩,fun t zs hz hh _=>?_⟩
 ·show (bs.map fun b=>((b,1,0):Yb)).map (fun z=>z.1)=bs
  rw [List.map_map]
  exact List.map_id bs
 ·obtain ⟨b,hb,rfl⟩:=List.mem_map.mp hz
  refine ⟨⟨by show (0:Int)≤1;decide,Rat.le_refl,by show (0:Rat)≤1;decide⟩,?_⟩
  show chq b 1+0*gnq b 1=1
  rw [(zga (h b hb) (gb b hb)).1]
  grind
 ·rw [ziL]
  exact_mod_cast hc
 ·subst hz
  cases zs with
  | nil=>cases l1
  | cons z zs =>
   obtain ⟨a,b⟩:=hh z List.mem_cons_self
   exact Rat.le_trans b (zhc (gb _ List.mem_cons_self) a)
def zaM:Sp:=fun vs H Q _=>∃ (l:Addr) (ts:List Addr) (bs:List Box) (bud:Int),vs=[.ref l,.int bud]∧H l=some (.lst (ts.map V.ref))∧Tps bx H ts bs∧(∀ b∈bs,GB b)∧1≤bs.length∧bs.length≤6∧0≤bud∧bud≤60 ∧
 ∀ (r wr mr pr:Addr) (W:Rat) (H':Hp),zaR H H'→H' r=some (.tup [.ref wr,.ref mr,.ref pr])→H' wr=some (.tup (fr W))→Wth bs bud W→Q (.ref r) H'
def zcU (K:PySem.W.Frag):TS :=
 (zaV (za1 (zaq zgL [] E0 (zab (zac 0) (zab (zac 1) zap))) (zcj K 2 (zaD (zaf 2) (zaD (zaf 3) zck))))
 (zbq (zcs (zab (zac 3) (zab (zaq zic [] E0 (zab (zac 0) (zab (zac 2) (zab (zac 3) zap)))) (zab (zaq zeW [] E0 (zab (zac 0) (zab (zac 2) zap))) zap))))))
theorem zbn (K:PySem.W.Frag) (D:zbU) (σ:St) (H:Hp):zcU K D σ H=(zaV (za1 (zaq zgL [] E0 (zab (zac 0) (zab (zac 1) zap))) (zcj K 2 (zaD (zaf 2) (zaD (zaf 3) zck))))
 (zbq (zcs (zab (zac 3) (zab (zaq zic [] E0 (zab (zac 0) (zab (zac 2) (zab (zac 3) zap)))) (zab (zaq zeW [] E0 (zab (zac 0) (zab (zac 2) zap))) zap)))))) D σ H:=rfl
def zcx (K:PySem.W.Frag):TS :=
 (zaV (zeI (zaq zmD [] E0 (zab (zac 0) zap)))
 (zaV (zeI (zaq zeB [] E0 (zab (zac 1) zap)))
 (zaV (zeG (zcY (tB (zaq ziA [] E0 (zab (zac 0) (zab (zac 1) zap)))) (zbq (zaq zmG [] E0 (zab (zac 0) zap))) zbr))
 (zcU K))))
theorem ze5 {l:Addr} {ts:List Addr} {bs:List Box} {bud:Int} (hl:H l=some (.lst (ts.map V.ref))) (T:Tps bx H ts bs) (gb:∀ b∈bs,GB b) (l1:1≤bs.length) (l6:bs.length≤6) (d0:0≤bud) (d1:bud≤60)
  (q:∀ (r wr mr pr:Addr) (W:Rat) (H':Hp),zaR H H'→H' r=some (.tup [.ref wr,.ref mr,.ref pr])→H' wr=some (.tup (fr W))→Wth bs bud W→Q (.ref r) H') :
  zcx K { nx:=fun _ H'=>Q .non H',rt:=Q } (L2.start ["boxes","budget","counts","worth"] [.ref l,.int bud]) H:=by
 unfold zcx
 simp_all only [zbn,zac]
 refine ⟨l,ts,bs,rfl,hl,T,gb,l1,by omega,fun H1 s1=>?_⟩
 refine ⟨bud,rfl,d0,d1,?_⟩
 have hl1:=s1 _ _ hl
 have T1:=T.same s1
 refine ⟨fun σ H'=>zaR H1 H'∧((∀ b∈bs,b.2.1=b.2.2)→bud<(bs.map fun b=>b.1).sum)∧σ=[some (.ref l),some (.int bud),none,none],?_,?_⟩
 ·simp_all only [zbn,zac]
  refine ⟨l,ts,bs,bud,rfl,hl1,T1,by omega,fun c H2 s2 hc=>⟨c,rfl,?_⟩⟩
  cases c with
  | true =>
   obtain ⟨c1,c2⟩:=hc.mp rfl
   refine zoP ⟨l,ts,rfl,s2 _ _ hl1,by have:=T.1;omega,fun r wr mr pr wl pp cl H3 s3 a1 a2 a3 a4 a5 a6=>?_⟩
   exact q r wr mr pr _ H3 (s1.trans (s2.trans s3)) a1 a2 (Wth.sure gb l1 c1 c2)
  | false =>
   refine iteF ⟨s2,fun h=>?_⟩
   refine Classical.byContradiction fun z=>?_
   exact absurd (hc.mpr ⟨h,by omega⟩) (by decide)
 ·rintro σ H2 ⟨s2,hs,rfl⟩
  simp_all only [zbn,zac]
  refine ⟨l,ts,bs,bud,rfl,s2 _ _ hl1,T1.same s2,gb,l1,l6,d0,d1,hs,fun r pl wr ns H3 s3 h3 B L hw=>?_⟩
  simp_all only [zbn,zac]
  refine ⟨_,SqT.of h3,rfl,_,_,rfl,_,_,rfl,rfl,?_⟩
  have cb:=L.cb
  refine ⟨l,pl,wr,ts,bs,ns,_,rfl,B,L.gn,hw,zjU L gb l1 l6 d1,by omega,fun mr H4 s4=>?_⟩
  refine ⟨l,pl,ts,bs,ns,rfl,B.same s4,L.gn,l6,fun pr wl pp cl Ws P H5 s5 a1 a2 a3 a4 PW a6=>?_⟩
  refine ⟨by decide,fun r6 n6=>?_⟩
  have s6:=zal n6 (.tup [V.ref wr,V.ref mr,V.ref pr])
  have h6:(L2.upd H5 r6 (.tup [V.ref wr,V.ref mr,V.ref pr])) r6=some (.tup [V.ref wr,V.ref mr,V.ref pr]):=zah
  generalize L2.upd H5 r6 (.tup [V.ref wr,V.ref mr,V.ref pr])=H6 at s6 h6 ⊢
  exact q r6 wr mr pr _ H6 (s1.trans (s2.trans (s3.trans (s4.trans (s5.trans s6))))) h6 (s6 _ _ (s5 _ _ (s4 _ _ hw))) (Wth.of gb l1 l6 d1 L)
theorem zce:zaF ["boxes","budget","counts","worth"] ["boxes","budget"] (zaj zcy):=⟨rfl,rfl,rfl,by decide +kernel,rfl,by decide +kernel,by decide +kernel⟩
theorem zc5 (T:Txt K mg a):zbT P w K mg base CX0 7 a.f_budget_worth a.d_budget_worth ["boxes","budget"] zaM:=by
 have G_counts_and_worth:=zdT (P:=P) (w:=w) (base:=base) T
 have G_is_sure:=zi8 (P:=P) (w:=w) (base:=base) T
 have G_look_boxes:=zgK (P:=P) (w:=w) (base:=base) T
 have G_look_budget:=zfK (P:=P) (w:=w) (base:=base) T
 have G_mix_of:=zk7 (P:=P) (w:=w) (base:=base) T
 have G_paper_of:=zim (P:=P) (w:=w) (base:=base) T
 have G_sure_answer:=zfx (P:=P) (w:=w) (base:=base) T
 refine T.F_budget_worth.ok zce (fun vs H Q E h=>?_) (fun cdv A outer s H vs Q E hr h=>?_)
 ·obtain ⟨l,ts,bs,bud,rfl,hl,T',gb,l1,l6,d0,d1,q⟩:=h
  rfl
 obtain ⟨l,ts,bs,bud,rfl,hl,T',gb,l1,l6,d0,d1,q⟩:=h
 exact ⟨zcx K,(zae (zeq (zak G_look_boxes (hr.mono (by decide)) rfl T.m_look_boxes T.F_look_boxes.kp T.b_look_boxes .nil zaI (zaa (pv 0) zad)))
 (zae (zeq (zak G_look_budget (hr.mono (by decide)) rfl T.m_look_budget T.F_look_budget.kp T.b_look_budget .nil zaI (zaa (pv 1) zad)))
 (zae (zcC (zcB (zdt (zak G_is_sure (hr.mono (by decide)) rfl T.m_is_sure T.F_is_sure.kp T.b_is_sure .nil zaI (zaa (pv 0) (zaa (pv 1) zad)))) (zan (zaL (zak G_sure_answer (hr.mono (by decide)) rfl T.m_sure_answer T.F_sure_answer.kp T.b_sure_answer .nil zaI (zaa (pv 0) zad)))) zbi))
 (zae (zdd (zak G_counts_and_worth (hr.mono (by decide)) rfl T.m_counts_and_worth T.F_counts_and_worth.kp T.b_counts_and_worth .nil zaI (zaa (pv 0) (zaa (pv 1) zad))) (zbk rfl (zao (zam (i:=2) zce.nd rfl (Or.inl rfl)) (zao (zam (i:=3) zce.nd rfl (Or.inl rfl)) za9))))
 (zan (zaL (zbe (zaa (pv 3) (zaa (zak G_mix_of (hr.mono (by decide)) rfl T.m_mix_of T.F_mix_of.kp T.b_mix_of .nil zaI (zaa (pv 0) (zaa (pv 2) (zaa (pv 3) zad)))) (zaa (zak G_paper_of (hr.mono (by decide)) rfl T.m_paper_of T.F_paper_of.kp T.b_paper_of .nil zaI (zaa (pv 0) (zaa (pv 2) zad))) zad)))))))))),
  ze5 hl T' gb l1 l6 d0 d1 q⟩
theorem Wth.le {bs bs':List Box} {bud bud':Int} {W W':Rat} (h:Wth bs bud W) (h':Wth bs' bud' W')
  (tr:∀ zs:List Yb,bxs zs=bs→(∀ z∈zs,GY z)→cys zs≤(bud:Rat)→∃ zs':List Yb,bxs zs'=bs'∧(∀ z'∈zs',GY z'∧∃ z∈zs,Fv z≤Fv z')∧cys zs'≤(bud':Rat)):W≤W':=by
 obtain ⟨zs,e,hz,hc⟩:=h.lo
 obtain ⟨zs',e',hz',hc'⟩:=tr zs e (fun z hm=>(hz z hm).1) hc
 refine h'.hi W zs' e' (fun z' hm=>?_) hc'
 obtain ⟨g,z,hm,le⟩:=hz' z' hm
 rw [(hz z hm).2] at le
 exact ⟨g,le⟩
theorem zli {α β:Type} (f:α→β) {m m':List β} (p:m.Perm m'):∀ l:List α,l.map f=m→∃ l',l.Perm l'∧l'.map f=m':=by
 induction p with
 | nil=>exact fun l h=>⟨l,.refl _,h⟩
 | cons x _ ih =>
  intro l h
  cases l with
  | nil=>cases h
  | cons a t =>
   obtain ⟨h1,h2⟩:=List.cons.inj h
   obtain ⟨t',p',e'⟩:=ih t h2
   exact ⟨a::t',p'.cons a,by rw [List.map_cons,e',h1]⟩
 | swap x y m =>
  intro l h
  match l,h with
  | a::b::t,h =>
   obtain ⟨h1,h2⟩:=List.cons.inj h
   obtain ⟨h3,h4⟩:=List.cons.inj h2
   exact ⟨b::a::t,.swap b a t,by rw [List.map_cons,List.map_cons,h1,h3,h4]⟩
 | trans _ _ ih1 ih2 =>
  intro l h
  obtain ⟨l1,p1,e1⟩:=ih1 l h
  obtain ⟨l2,p2,e2⟩:=ih2 l1 e1
  exact ⟨l2,p1.trans p2,e2⟩
theorem zmk {l l':List Rat} (p:l.Perm l'):l.sum=l'.sum:=by
 induction p with
 | nil=>rfl
 | cons x _ ih=>rw [List.sum_cons,List.sum_cons,ih]
 | swap x y l =>
  simp only [List.sum_cons]
  grind
 | trans _ _ a b=>rw [a,b]
theorem Wth.perm {bs bs':List Box} {bud:Int} {W W':Rat} (h:Wth bs bud W) (h':Wth bs' bud W') (p:bs.Perm bs'):W≤W' :=
 h.le h' fun zs e g c=>by
  obtain ⟨zs',p',e'⟩:=zli (fun z:Yb=>z.1) p zs e
  refine ⟨zs',e',fun z hz=>⟨g z (p'.mem_iff.mpr hz),z,p'.mem_iff.mpr hz,Rat.le_refl⟩,?_⟩
  unfold cys at *
  rw [← zmk (p'.map cy)]
  exact c
theorem Wth.eq_perm {bs bs':List Box} {bud:Int} {W W':Rat} (h:Wth bs bud W) (h':Wth bs' bud W') (p:bs.Perm bs'):W'=W :=
 Rat.le_antisymm (h'.perm h p.symm) (h.perm h' p)
theorem Fv_pr {b b':Box} (g:GB b) (g':GB b') (e:pr b≤pr b') {y:Int×Rat} (h:GY (b,y)):Fv (b,y)≤Fv (b',y):=by
 obtain ⟨p0,p1,_⟩:=zeF g
 obtain ⟨q0,q1,_⟩:=zeF g'
 obtain ⟨h0,h1,h2⟩:=h
 have pw:∀ n:Nat,(1 - pr b') ^ n≤(1 - pr b) ^ n:=by
  intro n
  induction n with
  | zero=>rw [Rat.pow_zero,Rat.pow_zero];exact Rat.le_refl
  | succ n ih =>
   rw [Rat.pow_succ,Rat.pow_succ]
   have a1:=Rat.mul_le_mul_of_nonneg_right ih (show 0≤1 - pr b' by grind)
   have a2:=Rat.mul_le_mul_of_nonneg_left (show 1 - pr b'≤1 - pr b by grind) (zaZ (Rat.le_of_lt p0) p1 n).2.1
   exact Rat.le_trans a1 a2
 have ch:∀ n:Int,chq b n≤chq b' n:=fun n=>by
  rw [zb2 g,zb2 g']
  have:=pw n.toNat
  grind
 have c1:=ch y.1
 have c2:=ch (y.1+1)
 rw [zdn g h0,zdn g' h0] at c2
 have m1:=Rat.mul_le_mul_of_nonneg_left c1 (show 0≤1 - y.2 by grind)
 have m2:=Rat.mul_le_mul_of_nonneg_left c2 h1
 show chq b y.1+y.2*gnq b y.1≤chq b' y.1+y.2*gnq b' y.1
 grind
theorem zkx (k k':Rat):∀ (zs:List Yb) (bs':List Box),bs'.length=zs.length→(∀ (i:Nat) z b',zs[i]?=some z→bs'[i]?=some b'→(b'.1:Rat)*k'≤(z.1.1:Rat)*k∧0≤yv z)→cys (List.zipWith (fun b' (z:Yb)=>(b',z.2)) bs' zs)*k'≤cys zs*k
 | [],bs',_,_=>by
  rw [List.zipWith_nil_right]
  show (0:Rat)*k'≤0*k
  grind
 | _::_,[],h,_=>by cases h
 | z::zs,b'::bs',len,h=>by
  have ih:=zkx k k' zs bs' (Nat.succ.inj len) fun i z1 b1 e1 e2=>h (i+1) z1 b1 e1 e2
  obtain ⟨h1,h2⟩:=h 0 z b' rfl rfl
  have m:=Rat.mul_le_mul_of_nonneg_right h1 h2
  show ((b'.1:Rat)*yv z+cys (List.zipWith (fun b' (z:Yb)=>(b',z.2)) bs' zs))*k'≤((z.1.1:Rat)*yv z+cys zs)*k
  grind
theorem zmE:∀ (zs:List Yb) (bs':List Box),bs'.length=zs.length→bxs (List.zipWith (fun b' (z:Yb)=>(b',z.2)) bs' zs)=bs'
 | [],[],_=>rfl
 | [],_::_,h=>by cases h
 | _::_,[],h=>by cases h
 | z::zs,b'::bs',h=>by
  show b'::bxs (List.zipWith (fun b' (z:Yb)=>(b',z.2)) bs' zs)=b'::bs'
  rw [zmE zs bs' (Nat.succ.inj h)]
theorem zgQ {z:Yb} (h:GY z):0≤yv z:=by
 have:(0:Rat)≤(z.2.1:Rat):=by exact_mod_cast h.1
 have:=h.2.1
 unfold yv
 grind
theorem Wth.pt {bs bs':List Box} {bud bud':Int} {W W':Rat} (k k':Rat) (h:Wth bs bud W) (h':Wth bs' bud' W') (len:bs'.length=bs.length) (hp:∀ (i:Nat) b b',bs[i]?=some b→bs'[i]?=some b'→GB b∧GB b'∧pr b≤pr b'∧(b'.1:Rat)*k'≤(b.1:Rat)*k) (k0:0<k') (hk:(bud:Rat)*k≤(bud':Rat)*k') (k1:0≤k):W≤W' :=
 h.le h' fun zs e g c=>by
  have lz:zs.length=bs.length:=by rw [← e];exact (List.length_map ..).symm
  have ez:∀ (i:Nat) z,zs[i]?=some z→bs[i]?=some z.1:=fun i z hz=>by
   rw [← e]
   show (zs.map fun z=>z.1)[i]?=some z.1
   rw [List.getElem?_map,hz]
   rfl
  refine ⟨List.zipWith (fun b' (z:Yb)=>(b',z.2)) bs' zs,zmE zs bs' (by omega),zds _ fun i b' z e1 e2=>?_,?_⟩
  ·obtain ⟨g1,g2,g3,_⟩:=hp i z.1 b' (ez i z e2) e1
   have gz:=g z (zar e2)
   exact ⟨gz,z,zar e2,Fv_pr (y:=z.2) g1 g2 g3 gz⟩
  ·have s:=zkx k k' zs bs' (by omega) fun i z b' e1 e2=>⟨(hp i z.1 b' (ez i z e1) e2).2.2.2,zgQ (g z (zar e1))⟩
   have s2:=Rat.mul_le_mul_of_nonneg_right c k1
   refine Classical.byContradiction fun z=>?_
   have z':=Rat.mul_lt_mul_of_pos_right (Rat.not_le.mp z) k0
   grind
theorem zkl {c c' h o m:Int} (g:GB (c,h,o)) (m0:0<m):pr (c',h*m,o*m)=pr (c,h,o):=by
 show Rat.divInt (h*m) (o*m)=Rat.divInt h o
 have o0:o≠0:=by
  have:=g.2.2.1
  have:=g.2.2.2.1
  simp only at *
  omega
 rw [Rat.divInt_eq_divInt_iff (Int.mul_ne_zero o0 (by omega)) o0]
 grind
theorem Wth.less {bs cs:List Box} {b:Box} {bud:Int} {W W':Rat} (gb:GB b) (h:Wth (bs++b::cs) bud W) (h':Wth (bs++cs) bud W'):W≤W' :=
 h.le h' fun zs e g c=>by
  unfold bxs at e
  obtain ⟨z1,z2,rfl,e1,e2⟩:=List.map_eq_append_iff.mp e
  cases z2 with
  | nil=>cases e2
  | cons z z2 =>
   obtain ⟨e3,e4⟩:=List.cons.inj e2
   refine ⟨z1++z2,?_,fun y hy=>?_,?_⟩
   ·unfold bxs
    rw [List.map_append,e1,e4]
   ·have m:y∈z1++z::z2:=by
     rcases List.mem_append.mp hy with m | m
     ·exact List.mem_append_left _ m
     ·exact List.mem_append_right _ (List.mem_cons_of_mem _ m)
    exact ⟨g y m,y,m,Rat.le_refl⟩
   ·have y0:=zgQ (g z (List.mem_append_right _ List.mem_cons_self))
    have c0:(0:Rat)≤(z.1.1:Rat):=by
     replace e3:z.1=b:=e3
     rw [e3]
     exact_mod_cast (show (0:Int)≤b.1 by have:=gb.1;omega)
    have m:=Rat.mul_nonneg c0 y0
    unfold cys at *
    rw [List.map_append,List.sum_append] at *
    rw [List.map_cons,List.sum_cons] at c
    unfold cy at *
    grind
theorem zjS (z:Yb):∀ n:Nat,cys (List.replicate n z)=((n:Int):Rat)*cy z
 | 0=>by
  show (0:Rat)=((0:Int):Rat)*cy z
  rw [show ((0:Int):Rat)=0 from rfl]
  grind
 | n+1=>by
  rw [List.replicate_succ]
  show cy z+cys (List.replicate n z)=_
  rw [zjS z n,show ((n+1:Nat):Int)=(n:Int)+1 by omega,Rat.intCast_add,show ((1:Int):Rat)=1 from rfl]
  grind
theorem zkK (m:Rat):∀ zs:List Yb,(∀ z∈zs,m<cy z)→zs≠[]→((zs.length:Int):Rat)*m<cys zs
 | [],_,h=>absurd rfl h
 | [z],h,_=>by
  have:=h z List.mem_cons_self
  show (((1:Nat):Int):Rat)*m<cy z+0
  rw [show (((1:Nat):Int):Rat)=1 from rfl]
  grind
 | z::y::zs,h,_=>by
  have ih:=zkK m (y::zs) (fun x hx=>h x (List.mem_cons_of_mem _ hx)) (by simp)
  have:=h z List.mem_cons_self
  show ((((y::zs).length+1:Nat):Int):Rat)*m<cy z+cys (y::zs)
  rw [show (((y::zs).length+1:Nat):Int)=((y::zs).length:Int)+1 by omega,Rat.intCast_add,show ((1:Int):Rat)=1 from rfl]
  grind
theorem Wth.alike {b:Box} {n:Nat} {bud:Int} {W:Rat} {z:Yb} (h:Wth (List.replicate n b) bud W) (g:GB b) (n0:0<n) (e:z.1=b) (gz:GY z) (hc:((n:Int):Rat)*cy z=(bud:Rat)):W=Fv z:=by
 refine Rat.le_antisymm ?_ ?_
 ·obtain ⟨zs,e1,hz,c⟩:=h.lo
  have lz:zs.length=n:=by
   have:=congrArg List.length e1
   rw [bxs,List.length_map,List.length_replicate] at this
   exact this
  have one:∃ y∈zs,cy y≤cy z:=by
   refine Classical.byContradiction fun c1=>?_
   have lo:=zkK (cy z) zs (fun y hy=>Rat.not_le.mp fun le=>c1 ⟨y,hy,le⟩) (fun z=>by rw [z] at lz;simp at lz;omega)
   rw [lz,hc] at lo
   exact absurd c (Rat.not_le.mpr lo)
  obtain ⟨y,hy,le⟩:=one
  obtain ⟨gy,ey⟩:=hz y hy
  have yb:y.1=b:=by
   have:y.1∈bxs zs:=List.mem_map.mpr ⟨y,hy,rfl⟩
   rw [e1] at this
   exact (List.mem_replicate.mp this).2
  rw [← ey]
  refine zn5 (by rw [yb,e]) (by rw [yb];exact g) gy gz ?_
  have c0:(0:Rat)<(b.1:Rat):=by exact_mod_cast (show (0:Int)<b.1 by have:=g.1;omega)
  unfold cy at le
  rw [yb,e] at le
  exact Rat.le_of_mul_le_mul_left le c0
 ·refine h.hi (Fv z) (List.replicate n z) ?_ (fun y hy=>?_) ?_
  ·unfold bxs
   rw [List.map_replicate,e]
  ·rw [(List.mem_replicate.mp hy).2]
   exact ⟨gz,Rat.le_refl⟩
  ·rw [zjS,hc]
   exact Rat.le_refl
theorem zg9 (s:Rat):∀ bs:List Box,cys (bs.map fun b=>(b,(0:Int),s))=(((bs.map fun b=>b.1).sum:Int):Rat)*s
 | []=>by
  show (0:Rat)=((0:Int):Rat)*s
  rw [show ((0:Int):Rat)=0 from rfl]
  grind
 | b::bs=>by
  show cy (b,0,s)+cys (bs.map fun b=>(b,(0:Int),s))=((b.1+(bs.map fun b=>b.1).sum:Int):Rat)*s
  rw [zg9 s bs,Rat.intCast_add]
  show (b.1:Rat)*(((0:Int):Rat)+s)+_=_
  rw [show ((0:Int):Rat)=0 from rfl]
  grind
theorem zmH (W:Rat):∀ zs:List Yb,(∀ z∈zs,0≤(z.1.1:Rat)∧W≤yv z)→(((bxs zs).map fun b=>b.1).sum:Int)*W≤cys zs
 | [],_=>by
  show ((0:Int):Rat)*W≤0
  rw [show ((0:Int):Rat)=0 from rfl]
  grind
 | z::zs,h=>by
  have ih:=zmH W zs fun y hy=>h y (List.mem_cons_of_mem _ hy)
  obtain ⟨h1,h2⟩:=h z List.mem_cons_self
  have m:=Rat.mul_le_mul_of_nonneg_left h2 h1
  show ((z.1.1+((bxs zs).map fun b=>b.1).sum:Int):Rat)*W≤(z.1.1:Rat)*yv z+cys zs
  rw [Rat.intCast_add]
  grind
theorem Wth.sures {bs:List Box} {bud:Int} {W:Rat} (h:Wth bs bud W) (gb:∀ b∈bs,GB b) (ne:bs≠[]) (hs:∀ b∈bs,b.2.1=b.2.2) (d0:0≤bud):W=Rat.divInt (if (bs.map fun b=>b.1).sum<bud then (bs.map fun b=>b.1).sum else bud) (bs.map fun b=>b.1).sum:=by
 have C0:=zgh bs gb ne
 generalize hC:(bs.map fun b=>b.1).sum=C at *
 have CR:(0:Rat)<(C:Rat):=by exact_mod_cast C0
 have DR:(0:Rat)≤(bud:Rat):=by exact_mod_cast d0
 have iC:=Rat.inv_pos.mpr CR
 generalize hM:(if C<bud then C else bud)=M
 have M1:M≤bud∧M≤C∧0≤M∧(M=bud∨M=C):=by
  rw [← hM]
  split <;> omega
 have MR1:(M:Rat)≤(bud:Rat):=by exact_mod_cast M1.1
 have MR2:(M:Rat)≤(C:Rat):=by exact_mod_cast M1.2.1
 have MR3:(0:Rat)≤(M:Rat):=by exact_mod_cast M1.2.2.1
 have s0:0≤(M:Rat) / (C:Rat):=by
  rw [Rat.div_def]
  exact Rat.mul_nonneg MR3 (Rat.le_of_lt iC)
 have s1:(M:Rat) / (C:Rat)≤1:=by
  have:=Rat.mul_le_mul_of_nonneg_right MR2 (Rat.le_of_lt iC)
  rw [Rat.mul_inv_cancel _ (by grind)] at this
  rw [Rat.div_def]
  exact this
 have cs:(C:Rat)*((M:Rat) / (C:Rat))=(M:Rat):=by
  have:(C:Rat)≠0:=by grind
  grind
 rw [Rat.divInt_eq_div]
 refine Rat.le_antisymm ?_ ?_
 ·obtain ⟨zs,e1,hz,c⟩:=h.lo
  have hb:∀ z∈zs,z.1∈bs:=fun z hm=>by rw [← e1];exact List.mem_map.mpr ⟨z,hm,rfl⟩
  have wy:∀ z∈zs,W≤yv z:=fun z hm=>by
   obtain ⟨gz,ez⟩:=hz z hm
   have g:=gb _ (hb z hm)
   have s:=zkP g gz (n:=0) (by decide)
   rw [zd6 g,(zga (hs _ (hb z hm)) g).2,ez,show ((0:Int):Rat)=0 from rfl] at s
   grind
  have ge:=zmH W zs fun z hm=>⟨by exact_mod_cast (show (0:Int)≤z.1.1 by have:=(gb _ (hb z hm)).1;omega),wy z hm⟩
  rw [e1,hC] at ge
  have le1:W≤1:=by
   cases zs with
   | nil =>
    exact absurd e1.symm ne
   | cons z zs =>
    obtain ⟨gz,ez⟩:=hz z List.mem_cons_self
    rw [← ez]
    exact zhc (gb _ (hb z List.mem_cons_self)) gz
  have CW:(C:Rat)*W≤(M:Rat):=by
   rcases M1.2.2.2 with z | z
   ·rw [z]
    exact Rat.le_trans ge c
   ·rw [z]
    have:=Rat.mul_le_mul_of_nonneg_left le1 (Rat.le_of_lt CR)
    grind
  rw [← cs] at CW
  exact Rat.le_of_mul_le_mul_left CW CR
 ·refine h.hi _ (bs.map fun b=>(b,(0:Int),(M:Rat) / (C:Rat))) ?_ (fun z hz=>?_) ?_
  ·show (bs.map fun b=>((b,(0:Int),(M:Rat) / (C:Rat)):Yb)).map (fun z=>z.1)=bs
   rw [List.map_map]
   exact List.map_id bs
  ·obtain ⟨b,hb,rfl⟩:=List.mem_map.mp hz
   refine ⟨⟨by show (0:Int)≤0;decide,s0,s1⟩,?_⟩
   show (M:Rat) / (C:Rat)≤chq b 0+(M:Rat) / (C:Rat)*gnq b 0
   rw [zd6 (gb b hb),(zga (hs b hb) (gb b hb)).2]
   grind
  ·rw [zg9,hC,cs]
   exact MR1
def zet:TS :=
 (zaV (za1 (tOp (rI (fun _ j=>0<j) fun i j=>.int (i % j)) (tOp (rI IntMulOk fun i j=>.int (i*j)) (tOp (rI0 fun i j=>.int (i+j)) (tOp (rI0 fun i j=>.int (i+j)) (tOp (rI IntMulOk fun i j=>.int (i*j)) (zac 0) (zac 0)) (tOp (rI IntMulOk fun i j=>.int (i*j)) (zac 1) (zac 0))) (tOp (rI IntMulOk fun i j=>.int (i*j)) (tOp (rI IntMulOk fun i j=>.int (i*j)) (tC (.int 7)) (zac 1)) (zac 1))) (tC (.int 1103515245))) (tC (.int 2147483629))) (zaf 2))
 (zbq (tOp (rI (fun _ j=>0<j) fun i j=>.int (i % j)) (tOp (rI IntMulOk fun i j=>.int (i*j)) (zac 2) (zac 2)) (tC (.int 2147483587)))))
theorem zh1 {n k:Int} (hn:n.natAbs<2 ^ 2 ^ 20) (k0:0≤k) (k1:k≤100000) (q:∀ r:Int,0≤r→r<2147483587→Q (.int r) H) :
  zet { nx:=fun _ H'=>Q .non H',rt:=Q } (L2.start ["_law_number","_law_k","_law_mixed"] [.int n,.int k]) H:=by
 unfold zet
 simp_all only [zac]
 refine ⟨zeM 1048576 1048576 hn hn,mulL (by omega) (by omega),zgM (by omega) (by omega),zgM (by omega) (by omega),zgM (by decide) (by decide),by decide,?_⟩
 have b3:=Int.emod_nonneg ((n*n+k*n+7*k*k)*1103515245) (show (2147483629:Int)≠0 by decide)
 have b4:=Int.emod_lt_of_pos ((n*n+k*n+7*k*k)*1103515245) (show (0:Int)<2147483629 by decide)
 generalize (n*n+k*n+7*k*k)*1103515245 % 2147483629=x at b3 b4 ⊢
 refine ⟨zgM (by omega) (by omega),by decide,q _ (Int.emod_nonneg _ (by decide)) (Int.emod_lt_of_pos _ (by decide))⟩
theorem zfq:zaF ["_law_number","_law_k","_law_mixed"] ["_law_number","_law_k"] (zaj zeo):=⟨rfl,rfl,rfl,by decide +kernel,rfl,by decide +kernel,by decide +kernel⟩
theorem ziy (T:Txt K mg a):zbT P w K mg base CX0 1 a.f__law_mix a.d__law_mix ["_law_number","_law_k"] zhN:=by
 refine T.F__law_mix.ok zfq (fun vs H Q E h=>?_) (fun cdv A outer s H vs Q E hr h=>?_)
 ·obtain ⟨n,k,rfl,hn,k0,k1,q⟩:=h
  rfl
 obtain ⟨n,k,rfl,hn,k0,k1,q⟩:=h
 exact ⟨zet,(zae (zaK (i:=2) zfq.nd rfl (Or.inl rfl) (zat zg0 (zat zaJ (zat zbg (zat zbg (zat zaJ (pv 0) (pv 0)) (zat zaJ (pv 1) (pv 0))) (zat zaJ (zat zaJ zag (pv 1)) (pv 1))) zag) zag))
 (zan (zaL (zat zg0 (zat zaJ (pv 2) (pv 2)) zag)))),
  zh1 hn k0 k1 q⟩
def zcV (K:PySem.W.Frag):TS :=
 (zcY (zby (tOp (rI0 fun i j=>.bl (decide (i<j))) (zac 1) (tCB (fun xs H Q=>∃ p ys,xs=[.ref p]∧(SqL K H p ys∨SqT K H p ys)∧Q (.int ys.length) H) (zab (zac 0) zap)))) (zbq (tOp (zc1 K) (zac 0) (zac 1))) zbr)
theorem zcc (K:PySem.W.Frag) (D:zbU) (σ:St) (H:Hp):zcV K D σ H=(zcY (zby (tOp (rI0 fun i j=>.bl (decide (i<j))) (zac 1) (tCB (fun xs H Q=>∃ p ys,xs=[.ref p]∧(SqL K H p ys∨SqT K H p ys)∧Q (.int ys.length) H) (zab (zac 0) zap)))) (zbq (tOp (zc1 K) (zac 0) (zac 1))) zbr) D σ H:=rfl
def zct (K:PySem.W.Frag):TS :=
 (zaV (zeG (zcV K))
 (zbq (tC (.int 0))))
theorem zfg {p:Addr} {x:Int} (hp:H p=some (.lst [.int x])) (q:Q (.int x) H) :
  zct K { nx:=fun _ H'=>Q .non H',rt:=Q } (L2.start ["_law_script","_law_k"] [.ref p,.int 0]) H:=by
 unfold zct
 simp_all only [zcc,zac]
 refine ⟨fun _ _=>False,?_,fun _ _ z=>z.elim⟩
 simp_all only [zcc,zac]
 refine ⟨_,.inl (SqL.of hp),?_⟩
 exact zeH (fun _=>⟨_,SqL.of hp,_,rfl,q⟩) (fun z=>absurd (show (0:Int)<1 by decide) z)
theorem ze4:zaF ["_law_script","_law_k"] ["_law_script","_law_k"] (zaj zcq):=⟨rfl,rfl,rfl,by decide +kernel,rfl,by decide +kernel,by decide +kernel⟩
theorem zfb (T:Txt K mg a):zbT P w K mg base CX0 1 a.f__law_cell_at a.d__law_cell_at ["_law_script","_law_k"] (ziV K):=by
 refine T.F__law_cell_at.ok ze4 (fun vs H Q E h=>?_) (fun cdv A outer s H vs Q E hr h=>?_)
 ·obtain ⟨p,x,rfl,hp,q⟩:=h
  rfl
 obtain ⟨p,x,rfl,hp,q⟩:=h
 exact ⟨zct K,(zae (zcC (zcB (zbz zjj (pv 1) (za6 zbH rfl T.z_len PySem.boot_len (zaa (pv 0) zad)) (zbB _)) (zan (zaL (zaN zbw (pv 0) (pv 1) (fun _ _=>rfl)))) zbi))
 (zan (zaL zag))),
  zfg hp q⟩
def zd1:TS :=
 (zbq (zdU (zab (tOp (rI0 fun i j=>.int (i - j)) (zac 2) (tOp (rI zoQ fun i j=>.int (i ^ j.toNat)) (tC (.int 10)) (tC (.int 18)))) (zab (tC (.int 1)) (zab (tC (.int 0)) zap)))))
theorem zbZ (D:zbU) (σ:St) (H:Hp):zd1 D σ H=(zbq (zdU (zab (tOp (rI0 fun i j=>.int (i - j)) (zac 2) (tOp (rI zoQ fun i j=>.int (i ^ j.toNat)) (tC (.int 10)) (tC (.int 18)))) (zab (tC (.int 1)) (zab (tC (.int 0)) zap))))) D σ H:=rfl
def zd3:TS :=
 (zcY (zby (tOp (rI0 fun i j=>.bl (decide (i<j))) (zac 2) (tOp (rI zoQ fun i j=>.int (i ^ j.toNat)) (tC (.int 10)) (tC (.int 18))))) (zbq (zdU (zab (zac 2) (zab (tC (.int 0)) (zab (tC (.int 0)) zap))))) zbr)
theorem zbY (D:zbU) (σ:St) (H:Hp):zd3 D σ H=(zcY (zby (tOp (rI0 fun i j=>.bl (decide (i<j))) (zac 2) (tOp (rI zoQ fun i j=>.int (i ^ j.toNat)) (tC (.int 10)) (tC (.int 18))))) (zbq (zdU (zab (zac 2) (zab (tC (.int 0)) (zab (tC (.int 0)) zap))))) zbr) D σ H:=rfl
def zdS (K:PySem.W.Frag):TS :=
 (zaV (za1 (zaq (ziV K) [] E0 (zab (zac 0) (zab (zac 1) zap))) (zaf 2))
 (zaV (zeG (zd3))
 (zd1)))
theorem zhG {p:Addr} {x:Int} (hp:H p=some (.lst [.int x])) (bx:x.natAbs<2 ^ 2 ^ 20) (q:∀ (l:Addr) (H':Hp),zaR H H'→H l=none→Drw H' l 0→Q (.ref l) H') :
  zdS K { nx:=fun _ H'=>Q .non H',rt:=Q } (L2.start ["_law_script","_law_k","_law_cell"] [.ref p,.int 0]) H:=by
 unfold zdS
 simp_all only [zbZ,zbY,zac]
 refine ⟨p,x,rfl,hp,?_⟩
 refine ⟨fun σ H'=>H'=H∧1000000000000000000≤x∧σ=[some (.ref p),some (.int 0),some (.int x)],?_,?_⟩
 ·simp_all only [zbZ,zbY,zac]
  refine ⟨zqZ,zeH (fun c=>⟨by decide,fun l hl=>?_⟩) (fun c=>by omega)⟩
  exact q l _ (zal hl _) hl ⟨⟨x,0,zah,bx,.inl rfl⟩,by decide⟩
 ·rintro σ H1 ⟨rfl,c,rfl⟩
  simp_all only [zbZ,zbY,zac]
  refine ⟨zqZ,by decide,fun l hl=>?_⟩
  exact q l _ (zal hl _) hl ⟨⟨_,1,zah,Nat.lt_of_le_of_lt (by omega) bx,.inr ⟨rfl,by omega⟩⟩,by decide⟩
theorem zeE:zaF ["_law_script","_law_k","_law_cell"] ["_law_script","_law_k"] (zaj zdD):=⟨rfl,rfl,rfl,by decide +kernel,rfl,by decide +kernel,by decide +kernel⟩
theorem zhf (T:Txt K mg a):zbT P w K mg base CX0 2 a.f__law_left a.d__law_left ["_law_script","_law_k"] (zkD K):=by
 have G__law_cell_at:=zfb (P:=P) (w:=w) (base:=base) T
 refine T.F__law_left.ok zeE (fun vs H Q E h=>?_) (fun cdv A outer s H vs Q E hr h=>?_)
 ·obtain ⟨p,x,rfl,hp,bx,q⟩:=h
  rfl
 obtain ⟨p,x,rfl,hp,bx,q⟩:=h
 exact ⟨zdS K,(zae (zaK (i:=2) zeE.nd rfl (Or.inl rfl) (zak G__law_cell_at (hr.mono (by decide)) rfl T.m__law_cell_at T.F__law_cell_at.kp T.b__law_cell_at .nil zaI (zaa (pv 0) (zaa (pv 1) zad))))
 (zae (zcC (zcB (zbz zjj (pv 2) (zat zmL zag zag) (zbB _)) (zan (zaL (zbN (zaa (pv 2) (zaa zag (zaa zag zad)))))) zbi))
 (zan (zaL (zbN (zaa (zat zcW (pv 2) (zat zmL zag zag)) (zaa zag (zaa zag zad)))))))),
  zhG hp bx q⟩
theorem logM {m:Int} (h0:0<m) (h1:m≤1000000000000000000000000000000):m.natAbs.log2<9000:=zeA 100 (by omega) (by omega)
def zdX (K:PySem.W.Frag):TS :=
 (zaV (za1 (tOp (rI (fun _ j=>0<j) fun i j=>.int (i % j)) (tOp (zc1 K) (zac 0) (tC (.int 0))) (zac 1)) (zaf 3))
 (zaV (za1 (tOp (rI (fun _ j=>0<j∧j.natAbs.log2<9000) fun i j=>.int (i / j)) (tOp (zc1 K) (zac 0) (tC (.int 0))) (zac 1)) (zo0 (zac 0) (tC (.int 0)) zkZ))
 (zbq (zac 3))))
theorem zbC (K:PySem.W.Frag) (D:zbU) (σ:St) (H:Hp):zdX K D σ H=(zaV (za1 (tOp (rI (fun _ j=>0<j) fun i j=>.int (i % j)) (tOp (zc1 K) (zac 0) (tC (.int 0))) (zac 1)) (zaf 3))
 (zaV (za1 (tOp (rI (fun _ j=>0<j∧j.natAbs.log2<9000) fun i j=>.int (i / j)) (tOp (zc1 K) (zac 0) (tC (.int 0))) (zac 1)) (zo0 (zac 0) (tC (.int 0)) zkZ))
 (zbq (zac 3)))) D σ H:=rfl
def zea (K:PySem.W.Frag):TS :=
 (zcY (zby (tOp rEq (tOp (zc1 K) (zac 0) (tC (.int 1))) (tC (.int 0)))) (zaV (za1 (zaq zhN [] E0 (zab (tOp (zc1 K) (zac 0) (tC (.int 0))) (zab (tOp (zc1 K) (zac 0) (tC (.int 2))) zap))) (zaf 2))
 (zbq (tOp (rI (fun _ j=>0<j) fun i j=>.int (i % j)) (tOp (rI (fun _ j=>0<j) fun i j=>.int (i % j)) (tOp (rI IntMulOk fun i j=>.int (i*j)) (zac 2) (tOp (rI0 fun i j=>.int (i+j)) (zac 2) (tC (.int 2)))) (tC (.int 2147483579))) (zac 1)))) zbr)
theorem zbD (K:PySem.W.Frag) (D:zbU) (σ:St) (H:Hp):zea K D σ H=(zcY (zby (tOp rEq (tOp (zc1 K) (zac 0) (tC (.int 1))) (tC (.int 0)))) (zaV (za1 (zaq zhN [] E0 (zab (tOp (zc1 K) (zac 0) (tC (.int 0))) (zab (tOp (zc1 K) (zac 0) (tC (.int 2))) zap))) (zaf 2))
 (zbq (tOp (rI (fun _ j=>0<j) fun i j=>.int (i % j)) (tOp (rI (fun _ j=>0<j) fun i j=>.int (i % j)) (tOp (rI IntMulOk fun i j=>.int (i*j)) (zac 2) (tOp (rI0 fun i j=>.int (i+j)) (zac 2) (tC (.int 2)))) (tC (.int 2147483579))) (zac 1)))) zbr) D σ H:=rfl
def zdQ (K:PySem.W.Frag):TS :=
 (zaV (za1 (tOp (rI0 fun i j=>.int (i+j)) (tOp (zc1 K) (zac 0) (tC (.int 2))) (tC (.int 1))) (zo0 (zac 0) (tC (.int 2)) zkZ))
 (zaV (zeG (zea K))
 (zdX K)))
theorem zhB {p:Addr} {c m:Int} (hP:Drw H p c) (c1:c<10000) (m0:0<m) (m1:m≤1000000000000000000000000000000)
  (q:∀ (r:Int) (H':Hp),0≤r→r<m→Off p p H'=Off p p H→Drw H' p (c+1)→Q (.int r) H') :
  zdQ K { nx:=fun _ H'=>Q .non H',rt:=Q } (L2.start ["_law_left_here","_law_base","_law_mixed","_law_digit"] [.ref p,.int m]) H:=by
 unfold zdQ
 obtain ⟨n,f,hp,bn,hf⟩:=hP.hp
 have c0:=hP.c0
 simp_all only [zbC,zbD,zac]
 refine ⟨_,SqL.of hp,_,rfl,_,rfl,_,hp,2,rfl,?_⟩
 simp_all only [zbC,zbD,zac]
 have hp2:(L2.upd H p (.lst [.int n,.int f,.int (c+1)])) p=some (.lst [.int n,.int f,.int (c+1)]):=zah
 have o2:Off p p (L2.upd H p (.lst [.int n,.int f,.int (c+1)]))=Off p p H:=zpV
 generalize L2.upd H p (.lst [.int n,.int f,.int (c+1)])=G at hp2 o2 ⊢
 refine ⟨fun σ H'=>H'=G∧f=1∧0≤n∧σ=[some (.ref p),some (.int m),none,none],?_,?_⟩
 ·simp_all only [zbC,zbD,zac]
  refine ⟨_,SqL.of hp2,_,rfl,rfl,zeH (fun z=>?_) (fun z=>?_)⟩
  ·refine ⟨_,SqL.of hp2,_,rfl,_,SqL.of hp2,_,rfl,n,c+1,rfl,bn,by omega,by omega,fun x x0 x1=>?_⟩
   refine ⟨x,rfl,x,rfl,zgM (by omega) (by omega),by decide,m0,?_⟩
   exact q _ _ (Int.emod_nonneg _ (by omega)) (Int.emod_lt_of_pos _ m0) o2 ⟨⟨n,f,hp2,bn,hf⟩,by omega⟩
  ·rcases hf with rfl | h
   ·exact absurd rfl z
   ·exact h
 ·rintro σ H' ⟨rfl,rfl,n0,rfl⟩
  simp_all only [zbC,zbD,zac]
  refine ⟨_,SqL.of hp2,_,rfl,n,rfl,m0,_,SqL.of hp2,_,rfl,n,rfl,m0,logM m0 m1,_,hp2,0,rfl,?_⟩
  have d0:0≤n / m:=Int.ediv_nonneg n0 (by omega)
  have d1:n / m≤n:=Int.ediv_le_self m n0
  exact q _ _ (Int.emod_nonneg _ (by omega)) (Int.emod_lt_of_pos _ m0) (zpV.trans o2) ⟨⟨n / m,1,zah,Nat.lt_of_le_of_lt (by omega) bn,.inr ⟨rfl,d0⟩⟩,by omega⟩
theorem zc0:zaF ["_law_left_here","_law_base","_law_mixed","_law_digit"] ["_law_left_here","_law_base"] (zaj zdM):=⟨rfl,rfl,rfl,by decide +kernel,rfl,by decide +kernel,by decide +kernel⟩
theorem zcm (T:Txt K mg a):zbT P w K mg base CX0 2 a.f__law_draw a.d__law_draw ["_law_left_here","_law_base"] zaT:=by
 have G__law_mix:=ziy (P:=P) (w:=w) (base:=base) T
 refine T.F__law_draw.ok zc0 (fun vs H Q E h=>?_) (fun cdv A outer s H vs Q E hr h=>?_)
 ·obtain ⟨p,c,m,rfl,hP,c1,m0,m1,q⟩:=h
  rfl
 obtain ⟨p,c,m,rfl,hP,c1,m0,m1,q⟩:=h
 exact ⟨zdQ K,(zae (zdd (zat zbg (zaN zbw (pv 0) zag (fun _ _=>rfl)) zag) (zmX (pv 0) zag ziW))
 (zae (zcC (zcB (zbz znw (zaN zbw (pv 0) zag (fun _ _=>rfl)) zag (zbB _)) (zae (zaK (i:=2) zc0.nd rfl (Or.inl rfl) (zak G__law_mix (hr.mono (by decide)) rfl T.m__law_mix T.F__law_mix.kp T.b__law_mix .nil zaI (zaa (zaN zbw (pv 0) zag (fun _ _=>rfl)) (zaa (zaN zbw (pv 0) zag (fun _ _=>rfl)) zad))))
 (zan (zaL (zat zg0 (zat zg0 (zat zaJ (pv 2) (zat zbg (pv 2) zag)) zag) (pv 1))))) zbi))
 (zae (zaK (i:=3) zc0.nd rfl (Or.inl rfl) (zat zg0 (zaN zbw (pv 0) zag (fun _ _=>rfl)) (pv 1)))
 (zae (zdd (zat zll (zaN zbw (pv 0) zag (fun _ _=>rfl)) (pv 1)) (zmX (pv 0) zag ziW))
 (zan (zaL (pv 3))))))),
  zhB hP c1 m0 m1 q⟩
theorem at2 {r x y:Int} (h0:0≤r) (h1:r<2):∃ v:Int,atI [V.int x,V.int y] r=some (.int v)∧(v=x∨v=y):=by
 have:r=0∨r=1:=by omega
 rcases this with rfl | rfl
 ·exact ⟨x,rfl,.inl rfl⟩
 ·exact ⟨y,rfl,.inr rfl⟩
theorem at3 {r x y z:Int} (h0:0≤r) (h1:r<3):∃ v:Int,atI [V.int x,V.int y,V.int z] r=some (.int v)∧(v=x∨v=y∨v=z):=by
 have:r=0∨r=1∨r=2:=by omega
 rcases this with rfl | rfl | rfl
 ·exact ⟨x,rfl,.inl rfl⟩
 ·exact ⟨y,rfl,.inr (.inl rfl)⟩
 ·exact ⟨z,rfl,.inr (.inr rfl)⟩
def ze2:Sp:=fun vs H Q _=>∃ (p:Addr) (c:Int),vs=[.ref p,.int 3]∧Drw H p c∧c<1000∧∀ (l:Addr) (ts:List Addr) (bs:List Box) (c':Int) (H':Hp),zaR (Off p p H) (Off p p H')→Drw H' p c'→c'≤c+16→Off p p H' l=some (.lst (ts.map V.ref))→Tps bx (Off p p H') ts bs→(∀ b∈bs,GB b)→1≤bs.length→bs.length≤3→Q (.ref l) H'
def zdu (K:PySem.W.Frag):TS :=
 (zaV (za1 (tOp (rI0 fun i j=>.int (i+j)) (tC (.int 1)) (zaq zaT [] E0 (zab (zac 0) (zab (tOp (zc1 K) (zdU (zab (tC (.int 1)) (zab (tC (.int 4)) (zab (tC (.int 60)) zap)))) (zaq zaT [] E0 (zab (zac 0) (zab (tC (.int 3)) zap)))) zap)))) (zaf 4))
 (zaV (za1 (tOp (rI0 fun i j=>.int (i+j)) (tC (.int 1)) (zaq zaT [] E0 (zab (zac 0) (zab (tOp (zc1 K) (zdU (zab (tC (.int 3)) (zab (tC (.int 50)) zap))) (zaq zaT [] E0 (zab (zac 0) (zab (tC (.int 2)) zap)))) zap)))) (zaf 5))
 (zeI (tBM K "list" zbo (zac 2) (zab (zcs (zab (zac 4) (zab (tOp (rI0 fun i j=>.int (i+j)) (tC (.int 1)) (zaq zaT [] E0 (zab (zac 0) (zab (zac 5) zap)))) (zab (zac 5) zap)))) zap)))))
theorem zaS (K:PySem.W.Frag) (D:zbU) (σ:St) (H:Hp):zdu K D σ H=(zaV (za1 (tOp (rI0 fun i j=>.int (i+j)) (tC (.int 1)) (zaq zaT [] E0 (zab (zac 0) (zab (tOp (zc1 K) (zdU (zab (tC (.int 1)) (zab (tC (.int 4)) (zab (tC (.int 60)) zap)))) (zaq zaT [] E0 (zab (zac 0) (zab (tC (.int 3)) zap)))) zap)))) (zaf 4))
 (zaV (za1 (tOp (rI0 fun i j=>.int (i+j)) (tC (.int 1)) (zaq zaT [] E0 (zab (zac 0) (zab (tOp (zc1 K) (zdU (zab (tC (.int 3)) (zab (tC (.int 50)) zap))) (zaq zaT [] E0 (zab (zac 0) (zab (tC (.int 2)) zap)))) zap)))) (zaf 5))
 (zeI (tBM K "list" zbo (zac 2) (zab (zcs (zab (zac 4) (zab (tOp (rI0 fun i j=>.int (i+j)) (tC (.int 1)) (zaq zaT [] E0 (zab (zac 0) (zab (zac 5) zap)))) (zab (zac 5) zap)))) zap))))) D σ H:=rfl
def zc2 (K:PySem.W.Frag):TS :=
 (zaV (za1 (zdU zap) (zaf 2))
 (zaV (zid (zfz (zab (tOp (rI0 fun i j=>.int (i+j)) (tC (.int 1)) (zaq zaT [] E0 (zab (zac 0) (zab (zac 1) zap)))) zap)) (zaf 3)
 (zdu K))
 (zbq (zac 2))))
theorem zf2 {p:Addr} {c:Int} (hP:Drw H p c) (c1:c<1000) (q:∀ (l:Addr) (ts:List Addr) (bs:List Box) (c':Int) (H':Hp),zaR (Off p p H) (Off p p H')→Drw H' p c'→c'≤c+16→Off p p H' l=some (.lst (ts.map V.ref))→Tps bx (Off p p H') ts bs→(∀ b∈bs,GB b)→1≤bs.length→bs.length≤3→Q (.ref l) H') :
  zc2 K { nx:=fun _ H'=>Q .non H',rt:=Q } (L2.start ["_law_left_here","_law_most","_law_found","_law_k","_law_cost","_law_of"] [.ref p,.int 3]) H:=by
 unfold zc2
 have c0:=hP.c0
 simp_all only [zaS,zac]
 refine ⟨by decide,fun l hl=>?_⟩
 obtain ⟨H1,e1,P1,s1,h1,_⟩:=hP.mk2 hl (.lst [])
 have nl:=hP.new hl
 have fl:Off p p H l=none:=zf1 hl
 rw [← e1]
 refine ⟨p,c,3,rfl,P1,by omega,by decide,by decide,fun r H2 r0 r1 o2 P2=>?_⟩
 simp_all only [zaS,zac]
 refine ⟨by omega,by omega,?_⟩
 refine zdr (fun i σ H'=>∃ (ts:List Addr) (bs:List Box) (u:Int),zaR (Off p p H) (Off p p H')∧Drw H' p u∧u≤c+1+5*i∧Off p p H' l=some (.lst (ts.map V.ref))∧Tps bx (Off p p H') ts bs∧(∀ b∈bs,GB b)∧bs.length=i∧∃ x y z,σ=[some (.ref p),some (.int 3),some (.ref l),x,y,z]) ?_ ?_ ?_
 ·exact ⟨[],[],c+1,by rw [o2];exact s1,P2,by omega,by rw [o2];exact h1,.nil,by simp,rfl,_,_,_,rfl⟩
 ·rintro i σ H3 hi ⟨ts,bs,u,s3,P3,hu,hl3,T3,gb,lb,x,y,z,rfl⟩
  have u0:=P3.c0
  simp_all only [zaS,zac]
  refine ⟨by decide,fun d1 hd1=>?_⟩
  obtain ⟨H4,e4,P4,s4,h4,_⟩:=P3.mk2 hd1 (.lst [.int 1,.int 4,.int 60])
  rw [← e4]
  refine ⟨p,u,3,rfl,P4,by omega,by decide,by decide,fun r1 H5 r10 r11 o5 P5=>?_⟩
  obtain ⟨m1,em1,hm1⟩:=at3 (x:=1) (y:=4) (z:=60) r10 r11
  rw [← o5] at h4 s4
  simp_all only [zaS,zac]
  refine ⟨_,SqL.of (za0 _ _ _ _ _ h4),_,em1,?_⟩
  refine ⟨p,u+1,m1,rfl,P5,by omega,by omega,by omega,fun cost H6 k0 k1 o6 P6=>?_⟩
  rw [← o6] at s4
  simp_all only [zaS,zac]
  refine ⟨by decide,fun d2 hd2=>?_⟩
  obtain ⟨H7,e7,P7,s7,h7,_⟩:=P6.mk2 hd2 (.lst [.int 3,.int 50])
  rw [← e7]
  refine ⟨p,u+1+1,2,rfl,P7,by omega,by decide,by decide,fun r2 H8 r20 r21 o8 P8=>?_⟩
  obtain ⟨m2,em2,hm2⟩:=at2 (x:=3) (y:=50) r20 r21
  rw [← o8] at h7 s7
  simp_all only [zaS,zac]
  refine ⟨_,SqL.of (za0 _ _ _ _ _ h7),_,em2,?_⟩
  refine ⟨p,_,m2,rfl,P8,by omega,by omega,by omega,fun of H9 of0 of1 o9 P9=>?_⟩
  rw [← o9] at s7
  simp_all only [zaS,zac]
  have S9:=s4.trans s7
  have hl9:=S9 _ _ hl3
  refine ⟨.inl ⟨rfl,_,SqL.of (za0 _ _ _ _ _ hl9)⟩,?_⟩
  refine ⟨p,_,1+of,rfl,P9,by omega,by omega,by omega,fun h H10 h0 h1 o10 P10=>?_⟩
  rw [← o10] at S9 hl9
  simp_all only [zaS,zac]
  refine ⟨by decide,fun b hb=>?_⟩
  obtain ⟨H11,e11,P11,s11,h11,_⟩:=P10.mk2 hb (.tup [.int (1+cost),.int (1+h),.int (1+of)])
  rw [← e11]
  have S11:=S9.trans s11
  have hl11:=s11 _ _ hl9
  refine ⟨_,za0 _ _ _ _ _ hl11,zbd (by rw [List.length_map,T3.1];omega),?_⟩
  obtain ⟨H12,e12,P12,s12,h12,k12⟩:=P11.put nl (s3.trans S11) fl (.lst (ts.map V.ref++[V.ref b]))
  rw [← e12]
  have bl:b≠l:=fun z=>by
   subst z
   rw [hl11] at h11
   cases h11
  refine ⟨s12,ts++[b],bs++[(1+cost,1+h,1+of)],_,P12,by omega,by rw [h12,List.map_append];rfl,?_,?_,by rw [List.length_append,lb];rfl⟩
  ·refine T3.put (fun x w e=>?_) (by rw [k12 _ bl];exact h11)
   have nx:x≠l:=fun z=>by
    subst z
    rw [e] at hl3
    cases hl3
   rw [k12 _ nx]
   exact S11 _ _ e
  ·intro y hy
   rcases List.mem_append.mp hy with z | z
   ·exact gb y z
   ·rw [List.mem_singleton.mp z]
    refine ⟨?_,?_,?_,?_,?_⟩ <;> show _≤_ <;> omega
 ·rintro σ H3 ⟨ts,bs,u,s3,P3,hu,hl3,T3,gb,lb,x,y,z,rfl⟩
  simp_all only [zaS,zac]
  exact q l ts bs u H3 s3 P3 (by omega) hl3 T3 gb (by omega) (by omega)
theorem zbK:zaF ["_law_left_here","_law_most","_law_found","_law_k","_law_cost","_law_of"] ["_law_left_here","_law_most"] (zaj zc6):=⟨rfl,rfl,rfl,by decide +kernel,rfl,by decide +kernel,by decide +kernel⟩
theorem zgz (T:Txt K mg a):zbT P w K mg base CX0 3 a.f__law_boxes a.d__law_boxes ["_law_left_here","_law_most"] ze2:=by
 have G__law_draw:=zcm (P:=P) (w:=w) (base:=base) T
 refine T.F__law_boxes.ok zbK (fun vs H Q E h=>?_) (fun cdv A outer s H vs Q E hr h=>?_)
 ·obtain ⟨p,c,rfl,hP,c1,q⟩:=h
  rfl
 obtain ⟨p,c,rfl,hP,c1,q⟩:=h
 exact ⟨zc2 K,(zae (zaK (i:=2) zbK.nd rfl (Or.inl rfl) (zbN zad))
 (zae (zcT PassesOwn.never rfl (zcD rfl T.z_range (zaa (zat zbg zag (zak G__law_draw (hr.mono (by decide)) rfl T.m__law_draw T.F__law_draw.kp T.b__law_draw .nil zaI (zaa (pv 0) (zaa (pv 1) zad)))) zad)) (zam (i:=3) zbK.nd rfl (Or.inl rfl))
 (zae (zaK (i:=4) zbK.nd rfl (Or.inl rfl) (zat zbg zag (zak G__law_draw (hr.mono (by decide)) rfl T.m__law_draw T.F__law_draw.kp T.b__law_draw .nil zaI (zaa (pv 0) (zaa (zaN zbw (zbN (zaa zag (zaa zag (zaa zag zad)))) (zak G__law_draw (hr.mono (by decide)) rfl T.m__law_draw T.F__law_draw.kp T.b__law_draw .nil zaI (zaa (pv 0) (zaa zag zad))) (fun _ _=>rfl)) zad)))))
 (zae (zaK (i:=5) zbK.nd rfl (Or.inl rfl) (zat zbg zag (zak G__law_draw (hr.mono (by decide)) rfl T.m__law_draw T.F__law_draw.kp T.b__law_draw .nil zaI (zaa (pv 0) (zaa (zaN zbw (zbN (zaa zag (zaa zag zad))) (zak G__law_draw (hr.mono (by decide)) rfl T.m__law_draw T.F__law_draw.kp T.b__law_draw .nil zaI (zaa (pv 0) (zaa zag zad))) (fun _ _=>rfl)) zad)))))
 (zan (zeq (zl6 PySem.F.plainAttrs_list PySem.F.slot_list_append PySem.F.type_list_append zdZ (pv 2) (zaa (zbe (zaa (pv 4) (zaa (zat zbg zag (zak G__law_draw (hr.mono (by decide)) rfl T.m__law_draw T.F__law_draw.kp T.b__law_draw .nil zaI (zaa (pv 0) (zaa (pv 5) zad)))) (zaa (pv 5) zad)))) zad)))))))
 (zan (zaL (pv 2))))),
  zf2 hP c1 q⟩
theorem zkk {t b:Int} (h:b≠0) (hb:Bd 8000 b):(sg t b).natAbs.log2<9000:=zeA 8000 (zhx h) (hb.le (zpl h))
def zi7:Sp:=fun vs H Q _=>∃ t b:Int,vs=[.int t,.int b]∧0<b∧Bd 8000 b∧∀ (r:Addr) (H':Hp),zaR H H'→H' r=some (.tup (fr (Rat.divInt t b)))→Q (.ref r) H'
def zcZ:TS :=
 (zbq (zcs (zab (tOp (rI (fun _ j=>j≠0∧j.natAbs.log2<9000) fun i j=>.int (i.fdiv j)) (zac 0) (zac 2)) (zab (tOp (rI (fun _ j=>j≠0∧j.natAbs.log2<9000) fun i j=>.int (i.fdiv j)) (zac 1) (zac 2)) zap))))
theorem zcl (D:zbU) (σ:St) (H:Hp):zcZ D σ H=(zbq (zcs (zab (tOp (rI (fun _ j=>j≠0∧j.natAbs.log2<9000) fun i j=>.int (i.fdiv j)) (zac 0) (zac 2)) (zab (tOp (rI (fun _ j=>j≠0∧j.natAbs.log2<9000) fun i j=>.int (i.fdiv j)) (zac 1) (zac 2)) zap)))) D σ H:=rfl
def zcG:TS :=
 (zaV (za1 (zac 1) (zaf 2))
 (zaV (za1 (tOp (rI (fun _ j=>j≠0) fun i j=>.int (i.fmod j)) (zac 0) (zac 1)) (zaf 3))
 (zaV (zha (zby (tOp (rI0 fun i j=>.bl (decide (j<i))) (zac 3) (tC (.int 0)))) (tPar 2 3 (zab (zac 3) (zab (tOp (rI (fun _ j=>j≠0) fun i j=>.int (i.fmod j)) (zac 2) (zac 3)) zap))))
 (zcZ))))
theorem zfy {t b:Int} (h:0<b) (hb:Bd 8000 b) (q:∀ (r:Addr) (H':Hp),zaR H H'→H' r=some (.tup (fr (Rat.divInt t b)))→Q (.ref r) H') :
  zcG { nx:=fun _ H'=>Q .non H',rt:=Q } (L2.start ["_law_top","_law_bottom","_law_one","_law_other"] [.int t,.int b]) H:=by
 unfold zcG
 simp_all only [zcl,zac]
 have h0:b≠0:=by omega
 have e0:sg t b=(Int.gcd t b:Int):=by unfold sg;rw [if_neg (by omega)]
 have f0:=Int.fmod_nonneg_of_pos t h
 have g0:Int.gcd b (t.fmod b)=Int.gcd t b:=by
  have e:t.fmod b=t - b*(t.fdiv b):=Int.fmod_def t b
  rw [e,Int.gcd_comm t b]
  have:t - b*t.fdiv b=t+b*(-(t.fdiv b)):=by rw [Int.mul_neg];omega
  rw [this]
  exact Int.gcd_add_mul_left_right b t _
 refine ⟨h0,?_⟩
 refine zgj (fun σ H'=>H'=H∧∃ u v,σ=[some (.int t),some (.int b),some (.int u),some (.int v)]∧0≤u∧0≤v∧Int.gcd u v=Int.gcd t b) (fun σ _=>match σ with | [_,_,_,some (.int v)]=>v.toNat | _=>0) ?_ ?_ ?_
 ·exact ⟨rfl,_,_,rfl,by omega,f0,g0⟩
 ·rintro σ H' ⟨rfl,u,v,rfl,hu,hv,hg⟩
  simp_all only [zcl,zac]
  refine zeH (fun c=>?_) (fun c=>?_)
  ·have hv':0<v:=by omega
   refine ⟨by omega,hv,Int.fmod_nonneg_of_pos u hv',?_,?_⟩
   ·rw [zg3 hu hv',hg]
   ·have:=Int.fmod_lt_of_pos u hv'
    omega
  ·have c':v=0:=by omega
   subst c'
   have e:u=sg t b:=by
    rw [e0,← hg,zfQ u hu]
   subst e
   refine ⟨zhx h0,zkk h0 hb,zhx h0,zkk h0 hb,by decide,fun p hp=>q p _ (zal hp _) ?_⟩
   rw [fr,(zfP h0).1,(zfP h0).2]
   exact zah
 ·rintro σ H1 Q1 Q2 hQ ⟨v,hv,k,hk,h,h1,b,hb,h2⟩
  exact ⟨v,hv,k,hk,h,h1,b,hb,hQ _ _ h2⟩
theorem zbP:zaF ["_law_top","_law_bottom","_law_one","_law_other"] ["_law_top","_law_bottom"] (zaj zcF):=⟨rfl,rfl,rfl,by decide +kernel,rfl,by decide +kernel,by decide +kernel⟩
theorem zdA (T:Txt K mg a):zbT P w K mg base CX0 1 a.f__law_lowest a.d__law_lowest ["_law_top","_law_bottom"] zi7:=by
 refine T.F__law_lowest.ok zbP (fun vs H Q E h=>?_) (fun cdv A outer s H vs Q E hr h=>?_)
 ·obtain ⟨t,b,rfl,h,hb,q⟩:=h
  rfl
 obtain ⟨t,b,rfl,h,hb,q⟩:=h
 exact ⟨zcG,(zae (zaK (i:=2) zbP.nd rfl (Or.inl rfl) (pv 1))
 (zae (zaK (i:=3) zbP.nd rfl (Or.inl rfl) (zat zeg (pv 0) (pv 1)))
 (zae (zf8 PassesOwn.never (zbz zpg (pv 3) zag (zbB _)) (zan (zpk (i:=2) (j:=3) rfl zbP.nd rfl rfl (by decide) rfl rfl (zaa (pv 3) (zaa (zat zeg (pv 2) (pv 3)) zad)) rfl)))
 (zan (zaL (zbe (zaa (zat zb6 (pv 0) (pv 2)) (zaa (zat zb6 (pv 1) (pv 2)) zad)))))))),
  zfy h hb q⟩
def zk4:Sp:=fun vs H Q _=>∃ (p:Addr) (b:Box) (n:Int),vs=[.ref p,.int n]∧H p=some (.tup (bx b))∧GB b∧0≤n∧n≤60∧∀ (r:Addr) (H':Hp),zaR H H'→H' r=some (.tup [.int ((b.2.2 - b.2.1) ^ n.toNat),.int (b.2.2 ^ n.toNat)])→Q (.ref r) H'
def zdW (K:PySem.W.Frag):TS :=
 (zaV (za1 (tOp (rI IntMulOk fun i j=>.int (i*j)) (zac 2) (tOp (rI0 fun i j=>.int (i - j)) (tOp (zbl K) (zac 0) (tC (.int 2))) (tOp (zbl K) (zac 0) (tC (.int 1))))) (zaf 2))
 (za1 (tOp (rI IntMulOk fun i j=>.int (i*j)) (zac 3) (tOp (zbl K) (zac 0) (tC (.int 2)))) (zaf 3)))
theorem zbX (K:PySem.W.Frag) (D:zbU) (σ:St) (H:Hp):zdW K D σ H=(zaV (za1 (tOp (rI IntMulOk fun i j=>.int (i*j)) (zac 2) (tOp (rI0 fun i j=>.int (i - j)) (tOp (zbl K) (zac 0) (tC (.int 2))) (tOp (zbl K) (zac 0) (tC (.int 1))))) (zaf 2))
 (za1 (tOp (rI IntMulOk fun i j=>.int (i*j)) (zac 3) (tOp (zbl K) (zac 0) (tC (.int 2)))) (zaf 3))) D σ H:=rfl
def zdO (K:PySem.W.Frag):TS :=
 (zaV (za1 (tC (.int 1)) (zaf 2))
 (zaV (za1 (tC (.int 1)) (zaf 3))
 (zaV (zid (zfz (zab (zac 1) zap)) (zaf 4)
 (zdW K))
 (zbq (zcs (zab (zac 2) (zab (zac 3) zap)))))))
theorem zhh {p:Addr} {b:Box} {n:Int} (hp:H p=some (.tup (bx b))) (g:GB b) (n0:0≤n) (n1:n≤60) (q:∀ (r:Addr) (H':Hp),zaR H H'→H' r=some (.tup [.int ((b.2.2 - b.2.1) ^ n.toNat),.int (b.2.2 ^ n.toNat)])→Q (.ref r) H') :
  zdO K { nx:=fun _ H'=>Q .non H',rt:=Q } (L2.start ["_law_box","_law_many","_law_top","_law_bottom","_law_turn_here"] [.ref p,.int n]) H:=by
 unfold zdO
 obtain ⟨g1,g2,g3,g4,g5⟩:=g
 have hP:=SqT.of (K:=K) hp
 simp_all only [zbX,zac]
 refine ⟨by omega,by omega,?_⟩
 refine zdr (fun i σ H'=>H'=H∧∃ k,σ=[some (.ref p),some (.int n),some (.int ((b.2.2 - b.2.1) ^ i)),some (.int (b.2.2 ^ i)),k]) ⟨rfl,none,by rw [Int.pow_zero,Int.pow_zero]⟩ ?_ ?_
 ·rintro i σ H' hi ⟨rfl,k,rfl⟩
  simp_all only [zbX,zac]
  refine ⟨_,hP,_,rfl,_,hP,_,rfl,_,rfl,_,rfl,zgM (by omega) (by omega),_,hP,_,rfl,_,rfl,zgM (by omega) (by omega),?_⟩
  rw [Int.pow_succ,Int.pow_succ]
  exact ⟨rfl,rfl⟩
 ·rintro σ H' ⟨rfl,k,rfl⟩
  simp_all only [zbX,zac]
  exact ⟨by decide,fun r hr=>q r _ (zal hr _) zah⟩
theorem zbG:zaF ["_law_box","_law_many","_law_top","_law_bottom","_law_turn_here"] ["_law_box","_law_many"] (zaj zdR):=⟨rfl,rfl,rfl,by decide +kernel,rfl,by decide +kernel,by decide +kernel⟩
theorem zg7 (T:Txt K mg a):zbT P w K mg base CX0 1 a.f__law_miss a.d__law_miss ["_law_box","_law_many"] zk4:=by
 refine T.F__law_miss.ok zbG (fun vs H Q E h=>?_) (fun cdv A outer s H vs Q E hr h=>?_)
 ·obtain ⟨p,b,n,rfl,hp,g,n0,n1,q⟩:=h
  rfl
 obtain ⟨p,b,n,rfl,hp,g,n0,n1,q⟩:=h
 exact ⟨zdO K,(zae (zaK (i:=2) zbG.nd rfl (Or.inl rfl) zag)
 (zae (zaK (i:=3) zbG.nd rfl (Or.inl rfl) zag)
 (zae (zcT PassesOwn.never rfl (zcD rfl T.z_range (zaa (pv 1) zad)) (zam (i:=4) zbG.nd rfl (Or.inl rfl))
 (zae (zaK (i:=2) zbG.nd rfl (Or.inl rfl) (zat zaJ (pv 2) (zat zcW (zaN zaG (pv 0) zag (fun _ _=>rfl)) (zaN zaG (pv 0) zag (fun _ _=>rfl)))))
 (zan (zaK (i:=3) zbG.nd rfl (Or.inl rfl) (zat zaJ (pv 3) (zaN zaG (pv 0) zag (fun _ _=>rfl)))))))
 (zan (zaL (zbe (zaa (pv 2) (zaa (pv 3) zad)))))))),
  zhh hp g n0 n1 q⟩
def zk5:Sp:=fun vs H Q _=>∃ (x y:Addr) (m1 m2:Nat) (s t u v:Int),vs=[.ref x,.ref y]∧H x=some (.tup [.int s,.int t])∧H y=some (.tup [.int u,.int v])∧0<t∧0<v∧Bd 30000 s∧Bd m1 t∧Bd 30000 u∧Bd m2 v∧m1+m2≤8000∧∀ (r:Addr) (H':Hp),zaR H H'→H' r=some (.tup (fr (Rat.divInt s t+Rat.divInt u v)))→Q (.ref r) H'
def zdH (K:PySem.W.Frag):TS :=
 (zbq (zaq zi7 [] E0 (zab (tOp (rI0 fun i j=>.int (i+j)) (tOp (rI IntMulOk fun i j=>.int (i*j)) (tOp (zbl K) (zac 0) (tC (.int 0))) (tOp (zbl K) (zac 1) (tC (.int 1)))) (tOp (rI IntMulOk fun i j=>.int (i*j)) (tOp (zbl K) (zac 1) (tC (.int 0))) (tOp (zbl K) (zac 0) (tC (.int 1))))) (zab (tOp (rI IntMulOk fun i j=>.int (i*j)) (tOp (zbl K) (zac 0) (tC (.int 1))) (tOp (zbl K) (zac 1) (tC (.int 1)))) zap))))
theorem zhH {x y:Addr} {m1 m2:Nat} {s t u v:Int} (hx:H x=some (.tup [.int s,.int t])) (hy:H y=some (.tup [.int u,.int v])) (t0:0<t) (v0:0<v) (bs:Bd 30000 s) (bt:Bd m1 t) (bu:Bd 30000 u) (bv:Bd m2 v) (hm:m1+m2≤8000) (q:∀ (r:Addr) (H':Hp),zaR H H'→H' r=some (.tup (fr (Rat.divInt s t+Rat.divInt u v)))→Q (.ref r) H') :
  zdH K { nx:=fun _ H'=>Q .non H',rt:=Q } (L2.start ["_law_one","_law_other"] [.ref x,.ref y]) H:=by
 unfold zdH
 simp_all only [zac]
 rw [Rat.divInt_add_divInt s u (by omega) (by omega)] at q
 have hx:=SqT.of (K:=K) hx
 have hy:=SqT.of (K:=K) hy
 exact ⟨_,hx,_,rfl,_,hy,_,rfl,_,rfl,_,rfl,zeM 30000 m2 bs bv (by omega),_,hy,_,rfl,_,hx,_,rfl,_,rfl,_,rfl,zeM 30000 m1 bu bt (by omega),_,hx,_,rfl,_,hy,_,rfl,_,rfl,_,rfl,zeM m1 m2 bt bv (by omega),_,_,rfl,Int.mul_pos t0 v0,(bt.mul bv).mono hm,q⟩
theorem zgX:zaF ["_law_one","_law_other"] ["_law_one","_law_other"] (zaj zdG):=⟨rfl,rfl,rfl,by decide +kernel,rfl,by decide +kernel,by decide +kernel⟩
theorem zhi (T:Txt K mg a):zbT P w K mg base CX0 2 a.f__law_plus a.d__law_plus ["_law_one","_law_other"] zk5:=by
 have G__law_lowest:=zdA (P:=P) (w:=w) (base:=base) T
 refine T.F__law_plus.ok zgX (fun vs H Q E h=>?_) (fun cdv A outer s H vs Q E hr h=>?_)
 ·obtain ⟨x,y,m1,m2,s,t,u,v,rfl,hx,hy,t0,v0,bs,bt,bu,bv,hm,q⟩:=h
  rfl
 obtain ⟨x,y,m1,m2,s,t,u,v,rfl,hx,hy,t0,v0,bs,bt,bu,bv,hm,q⟩:=h
 exact ⟨zdH K,(zan (zaL (zak G__law_lowest (hr.mono (by decide)) rfl T.m__law_lowest T.F__law_lowest.kp T.b__law_lowest .nil zaI (zaa (zat zbg (zat zaJ (zaN zaG (pv 0) zag (fun _ _=>rfl)) (zaN zaG (pv 1) zag (fun _ _=>rfl))) (zat zaJ (zaN zaG (pv 1) zag (fun _ _=>rfl)) (zaN zaG (pv 0) zag (fun _ _=>rfl)))) (zaa (zat zaJ (zaN zaG (pv 0) zag (fun _ _=>rfl)) (zaN zaG (pv 1) zag (fun _ _=>rfl))) zad))))),
  zhH hx hy t0 v0 bs bt bu bv hm q⟩
def ziz:Sp:=fun vs H Q _=>∃ (x y:Addr) (u v:Rat),vs=[.ref x,.ref y]∧H x=some (.tup (fr u))∧H y=some (.tup (fr v))∧Bq 30000 u∧Bq 30000 v∧Q (.bl (decide (u<v))) H
def zdL (K:PySem.W.Frag):TS :=
 (zbq (tOp (rI0 fun i j=>.bl (decide (i<j))) (tOp (rI IntMulOk fun i j=>.int (i*j)) (tOp (zbl K) (zac 0) (tC (.int 0))) (tOp (zbl K) (zac 1) (tC (.int 1)))) (tOp (rI IntMulOk fun i j=>.int (i*j)) (tOp (zbl K) (zac 1) (tC (.int 0))) (tOp (zbl K) (zac 0) (tC (.int 1))))))
theorem zhr {x y:Addr} {u v:Rat} (hx:H x=some (.tup (fr u))) (hy:H y=some (.tup (fr v))) (bu:Bq 30000 u) (bv:Bq 30000 v) (q:Q (.bl (decide (u<v))) H) :
  zdL K { nx:=fun _ H'=>Q .non H',rt:=Q } (L2.start ["_law_one","_law_other"] [.ref x,.ref y]) H:=by
 unfold zdL
 simp_all only [zac]
 have hx:=SqT.of (K:=K) hx
 have hy:=SqT.of (K:=K) hy
 rw [decide_eq_decide.mpr (Rat.lt_iff u v)] at q
 exact ⟨_,hx,_,rfl,_,hy,_,rfl,_,rfl,_,rfl,zeM 30000 30000 bu.top bv.bot,_,hy,_,rfl,_,hx,_,rfl,_,rfl,_,rfl,zeM 30000 30000 bv.top bu.bot,q⟩
theorem zhl:zaF ["_law_one","_law_other"] ["_law_one","_law_other"] (zaj zdK):=⟨rfl,rfl,rfl,by decide +kernel,rfl,by decide +kernel,by decide +kernel⟩
theorem zhn (T:Txt K mg a):zbT P w K mg base CX0 1 a.f__law_less a.d__law_less ["_law_one","_law_other"] ziz:=by
 refine T.F__law_less.ok zhl (fun vs H Q E h=>?_) (fun cdv A outer s H vs Q E hr h=>?_)
 ·obtain ⟨x,y,u,v,rfl,hx,hy,bu,bv,q⟩:=h
  rfl
 obtain ⟨x,y,u,v,rfl,hx,hy,bu,bv,q⟩:=h
 exact ⟨zdL K,(zan (zaL (ze7 zjj (zat zaJ (zaN zaG (pv 0) zag (fun _ _=>rfl)) (zaN zaG (pv 1) zag (fun _ _=>rfl))) (zat zaJ (zaN zaG (pv 1) zag (fun _ _=>rfl)) (zaN zaG (pv 0) zag (fun _ _=>rfl))) (zbB _)))),
  zhr hx hy bu bv q⟩
structure Bxs (H:Hp) (l:Addr) (ts:List Addr) (bs:List Box):Prop where
 hl:H l=some (.lst (ts.map V.ref))
 hb:Tps bx H ts bs
 gb:∀ b∈bs,GB b
 l1:1≤bs.length
 l3:bs.length≤3
theorem Bxs.same {H H':Hp} {l:Addr} {ts:List Addr} {bs:List Box} (h:Bxs H l ts bs) (s:zaR H H'):Bxs H' l ts bs:=⟨s _ _ h.hl,h.hb.same s,h.gb,h.l1,h.l3⟩
theorem Bxs.ix {H:Hp} {l:Addr} {ts:List Addr} {bs:List Box} (h:Bxs H l ts bs) {i:Nat} (hi:i<bs.length):∃ (t:Addr) (b:Box),ts[i]?=some t∧bs[i]?=some b∧atI (ts.map V.ref) (i:Int)=some (.ref t)∧H t=some (.tup (bx b))∧GB b:=by
 have lt:=h.hb.1
 have e:ts[i]?=some (ts[i]'(by omega)):=List.getElem?_eq_getElem (by omega)
 obtain ⟨b,h1,h2⟩:=h.hb.at e
 exact ⟨_,b,e,h1,zgs (by rw [List.getElem?_map,e];rfl),h2,h.gb b (zar h1)⟩
abbrev nv (j:Nat):V:=.int (j:Int)
def zkE:Sp:=fun vs H Q _=>∃ (p:Addr) (c:Int) (n:Nat),vs=[.ref p,.int n]∧Drw H p c∧c<1000∧n≤6∧∀ (l:Addr) (js:List Nat) (c':Int) (H':Hp),zaR (Off p p H) (Off p p H')→Drw H' p c'→c'≤c+n→Off p p H' l=some (.lst (js.map nv))→js.Perm (List.range n)→Q (.ref l) H'
def zdY (K:PySem.W.Frag):TS :=
 (zeI (tBM K "list" zgt (zac 2) (zab (zaq zaT [] E0 (zab (zac 0) (zab (tOp (rI0 fun i j=>.int (i+j)) (zac 3) (tC (.int 1))) zap))) (zab (zac 3) zap))))
theorem zbV (K:PySem.W.Frag) (D:zbU) (σ:St) (H:Hp):zdY K D σ H=(zeI (tBM K "list" zgt (zac 2) (zab (zaq zaT [] E0 (zab (zac 0) (zab (tOp (rI0 fun i j=>.int (i+j)) (zac 3) (tC (.int 1))) zap))) (zab (zac 3) zap)))) D σ H:=rfl
def zdC (K:PySem.W.Frag):TS :=
 (zaV (za1 (zdU zap) (zaf 2))
 (zaV (zid (zfz (zab (zac 1) zap)) (zaf 3)
 (zdY K))
 (zbq (zac 2))))
theorem zg1 {p:Addr} {c:Int} {n:Nat} (hP:Drw H p c) (c1:c<1000) (n6:n≤6) (q:∀ (l:Addr) (js:List Nat) (c':Int) (H':Hp),zaR (Off p p H) (Off p p H')→Drw H' p c'→c'≤c+n→Off p p H' l=some (.lst (js.map nv))→js.Perm (List.range n)→Q (.ref l) H') :
  zdC K { nx:=fun _ H'=>Q .non H',rt:=Q } (L2.start ["_law_left_here","_law_many","_law_turn_here","_law_k"] [.ref p,.int n]) H:=by
 unfold zdC
 have c0:=hP.c0
 simp_all only [zbV,zac]
 refine ⟨by decide,fun l hl=>?_⟩
 obtain ⟨H1,e1,P1,s1,h1,_⟩:=hP.mk2 hl (.lst [])
 have nl:=hP.new hl
 have fl:Off p p H l=none:=zf1 hl
 rw [← e1]
 refine ⟨by omega,by omega,?_⟩
 refine zdr (fun i σ H'=>∃ (js:List Nat) (u:Int),zaR (Off p p H) (Off p p H')∧Drw H' p u∧u≤c+i∧Off p p H' l=some (.lst (js.map nv))∧js.Perm (List.range i)∧∃ x,σ=[some (.ref p),some (.int n),some (.ref l),x]) ?_ ?_ ?_
 ·exact ⟨[],c,s1,P1,by omega,h1,.refl _,_,rfl⟩
 ·rintro i σ H3 hi ⟨js,u,s3,P3,hu,hl3,pj,x,rfl⟩
  have u0:=P3.c0
  have lj:js.length=i:=by
   have:=pj.length_eq
   rwa [List.length_range] at this
  simp_all only [zbV,zac]
  refine ⟨.inl ⟨rfl,_,SqL.of (za0 _ _ _ _ _ hl3)⟩,?_⟩
  refine ⟨p,u,0+(i:Int)+1,rfl,P3,by omega,by omega,by omega,fun r H4 r0 r1 o4 P4=>?_⟩
  rw [← o4] at s3 hl3
  refine ⟨_,r,rfl,za0 _ _ _ _ _ hl3,r0,by rw [List.length_map,lj];omega,by rw [List.length_map];omega,?_⟩
  obtain ⟨H5,e5,P5,s5,h5,k5⟩:=P4.put nl s3 fl (.lst ((js.map nv).take r.toNat++V.int (0+(i:Int))::(js.map nv).drop r.toNat))
  rw [← e5]
  refine ⟨s5,js.take r.toNat++i::js.drop r.toNat,u+1,P5,by omega,?_,?_⟩
  ·rw [h5,List.map_append,List.map_cons,List.map_take,List.map_drop,Int.zero_add]
  ·refine List.perm_middle.trans ?_
   rw [List.take_append_drop,List.range_succ]
   exact ((pj.cons i).trans (List.perm_append_singleton i (List.range i)).symm)
 ·rintro σ H3 ⟨js,u,s3,P3,hu,hl3,pj,x,rfl⟩
  simp_all only [zbV,zac]
  have en:(n:Int).toNat=n:=Int.toNat_natCast n
  rw [en] at hu pj
  exact q l js u H3 s3 P3 hu hl3 pj
theorem zc4:zaF ["_law_left_here","_law_many","_law_turn_here","_law_k"] ["_law_left_here","_law_many"] (zaj zdF):=⟨rfl,rfl,rfl,by decide +kernel,rfl,by decide +kernel,by decide +kernel⟩
theorem zhb (T:Txt K mg a):zbT P w K mg base CX0 3 a.f__law_turn a.d__law_turn ["_law_left_here","_law_many"] zkE:=by
 have G__law_draw:=zcm (P:=P) (w:=w) (base:=base) T
 refine T.F__law_turn.ok zc4 (fun vs H Q E h=>?_) (fun cdv A outer s H vs Q E hr h=>?_)
 ·obtain ⟨p,c,n,rfl,hP,c1,n6,q⟩:=h
  rfl
 obtain ⟨p,c,n,rfl,hP,c1,n6,q⟩:=h
 exact ⟨zdC K,(zae (zaK (i:=2) zc4.nd rfl (Or.inl rfl) (zbN zad))
 (zae (zcT PassesOwn.never rfl (zcD rfl T.z_range (zaa (pv 1) zad)) (zam (i:=3) zc4.nd rfl (Or.inl rfl))
 (zan (zeq (zl6 PySem.F.plainAttrs_list PySem.F.slot_list_insert PySem.F.type_list_insert zkU (pv 2) (zaa (zak G__law_draw (hr.mono (by decide)) rfl T.m__law_draw T.F__law_draw.kp T.b__law_draw .nil zaI (zaa (pv 0) (zaa (zat zbg (pv 3) zag) zad))) (zaa (pv 3) zad))))))
 (zan (zaL (pv 2))))),
  zg1 hP c1 n6 q⟩
theorem zgO {p D:Addr} {ts:List Addr} {bs:List Box} {te:TE} {rest:St} {x0 y0 z0:Option V} {vs:List V} (hp:H p=some (.lst (ts.map V.ref))) (T:Tps bx H ts bs) (lq:vs.length=bs.length) (l6:vs.length≤1000) (hD:H D=none)
  (st:∀ (i:Nat) (b:Box) (v:V) (H':Hp) (R:VK),bs[i]?=some b→vs[i]?=some v→zaR H H'→(∀ H2:Hp,zaR H' H2→R v H2)→te (some (.int b.1)::some (.int b.2.1)::some (.int b.2.2)::rest) H' R)
  (hd:∀ H':Hp,zaR H H'→H' D=some (.lst vs)→Q (.ref D) H') :
  zd9 (Itl K p) (zcj K 3 (zaD (zaf 0) (zaD (zaf 1) (zaD (zaf 2) zck)))) zaH te D Q (x0::y0::z0::rest) (upd H D (.lst [])):=by
 refine zb8 (K:=K) (xs:=ts.map V.ref) (fun i ys σ H'=>zaR H H'∧ys=vs.take i∧∃ x y z,σ=x::y::z::rest) ⟨zal hD _,rfl,_,_,_,rfl⟩ ?_ ?_ ?_
 ·rintro i ys σ H' _ ⟨s,_⟩
  exact SqL.of (s _ _ hp)
 ·rintro i x ys σ H' hx hD' ⟨s,rfl,u,v,w,rfl⟩
  obtain ⟨t,ht,rfl⟩:=zaE hx
  obtain ⟨a,ha1,ha2⟩:=T.at ht
  have i1:=(List.getElem?_eq_some_iff.mp ha1).1
  have hw:vs[i]?=some (vs[i]'(by omega)):=List.getElem?_eq_getElem (by omega)
  refine ⟨t,_,rfl,SqT.of (s _ _ ha2),rfl,_,_,rfl,_,_,rfl,_,_,rfl,rfl,?_⟩
  refine st i a _ _ _ ha1 hw s fun H2 s2=>?_
  refine ⟨D,_,_,rfl,rfl,s2 _ _ hD',zbd (by rw [List.length_take];omega),_,zah,(s.trans s2).put hD,?_,_,_,_,rfl⟩
  rw [List.take_add_one,hw]
  rfl
 ·rintro ys σ H' hD' ⟨s,rfl,u,v,w,rfl⟩
  rw [List.length_map,T.1,← lq,List.take_length] at hD'
  exact hd H' s hD'
theorem zg6 {p D:Addr} {ts:List Addr} {bs:List Box} {te:TE} {rest:St} {x0 y0 z0:Option V} {f:Box→Box} (hp:H p=some (.lst (ts.map V.ref))) (T:Tps bx H ts bs) (l6:bs.length≤1000) (hD:H D=none)
  (st:∀ (i:Nat) (b:Box) (H':Hp) (R:VK),bs[i]?=some b→zaR H H'→(∀ (r:Addr) (H2:Hp),zaR H' H2→H2 r=some (.tup (bx (f b)))→R (.ref r) H2)→te (some (.int b.1)::some (.int b.2.1)::some (.int b.2.2)::rest) H' R)
  (hd:∀ (us:List Addr) (H':Hp),zaR H H'→H' D=some (.lst (us.map V.ref))→Tps bx H' us (bs.map f)→Q (.ref D) H') :
  zd9 (Itl K p) (zcj K 3 (zaD (zaf 0) (zaD (zaf 1) (zaD (zaf 2) zck)))) zaH te D Q (x0::y0::z0::rest) (upd H D (.lst [])):=by
 refine zb8 (K:=K) (xs:=ts.map V.ref) (fun i ys σ H'=>zaR H H'∧(∃ us:List Addr,ys=us.map V.ref∧Tps bx H' us ((bs.map f).take i))∧∃ x y z,σ=x::y::z::rest) ⟨zal hD _,⟨[],rfl,Tps.nil⟩,_,_,_,rfl⟩ ?_ ?_ ?_
 ·rintro i ys σ H' _ ⟨s,_⟩
  exact SqL.of (s _ _ hp)
 ·rintro i x ys σ H' hx hD' ⟨s,⟨us,rfl,TU⟩,u,v,w,rfl⟩
  obtain ⟨t,ht,rfl⟩:=zaE hx
  obtain ⟨a,ha1,ha2⟩:=T.at ht
  have i1:=(List.getElem?_eq_some_iff.mp ha1).1
  refine ⟨t,_,rfl,SqT.of (s _ _ ha2),rfl,_,_,rfl,_,_,rfl,_,_,rfl,rfl,?_⟩
  refine st i a _ _ ha1 s fun r H2 s2 h2=>?_
  have hD2:=s2 _ _ hD'
  have rD:r≠D:=fun e=>by
   subst e
   rw [h2] at hD2
   cases hD2
  have lu:us.length≤1000:=by
   have e:=TU.1
   rw [List.length_take,List.length_map] at e
   omega
  refine ⟨D,_,_,rfl,rfl,hD2,zbd (by rw [List.length_map];exact lu),_,zah,(s.trans s2).put hD,⟨us++[r],by rw [List.map_append];rfl,?_⟩,_,_,_,rfl⟩
  rw [List.take_add_one,List.getElem?_map,ha1]
  refine TU.put (fun y w e=>?_) (by rw [zaY rD];exact h2)
  have nx:y≠D:=fun z=>by
   subst z
   rw [e] at hD'
   cases hD'
  rw [zaY nx]
  exact s2 _ _ e
 ·rintro ys σ H' hD' ⟨s,⟨us,rfl,TU⟩,u,v,w,rfl⟩
  rw [List.length_map,T.1,List.take_of_length_le (by rw [List.length_map];exact Nat.le_refl _)] at TU
  exact hd us H' s hD' TU
def ziv:Sp:=fun vs H Q _=>∃ (t:Addr) (b:Box) (n:Nat) (bud:Int),vs=[.ref t,.int n,.int bud]∧H t=some (.tup (bx b))∧GB b∧1≤n∧n≤6∧0≤bud∧bud≤30∧∀ (r:Addr) (z:Yb) (H':Hp),zaR H H'→H' r=some (.tup (fr (Fv z)))→z.1=b→GY z→((n:Int):Rat)*cy z=(bud:Rat)→Q (.ref r) H'
def zdi (K:PySem.W.Frag):TS :=
 (zaV (za1 (tOp (rI IntMulOk fun i j=>.int (i*j)) (tOp (zbl K) (zac 0) (tC (.int 0))) (zac 1)) (zaf 3))
 (zaV (za1 (tOp (rI (fun _ j=>j≠0∧j.natAbs.log2<9000) fun i j=>.int (i.fdiv j)) (zac 2) (zac 3)) (zaf 4))
 (zaV (za1 (zaq zk4 [] E0 (zab (zac 0) (zab (zac 4) zap))) (zcj K 2 (zaD (zaf 5) (zaD (zaf 6) zck))))
 (zaV (za1 (zcs (zab (tOp (rI0 fun i j=>.int (i - j)) (zac 6) (zac 5)) (zab (zac 6) zap))) (zaf 7))
 (zaV (za1 (zaq zk4 [] E0 (zab (zac 0) (zab (tOp (rI0 fun i j=>.int (i+j)) (zac 4) (tC (.int 1))) zap))) (zcj K 2 (zaD (zaf 5) (zaD (zaf 6) zck))))
 (zaV (za1 (zcs (zab (tOp (rI0 fun i j=>.int (i - j)) (zac 6) (zac 5)) (zab (zac 6) zap))) (zaf 8))
 (zaV (za1 (tOp (rI (fun _ j=>j≠0) fun i j=>.int (i.fmod j)) (zac 2) (zac 3)) (zaf 9))
 (zbq (zaq zk5 [] E0 (zab (zcs (zab (tOp (rI IntMulOk fun i j=>.int (i*j)) (tOp (zbl K) (zac 7) (tC (.int 0))) (tOp (rI0 fun i j=>.int (i - j)) (zac 3) (zac 9))) (zab (tOp (rI IntMulOk fun i j=>.int (i*j)) (tOp (zbl K) (zac 7) (tC (.int 1))) (zac 3)) zap))) (zab (zcs (zab (tOp (rI IntMulOk fun i j=>.int (i*j)) (tOp (zbl K) (zac 8) (tC (.int 0))) (zac 9)) (zab (tOp (rI IntMulOk fun i j=>.int (i*j)) (tOp (zbl K) (zac 8) (tC (.int 1))) (zac 3)) zap))) zap)))))))))))
theorem zgq {t:Addr} {b:Box} {n:Nat} {bud:Int} (ht:H t=some (.tup (bx b))) (g:GB b) (n1:1≤n) (n6:n≤6) (d0:0≤bud) (d1:bud≤30) (q:∀ (r:Addr) (z:Yb) (H':Hp),zaR H H'→H' r=some (.tup (fr (Fv z)))→z.1=b→GY z→((n:Int):Rat)*cy z=(bud:Rat)→Q (.ref r) H') :
  zdi K { nx:=fun _ H'=>Q .non H',rt:=Q } (L2.start ["_law_box","_law_many","_law_budget","_law_per","_law_looks","_law_top","_law_bottom","_law_low","_law_high","_law_rest"] [.ref t,.int n,.int bud]) H:=by
 unfold zdi
 have g':=g
 obtain ⟨g1,g2,g3,g4,g5⟩:=g
 have m1:1*1≤b.1*(n:Int):=Int.mul_le_mul g1 (by omega) (by decide) (by omega)
 have m2:b.1*(n:Int)≤60*6:=Int.mul_le_mul g2 (by omega) (by omega) (by decide)
 simp_all only [zac]
 refine ⟨_,SqT.of ht,_,rfl,_,rfl,zgM (by omega) (by omega),?_⟩
 generalize hper:b.1*(n:Int)=per at m1 m2 ⊢
 have e:=Int.mul_fdiv_add_fmod bud per
 have f0:=Int.fmod_nonneg_of_pos bud (b:=per) (by omega)
 have f1:=Int.fmod_lt_of_pos bud (b:=per) (by omega)
 have k0:0≤bud.fdiv per:=by
  rw [Int.fdiv_eq_ediv_of_nonneg _ (by omega)]
  exact Int.ediv_nonneg d0 (by omega)
 have k1:bud.fdiv per≤30:=by
  rw [Int.fdiv_eq_ediv_of_nonneg _ (by omega)]
  exact Int.le_trans (Int.ediv_le_self _ d0) d1
 refine ⟨by omega,zeA 9 (by omega) (by omega),?_⟩
 generalize bud.fdiv per=k at e k0 k1 ⊢
 generalize hr:bud.fmod per=r at e f0 f1 ⊢
 refine ⟨t,b,k,rfl,ht,g',k0,by omega,fun a1 H1 s1 h1=>?_⟩
 simp_all only [zac]
 refine ⟨_,SqT.of h1,rfl,_,_,rfl,_,_,rfl,rfl,?_⟩
 have o1:=zcX g' k
 have o2:=zcX g' (k+1)
 have b1:Bd 200 (b.2.2 ^ k.toNat):=(zcu (by omega) g5 _).mono (by omega)
 have b2:Bd 200 (b.2.2 ^ (k+1).toNat):=(zcu (by omega) g5 _).mono (by omega)
 have b3:Bd 200 ((b.2.2 - b.2.1) ^ k.toNat):=(zcu (by omega) (by omega) _).mono (by omega)
 have b4:Bd 200 ((b.2.2 - b.2.1) ^ (k+1).toNat):=(zcu (by omega) (by omega) _).mono (by omega)
 have bp:Bd 9 per:=by show per.natAbs<2 ^ 9;omega
 have bpr:Bd 9 (per - r):=by show (per - r).natAbs<2 ^ 9;omega
 have brr:Bd 9 r:=by show r.natAbs<2 ^ 9;omega
 simp_all only [zac]
 refine ⟨by decide,fun a2 f2=>?_⟩
 have s2:=zal f2 (.tup [V.int (b.2.2 ^ k.toNat - (b.2.2 - b.2.1) ^ k.toNat),V.int (b.2.2 ^ k.toNat)])
 have h2:(L2.upd H1 a2 (.tup [V.int (b.2.2 ^ k.toNat - (b.2.2 - b.2.1) ^ k.toNat),V.int (b.2.2 ^ k.toNat)])) a2=some (.tup [V.int (b.2.2 ^ k.toNat - (b.2.2 - b.2.1) ^ k.toNat),V.int (b.2.2 ^ k.toNat)]):=zah
 generalize L2.upd H1 a2 (.tup [V.int (b.2.2 ^ k.toNat - (b.2.2 - b.2.1) ^ k.toNat),V.int (b.2.2 ^ k.toNat)])=H2 at s2 h2 ⊢
 refine ⟨t,b,k+1,rfl,s2 _ _ (s1 _ _ ht),g',by omega,by omega,fun a3 H3 s3 h3=>?_⟩
 simp_all only [zac]
 refine ⟨_,SqT.of h3,rfl,_,_,rfl,_,_,rfl,rfl,?_⟩
 simp_all only [zac]
 refine ⟨by decide,fun a4 f4=>?_⟩
 have s4:=zal f4 (.tup [V.int (b.2.2 ^ (k+1).toNat - (b.2.2 - b.2.1) ^ (k+1).toNat),V.int (b.2.2 ^ (k+1).toNat)])
 have h4:(L2.upd H3 a4 (.tup [V.int (b.2.2 ^ (k+1).toNat - (b.2.2 - b.2.1) ^ (k+1).toNat),V.int (b.2.2 ^ (k+1).toNat)])) a4=some (.tup [V.int (b.2.2 ^ (k+1).toNat - (b.2.2 - b.2.1) ^ (k+1).toNat),V.int (b.2.2 ^ (k+1).toNat)]):=zah
 generalize L2.upd H3 a4 (.tup [V.int (b.2.2 ^ (k+1).toNat - (b.2.2 - b.2.1) ^ (k+1).toNat),V.int (b.2.2 ^ (k+1).toNat)])=H4 at s4 h4 ⊢
 have h2':=SqT.of (K:=K) (s4 _ _ (s3 _ _ h2))
 refine ⟨by omega,_,h2',_,rfl,_,rfl,zeM 201 9 (b1.sub b3) bpr,_,h2',_,rfl,_,rfl,zeM 200 9 b1 bp,by decide,fun a5 f5=>?_⟩
 have s5:=zal f5 (.tup [V.int ((b.2.2 ^ k.toNat - (b.2.2 - b.2.1) ^ k.toNat)*(per - r)),V.int (b.2.2 ^ k.toNat*per)])
 have h5:(L2.upd H4 a5 (.tup [V.int ((b.2.2 ^ k.toNat - (b.2.2 - b.2.1) ^ k.toNat)*(per - r)),V.int (b.2.2 ^ k.toNat*per)])) a5=some (.tup [V.int ((b.2.2 ^ k.toNat - (b.2.2 - b.2.1) ^ k.toNat)*(per - r)),V.int (b.2.2 ^ k.toNat*per)]):=zah
 generalize L2.upd H4 a5 (.tup [V.int ((b.2.2 ^ k.toNat - (b.2.2 - b.2.1) ^ k.toNat)*(per - r)),V.int (b.2.2 ^ k.toNat*per)])=H5 at s5 h5 ⊢
 have h4':=SqT.of (K:=K) (s5 _ _ h4)
 refine ⟨_,h4',_,rfl,_,rfl,zeM 201 9 (b2.sub b4) brr,_,h4',_,rfl,_,rfl,zeM 200 9 b2 bp,by decide,fun a6 f6=>?_⟩
 have s6:=zal f6 (.tup [V.int ((b.2.2 ^ (k+1).toNat - (b.2.2 - b.2.1) ^ (k+1).toNat)*r),V.int (b.2.2 ^ (k+1).toNat*per)])
 have h6:(L2.upd H5 a6 (.tup [V.int ((b.2.2 ^ (k+1).toNat - (b.2.2 - b.2.1) ^ (k+1).toNat)*r),V.int (b.2.2 ^ (k+1).toNat*per)])) a6=some (.tup [V.int ((b.2.2 ^ (k+1).toNat - (b.2.2 - b.2.1) ^ (k+1).toNat)*r),V.int (b.2.2 ^ (k+1).toNat*per)]):=zah
 generalize L2.upd H5 a6 (.tup [V.int ((b.2.2 ^ (k+1).toNat - (b.2.2 - b.2.1) ^ (k+1).toNat)*r),V.int (b.2.2 ^ (k+1).toNat*per)])=H6 at s6 h6 ⊢
 refine ⟨a5,a6,300,300,_,_,_,_,rfl,s6 _ _ h5,h6,Int.mul_pos o1 (by omega),Int.mul_pos o2 (by omega),((b1.sub b3).mul bpr).mono (by decide),(b1.mul bp).mono (by decide),((b2.sub b4).mul brr).mono (by decide),(b2.mul bp).mono (by decide),by decide,fun a7 H7 s7 h7=>?_⟩
 have pR:(per:Rat)≠0:=fun z=>by
  have:per=0:=by exact_mod_cast z
  omega
 have p0:(0:Rat)<(per:Rat):=by exact_mod_cast (show 0<per by omega)
 have ip:=Rat.inv_pos.mpr p0
 have c1:∀ m:Int,Rat.divInt ((b.2.2 ^ m.toNat - (b.2.2 - b.2.1) ^ m.toNat)*(per - r)) (b.2.2 ^ m.toNat*per)=chq b m*(((per - r:Int):Rat) / (per:Rat)):=fun m=>by
  unfold chq
  rw [Rat.divInt_eq_div,Rat.divInt_eq_div,Rat.intCast_mul,Rat.intCast_mul]
  have o:=zcX g' m
  have on:((b.2.2 ^ m.toNat:Int):Rat)≠0:=fun z=>by
   have:(b.2.2 ^ m.toNat:Int)=0:=by exact_mod_cast z
   omega
  generalize ((b.2.2 ^ m.toNat:Int):Rat)=A at on ⊢
  generalize ((b.2.2 ^ m.toNat - (b.2.2 - b.2.1) ^ m.toNat:Int):Rat)=C
  generalize (per:Rat)=D at pR ⊢
  grind
 have c2:∀ m:Int,Rat.divInt ((b.2.2 ^ m.toNat - (b.2.2 - b.2.1) ^ m.toNat)*r) (b.2.2 ^ m.toNat*per)=chq b m*((r:Rat) / (per:Rat)):=fun m=>by
  unfold chq
  rw [Rat.divInt_eq_div,Rat.divInt_eq_div,Rat.intCast_mul,Rat.intCast_mul]
  have o:=zcX g' m
  have on:((b.2.2 ^ m.toNat:Int):Rat)≠0:=fun z=>by
   have:(b.2.2 ^ m.toNat:Int)=0:=by exact_mod_cast z
   omega
  generalize ((b.2.2 ^ m.toNat:Int):Rat)=A at on ⊢
  generalize ((b.2.2 ^ m.toNat - (b.2.2 - b.2.1) ^ m.toNat:Int):Rat)=C
  generalize (per:Rat)=D at pR ⊢
  grind
 rw [c1,c2,zdn g' k0] at h7
 have eF:chq b k*(((per - r:Int):Rat) / (per:Rat))+(chq b k+gnq b k)*((r:Rat) / (per:Rat))=Fv (b,k,(r:Rat) / (per:Rat)):=by
  show _=chq b k+(r:Rat) / (per:Rat)*gnq b k
  rw [Rat.intCast_sub]
  generalize (per:Rat)=D at pR ⊢
  grind
 rw [eF] at h7
 have r0:(0:Rat)≤(r:Rat):=by exact_mod_cast f0
 have r1:(r:Rat)≤(per:Rat):=by exact_mod_cast (show r≤per by omega)
 refine q a7 (b,k,(r:Rat) / (per:Rat)) H7 (s1.trans (s2.trans (s3.trans (s4.trans (s5.trans (s6.trans s7)))))) h7 rfl ⟨k0,?_,?_⟩ ?_
 ·show 0≤(r:Rat) / (per:Rat)
  rw [Rat.div_def]
  exact Rat.mul_nonneg r0 (Rat.le_of_lt ip)
 ·show (r:Rat) / (per:Rat)≤1
  have:=Rat.mul_le_mul_of_nonneg_right r1 (Rat.le_of_lt ip)
  rw [Rat.mul_inv_cancel _ pR] at this
  rw [Rat.div_def]
  exact this
 ·show ((n:Int):Rat)*((b.1:Rat)*((k:Rat)+(r:Rat) / (per:Rat)))=(bud:Rat)
  have e1:(bud:Rat)=(per:Rat)*(k:Rat)+(r:Rat):=by
   rw [← Rat.intCast_mul,← Rat.intCast_add]
   exact congrArg _ e.symm
  have e2:(per:Rat)=(b.1:Rat)*((n:Int):Rat):=by rw [← Rat.intCast_mul,hper]
  have e3:((n:Int):Rat)*((b.1:Rat)*((k:Rat)+(r:Rat) / (per:Rat)))=(per:Rat)*((k:Rat)+(r:Rat) / (per:Rat)):=by
   rw [e2]
   grind
  rw [e3,e1]
  generalize (per:Rat)=D at pR ⊢
  grind
theorem za4:zaF ["_law_box","_law_many","_law_budget","_law_per","_law_looks","_law_top","_law_bottom","_law_low","_law_high","_law_rest"] ["_law_box","_law_many","_law_budget"] (zaj zdb):=⟨rfl,rfl,rfl,by decide +kernel,rfl,by decide +kernel,by decide +kernel⟩
theorem zgw (T:Txt K mg a):zbT P w K mg base CX0 3 a.f__law_alike a.d__law_alike ["_law_box","_law_many","_law_budget"] ziv:=by
 have G__law_miss:=zg7 (P:=P) (w:=w) (base:=base) T
 have G__law_plus:=zhi (P:=P) (w:=w) (base:=base) T
 refine T.F__law_alike.ok za4 (fun vs H Q E h=>?_) (fun cdv A outer s H vs Q E hr h=>?_)
 ·obtain ⟨t,b,n,bud,rfl,ht,g,n1,n6,d0,d1,q⟩:=h
  rfl
 obtain ⟨t,b,n,bud,rfl,ht,g,n1,n6,d0,d1,q⟩:=h
 exact ⟨zdi K,(zae (zaK (i:=3) za4.nd rfl (Or.inl rfl) (zat zaJ (zaN zaG (pv 0) zag (fun _ _=>rfl)) (pv 1)))
 (zae (zaK (i:=4) za4.nd rfl (Or.inl rfl) (zat zb6 (pv 2) (pv 3)))
 (zae (zdd (zak G__law_miss (hr.mono (by decide)) rfl T.m__law_miss T.F__law_miss.kp T.b__law_miss .nil zaI (zaa (pv 0) (zaa (pv 4) zad))) (zbk rfl (zao (zam (i:=5) za4.nd rfl (Or.inl rfl)) (zao (zam (i:=6) za4.nd rfl (Or.inl rfl)) za9))))
 (zae (zaK (i:=7) za4.nd rfl (Or.inl rfl) (zbe (zaa (zat zcW (pv 6) (pv 5)) (zaa (pv 6) zad))))
 (zae (zdd (zak G__law_miss (hr.mono (by decide)) rfl T.m__law_miss T.F__law_miss.kp T.b__law_miss .nil zaI (zaa (pv 0) (zaa (zat zbg (pv 4) zag) zad))) (zbk rfl (zao (zam (i:=5) za4.nd rfl (Or.inl rfl)) (zao (zam (i:=6) za4.nd rfl (Or.inl rfl)) za9))))
 (zae (zaK (i:=8) za4.nd rfl (Or.inl rfl) (zbe (zaa (zat zcW (pv 6) (pv 5)) (zaa (pv 6) zad))))
 (zae (zaK (i:=9) za4.nd rfl (Or.inl rfl) (zat zeg (pv 2) (pv 3)))
 (zan (zaL (zak G__law_plus (hr.mono (by decide)) rfl T.m__law_plus T.F__law_plus.kp T.b__law_plus .nil zaI (zaa (zbe (zaa (zat zaJ (zaN zaG (pv 7) zag (fun _ _=>rfl)) (zat zcW (pv 3) (pv 9))) (zaa (zat zaJ (zaN zaG (pv 7) zag (fun _ _=>rfl)) (pv 3)) zad))) (zaa (zbe (zaa (zat zaJ (zaN zaG (pv 8) zag (fun _ _=>rfl)) (pv 9)) (zaa (zat zaJ (zaN zaG (pv 8) zag (fun _ _=>rfl)) (pv 3)) zad))) zad)))))))))))),
  zgq ht g n1 n6 d0 d1 q⟩
theorem Tps.take {α:Type} {f:α→List V} {H:Hp} {ts:List Addr} {bs:List α} (h:Tps f H ts bs) (k:Nat):Tps f H (ts.take k) (bs.take k) :=
 ⟨by rw [List.length_take,List.length_take,h.1],fun i t b e1 e2=>by
  rw [List.getElem?_take] at e1 e2
  split at e1
  ·rw [if_pos (by assumption)] at e2
   exact h.2 i t b e1 e2
  ·cases e1⟩
theorem Tps.drop {α:Type} {f:α→List V} {H:Hp} {ts:List Addr} {bs:List α} (h:Tps f H ts bs) (k:Nat):Tps f H (ts.drop k) (bs.drop k) :=
 ⟨by rw [List.length_drop,List.length_drop,h.1],fun i t b e1 e2=>by
  rw [List.getElem?_drop] at e1 e2
  exact h.2 _ t b e1 e2⟩
theorem Tps.one {α:Type} {f:α→List V} {H:Hp} {t:Addr} {b:α} (h:H t=some (.tup (f b))):Tps f H [t] [b] :=
 ⟨rfl,fun i t' b' e1 e2=>by
  match i with
  | 0 =>
   cases e1
   cases e2
   exact h
  | i+1=>cases e1⟩
open HT in
theorem cutA (ts:List Addr) (k:Nat) (hk:k≤ts.length):zed (ts.map V.ref) none (some (k:Int))=(ts.take k).map V.ref:=by
 unfold zed
 rw [zeO,Nat.sub_zero,List.drop_zero,zgu,List.length_map,List.map_take,Nat.min_eq_left hk]
open HT in
theorem cutB (ts:List Addr) (k:Nat) (hk:k<ts.length):zed (ts.map V.ref) (some ((k:Int)+1)) none=(ts.drop (k+1)).map V.ref:=by
 unfold zed
 rw [zeO,show ((k:Int)+1)=((k+1:Nat):Int) by omega,zgu,List.length_map,Nat.min_eq_left (by omega),List.map_drop]
 exact List.take_of_length_le (by rw [List.length_drop,List.length_map];omega)
def Ent (H:Hp) (W:Rat) (t:Addr):Prop:=∃ (l:Addr) (ts:List Addr) (bs:List Box) (bud:Int),H t=some (.tup [.ref l,.int bud])∧H l=some (.lst (ts.map V.ref))∧Tps bx H ts bs∧(∀ b∈bs,GB b)∧bs.length≤6∧0≤bud∧bud≤60∧(1≤bs.length→∀ W',Wth bs bud W'→W≤W')
theorem zqM {α:Type} {xs:List α} {k:Nat} {x:α} (h:xs[k]?=some x):xs=xs.take k++x::xs.drop (k+1):=by
 have l:=(List.getElem?_eq_some_iff.mp h).1
 have e:=(List.getElem?_eq_some_iff.mp h).2
 rw [← e,← List.drop_eq_getElem_cons l,List.take_append_drop]
theorem zmv {bs:List Box} {k:Nat} {b b':Box} (h:bs[k]?=some b) (gb:∀ b∈bs,GB b) (g':GB b') (p:pr b≤pr b') (c:b'.1≤b.1):(bs.take k++b'::bs.drop (k+1)).length=bs.length∧∀ (i:Nat) x x',bs[i]?=some x→(bs.take k++b'::bs.drop (k+1))[i]?=some x'→GB x∧GB x'∧pr x≤pr x'∧(x'.1:Rat)*1≤(x.1:Rat)*1:=by
 have l:=(List.getElem?_eq_some_iff.mp h).1
 have e:bs.take k++b'::bs.drop (k+1)=bs.set k b':=by rw [List.set_eq_take_append_cons_drop,if_pos l]
 rw [e]
 refine ⟨List.length_set,fun i x x' e1 e2=>?_⟩
 rw [List.getElem?_set] at e2
 split at e2
 ·rename_i ki
  subst ki
  first | rw [if_pos l] at e2 | skip
  cases e2
  rw [h] at e1
  cases e1
  refine ⟨gb b (zar h),g',p,?_⟩
  have:(b'.1:Rat)≤(b.1:Rat):=by exact_mod_cast c
  grind
 ·rw [e1] at e2
  cases e2
  have g:=gb x (zar e1)
  exact ⟨g,g,Rat.le_refl,Rat.le_refl⟩
theorem zkT {c c' h h' o:Int} (g:GB (c,h,o)) (hh:h≤h'):pr (c,h,o)≤pr (c',h',o):=by
 show Rat.divInt h o≤Rat.divInt h' o
 have o0:(0:Rat)<(o:Rat):=by
  have h1:1≤h:=g.2.2.1
  have h2:h≤o:=g.2.2.2.1
  exact_mod_cast (show (0:Int)<o by omega)
 have hr:(h:Rat)≤(h':Rat):=by exact_mod_cast hh
 rw [Rat.divInt_eq_div,Rat.divInt_eq_div,Rat.div_def,Rat.div_def]
 exact Rat.mul_le_mul_of_nonneg_right hr (Rat.le_of_lt (Rat.inv_pos.mpr o0))
def zgJ:Sp:=fun vs H Q _=>∃ (p l wr:Addr) (c bud:Int) (ts:List Addr) (bs:List Box) (W:Rat),vs=[.ref p,.ref l,.int bud,.ref wr]∧Drw H p c∧c<1000∧Bxs (Off p p H) l ts bs∧0≤bud∧bud≤30∧Off p p H wr=some (.tup (fr W))∧Wth bs bud W∧∀ (c':Int) (H':Hp),zaR (Off p p H) (Off p p H')→Drw H' p c'→c'≤c+3→Q (.bl true) H'
def zcd (K:PySem.W.Frag):TS :=
 (zcY (tAnd (zby (tOp (rI0 fun i j=>.bl (decide (j<i))) (tCB (fun xs H Q=>∃ p ys,xs=[.ref p]∧(SqL K H p ys∨SqT K H p ys)∧Q (.int ys.length) H) (zab (zac 10) zap)) (tC (.int 0)))) (tB (zaq ziz [] E0 (zab (tOp (zbl K) (zaq zaM [] E0 (zab (tCB (fun xs H Q=>∃ p ys,xs=[.ref p]∧(SqL K H p ys∨SqT K H p ys)∧∀ l,H l=none→Q (.ref l) (upd H l (.lst ys))) (zab (zac 10) zap)) (zab (zac 11) zap))) (tC (.int 0))) (zab (zac 3) zap))))) (zbq (tC (.bl false))) zbr)
theorem zaW (K:PySem.W.Frag) (D:zbU) (σ:St) (H:Hp):zcd K D σ H=(zcY (tAnd (zby (tOp (rI0 fun i j=>.bl (decide (j<i))) (tCB (fun xs H Q=>∃ p ys,xs=[.ref p]∧(SqL K H p ys∨SqT K H p ys)∧Q (.int ys.length) H) (zab (zac 10) zap)) (tC (.int 0)))) (tB (zaq ziz [] E0 (zab (tOp (zbl K) (zaq zaM [] E0 (zab (tCB (fun xs H Q=>∃ p ys,xs=[.ref p]∧(SqL K H p ys∨SqT K H p ys)∧∀ l,H l=none→Q (.ref l) (upd H l (.lst ys))) (zab (zac 10) zap)) (zab (zac 11) zap))) (tC (.int 0))) (zab (zac 3) zap))))) (zbq (tC (.bl false))) zbr) D σ H:=rfl
def zcH (K:PySem.W.Frag):TS :=
 (zaV (za1 (zaq zaT [] E0 (zab (zac 0) (zab (tCB (fun xs H Q=>∃ p ys,xs=[.ref p]∧(SqL K H p ys∨SqT K H p ys)∧Q (.int ys.length) H) (zab (zac 1) zap)) zap))) (zaf 4))
 (zaV (za1 (tOp (zc1 K) (zac 1) (zac 4)) (zcj K 3 (zaD (zaf 5) (zaD (zaf 6) (zaD (zaf 7) zck)))))
 (zaV (za1 (tOp zjx (tOp zjx (tSl (zj5 K) (zac 1) zcb (zfd (zac 4))) (zdU (zab (zcs (zab (tOp (rI0 fun i j=>.int (i+j)) (tC (.int 1)) (zaq zaT [] E0 (zab (zac 0) (zab (zac 5) zap)))) (zab (zac 6) (zab (zac 7) zap)))) zap))) (tSl (zj5 K) (zac 1) (zfd (tOp (rI0 fun i j=>.int (i+j)) (zac 4) (tC (.int 1)))) zcb)) (zaf 8))
 (zaV (za1 (tOp zjx (tOp zjx (tSl (zj5 K) (zac 1) zcb (zfd (zac 4))) (zdU (zab (zcs (zab (zac 5) (zab (tOp (rI0 fun i j=>.int (i+j)) (zac 6) (zaq zaT [] E0 (zab (zac 0) (zab (tOp (rI0 fun i j=>.int (i+j)) (tOp (rI0 fun i j=>.int (i - j)) (zac 7) (zac 6)) (tC (.int 1))) zap)))) (zab (zac 7) zap)))) zap))) (tSl (zj5 K) (zac 1) (zfd (tOp (rI0 fun i j=>.int (i+j)) (zac 4) (tC (.int 1)))) zcb)) (zaf 9))
 (zaV (zid (zbM K (zdU (zab (zcs (zab (zac 8) (zab (zac 2) zap))) (zab (zcs (zab (zac 9) (zab (zac 2) zap))) (zab (zcs (zab (zac 1) (zab (tOp (rI0 fun i j=>.int (i+j)) (zac 2) (tC (.int 1))) zap))) (zab (zcs (zab (tOp zjx (tSl (zj5 K) (zac 1) zcb (zfd (zac 4))) (tSl (zj5 K) (zac 1) (zfd (tOp (rI0 fun i j=>.int (i+j)) (zac 4) (tC (.int 1)))) zcb)) (zab (zac 2) zap))) zap)))))) (zcj K 2 (zaD (zaf 10) (zaD (zaf 11) zck)))
 (zcd K))
 (zbq (tC (.bl true))))))))
theorem zhE {p l wr w8 w9 t1 t2 t3 t4 ll:Addr} {k co hi of bud:Int} {W:Rat} {D:zbU} {x10 x11:Option V} (hll:H ll=some (.lst [.ref t1,.ref t2,.ref t3,.ref t4])) (E1:Ent H W t1) (E2:Ent H W t2) (E3:Ent H W t3) (E4:Ent H W t4) (hw:H wr=some (.tup (fr W))) (bW:Bq 1300 W)
  (q:∀ (y z:Option V) (H':Hp),zaR H H'→D.nx [some (.ref p),some (.ref l),some (.int bud),some (.ref wr),some (.int k),some (.int co),some (.int hi),some (.int of),some (.ref w8),some (.ref w9),y,z] H') :
  zkR (Itl K ll) (zcj K 2 (zaD (zaf 10) (zaD (zaf 11) zck))) (zcd K) D [some (.ref p),some (.ref l),some (.int bud),some (.ref wr),some (.int k),some (.int co),some (.int hi),some (.int of),some (.ref w8),some (.ref w9),x10,x11] H:=by
 refine zcf (K:=K) (xs:=[.ref t1,.ref t2,.ref t3,.ref t4]) (fun i σ H'=>zaR H H'∧∃ y z,σ=[some (.ref p),some (.ref l),some (.int bud),some (.ref wr),some (.int k),some (.int co),some (.int hi),some (.int of),some (.ref w8),some (.ref w9),y,z]) ⟨.refl _,_,_,rfl⟩ ?_ ?_ ?_
 ·rintro i σ H' _ ⟨s,_⟩
  exact SqL.of (s _ _ hll)
 ·rintro i x σ H1 hx ⟨s1,y,z,rfl⟩
  obtain ⟨t,rfl,Et⟩:∃ t,x=.ref t∧Ent H W t:=by
   have m:=zar hx
   simp only [List.mem_cons,List.not_mem_nil,or_false] at m
   rcases m with rfl | rfl | rfl | rfl
   ·exact ⟨_,rfl,E1⟩
   ·exact ⟨_,rfl,E2⟩
   ·exact ⟨_,rfl,E3⟩
   ·exact ⟨_,rfl,E4⟩
  obtain ⟨l',ts,bs,bud',h1,h2,T,gb,l6,d0,d1,le⟩:=Et
  simp_all only [zaW,zac]
  refine ⟨_,SqT.of (s1 _ _ h1),rfl,_,_,rfl,_,_,rfl,rfl,?_⟩
  simp_all only [zaW,zac]
  refine ⟨_,.inl (SqL.of (s1 _ _ h2)),?_⟩
  rw [List.length_map,T.1]
  refine zeH (fun c=>?_) (fun c=>?_)
  ·have l1:1≤bs.length:=by omega
   refine ⟨_,.inl (SqL.of (s1 _ _ h2)),fun l2 f2=>?_⟩
   have s2:=zal f2 (.lst (ts.map V.ref))
   have h3:(L2.upd H1 l2 (.lst (ts.map V.ref))) l2=some (.lst (ts.map V.ref)):=zah
   generalize L2.upd H1 l2 (.lst (ts.map V.ref))=H2 at s2 h3 ⊢
   refine ⟨l2,ts,bs,bud',rfl,h3,(T.same s1).same s2,gb,l1,l6,d0,d1,fun r w m pp W' H3 s3 a1 a2 a3=>?_⟩
   simp_all only [zaW,zac]
   refine ⟨_,SqT.of a1,_,rfl,w,wr,W',W,rfl,a2,s3 _ _ (s2 _ _ (s1 _ _ hw)),a3.bq.mono (by decide),bW.mono (by decide),?_⟩
   refine ⟨false,by rw [decide_eq_false (Rat.not_lt.mpr (le l1 W' a3))],?_⟩
   exact zeH (fun z=>absurd z (by decide)) (fun _=>s1.trans (s2.trans s3))
  ·exact s1
 ·rintro σ H1 ⟨s1,y,z,rfl⟩
  exact q y z H1 s1
theorem zfB {p l wr:Addr} {c bud:Int} {ts:List Addr} {bs:List Box} {W:Rat} (hP:Drw H p c) (c1:c<1000) (B:Bxs (Off p p H) l ts bs) (d0:0≤bud) (d1:bud≤30) (hw:Off p p H wr=some (.tup (fr W))) (A:Wth bs bud W) (q:∀ (c':Int) (H':Hp),zaR (Off p p H) (Off p p H')→Drw H' p c'→c'≤c+3→Q (.bl true) H') :
  zcH K { nx:=fun _ H'=>Q .non H',rt:=Q } (L2.start ["_law_left_here","_law_boxes_here","_law_budget","_law_worth","_law_k","_law_cost","_law_hits","_law_of","_law_cheap","_law_sure","_law_some","_law_much"] [.ref p,.ref l,.int bud,.ref wr]) H:=by
 unfold zcH
 have c0:=hP.c0
 have l3:=B.l3
 have l1:=B.l1
 have lt:=B.hb.1
 simp_all only [zaW,zac]
 refine ⟨_,.inl (SqL.of (za0 _ _ _ _ _ B.hl)),?_⟩
 rw [List.length_map,lt]
 refine ⟨p,c,_,rfl,hP,by omega,by omega,by omega,fun r H1 r0 r1 o1 P1=>?_⟩
 obtain ⟨k,rfl⟩:=Int.eq_ofNat_of_zero_le r0
 rw [← o1] at B hw q
 have kb:k<bs.length:=by omega
 obtain ⟨t,b,et,eb,ea,hb,gb⟩:=(B.same (za0 p p H1)).ix kb
 simp_all only [zaW,zac]
 refine ⟨_,SqL.of (za0 _ _ _ _ _ B.hl),_,ea,t,rfl,_,SqT.of hb,rfl,_,_,rfl,_,_,rfl,_,_,rfl,rfl,?_⟩
 simp_all only [zaW,zac]
 have hBl:=B.hl
 have gb':=gb
 obtain ⟨g1,g2,g3,g4,g5⟩:=gb
 refine ⟨_,SqL.of (za0 _ _ _ _ _ hBl),fun u1 uf1=>?_⟩
 obtain ⟨uHa,uea,uPa,usa,uha,_⟩:=P1.mk2 uf1 (.lst (zed (ts.map V.ref) none (some (k:Int))))
 rw [← uea]
 rw [cutA ts k (by omega)] at uha
 refine ⟨p,c+1,b.1,rfl,uPa,by omega,by omega,by omega,fun ud uHb ud0 ud1 uob uPb=>?_⟩
 rw [← uob] at usa uha
 simp_all only [zaW,zac]
 refine ⟨by decide,fun u2 uf2=>?_⟩
 obtain ⟨uHc,uec,uPc,usc,uhc,_⟩:=uPb.mk2 uf2 (.tup [V.int (1+ud),V.int b.2.1,V.int b.2.2])
 rw [← uec]
 refine ⟨by decide,fun u3 uf3=>?_⟩
 obtain ⟨uHd,ued,uPd,usd,uhd,_⟩:=uPc.mk2 uf3 (.lst [V.ref u2])
 rw [← ued]
 refine ⟨_,za0 _ _ _ _ _ (usd _ _ (usc _ _ uha)),_,za0 _ _ _ _ _ uhd,Nat.le_trans (show _≤1000 by rw [List.length_map,List.length_take,List.length_singleton];omega) (by decide),fun u4 uf4=>?_⟩
 obtain ⟨uHe,uee,uPe,use,uhe,_⟩:=uPd.mk2 uf4 (.lst ((ts.take k).map V.ref++[V.ref u2]))
 rw [← uee]
 have uS1:=usa.trans (usc.trans (usd.trans use))
 refine ⟨_,SqL.of (za0 _ _ _ _ _ (uS1 _ _ hBl)),fun u5 uf5=>?_⟩
 obtain ⟨uHf,uef,uPf,usf,uhf,_⟩:=uPe.mk2 uf5 (.lst (zed (ts.map V.ref) (some ((k:Int)+1)) none))
 rw [← uef]
 rw [cutB ts k (by omega)] at uhf
 refine ⟨_,za0 _ _ _ _ _ (usf _ _ uhe),_,za0 _ _ _ _ _ uhf,Nat.le_trans (show _≤1000 by rw [List.length_append,List.length_map,List.length_map,List.length_take,List.length_drop,List.length_singleton];omega) (by decide),fun u6 uf6=>?_⟩
 obtain ⟨uHg,ueg,uPg,usg,uhg,_⟩:=uPf.mk2 uf6 (.lst ((ts.take k).map V.ref++[V.ref u2]++(ts.drop (k+1)).map V.ref))
 rw [← ueg]
 have uS2:=uS1.trans (usf.trans usg)
 have uhl:Off p p uHg u6=some (.lst ((ts.take k++u2::ts.drop (k+1)).map V.ref)):=by
  rw [uhg,List.map_append,List.map_cons,List.append_assoc]
  rfl
 have uT:Tps bx (Off p p uHg) (ts.take k++u2::ts.drop (k+1)) (bs.take k++(1+ud,b.2.1,b.2.2)::bs.drop (k+1)) :=
  ((B.hb.same (uS2)).take k).app (Tps.app (Tps.one (f:=bx) (b:=(1+ud,b.2.1,b.2.2)) ((usd.trans (use.trans (usf.trans usg))) _ _ uhc)) ((B.hb.same (uS2)).drop (k+1)))
 have hCl:=uS2 _ _ hBl
 refine ⟨_,SqL.of (za0 _ _ _ _ _ hCl),fun v1 vf1=>?_⟩
 obtain ⟨vHa,vea,vPa,vsa,vha,_⟩:=uPg.mk2 vf1 (.lst (zed (ts.map V.ref) none (some (k:Int))))
 rw [← vea]
 rw [cutA ts k (by omega)] at vha
 refine ⟨p,c+1+1,b.2.2 - b.2.1+1,rfl,vPa,by omega,by omega,by omega,fun vd vHb vd0 vd1 vob vPb=>?_⟩
 rw [← vob] at vsa vha
 simp_all only [zaW,zac]
 refine ⟨by decide,fun v2 vf2=>?_⟩
 obtain ⟨vHc,vec,vPc,vsc,vhc,_⟩:=vPb.mk2 vf2 (.tup [V.int b.1,V.int (b.2.1+vd),V.int b.2.2])
 rw [← vec]
 refine ⟨by decide,fun v3 vf3=>?_⟩
 obtain ⟨vHd,ved,vPd,vsd,vhd,_⟩:=vPc.mk2 vf3 (.lst [V.ref v2])
 rw [← ved]
 refine ⟨_,za0 _ _ _ _ _ (vsd _ _ (vsc _ _ vha)),_,za0 _ _ _ _ _ vhd,Nat.le_trans (show _≤1000 by rw [List.length_map,List.length_take,List.length_singleton];omega) (by decide),fun v4 vf4=>?_⟩
 obtain ⟨vHe,vee,vPe,vse,vhe,_⟩:=vPd.mk2 vf4 (.lst ((ts.take k).map V.ref++[V.ref v2]))
 rw [← vee]
 have vS1:=vsa.trans (vsc.trans (vsd.trans vse))
 refine ⟨_,SqL.of (za0 _ _ _ _ _ (vS1 _ _ hCl)),fun v5 vf5=>?_⟩
 obtain ⟨vHf,vef,vPf,vsf,vhf,_⟩:=vPe.mk2 vf5 (.lst (zed (ts.map V.ref) (some ((k:Int)+1)) none))
 rw [← vef]
 rw [cutB ts k (by omega)] at vhf
 refine ⟨_,za0 _ _ _ _ _ (vsf _ _ vhe),_,za0 _ _ _ _ _ vhf,Nat.le_trans (show _≤1000 by rw [List.length_append,List.length_map,List.length_map,List.length_take,List.length_drop,List.length_singleton];omega) (by decide),fun v6 vf6=>?_⟩
 obtain ⟨vHg,veg,vPg,vsg,vhg,_⟩:=vPf.mk2 vf6 (.lst ((ts.take k).map V.ref++[V.ref v2]++(ts.drop (k+1)).map V.ref))
 rw [← veg]
 have vS2:=vS1.trans (vsf.trans vsg)
 have vhl:Off p p vHg v6=some (.lst ((ts.take k++v2::ts.drop (k+1)).map V.ref)):=by
  rw [vhg,List.map_append,List.map_cons,List.append_assoc]
  rfl
 have vT:Tps bx (Off p p vHg) (ts.take k++v2::ts.drop (k+1)) (bs.take k++(b.1,b.2.1+vd,b.2.2)::bs.drop (k+1)) :=
  ((B.hb.same (uS2.trans vS2)).take k).app (Tps.app (Tps.one (f:=bx) (b:=(b.1,b.2.1+vd,b.2.2)) ((vsd.trans (vse.trans (vsf.trans vsg))) _ _ vhc)) ((B.hb.same (uS2.trans vS2)).drop (k+1)))
 have S:=uS2.trans vS2
 have Bv:=(B.same S).same (za0 p p vHg)
 have hlv:vHg l=some (.lst (ts.map V.ref)):=Bv.hl
 have uhv:vHg u6=some (.lst ((ts.take k++u2::ts.drop (k+1)).map V.ref)):=za0 _ _ _ _ _ (vS2 _ _ uhl)
 have vhv:vHg v6=some (.lst ((ts.take k++v2::ts.drop (k+1)).map V.ref)):=za0 _ _ _ _ _ vhl
 have uTv:=(uT.same vS2).same (za0 p p vHg)
 have vTv:=vT.same (za0 p p vHg)
 have hwv:vHg wr=some (.tup (fr W)):=za0 _ _ _ _ _ (S _ _ hw)
 refine ⟨by decide,fun x1 f1=>?_⟩
 have m1:=zal f1 (.tup [V.ref u6,V.int bud])
 have k1:(L2.upd vHg x1 (.tup [V.ref u6,V.int bud])) x1=some (.tup [V.ref u6,V.int bud]):=zah
 generalize L2.upd vHg x1 (.tup [V.ref u6,V.int bud])=M1 at m1 k1 ⊢
 refine ⟨by decide,fun x2 f2=>?_⟩
 have m2:=zal f2 (.tup [V.ref v6,V.int bud])
 have k2:(L2.upd M1 x2 (.tup [V.ref v6,V.int bud])) x2=some (.tup [V.ref v6,V.int bud]):=zah
 generalize L2.upd M1 x2 (.tup [V.ref v6,V.int bud])=M2 at m2 k2 ⊢
 refine ⟨by decide,fun x3 f3=>?_⟩
 have m3:=zal f3 (.tup [V.ref l,V.int (bud+1)])
 have k3:(L2.upd M2 x3 (.tup [V.ref l,V.int (bud+1)])) x3=some (.tup [V.ref l,V.int (bud+1)]):=zah
 generalize L2.upd M2 x3 (.tup [V.ref l,V.int (bud+1)])=M3 at m3 k3 ⊢
 have m03:=m1.trans (m2.trans m3)
 refine ⟨_,SqL.of (m03 _ _ hlv),fun x4 f4=>?_⟩
 have m4:=zal f4 (.lst (zed (ts.map V.ref) none (some (k:Int))))
 have k4:(L2.upd M3 x4 (.lst (zed (ts.map V.ref) none (some (k:Int))))) x4=some (.lst (zed (ts.map V.ref) none (some (k:Int)))):=zah
 generalize L2.upd M3 x4 (.lst (zed (ts.map V.ref) none (some (k:Int))))=M4 at m4 k4 ⊢
 rw [cutA ts k (by omega)] at k4
 refine ⟨_,SqL.of (m4 _ _ (m03 _ _ hlv)),fun x5 f5=>?_⟩
 have m5:=zal f5 (.lst (zed (ts.map V.ref) (some ((k:Int)+1)) none))
 have k5:(L2.upd M4 x5 (.lst (zed (ts.map V.ref) (some ((k:Int)+1)) none))) x5=some (.lst (zed (ts.map V.ref) (some ((k:Int)+1)) none)):=zah
 generalize L2.upd M4 x5 (.lst (zed (ts.map V.ref) (some ((k:Int)+1)) none))=M5 at m5 k5 ⊢
 rw [cutB ts k (by omega)] at k5
 refine ⟨_,m5 _ _ k4,_,k5,Nat.le_trans (show _≤1000 by rw [List.length_map,List.length_map,List.length_take,List.length_drop];omega) (by decide),fun x6 f6=>?_⟩
 have m6:=zal f6 (.lst ((ts.take k).map V.ref++(ts.drop (k+1)).map V.ref))
 have k6:(L2.upd M5 x6 (.lst ((ts.take k).map V.ref++(ts.drop (k+1)).map V.ref))) x6=some (.lst ((ts.take k).map V.ref++(ts.drop (k+1)).map V.ref)):=zah
 generalize L2.upd M5 x6 (.lst ((ts.take k).map V.ref++(ts.drop (k+1)).map V.ref))=M6 at m6 k6 ⊢
 refine ⟨by decide,fun x7 f7=>?_⟩
 have m7:=zal f7 (.tup [V.ref x6,V.int bud])
 have k7:(L2.upd M6 x7 (.tup [V.ref x6,V.int bud])) x7=some (.tup [V.ref x6,V.int bud]):=zah
 generalize L2.upd M6 x7 (.tup [V.ref x6,V.int bud])=M7 at m7 k7 ⊢
 refine ⟨by decide,fun x8 f8=>?_⟩
 have m8:=zal f8 (.lst [V.ref x1,V.ref x2,V.ref x3,V.ref x7])
 have k8:(L2.upd M7 x8 (.lst [V.ref x1,V.ref x2,V.ref x3,V.ref x7])) x8=some (.lst [V.ref x1,V.ref x2,V.ref x3,V.ref x7]):=zah
 generalize L2.upd M7 x8 (.lst [V.ref x1,V.ref x2,V.ref x3,V.ref x7])=M8 at m8 k8 ⊢
 have m38:=m4.trans (m5.trans (m6.trans (m7.trans m8)))
 have m08:=m03.trans m38
 refine ⟨⟨_,SqL.of k8⟩,?_⟩
 have eb1:=zqM eb
 have g1':∀ y:Box,GB y→∀ x∈bs.take k++y::bs.drop (k+1),GB x:=fun y gy x hx=>by
  rcases List.mem_append.mp hx with m | m
  ·exact B.gb x (List.mem_of_mem_take m)
  ·rcases List.mem_cons.mp m with rfl | m
   ·exact gy
   ·exact B.gb x (List.mem_of_mem_drop m)
 have gu:GB (1+ud,b.2.1,b.2.2):=⟨by show 1≤1+ud;omega,by show 1+ud≤60;omega,g3,g4,g5⟩
 have gv:GB (b.1,b.2.1+vd,b.2.2):=⟨g1,g2,by show 1≤b.2.1+vd;omega,by show b.2.1+vd≤b.2.2;omega,g5⟩
 have one0:(0:Rat)<1:=by decide
 have one1:(0:Rat)≤1:=by decide
 have E1:Ent M8 W x1:=by
  obtain ⟨pl,pp⟩:=zmv (b':=(1+ud,b.2.1,b.2.2)) eb B.gb gu (zkT gb' (Int.le_refl _)) (by show 1+ud≤b.1;omega)
  exact ⟨u6,_,_,bud,(m2.trans (m3.trans m38)) _ _ k1,m08 _ _ uhv,uTv.same m08,g1' _ gu,by rw [pl];omega,d0,by omega,fun _ W' h'=>A.pt 1 1 h' pl pp one0 Rat.le_refl one1⟩
 have E2:Ent M8 W x2:=by
  obtain ⟨pl,pp⟩:=zmv (b':=(b.1,b.2.1+vd,b.2.2)) eb B.gb gv (zkT gb' (show b.2.1≤b.2.1+vd by omega)) (Int.le_refl _)
  exact ⟨v6,_,_,bud,(m3.trans m38) _ _ k2,m08 _ _ vhv,vTv.same m08,g1' _ gv,by rw [pl];omega,d0,by omega,fun _ W' h'=>A.pt 1 1 h' pl pp one0 Rat.le_refl one1⟩
 have E3:Ent M8 W x3:=by
  refine ⟨l,ts,bs,bud+1,m38 _ _ k3,m08 _ _ hlv,Bv.hb.same m08,B.gb,by omega,by omega,by omega,fun _ W' h'=>A.pt 1 1 h' rfl (fun i x x' e1 e2=>?_) one0 ?_ one1⟩
  ·rw [e1] at e2
   cases e2
   exact ⟨B.gb x (zar e1),B.gb x (zar e1),Rat.le_refl,Rat.le_refl⟩
  ·have:(bud:Rat)≤((bud+1:Int):Rat):=by exact_mod_cast (show bud≤bud+1 by omega)
   grind
 have E4:Ent M8 W x7:=by
  refine ⟨x6,ts.take k++ts.drop (k+1),bs.take k++bs.drop (k+1),bud,m8 _ _ k7,?_,?_,fun x hx=>?_,?_,d0,by omega,fun _ W' h'=>?_⟩
  ·rw [List.map_append]
   exact m8 _ _ (m7 _ _ k6)
  ·exact ((Bv.hb.same m08).take k).app ((Bv.hb.same m08).drop (k+1))
  ·rcases List.mem_append.mp hx with m | m
   ·exact B.gb x (List.mem_of_mem_take m)
   ·exact B.gb x (List.mem_of_mem_drop m)
  ·rw [List.length_append,List.length_take,List.length_drop]
   omega
  ·rw [eb1] at A
   exact A.less gb' h'
 refine zhE k8 E1 E2 E3 E4 (m08 _ _ hwv) A.bq fun y z H' s'=>?_
 exact q (c+1+1+1) H' (S.trans (zeK p p (m08.trans s'))) ((vPg.same m08).same s') (by omega)
theorem za3:zaF ["_law_left_here","_law_boxes_here","_law_budget","_law_worth","_law_k","_law_cost","_law_hits","_law_of","_law_cheap","_law_sure","_law_some","_law_much"] ["_law_left_here","_law_boxes_here","_law_budget","_law_worth"] (zaj zcJ):=⟨rfl,rfl,rfl,by decide +kernel,rfl,by decide +kernel,by decide +kernel⟩
theorem zfv (T:Txt K mg a):zbT P w K mg base CX0 8 a.f__law_better a.d__law_better ["_law_left_here","_law_boxes_here","_law_budget","_law_worth"] zgJ:=by
 have G__law_draw:=zcm (P:=P) (w:=w) (base:=base) T
 have G__law_less:=zhn (P:=P) (w:=w) (base:=base) T
 have G_budget_worth:=zc5 (P:=P) (w:=w) (base:=base) T
 refine T.F__law_better.ok za3 (fun vs H Q E h=>?_) (fun cdv A outer s H vs Q E hr h=>?_)
 ·obtain ⟨p,l,wr,c,bud,ts,bs,W,rfl,hP,c1,B,d0,d1,hw,A,q⟩:=h
  rfl
 obtain ⟨p,l,wr,c,bud,ts,bs,W,rfl,hP,c1,B,d0,d1,hw,A,q⟩:=h
 exact ⟨zcH K,(zae (zaK (i:=4) za3.nd rfl (Or.inl rfl) (zak G__law_draw (hr.mono (by decide)) rfl T.m__law_draw T.F__law_draw.kp T.b__law_draw .nil zaI (zaa (pv 0) (zaa (za6 zbH rfl T.z_len PySem.boot_len (zaa (pv 1) zad)) zad))))
 (zae (zdd (zaN zbw (pv 1) (pv 4) (fun _ _=>rfl)) (zbk rfl (zao (zam (i:=5) za3.nd rfl (Or.inl rfl)) (zao (zam (i:=6) za3.nd rfl (Or.inl rfl)) (zao (zam (i:=7) za3.nd rfl (Or.inl rfl)) za9)))))
 (zae (zaK (i:=8) za3.nd rfl (Or.inl rfl) (zat zeD (zat zeD (zco zdc (pv 1) zdh (zc3 (pv 4))) (zbN (zaa (zbe (zaa (zat zbg zag (zak G__law_draw (hr.mono (by decide)) rfl T.m__law_draw T.F__law_draw.kp T.b__law_draw .nil zaI (zaa (pv 0) (zaa (pv 5) zad)))) (zaa (pv 6) (zaa (pv 7) zad)))) zad))) (zco zdc (pv 1) (zc3 (zat zbg (pv 4) zag)) zdh)))
 (zae (zaK (i:=9) za3.nd rfl (Or.inl rfl) (zat zeD (zat zeD (zco zdc (pv 1) zdh (zc3 (pv 4))) (zbN (zaa (zbe (zaa (pv 5) (zaa (zat zbg (pv 6) (zak G__law_draw (hr.mono (by decide)) rfl T.m__law_draw T.F__law_draw.kp T.b__law_draw .nil zaI (zaa (pv 0) (zaa (zat zbg (zat zcW (pv 7) (pv 6)) zag) zad)))) (zaa (pv 7) zad)))) zad))) (zco zdc (pv 1) (zc3 (zat zbg (pv 4) zag)) zdh)))
 (zae (zcT PassesOwn.never rfl (zbj (zbN (zaa (zbe (zaa (pv 8) (zaa (pv 2) zad))) (zaa (zbe (zaa (pv 9) (zaa (pv 2) zad))) (zaa (zbe (zaa (pv 1) (zaa (zat zbg (pv 2) zag) zad))) (zaa (zbe (zaa (zat zeD (zco zdc (pv 1) zdh (zc3 (pv 4))) (zco zdc (pv 1) (zc3 (zat zbg (pv 4) zag)) zdh)) (zaa (pv 2) zad))) zad)))))) (zbk rfl (zao (zam (i:=10) za3.nd rfl (Or.inl rfl)) (zao (zam (i:=11) za3.nd rfl (Or.inl rfl)) za9)))
 (zan (zcB (PW.pt (zqo (zbz zpg (za6 zbH rfl T.z_len PySem.boot_len (zaa (pv 10) zad)) zag (zbB _)) (znx (zdt (zak G__law_less (hr.mono (by decide)) rfl T.m__law_less T.F__law_less.kp T.b__law_less .nil zaI (zaa (zaN zaG (zak G_budget_worth (hr.mono (by decide)) rfl T.m_budget_worth T.F_budget_worth.kp T.b_budget_worth .nil zaI (zaa (zcA zbF rfl T.z_list zcg (zaa (pv 10) zad)) (zaa (pv 11) zad))) zag (fun _ _=>rfl)) (zaa (pv 3) zad))))))) (zan (zaL zfu)) zbi)))
 (zan (zaL zfu))))))),
  zfB hP c1 B d0 d1 hw A q⟩
def zlQ (K:PySem.W.Frag):Sp:=fun vs H Q _=>∃ (p:Addr) (ns:List Int),vs=[.ref p]∧SqL K H p (ns.map V.int)∧ns.length≤63∧(∀ x∈ns,x.natAbs<2 ^ 2 ^ 20)∧∀ H',Q (.bl true) H'
def zfi (K:PySem.W.Frag):TS :=
 (zaV (za1 (zbh (zfz (zab (zac 7) zap)) (zaf 0) zaH (tOp (rI0 fun i j=>.int (i+j)) (tC (.int 1)) (zaq zaT [] E0 (zab (zac 1) (zab (tC (.int 9)) zap)))) [none,some 2]) (zaf 8))
 (zaV (za1 (zaq zi7 [] E0 (zab (tCB (fun xs H Q=>∃ i j,xs=[.int i,.int j]∧Q (.int (if j<i then j else i)) H) (zab (zac 4) (zab (tCB (zmB K) (zab (zac 8) zap)) zap))) (zab (tCB (zmB K) (zab (zac 8) zap)) zap))) (zaf 9))
 (zcY (zby (tOp (zjz K) (tOp (zbl K) (zaq zaM [] E0 (zab (zbh (zfz (zab (zac 7) zap)) (zaf 0) zaH (zcs (zab (tOp (zc1 K) (zac 1) (zac 0)) (zab (tOp (rI0 fun i j=>.int (i+j)) (zac 0) (tC (.int 1))) (zab (tOp (rI0 fun i j=>.int (i+j)) (zac 0) (tC (.int 1))) zap)))) [none,some 8]) (zab (zac 4) zap))) (tC (.int 0))) (zac 9))) (zbq (tC (.bl false))) zbr)))
theorem zay (K:PySem.W.Frag) (D:zbU) (σ:St) (H:Hp):zfi K D σ H=(zaV (za1 (zbh (zfz (zab (zac 7) zap)) (zaf 0) zaH (tOp (rI0 fun i j=>.int (i+j)) (tC (.int 1)) (zaq zaT [] E0 (zab (zac 1) (zab (tC (.int 9)) zap)))) [none,some 2]) (zaf 8))
 (zaV (za1 (zaq zi7 [] E0 (zab (tCB (fun xs H Q=>∃ i j,xs=[.int i,.int j]∧Q (.int (if j<i then j else i)) H) (zab (zac 4) (zab (tCB (zmB K) (zab (zac 8) zap)) zap))) (zab (tCB (zmB K) (zab (zac 8) zap)) zap))) (zaf 9))
 (zcY (zby (tOp (zjz K) (tOp (zbl K) (zaq zaM [] E0 (zab (zbh (zfz (zab (zac 7) zap)) (zaf 0) zaH (zcs (zab (tOp (zc1 K) (zac 1) (zac 0)) (zab (tOp (rI0 fun i j=>.int (i+j)) (zac 0) (tC (.int 1))) (zab (tOp (rI0 fun i j=>.int (i+j)) (zac 0) (tC (.int 1))) zap)))) [none,some 8]) (zab (zac 4) zap))) (tC (.int 0))) (zac 9))) (zbq (tC (.bl false))) zbr))) D σ H:=rfl
def zeX (K:PySem.W.Frag):TS :=
 (zcY (zby (tOp (zjz K) (tOp (zbl K) (zaq zaM [] E0 (zab (tOp rRep (zdU (zab (tOp (zc1 K) (zac 3) (tC (.int 0))) zap)) (zac 7)) (zab (zac 4) zap))) (tC (.int 0))) (zaq ziv [] E0 (zab (tOp (zc1 K) (zac 3) (tC (.int 0))) (zab (zac 7) (zab (zac 4) zap)))))) (zbq (tC (.bl false))) zbr)
theorem zax (K:PySem.W.Frag) (D:zbU) (σ:St) (H:Hp):zeX K D σ H=(zcY (zby (tOp (zjz K) (tOp (zbl K) (zaq zaM [] E0 (zab (tOp rRep (zdU (zab (tOp (zc1 K) (zac 3) (tC (.int 0))) zap)) (zac 7)) (zab (zac 4) zap))) (tC (.int 0))) (zaq ziv [] E0 (zab (tOp (zc1 K) (zac 3) (tC (.int 0))) (zab (zac 7) (zab (zac 4) zap)))))) (zbq (tC (.bl false))) zbr) D σ H:=rfl
def zgf (K:PySem.W.Frag):TS :=
 (zaV (za1 (tOp (rI0 fun i j=>.int (i+j)) (tC (.int 1)) (zaq zaT [] E0 (zab (zac 2) (zab (tC (.int 6)) zap)))) (zaf 7))
 (zaV (zeG (zeX K))
 (zfi K)))
theorem zaw (K:PySem.W.Frag) (D:zbU) (σ:St) (H:Hp):zgf K D σ H=(zaV (za1 (tOp (rI0 fun i j=>.int (i+j)) (tC (.int 1)) (zaq zaT [] E0 (zab (zac 2) (zab (tC (.int 6)) zap)))) (zaf 7))
 (zaV (zeG (zeX K))
 (zfi K))) D σ H:=rfl
def zfp (K:PySem.W.Frag):TS :=
 (zaV (zeG (zcY (zjy (tB (zaq zgJ [] E0 (zab (zac 2) (zab (zac 3) (zab (zac 4) (zab (zac 5) zap))))))) (zbq (tC (.bl false))) zbr))
 (zgf K))
theorem zau (K:PySem.W.Frag) (D:zbU) (σ:St) (H:Hp):zfp K D σ H=(zaV (zeG (zcY (zjy (tB (zaq zgJ [] E0 (zab (zac 2) (zab (zac 3) (zab (zac 4) (zab (zac 5) zap))))))) (zbq (tC (.bl false))) zbr))
 (zgf K)) D σ H:=rfl
def ze3 (K:PySem.W.Frag):TS :=
 (zcY (zby (tOp (rI0 fun i j=>.bl (decide (i≤j))) (tOp (rI IntMulOk fun i j=>.int (i*j)) (tCB (zjr K) (zab (tOp zjx (zbh (zbM K (zac 3)) (zcj K 3 (zaD (zaf 0) (zaD (zaf 1) (zaD (zaf 2) zck)))) zaH (zac 0) [none,none,none]) (zdU (zab (zac 4) zap))) zap)) (zac 6)) (tC (.int 60)))) (zcY (zby (tOp (zjz K) (tOp (zbl K) (zaq zaM [] E0 (zab (zbh (zbM K (zac 3)) (zcj K 3 (zaD (zaf 0) (zaD (zaf 1) (zaD (zaf 2) zck)))) zaH (zcs (zab (tOp (rI IntMulOk fun i j=>.int (i*j)) (zac 0) (zac 3)) (zab (zac 1) (zab (zac 2) zap)))) [none,none,none,some 6]) (zab (tOp (rI IntMulOk fun i j=>.int (i*j)) (zac 4) (zac 6)) zap))) (tC (.int 0))) (zac 5))) (zbq (tC (.bl false))) zbr) zbr)
theorem zaA (K:PySem.W.Frag) (D:zbU) (σ:St) (H:Hp):ze3 K D σ H=(zcY (zby (tOp (rI0 fun i j=>.bl (decide (i≤j))) (tOp (rI IntMulOk fun i j=>.int (i*j)) (tCB (zjr K) (zab (tOp zjx (zbh (zbM K (zac 3)) (zcj K 3 (zaD (zaf 0) (zaD (zaf 1) (zaD (zaf 2) zck)))) zaH (zac 0) [none,none,none]) (zdU (zab (zac 4) zap))) zap)) (zac 6)) (tC (.int 60)))) (zcY (zby (tOp (zjz K) (tOp (zbl K) (zaq zaM [] E0 (zab (zbh (zbM K (zac 3)) (zcj K 3 (zaD (zaf 0) (zaD (zaf 1) (zaD (zaf 2) zck)))) zaH (zcs (zab (tOp (rI IntMulOk fun i j=>.int (i*j)) (zac 0) (zac 3)) (zab (zac 1) (zab (zac 2) zap)))) [none,none,none,some 6]) (zab (tOp (rI IntMulOk fun i j=>.int (i*j)) (zac 4) (zac 6)) zap))) (tC (.int 0))) (zac 5))) (zbq (tC (.bl false))) zbr) zbr) D σ H:=rfl
def zfk (K:PySem.W.Frag):TS :=
 (zcY (zby (tOp (rI0 fun i j=>.bl (decide (i≤j))) (tOp (rI IntMulOk fun i j=>.int (i*j)) (tCB (zjr K) (zab (zbh (zbM K (zac 3)) (zcj K 3 (zaD (zaf 0) (zaD (zaf 1) (zaD (zaf 2) zck)))) zaH (zac 2) [none,none,none]) zap)) (zac 6)) (tC (.int 50)))) (zcY (zby (tOp (zjz K) (tOp (zbl K) (zaq zaM [] E0 (zab (zbh (zbM K (zac 3)) (zcj K 3 (zaD (zaf 0) (zaD (zaf 1) (zaD (zaf 2) zck)))) zaH (zcs (zab (zac 0) (zab (tOp (rI IntMulOk fun i j=>.int (i*j)) (zac 1) (zac 3)) (zab (tOp (rI IntMulOk fun i j=>.int (i*j)) (zac 2) (zac 3)) zap)))) [none,none,none,some 6]) (zab (zac 4) zap))) (tC (.int 0))) (zac 5))) (zbq (tC (.bl false))) zbr) zbr)
theorem zaC (K:PySem.W.Frag) (D:zbU) (σ:St) (H:Hp):zfk K D σ H=(zcY (zby (tOp (rI0 fun i j=>.bl (decide (i≤j))) (tOp (rI IntMulOk fun i j=>.int (i*j)) (tCB (zjr K) (zab (zbh (zbM K (zac 3)) (zcj K 3 (zaD (zaf 0) (zaD (zaf 1) (zaD (zaf 2) zck)))) zaH (zac 2) [none,none,none]) zap)) (zac 6)) (tC (.int 50)))) (zcY (zby (tOp (zjz K) (tOp (zbl K) (zaq zaM [] E0 (zab (zbh (zbM K (zac 3)) (zcj K 3 (zaD (zaf 0) (zaD (zaf 1) (zaD (zaf 2) zck)))) zaH (zcs (zab (zac 0) (zab (tOp (rI IntMulOk fun i j=>.int (i*j)) (zac 1) (zac 3)) (zab (tOp (rI IntMulOk fun i j=>.int (i*j)) (zac 2) (zac 3)) zap)))) [none,none,none,some 6]) (zab (zac 4) zap))) (tC (.int 0))) (zac 5))) (zbq (tC (.bl false))) zbr) zbr) D σ H:=rfl
def zfn (K:PySem.W.Frag):TS :=
 (zaV (za1 (tOp (rI0 fun i j=>.int (i+j)) (tC (.int 2)) (zaq zaT [] E0 (zab (zac 2) (zab (tC (.int 2)) zap)))) (zaf 6))
 (zaV (zeG (zfk K))
 (zaV (zeG (ze3 K))
 (zfp K))))
theorem zaz (K:PySem.W.Frag) (D:zbU) (σ:St) (H:Hp):zfn K D σ H=(zaV (za1 (tOp (rI0 fun i j=>.int (i+j)) (tC (.int 2)) (zaq zaT [] E0 (zab (zac 2) (zab (tC (.int 2)) zap)))) (zaf 6))
 (zaV (zeG (zfk K))
 (zaV (zeG (ze3 K))
 (zfp K)))) D σ H:=rfl
def zfa (K:PySem.W.Frag):TS :=
 (zcY (zby (tOp (zjz K) (tOp (zbl K) (zaq zaM [] E0 (zab (zbh (zbM K (zaq zkE [] E0 (zab (zac 2) (zab (tCB (fun xs H Q=>∃ p ys,xs=[.ref p]∧(SqL K H p ys∨SqT K H p ys)∧Q (.int ys.length) H) (zab (zac 3) zap)) zap)))) (zaf 0) zaH (tOp (zc1 K) (zac 1) (zac 0)) [none,some 3]) (zab (zac 4) zap))) (tC (.int 0))) (zac 5))) (zbq (tC (.bl false))) zbr)
theorem zav (K:PySem.W.Frag) (D:zbU) (σ:St) (H:Hp):zfa K D σ H=(zcY (zby (tOp (zjz K) (tOp (zbl K) (zaq zaM [] E0 (zab (zbh (zbM K (zaq zkE [] E0 (zab (zac 2) (zab (tCB (fun xs H Q=>∃ p ys,xs=[.ref p]∧(SqL K H p ys∨SqT K H p ys)∧Q (.int ys.length) H) (zab (zac 3) zap)) zap)))) (zaf 0) zaH (tOp (zc1 K) (zac 1) (zac 0)) [none,some 3]) (zab (zac 4) zap))) (tC (.int 0))) (zac 5))) (zbq (tC (.bl false))) zbr) D σ H:=rfl
def zhW (K:PySem.W.Frag):TS :=
 (zaV (za1 (zaq (zkD K) [] E0 (zab (zdU (zab (zac 1) zap)) (zab (tC (.int 0)) zap))) (zaf 2))
 (zaV (za1 (zaq ze2 [] E0 (zab (zac 2) (zab (tC (.int 3)) zap))) (zaf 3))
 (zaV (za1 (zaq zaT [] E0 (zab (zac 2) (zab (tOp (zc1 K) (zdU (zab (tC (.int 6)) (zab (tC (.int 31)) zap))) (zaq zaT [] E0 (zab (zac 2) (zab (tC (.int 2)) zap)))) zap))) (zaf 4))
 (zaV (za1 (tOp (zbl K) (zaq zaM [] E0 (zab (tCB (fun xs H Q=>∃ p ys,xs=[.ref p]∧(SqL K H p ys∨SqT K H p ys)∧∀ l,H l=none→Q (.ref l) (upd H l (.lst ys))) (zab (zac 3) zap)) (zab (zac 4) zap))) (tC (.int 0))) (zaf 5))
 (zaV (zeG (zfa K))
 (zfn K))))))
theorem zaB (K:PySem.W.Frag) (D:zbU) (σ:St) (H:Hp):zhW K D σ H=(zaV (za1 (zaq (zkD K) [] E0 (zab (zdU (zab (zac 1) zap)) (zab (tC (.int 0)) zap))) (zaf 2))
 (zaV (za1 (zaq ze2 [] E0 (zab (zac 2) (zab (tC (.int 3)) zap))) (zaf 3))
 (zaV (za1 (zaq zaT [] E0 (zab (zac 2) (zab (tOp (zc1 K) (zdU (zab (tC (.int 6)) (zab (tC (.int 31)) zap))) (zaq zaT [] E0 (zab (zac 2) (zab (tC (.int 2)) zap)))) zap))) (zaf 4))
 (zaV (za1 (tOp (zbl K) (zaq zaM [] E0 (zab (tCB (fun xs H Q=>∃ p ys,xs=[.ref p]∧(SqL K H p ys∨SqT K H p ys)∧∀ l,H l=none→Q (.ref l) (upd H l (.lst ys))) (zab (zac 3) zap)) (zab (zac 4) zap))) (tC (.int 0))) (zaf 5))
 (zaV (zeG (zfa K))
 (zfn K)))))) D σ H:=rfl
def zn0 (K:PySem.W.Frag):TS :=
 (zaV (zid (zbM K (tOp zjx (zdU (zab (tC (.int 0)) zap)) (tSl (zj5 K) (zac 0) zcb (zfd (tC (.int 40)))))) (zaf 1)
 (zhW K))
 (zbq (tC (.bl true))))
theorem zj3 {ts:List Addr} {bs:List Box} {H:Hp} (T:Tps bx H ts bs) {n:Nat} (ln:bs.length=n) {js:List Nat} (pj:js.Perm (List.range n)):Tps bx H (js.map fun j=>ts.getD j 0) (js.map fun j=>bs.getD j (0,0,0)):=by
 refine ⟨by rw [List.length_map,List.length_map],fun i t b e1 e2=>?_⟩
 obtain ⟨j,ej,rfl⟩:=zaE e1
 obtain ⟨j',ej',rfl⟩:=zaE e2
 rw [ej] at ej'
 cases ej'
 have lj:=List.mem_range.mp (pj.mem_iff.mp (zar ej))
 have e3:ts[j]?=some (ts[j]'(by rw [T.1,ln];exact lj)):=List.getElem?_eq_getElem _
 have e4:bs[j]?=some (bs[j]'(by rw [ln];exact lj)):=List.getElem?_eq_getElem _
 rw [List.getD_eq_getElem?_getD,e3,List.getD_eq_getElem?_getD,e4]
 exact T.2 j _ _ e3 e4
theorem zho {bs:List Box} {n:Nat} (ln:bs.length=n) {js:List Nat} (pj:js.Perm (List.range n)):bs.Perm (js.map fun j=>bs.getD j (0,0,0)):=by
 refine (List.Perm.of_eq ?_).trans (pj.map fun j=>bs.getD j (0,0,0)).symm
 refine List.ext_getElem? fun i=>?_
 rw [List.getElem?_map]
 by_cases c:i<n
 ·rw [List.getElem?_range c]
  have e:bs[i]?=some (bs[i]'(by omega)):=List.getElem?_eq_getElem _
  rw [Option.map_some,List.getD_eq_getElem?_getD,e]
  rfl
 ·rw [List.getElem?_eq_none (by omega),List.getElem?_eq_none (by rw [List.length_range];omega)]
  rfl
structure Lw (Hb H:Hp) (p l wr:Addr) (ts:List Addr) (bs:List Box) (bud:Int) (W:Rat) (c:Int):Prop where
 s:zaR (Off p p Hb) (Off p p H)
 P:∃ c',Drw H p c'∧c'≤c
 B:Bxs (Off p p H) l ts bs
 hw:Off p p H wr=some (.tup (fr W))
theorem Lw.same {Hb H H':Hp} {p l wr:Addr} {ts:List Addr} {bs:List Box} {bud:Int} {W:Rat} {c:Int} (h:Lw Hb H p l wr ts bs bud W c) (s:zaR H H'):Lw Hb H' p l wr ts bs bud W c:=by
 obtain ⟨c',P,hc⟩:=h.P
 have o:=zeK p p s
 exact ⟨h.s.trans o,⟨c',P.same s,hc⟩,h.B.same o,o _ _ h.hw⟩
theorem Lw.off {Hb H H':Hp} {p l wr:Addr} {ts:List Addr} {bs:List Box} {bud:Int} {W:Rat} {c c2:Int} (h:Lw Hb H p l wr ts bs bud W c) (s:zaR (Off p p H) (Off p p H')) (P:Drw H' p c2):Lw Hb H' p l wr ts bs bud W c2 :=
 ⟨h.s.trans s,⟨c2,P,Int.le_refl _⟩,h.B.same s,s _ _ h.hw⟩
abbrev s25 (p0 p l wr:Addr) (cell bud:Int) (x6 x7 x8 x9:Option V):St:=[some (.ref p0),some (.int cell),some (.ref p),some (.ref l),some (.int bud),some (.ref wr),x6,x7,x8,x9]
theorem law_7 {Hb:Hp} {p0 p l wr:Addr} {cell bud c:Int} {ts:List Addr} {bs:List Box} {W:Rat} {D:zbU} {x6 x7 x8 x9:Option V} (L:Lw Hb H p l wr ts bs bud W c) (c1:c<900) (d0:0≤bud) (d1:bud≤30) (A:Wth bs bud W)
  (q:∀ H',Lw Hb H' p l wr ts bs bud W (c+6)→D.nx (s25 p0 p l wr cell bud x6 x7 x8 x9) H'):zfa K D (s25 p0 p l wr cell bud x6 x7 x8 x9) H:=by
 obtain ⟨c',P,hc⟩:=L.P
 have c0:=P.c0
 have B:=L.B
 have l3:=B.l3
 have lt:=B.hb.1
 simp_all only [zay,zax,zaw,zau,zaA,zaC,zaz,zav,zaB,zac]
 refine ⟨_,.inl (SqL.of (za0 _ _ _ _ _ B.hl)),?_⟩
 rw [List.length_map,lt]
 refine ⟨p,c',bs.length,rfl,P,by omega,by omega,fun tl js c2 H1 s1 P1 hc1 htl pj=>?_⟩
 have L1:=L.off s1 P1
 have B1:=L1.B.same (za0 p p H1)
 have htl1:=za0 _ _ _ _ _ htl
 have lj:=pj.length_eq
 rw [List.length_range] at lj
 refine ⟨tl,rfl,⟨_,SqL.of htl1⟩,fun D1 hD1=>?_⟩
 refine zca (vs:=(js.map fun j=>ts.getD j 0).map V.ref) htl1 (by simp) (by simp;omega) hD1 (fun i x v H' R hx hv s k=>?_) fun H2 s2 h2=>?_
 ·obtain ⟨j,ej,rfl⟩:=zaE hx
  obtain ⟨u,eu,rfl⟩:=zaE hv
  obtain ⟨j',ej',rfl⟩:=zaE eu
  rw [ej] at ej'
  cases ej'
  have l6:=List.mem_range.mp (pj.mem_iff.mp (zar ej))
  have e3:ts[j]?=some (ts[j]'(by omega)):=List.getElem?_eq_getElem _
  simp_all only [zay,zax,zaw,zau,zaA,zaC,zaz,zav,zaB,zac]
  refine ⟨_,SqL.of (s _ _ B1.hl),_,zgs (by rw [List.getElem?_map,e3];rfl),?_⟩
  rw [List.getD_eq_getElem?_getD,e3] at k
  exact k _ (.refl _)
 ·have L2':=L1.same s2
  have B2:=B1.same s2
  refine ⟨D1,_,_,bud,rfl,h2,zj3 B2.hb rfl pj,fun b hb=>?_,by rw [List.length_map,lj];exact B.l1,by rw [List.length_map];omega,d0,by omega,fun r w m pp W' H3 s3 a1 a2 a3=>?_⟩
  ·exact B.gb b ((zho rfl pj).mem_iff.mpr hb)
  simp_all only [zay,zax,zaw,zau,zaA,zaC,zaz,zav,zaB,zac]
  have L3:=L2'.same s3
  refine ⟨_,SqT.of a1,_,rfl,w,rfl,[W'.num,(W'.den:Int)],SqT.of a2,[W.num,(W.den:Int)],SqT.of (za0 _ _ _ _ _ L3.hw),?_⟩
  rw [A.eq_perm a3 (zho rfl pj)]
  refine zeH (fun z=>absurd rfl z) (fun _=>?_)
  obtain ⟨c3,P3,hc3⟩:=L3.P
  exact q H3 ⟨L3.s,⟨c3,P3,by omega⟩,L3.B,L3.hw⟩
theorem law_5 {Hb:Hp} {p0 p l wr:Addr} {cell bud c m:Int} {ts:List Addr} {bs:List Box} {W:Rat} {D:zbU} {x7 x8 x9:Option V} (L:Lw Hb H p l wr ts bs bud W c) (m0:2≤m) (m1:m≤3) (d0:0≤bud) (d1:bud≤30) (A:Wth bs bud W)
  (q:∀ H',Lw Hb H' p l wr ts bs bud W c→D.nx (s25 p0 p l wr cell bud (some (.int m)) x7 x8 x9) H'):zfk K D (s25 p0 p l wr cell bud (some (.int m)) x7 x8 x9) H:=by
 have B:=L.B.same (za0 p p H)
 have l3:=B.l3
 have l1:=B.l1
 simp_all only [zay,zax,zaw,zau,zaA,zaC,zaz,zav,zaB,zac]
 refine ⟨⟨_,SqL.of B.hl⟩,fun D1 hD1=>?_⟩
 refine zgO (vs:=(bs.map fun b=>b.2.2).map V.int) B.hl B.hb (by simp) (by simp;omega) hD1 (fun i b v H' R hb hv s k=>?_) fun H1 s1 h1=>?_
 ·obtain ⟨w,ew,rfl⟩:=zaE hv
  obtain ⟨b',eb',rfl⟩:=zaE ew
  rw [hb] at eb'
  cases eb'
  simp_all only [zay,zax,zaw,zau,zaA,zaC,zaz,zav,zaB,zac]
  exact k _ (.refl _)
 refine ⟨D1,rfl,_,SqL.of h1,by rw [List.length_map];omega,fun mx hmx hall=>?_⟩
 obtain ⟨b0,hb0,e0⟩:=List.mem_map.mp hmx
 have gb0:=B.gb b0 hb0
 refine ⟨zgM (by omega) (by omega),?_⟩
 have L1:=L.same s1
 have B1:=B.same s1
 refine zeH (fun cc=>?_) (fun _=>q H1 L1)
 have gm:∀ b∈bs,GB (b.1,b.2.1*m,b.2.2*m):=fun b hb=>by
  obtain ⟨g1,g2,g3,g4,g5⟩:=B.gb b hb
  have le:=hall b.2.2 (List.mem_map.mpr ⟨b,hb,rfl⟩)
  have a1:1*1≤b.2.1*m:=Int.mul_le_mul g3 (by omega) (by decide) (by omega)
  have a2:b.2.1*m≤b.2.2*m:=Int.mul_le_mul_of_nonneg_right g4 (by omega)
  have a3:b.2.2*m≤mx*m:=Int.mul_le_mul_of_nonneg_right le (by omega)
  exact ⟨g1,g2,by show 1≤b.2.1*m;omega,a2,by show b.2.2*m≤50;omega⟩
 refine ⟨⟨_,SqL.of B1.hl⟩,fun D2 hD2=>?_⟩
 refine zg6 (f:=fun b=>(b.1,b.2.1*m,b.2.2*m)) B1.hl B1.hb (by omega) hD2 (fun i b H' R hb s k=>?_) fun us H2 s2 h2 T2=>?_
 ·simp_all only [zay,zax,zaw,zau,zaA,zaC,zaz,zav,zaB,zac]
  exact ⟨zgM (by omega) (by omega),zgM (by omega) (by omega),by decide,fun r hr=>k r _ (zal hr _) zah⟩
 have L2':=L1.same s2
 refine ⟨D2,us,_,bud,rfl,h2,T2,fun b hb=>?_,by rw [List.length_map];omega,by rw [List.length_map];omega,d0,by omega,fun r w mm pp W' H3 s3 a1 a2 a3=>?_⟩
 ·obtain ⟨b',hb',rfl⟩:=List.mem_map.mp hb
  exact gm b' hb'
 simp_all only [zay,zax,zaw,zau,zaA,zaC,zaz,zav,zaB,zac]
 have L3:=L2'.same s3
 have eW:W'=W:=by
  have o0:(0:Rat)<1:=by decide
  have o1:(0:Rat)≤1:=by decide
  refine Rat.le_antisymm ?_ ?_
  ·refine a3.pt 1 1 A (by rw [List.length_map]) (fun i b b' e1 e2=>?_) o0 Rat.le_refl o1
   obtain ⟨b2,e3,rfl⟩:=zaE e1
   rw [e2] at e3
   cases e3
   have g:=B.gb b' (zar e2)
   exact ⟨gm b' (zar e2),g,by rw [show pr (b'.1,b'.2.1*m,b'.2.2*m)=pr b' from zkl g (by omega)];exact Rat.le_refl,Rat.le_refl⟩
  ·refine A.pt 1 1 a3 (by rw [List.length_map]) (fun i b b' e1 e2=>?_) o0 Rat.le_refl o1
   obtain ⟨b2,e3,rfl⟩:=zaE e2
   rw [e1] at e3
   cases e3
   have g:=B.gb b (zar e1)
   exact ⟨g,gm b (zar e1),by rw [show pr (b.1,b.2.1*m,b.2.2*m)=pr b from zkl g (by omega)];exact Rat.le_refl,Rat.le_refl⟩
 refine ⟨_,SqT.of a1,_,rfl,w,rfl,[W'.num,(W'.den:Int)],SqT.of a2,[W.num,(W.den:Int)],SqT.of (za0 _ _ _ _ _ L3.hw),?_⟩
 rw [eW]
 exact zeH (fun z=>absurd rfl z) (fun _=>q H3 L3)
theorem law_4 {Hb:Hp} {p0 p l wr:Addr} {cell bud c m:Int} {ts:List Addr} {bs:List Box} {W:Rat} {D:zbU} {x7 x8 x9:Option V} (L:Lw Hb H p l wr ts bs bud W c) (m0:2≤m) (m1:m≤3) (d0:0≤bud) (d1:bud≤30) (A:Wth bs bud W)
  (q:∀ H',Lw Hb H' p l wr ts bs bud W c→D.nx (s25 p0 p l wr cell bud (some (.int m)) x7 x8 x9) H'):ze3 K D (s25 p0 p l wr cell bud (some (.int m)) x7 x8 x9) H:=by
 have B:=L.B.same (za0 p p H)
 have l3:=B.l3
 have l1:=B.l1
 simp_all only [zay,zax,zaw,zau,zaA,zaC,zaz,zav,zaB,zac]
 refine ⟨⟨_,SqL.of B.hl⟩,fun D1 hD1=>?_⟩
 refine zgO (vs:=(bs.map fun b=>b.1).map V.int) B.hl B.hb (by simp) (by simp;omega) hD1 (fun i b v H' R hb hv s k=>?_) fun H1 s1 h1=>?_
 ·obtain ⟨w,ew,rfl⟩:=zaE hv
  obtain ⟨b',eb',rfl⟩:=zaE ew
  rw [hb] at eb'
  cases eb'
  simp_all only [zay,zax,zaw,zau,zaA,zaC,zaz,zav,zaB,zac]
  exact k _ (.refl _)
 refine ⟨by decide,fun y1 f1=>?_⟩
 have s2:=zal f1 (.lst [V.int bud])
 have h2:(L2.upd H1 y1 (.lst [V.int bud])) y1=some (.lst [V.int bud]):=zah
 generalize L2.upd H1 y1 (.lst [V.int bud])=H2 at s2 h2 ⊢
 refine ⟨D1,rfl,_,s2 _ _ h1,_,h2,Nat.le_trans (show _≤1000 by rw [List.length_map,List.length_map,List.length_singleton];omega) (by decide),fun y2 f2=>?_⟩
 have s3:=zal f2 (.lst ((bs.map fun b=>b.1).map V.int++[V.int bud]))
 have h3:(L2.upd H2 y2 (.lst ((bs.map fun b=>b.1).map V.int++[V.int bud]))) y2=some (.lst ((bs.map fun b=>b.1).map V.int++[V.int bud])):=zah
 generalize L2.upd H2 y2 (.lst ((bs.map fun b=>b.1).map V.int++[V.int bud]))=H3 at s3 h3 ⊢
 have e3:(bs.map fun b=>b.1).map V.int++[V.int bud]=((bs.map fun b=>b.1)++[bud]).map V.int:=by rw [List.map_append];rfl
 rw [e3] at h3
 refine ⟨_,SqL.of h3,by rw [List.length_append,List.length_singleton];omega,fun mx hmx hall=>?_⟩
 refine ⟨zgM (by omega) (by omega),?_⟩
 have S3:=s1.trans (s2.trans s3)
 have L1:=L.same S3
 have B1:=B.same S3
 refine zeH (fun cc=>?_) (fun _=>q H3 L1)
 have bm:bud*m≤60:=by
  have a:=hall bud (List.mem_append_right _ (by simp))
  have a3:bud*m≤mx*m:=Int.mul_le_mul_of_nonneg_right a (by omega)
  omega
 have bm0:0≤bud*m:=Int.mul_nonneg d0 (by omega)
 have gm:∀ b∈bs,GB (b.1*m,b.2.1,b.2.2):=fun b hb=>by
  obtain ⟨g1,g2,g3,g4,g5⟩:=B.gb b hb
  have le:=hall b.1 (List.mem_append_left _ (List.mem_map.mpr ⟨b,hb,rfl⟩))
  have a1:1*1≤b.1*m:=Int.mul_le_mul g1 (by omega) (by decide) (by omega)
  have a3:b.1*m≤mx*m:=Int.mul_le_mul_of_nonneg_right le (by omega)
  exact ⟨by show 1≤b.1*m;omega,by show b.1*m≤60;omega,g3,g4,g5⟩
 refine ⟨⟨_,SqL.of B1.hl⟩,fun D2 hD2=>?_⟩
 refine zg6 (f:=fun b=>(b.1*m,b.2.1,b.2.2)) B1.hl B1.hb (by omega) hD2 (fun i b H' R hb s k=>?_) fun us H4 s4 h4 T4=>?_
 ·simp_all only [zay,zax,zaw,zau,zaA,zaC,zaz,zav,zaB,zac]
  exact ⟨zgM (by omega) (by omega),by decide,fun r hr=>k r _ (zal hr _) zah⟩
 have L2':=L1.same s4
 refine ⟨zgM (by omega) (by omega),D2,us,_,bud*m,rfl,h4,T4,fun b hb=>?_,by rw [List.length_map];omega,by rw [List.length_map];omega,bm0,bm,fun r w mm pp W' H5 s5 a1 a2 a3=>?_⟩
 ·obtain ⟨b',hb',rfl⟩:=List.mem_map.mp hb
  exact gm b' hb'
 simp_all only [zay,zax,zaw,zau,zaA,zaC,zaz,zav,zaB,zac]
 have L3:=L2'.same s5
 have mR:(0:Rat)<(m:Rat):=by exact_mod_cast (show (0:Int)<m by omega)
 have eW:W'=W:=by
  have o0:(0:Rat)<1:=by decide
  have o1:(0:Rat)≤1:=by decide
  refine Rat.le_antisymm ?_ ?_
  ·refine a3.pt 1 (m:Rat) A (by rw [List.length_map]) (fun i b b' e1 e2=>?_) mR (by rw [Rat.intCast_mul];grind) o1
   obtain ⟨b2,e3,rfl⟩:=zaE e1
   rw [e2] at e3
   cases e3
   have g:=B.gb b' (zar e2)
   refine ⟨gm b' (zar e2),g,Rat.le_refl,?_⟩
   show (b'.1:Rat)*(m:Rat)≤((b'.1*m:Int):Rat)*1
   rw [Rat.intCast_mul]
   grind
  ·refine A.pt (m:Rat) 1 a3 (by rw [List.length_map]) (fun i b b' e1 e2=>?_) o0 (by rw [Rat.intCast_mul];grind) (Rat.le_of_lt mR)
   obtain ⟨b2,e3,rfl⟩:=zaE e2
   rw [e1] at e3
   cases e3
   have g:=B.gb b (zar e1)
   refine ⟨g,gm b (zar e1),Rat.le_refl,?_⟩
   show ((b.1*m:Int):Rat)*1≤(b.1:Rat)*(m:Rat)
   rw [Rat.intCast_mul]
   grind
 refine ⟨_,SqT.of a1,_,rfl,w,rfl,[W'.num,(W'.den:Int)],SqT.of a2,[W.num,(W.den:Int)],SqT.of (za0 _ _ _ _ _ L3.hw),?_⟩
 rw [eW]
 exact zeH (fun z=>absurd rfl z) (fun _=>q H5 L3)
theorem zmf (t:Addr) (k:Nat):(List.replicate k [V.ref t]).flatten=(List.replicate k t).map V.ref:=by
 induction k with
 | zero=>rfl
 | succ k ih =>
  rw [List.replicate_succ,List.flatten_cons,ih,List.replicate_succ,List.map_cons]
  rfl
theorem Tps.rep {t:Addr} {b:Box} {H:Hp} (h:H t=some (.tup (bx b))) (k:Nat):Tps bx H (List.replicate k t) (List.replicate k b) :=
 ⟨by rw [List.length_replicate,List.length_replicate],fun i t' b' e1 e2=>by
  rw [(List.mem_replicate.mp (zar e1)).2,(List.mem_replicate.mp (zar e2)).2]
  exact h⟩
theorem law_1 {Hb:Hp} {p0 p l wr:Addr} {cell bud c m:Int} {n:Nat} {ts:List Addr} {bs:List Box} {W:Rat} {D:zbU} {x8 x9:Option V} (L:Lw Hb H p l wr ts bs bud W c) (n1:1≤n) (n6:n≤6) (d0:0≤bud) (d1:bud≤30)
  (q:∀ H',Lw Hb H' p l wr ts bs bud W c→D.nx (s25 p0 p l wr cell bud (some (.int m)) (some (.int n)) x8 x9) H'):zeX K D (s25 p0 p l wr cell bud (some (.int m)) (some (.int n)) x8 x9) H:=by
 have B:=L.B.same (za0 p p H)
 have l1:=B.l1
 obtain ⟨t,b,et,eb,ea,hb,gb⟩:=B.ix (i:=0) (by omega)
 simp_all only [zay,zax,zaw,zau,zaA,zaC,zaz,zav,zaB,zac]
 refine ⟨_,SqL.of B.hl,_,ea,by decide,fun y1 f1=>?_⟩
 have s1:=zal f1 (.lst [V.ref t])
 have h1:(L2.upd H y1 (.lst [V.ref t])) y1=some (.lst [V.ref t]):=zah
 generalize L2.upd H y1 (.lst [V.ref t])=H1 at s1 h1 ⊢
 refine ⟨_,h1,by omega,by omega,Nat.le_trans (show _≤1000 by rw [List.length_singleton];omega) (by decide),fun y2 f2=>?_⟩
 have en:(n:Int).toNat=n:=Int.toNat_natCast n
 rw [en,zmf]
 have s2:=zal f2 (.lst ((List.replicate n t).map V.ref))
 have h2:(L2.upd H1 y2 (.lst ((List.replicate n t).map V.ref))) y2=some (.lst ((List.replicate n t).map V.ref)):=zah
 generalize L2.upd H1 y2 (.lst ((List.replicate n t).map V.ref))=H2 at s2 h2 ⊢
 have hb2:=s2 _ _ (s1 _ _ hb)
 have B2:=(B.same s1).same s2
 refine ⟨y2,_,List.replicate n b,bud,rfl,h2,Tps.rep hb2 n,fun b' hb'=>by rw [(List.mem_replicate.mp hb').2];exact gb,by rw [List.length_replicate];exact n1,by rw [List.length_replicate];exact n6,d0,by omega,fun r w mm pp W' H3 s3 a1 a2 a3=>?_⟩
 simp_all only [zay,zax,zaw,zau,zaA,zaC,zaz,zav,zaB,zac]
 refine ⟨_,SqT.of a1,_,rfl,_,SqL.of (s3 _ _ B2.hl),_,ea,?_⟩
 refine ⟨t,b,n,bud,rfl,s3 _ _ hb2,gb,n1,n6,d0,d1,fun r2 z H4 s4 h4 e1 gz hc=>?_⟩
 have L4:=((L.same s1).same s2).same (s3.trans s4)
 refine ⟨w,rfl,r2,rfl,[W'.num,(W'.den:Int)],SqT.of (s4 _ _ a2),[(Fv z).num,((Fv z).den:Int)],SqT.of h4,?_⟩
 rw [a3.alike gb (by omega) e1 gz hc]
 exact zeH (fun z=>absurd rfl z) (fun _=>q H4 L4)
def sbs (ns:List Int):List Box:=ns.zipIdx.map fun x=>(x.1,(x.2:Int)+1,(x.2:Int)+1)
theorem zmx {ns:List Int} {i:Nat} {x:Int} (h:ns[i]?=some x):(sbs ns)[i]?=some (x,(i:Int)+1,(i:Int)+1):=by
 rw [sbs,List.getElem?_map,List.getElem?_zipIdx,h]
 simp
theorem zlU (ns:List Int):(sbs ns).map (fun b=>b.1)=ns:=by
 rw [sbs,List.map_map]
 show ns.zipIdx.map Prod.fst=ns
 exact List.zipIdx_map_fst ..
theorem zee (ns:List Int):(sbs ns).length=ns.length:=by rw [sbs,List.length_map,List.length_zipIdx]
theorem zm6 {ns:List Int} {b:Box} (h:b∈sbs ns):∃ (i:Nat) (x:Int),ns[i]?=some x∧b=(x,(i:Int)+1,(i:Int)+1):=by
 obtain ⟨i,ei⟩:=List.getElem?_of_mem h
 have li:=(List.getElem?_eq_some_iff.mp ei).1
 rw [zee] at li
 have e:ns[i]?=some ns[i]:=List.getElem?_eq_getElem li
 rw [zmx e] at ei
 exact ⟨i,_,e,(Option.some.inj ei).symm⟩
theorem ziX:∀ ns:List Int,(∀ n∈ns,1≤n∧n≤9)→(ns.length:Int)≤ns.sum∧ns.sum≤9*(ns.length:Int)
 | [],_=>by simp
 | n::ns,h=>by
  have ih:=ziX ns fun x hx=>h x (List.mem_cons_of_mem _ hx)
  have:=h n List.mem_cons_self
  rw [List.sum_cons,List.length_cons]
  omega
theorem law_0 {Hb:Hp} {p0 p l wr:Addr} {cell bud c m:Int} {n:Nat} {ts:List Addr} {bs:List Box} {W:Rat} {D:zbU} {x8 x9:Option V} (L:Lw Hb H p l wr ts bs bud W c) (c1:c<900) (n1:1≤n) (n6:n≤6) (d0:0≤bud) (d1:bud≤30)
  (q:∀ (y8 y9:Option V) (H':Hp),zaR (Off p p Hb) (Off p p H')→D.nx (s25 p0 p l wr cell bud (some (.int m)) (some (.int n)) y8 y9) H'):zfi K D (s25 p0 p l wr cell bud (some (.int m)) (some (.int n)) x8 x9) H:=by
 obtain ⟨c',P,hc⟩:=L.P
 have c0:=P.c0
 have en:(n:Int).toNat=n:=Int.toNat_natCast n
 simp_all only [zay,zax,zaw,zau,zaA,zaC,zaz,zav,zaB,zac]
 refine ⟨by omega,by omega,fun D1 hD1=>?_⟩
 have nD:=P.new hD1
 have fD:Off p p H D1=none:=zf1 hD1
 refine zfh (fun i ys σ H'=>∃ (ns:List Int) (v:Int),ys=ns.map V.int∧ns.length=i∧(∀ n∈ns,1≤n∧n≤9)∧zaR (Off p p H) (Off p p H')∧Drw H' p v∧v≤c'+i∧∃ k,σ=[k,some (.ref p)]) ?_ ?_ ?_
 ·refine ⟨[],c',rfl,rfl,by simp,?_,P.upd nD,by omega,_,rfl⟩
  rw [zer nD nD]
  exact zal fD _
 ·rintro i ys σ H1 hi hD ⟨ns,v,rfl,ln,gn,s1,P1,hv,k,rfl⟩
  have v0:=P1.c0
  simp_all only [zay,zax,zaw,zau,zaA,zaC,zaz,zav,zaB,zac]
  refine ⟨p,v,9,rfl,P1,by omega,by decide,by decide,fun r H2 r0 r1 o2 P2=>?_⟩
  rw [← o2] at s1
  have hD2:Off p p H2 D1=some (.lst (ns.map V.int)):=by rw [o2,zgU nD nD];exact hD
  simp_all only [zay,zax,zaw,zau,zaA,zaC,zaz,zav,zaB,zac]
  refine ⟨_,za0 _ _ _ _ _ hD2,zbd (by rw [List.length_map];omega),?_⟩
  obtain ⟨H3,e3,P3,s3,h3,_⟩:=P2.put nD s1 fD (.lst (ns.map V.int++[V.int (1+r)]))
  rw [← e3]
  refine ⟨_,za0 _ _ _ _ _ h3,ns++[1+r],by rw [List.map_append];rfl,by rw [List.length_append,ln];rfl,fun y hy=>?_,s3,v+1,P3,by omega⟩
  rcases List.mem_append.mp hy with z | z
  ·exact gn y z
  ·rw [List.mem_singleton.mp z]
   omega
 ·rintro ys σ H1 hD ⟨ns,v,rfl,ln,gn,s1,P1,hv,k,rfl⟩
  rw [en] at ln
  have L1:=L.off s1 P1
  simp_all only [zay,zax,zaw,zau,zaA,zaC,zaz,zav,zaB,zac]
  refine ⟨_,SqL.of hD,_,SqL.of hD,?_⟩
  obtain ⟨z1,z2⟩:=ziX ns gn
  refine ⟨_,_,rfl,by omega,(show Bd 10 ns.sum by show ns.sum.natAbs<2 ^ 10;omega).mono (by decide),fun dr H2 s2 h2=>?_⟩
  have hD2:=s2 _ _ hD
  refine ⟨by omega,by omega,fun D2 fD2=>?_⟩
  refine zfh (fun i ys σ H'=>zaR H2 H'∧(∃ us:List Addr,ys=us.map V.ref∧Tps bx H' us ((sbs ns).take i))∧∃ z,σ=[z,some (.ref D1)]) ⟨zal fD2 _,⟨[],rfl,Tps.nil⟩,_,rfl⟩ ?_ ?_
  ·rintro i ys σ H3 hi h3 ⟨s3,⟨us,rfl,T3⟩,z,rfl⟩
   have li:i<ns.length:=by omega
   have ei:ns[i]?=some (ns[i]'li):=List.getElem?_eq_getElem li
   simp_all only [zay,zax,zaw,zau,zaA,zaC,zaz,zav,zaB,zac]
   rw [Int.zero_add]
   refine ⟨_,SqL.of (s3 _ _ hD2),_,zgs (by rw [List.getElem?_map,ei];rfl),by decide,fun b fb=>?_⟩
   have s4:=zal fb (.tup [V.int (ns[i]'li),V.int ((i:Int)+1),V.int ((i:Int)+1)])
   have h4:(L2.upd H3 b (.tup [V.int (ns[i]'li),V.int ((i:Int)+1),V.int ((i:Int)+1)])) b=some (.tup [V.int (ns[i]'li),V.int ((i:Int)+1),V.int ((i:Int)+1)]):=zah
   generalize L2.upd H3 b (.tup [V.int (ns[i]'li),V.int ((i:Int)+1),V.int ((i:Int)+1)])=H4 at s4 h4 ⊢
   have h34:=s4 _ _ h3
   have bD:b≠D2:=fun e=>by
    subst e
    rw [h4] at h34
    cases h34
   have lu:us.length≤1000:=by
    have e:=T3.1
    rw [List.length_take,zee] at e
    omega
   refine ⟨_,h34,zbd (by rw [List.length_map];exact lu),_,zah,(s3.trans s4).put fD2,us++[b],by rw [List.map_append];rfl,?_⟩
   rw [List.take_add_one,zmx ei]
   refine T3.put (fun y w e=>?_) (by rw [zaY bD];exact h4)
   have nx:y≠D2:=fun z=>by
    subst z
    rw [e] at h3
    cases h3
   rw [zaY nx]
   exact s4 _ _ e
  ·rintro ys σ H3 h3 ⟨s3,⟨us,rfl,T3⟩,z,rfl⟩
   rw [en,List.take_of_length_le (by rw [zee];omega)] at T3
   have gs:∀ b∈sbs ns,GB b∧b.2.1=b.2.2:=fun b hb=>by
    obtain ⟨i,x,ei,rfl⟩:=zm6 hb
    have li:=(List.getElem?_eq_some_iff.mp ei).1
    have gx:=gn x (zar ei)
    exact ⟨⟨gx.1,by show x≤60;omega,by show 1≤(i:Int)+1;omega,Int.le_refl _,by show (i:Int)+1≤50;omega⟩,rfl⟩
   simp_all only [zay,zax,zaw,zau,zaA,zaC,zaz,zav,zaB,zac]
   refine ⟨D2,us,sbs ns,bud,rfl,h3,T3,fun b hb=>(gs b hb).1,by rw [zee];omega,by rw [zee];omega,d0,by omega,fun r w mm pp W' H4 s4 a1 a2 a3=>?_⟩
   have eW:=a3.sures (fun b hb=>(gs b hb).1) (fun z=>by have:=zee ns;rw [z] at this;simp at this;omega) (fun b hb=>(gs b hb).2) d0
   rw [zlU] at eW
   simp_all only [zay,zax,zaw,zau,zaA,zaC,zaz,zav,zaB,zac]
   refine ⟨_,SqT.of a1,_,rfl,w,rfl,[W'.num,(W'.den:Int)],SqT.of a2,[(Rat.divInt (if ns.sum<bud then ns.sum else bud) ns.sum).num,((Rat.divInt (if ns.sum<bud then ns.sum else bud) ns.sum).den:Int)],SqT.of (xs:=[V.int (Rat.divInt (if ns.sum<bud then ns.sum else bud) ns.sum).num,V.int ((Rat.divInt (if ns.sum<bud then ns.sum else bud) ns.sum).den:Int)]) (s4 _ _ (s3 _ _ h2)),?_⟩
   rw [eW]
   refine zeH (fun z=>absurd rfl z) (fun _=>?_)
   exact q _ _ H4 (L1.s.trans (zeK p p (s2.trans (s3.trans s4))))
open HT in
theorem zpJ (ns:List Int):zed (ns.map V.int) none (some 40)=(ns.take 40).map V.int:=by
 unfold zed
 rw [zeO,Nat.sub_zero,List.drop_zero]
 have e:sIx (ns.map V.int).length (ns.map V.int).length (some 40)=min 40 (ns.map V.int).length:=zgu _ _ 40
 rw [e,List.map_take]
 by_cases c:40≤(ns.map V.int).length
 ·rw [Nat.min_eq_left c]
 ·have c':(ns.map V.int).length≤40:=by omega
  rw [Nat.min_eq_right c',List.take_of_length_le (Nat.le_refl _),List.take_of_length_le c']
theorem law_6 {Hb:Hp} {p0 p l wr:Addr} {cell bud c:Int} {ts:List Addr} {bs:List Box} {W:Rat} {D:zbU} {x6 x7 x8 x9:Option V} (L:Lw Hb H p l wr ts bs bud W c) (c1:c<800) (d0:0≤bud) (d1:bud≤30) (A:Wth bs bud W)
  (q:∀ (y6 y7 y8 y9:Option V) (H':Hp),zaR (Off p p Hb) (Off p p H')→D.nx (s25 p0 p l wr cell bud y6 y7 y8 y9) H'):zfn K D (s25 p0 p l wr cell bud x6 x7 x8 x9) H:=by
 obtain ⟨c',P,hc⟩:=L.P
 have c0:=P.c0
 simp_all only [zay,zax,zaw,zau,zaA,zaC,zaz,zav,zaB,zac]
 refine ⟨p,c',2,rfl,P,by omega,by decide,by decide,fun r H1 r0 r1 o1 P1=>?_⟩
 simp_all only [zay,zax,zaw,zau,zaA,zaC,zaz,zav,zaB,zac]
 have L1:=L.off (by rw [o1];exact .refl _) P1
 show (zaV (zeG (zfk K)) (zaV (zeG (ze3 K)) (zfp K))) D (s25 p0 p l wr cell bud (some (.int (2+r))) x7 x8 x9) H1
 refine ⟨fun σ H'=>σ=s25 p0 p l wr cell bud (some (.int (2+r))) x7 x8 x9∧Lw Hb H' p l wr ts bs bud W (c'+1),law_5 L1 (by omega) (by omega) d0 d1 A fun H' L'=>⟨rfl,L'⟩,?_⟩
 rintro σ H2 ⟨rfl,La⟩
 refine ⟨fun σ H'=>σ=s25 p0 p l wr cell bud (some (.int (2+r))) x7 x8 x9∧Lw Hb H' p l wr ts bs bud W (c'+1),law_4 La (by omega) (by omega) d0 d1 A fun H' L'=>⟨rfl,L'⟩,?_⟩
 rintro σ H3 ⟨rfl,L3⟩
 show zfp K D (s25 p0 p l wr cell bud (some (.int (2+r))) x7 x8 x9) H3
 obtain ⟨c3,P3,hc3⟩:=L3.P
 have c30:=P3.c0
 rw [zau]
 refine ⟨fun σ H'=>σ=s25 p0 p l wr cell bud (some (.int (2+r))) x7 x8 x9∧∃ c4,Lw Hb H' p l wr ts bs bud W c4∧c4≤c'+4,?_,?_⟩
 ·simp_all only [zay,zax,zaw,zau,zaA,zaC,zaz,zav,zaB,zac]
  refine ⟨p,l,wr,c3,bud,ts,bs,W,rfl,P3,by omega,L3.B,d0,d1,L3.hw,A,fun c4 H4 s4 P4 hc4=>⟨true,rfl,?_⟩⟩
  exact zeH (fun z=>absurd z (by decide)) (fun _=>⟨c4,L3.off s4 P4,by omega⟩)
 rintro σ H4 ⟨rfl,c4,L4,hc4⟩
 show zgf K D (s25 p0 p l wr cell bud (some (.int (2+r))) x7 x8 x9) H4
 obtain ⟨c5,P5,hc5⟩:=L4.P
 have c50:=P5.c0
 simp_all only [zay,zax,zaw,zau,zaA,zaC,zaz,zav,zaB,zac]
 refine ⟨p,c5,6,rfl,P5,by omega,by decide,by decide,fun m H5 m0 m1 o5 P6=>?_⟩
 simp_all only [zay,zax,zaw,zau,zaA,zaC,zaz,zav,zaB,zac]
 have L5:=L4.off (by rw [o5];exact .refl _) P6
 obtain ⟨n,en⟩:=Int.eq_ofNat_of_zero_le (show 0≤1+m by omega)
 show (zaV (zeG (zeX K)) (zfi K)) D (s25 p0 p l wr cell bud (some (.int (2+r))) (some (.int (1+m))) x8 x9) H5
 rw [en]
 refine ⟨fun σ H'=>σ=s25 p0 p l wr cell bud (some (.int (2+r))) (some (.int n)) x8 x9∧Lw Hb H' p l wr ts bs bud W (c5+1),law_1 L5 (by omega) (by omega) d0 d1 fun H' L'=>⟨rfl,L'⟩,?_⟩
 rintro σ H6 ⟨rfl,L6⟩
 exact law_0 L6 (by omega) (by omega) (by omega) d0 d1 fun y8 y9 H' s=>q _ _ y8 y9 H' s
theorem zp8 {p0:Addr} {ns:List Int} (hS:SqL K H p0 (ns.map V.int)) (hl:ns.length≤63) (hb:∀ x∈ns,x.natAbs<2 ^ 2 ^ 20) (q:∀ H',Q (.bl true) H') :
  zn0 K { nx:=fun _ H'=>Q .non H',rt:=Q } (L2.start ["_law_script","_law_cell","_law_left_here","_law_boxes_here","_law_budget","_law_worth","_law_many","_law_count","_law_costs","_law_due"] [.ref p0]) H:=by
 unfold zn0
 simp_all only [zay,zax,zaw,zau,zaA,zaC,zaz,zav,zaB,zac]
 refine ⟨by decide,fun e1 g1=>⟨_,(zal g1 _).seq hS,fun e2 g2=>⟨_,zal g2 _ _ _ zah,_,zah,?_,fun e3 g3=>?_⟩⟩⟩
 ·rw [zpJ,List.length_map,List.length_take,List.length_singleton]
  simp only [sizeLine]
  omega
 rw [zpJ] at g3 ⊢
 have e:[V.int 0]++(ns.take 40).map V.int=(0::ns.take 40).map V.int:=rfl
 rw [e]
 have hc:∀ x∈0::ns.take 40,x.natAbs<2 ^ 2 ^ 20:=fun x hx=>by
  rcases List.mem_cons.mp hx with rfl | hx
  ·exact Nat.two_pow_pos _
  ·exact hb x (List.mem_of_mem_take hx)
 generalize (0::ns.take 40)=cs at hc ⊢
 have h3:(L2.upd (L2.upd (L2.upd H e1 (.lst [V.int 0])) e2 (.lst ((ns.take 40).map V.int))) e3 (.lst (cs.map V.int))) e3=some (.lst (cs.map V.int)):=zah
 generalize L2.upd (L2.upd (L2.upd H e1 (.lst [V.int 0])) e2 (.lst ((ns.take 40).map V.int))) e3 (.lst (cs.map V.int))=H3 at h3 ⊢
 refine ⟨⟨_,SqL.of h3⟩,?_⟩
 refine zcf (K:=K) (xs:=cs.map V.int) (fun i σ H'=>zaR H3 H'∧∃ u1 u2 u3 u4 u5 u6 u7 u8 u9,σ=[some (.ref p0),u1,u2,u3,u4,u5,u6,u7,u8,u9]) ⟨.refl _,_,_,_,_,_,_,_,_,_,rfl⟩ ?_ ?_ ?_
 ·rintro i σ H' _ ⟨s,_⟩
  exact SqL.of (s _ _ h3)
 ·rintro i x σ H4 hi ⟨s4,u1,u2,u3,u4,u5,u6,u7,u8,u9,rfl⟩
  obtain ⟨cell,ec,rfl⟩:=zaE hi
  show zhW K _ [some (.ref p0),some (.int cell),u2,u3,u4,u5,u6,u7,u8,u9] H4
  simp_all only [zay,zax,zaw,zau,zaA,zaC,zaz,zav,zaB,zac]
  refine ⟨by decide,fun d gd=>?_⟩
  refine ⟨d,cell,rfl,zah,hc cell (zar ec),fun p H5 s5 fp P5=>?_⟩
  have s45:=(s4.add gd).trans s5
  have fp3:H3 p=none:=(s4.add gd).free fp
  refine ⟨p,0,rfl,P5,by decide,fun l ts bs c H6 s6 P6 hc6 hl6 T6 gb l1 l3=>?_⟩
  simp_all only [zay,zax,zaw,zau,zaA,zaC,zaz,zav,zaB,zac]
  refine ⟨by decide,fun d2 gd2=>?_⟩
  obtain ⟨H7,e7,P7,s7,h7,_⟩:=P6.mk2 gd2 (.lst [.int 6,.int 31])
  rw [← e7]
  have c0:=P6.c0
  refine ⟨p,c,2,rfl,P7,by omega,by decide,by decide,fun r H8 r0 r1 o8 P8=>?_⟩
  obtain ⟨m,em,hm⟩:=at2 (x:=6) (y:=31) r0 r1
  rw [← o8] at h7 s7
  simp_all only [zay,zax,zaw,zau,zaA,zaC,zaz,zav,zaB,zac]
  refine ⟨_,SqL.of (za0 _ _ _ _ _ h7),_,em,?_⟩
  refine ⟨p,c+1,m,rfl,P8,by omega,by omega,by omega,fun bud H9 b0 b1 o9 P9=>?_⟩
  rw [← o9] at s7
  have B9:Bxs (Off p p H9) l ts bs:=⟨s7 _ _ hl6,T6.same s7,gb,l1,l3⟩
  have Bh:=B9.same (za0 p p H9)
  refine ⟨_,.inl (SqL.of Bh.hl),fun l2 f2=>?_⟩
  obtain ⟨Ha,ea,Pa,sa,ha,Sa⟩:=P9.mk2 f2 (.lst (ts.map V.ref))
  rw [← ea]
  have Ba:=Bh.same Sa
  refine ⟨l2,ts,bs,bud,rfl,za0 _ _ _ _ _ ha,Ba.hb,gb,l1,by omega,b0,by omega,fun rr wr mr pr W Hb sb a1 a2 A=>?_⟩
  simp_all only [zay,zax,zaw,zau,zaA,zaC,zaz,zav,zaB,zac]
  refine ⟨_,SqT.of a1,_,rfl,?_⟩
  have Pb:=Pa.same sb
  have nw:wr≠p:=fun z=>by
   subst z
   obtain ⟨n0,f0,hpb,_⟩:=Pb.hp
   rw [a2] at hpb
   cases hpb
  have Sb:zaR (Off p p H6) (Off p p Hb):=s7.trans (sa.trans (zeK p p sb))
  have B6:Bxs (Off p p H6) l ts bs:=⟨hl6,T6,gb,l1,l3⟩
  have L0:Lw H6 Hb p l wr ts bs bud W (c+1+1):=⟨Sb,⟨_,Pb,Int.le_refl _⟩,B6.same Sb,by rw [zgU nw nw];exact a2⟩
  show (zaV (zeG (zfa K)) (zfn K)) _ (s25 p0 p l wr cell bud u6 u7 u8 u9) Hb
  refine ⟨fun σ H'=>σ=s25 p0 p l wr cell bud u6 u7 u8 u9∧Lw H6 H' p l wr ts bs bud W (c+1+1+6),law_7 L0 (by omega) b0 (by omega) A fun H' L'=>⟨rfl,L'⟩,?_⟩
  rintro σ Hc ⟨rfl,Lc⟩
  exact law_6 Lc (by omega) b0 (by omega) A fun y6 y7 y8 y9 H' s=>⟨znu fp3 s45 (s6.trans s),_,_,_,_,_,_,_,_,_,rfl⟩
 ·rintro σ H4 ⟨s4,u1,u2,u3,u4,u5,u6,u7,u8,u9,rfl⟩
  simp_all only [zay,zax,zaw,zau,zaA,zaC,zaz,zav,zaB,zac]
  exact q H4
theorem zdv:zaF ["_law_script","_law_cell","_law_left_here","_law_boxes_here","_law_budget","_law_worth","_law_many","_law_count","_law_costs","_law_due"] ["_law_script"] (zaj zfI):=⟨rfl,rfl,rfl,by decide +kernel,rfl,by decide +kernel,by decide +kernel⟩
theorem zo2 (T:Txt K mg a):zbT P w K mg base CX0 9 a.f_law a.d_law ["_law_script"] (zlQ K):=by
 have G__law_alike:=zgw (P:=P) (w:=w) (base:=base) T
 have G__law_better:=zfv (P:=P) (w:=w) (base:=base) T
 have G__law_boxes:=zgz (P:=P) (w:=w) (base:=base) T
 have G__law_draw:=zcm (P:=P) (w:=w) (base:=base) T
 have G__law_left:=zhf (P:=P) (w:=w) (base:=base) T
 have G__law_lowest:=zdA (P:=P) (w:=w) (base:=base) T
 have G__law_turn:=zhb (P:=P) (w:=w) (base:=base) T
 have G_budget_worth:=zc5 (P:=P) (w:=w) (base:=base) T
 refine T.F_law.ok zdv (fun vs H Q E h=>?_) (fun cdv A outer s H vs Q E hr h=>?_)
 ·obtain ⟨p,ns,rfl,hS,hl,hb,q⟩:=h
  rfl
 obtain ⟨p,ns,rfl,hS,hl,hb,q⟩:=h
 exact ⟨zn0 K,(zae (zcT PassesOwn.never rfl (zbj (zat zeD (zbN (zaa zag zad)) (zco zdc (pv 0) zdh (zc3 zag)))) (zam (i:=1) zdv.nd rfl (Or.inl rfl))
 (zae (zaK (i:=2) zdv.nd rfl (Or.inr rfl) (zak G__law_left (hr.mono (by decide)) rfl T.m__law_left T.F__law_left.kp T.b__law_left .nil zaI (zaa (zbN (zaa (pv 1) zad)) (zaa zag zad))))
 (zae (zaK (i:=3) zdv.nd rfl (Or.inr rfl) (zak G__law_boxes (hr.mono (by decide)) rfl T.m__law_boxes T.F__law_boxes.kp T.b__law_boxes .nil zaI (zaa (pv 2) (zaa zag zad))))
 (zae (zaK (i:=4) zdv.nd rfl (Or.inl rfl) (zak G__law_draw (hr.mono (by decide)) rfl T.m__law_draw T.F__law_draw.kp T.b__law_draw .nil zaI (zaa (pv 2) (zaa (zaN zbw (zbN (zaa zag (zaa zag zad))) (zak G__law_draw (hr.mono (by decide)) rfl T.m__law_draw T.F__law_draw.kp T.b__law_draw .nil zaI (zaa (pv 2) (zaa zag zad))) (fun _ _=>rfl)) zad))))
 (zae (zaK (i:=5) zdv.nd rfl (Or.inl rfl) (zaN zaG (zak G_budget_worth (hr.mono (by decide)) rfl T.m_budget_worth T.F_budget_worth.kp T.b_budget_worth .nil zaI (zaa (zcA zbF rfl T.z_list zcg (zaa (pv 3) zad)) (zaa (pv 4) zad))) zag (fun _ _=>rfl)))
 (zae (zcC (zcB (zbz (zhy hr.units0) (zaN zaG (zak G_budget_worth (hr.mono (by decide)) rfl T.m_budget_worth T.F_budget_worth.kp T.b_budget_worth .nil zaI (zaa (zbu (sc:=zaj zfI) (N:=["_law_script","_law_cell","_law_left_here","_law_boxes_here","_law_budget","_law_worth","_law_many","_law_count","_law_costs","_law_due"]) (Nc:=["_law_k","_law_boxes_here"]) (cap:=[none,some 3]) rfl rfl rfl (.of (by decide +kernel)) (zbj (zak G__law_turn (hr.mono (by decide)) rfl T.m__law_turn T.F__law_turn.kp T.b__law_turn .nil zaI (zaa (pv 2) (zaa (za6 zbH rfl T.z_len PySem.boot_len (zaa (pv 3) zad)) zad)))) (fun _ _ _ _=>(zam (i:=0) (show List.Nodup (["_law_k","_law_boxes_here"]:List Str) from by decide) rfl (Or.inl rfl))) (fun _ _ _ _=>zbb) (fun _ _ _ _=>(zaN zbw (pv 1) (pv 0) (fun _ _=>rfl)))) (zaa (pv 4) zad))) zag (fun _ _=>rfl)) (pv 5) (zbB _)) (zan (zaL zfu)) zbi))
 (zae (zaK (i:=6) zdv.nd rfl (Or.inr rfl) (zat zbg zag (zak G__law_draw (hr.mono (by decide)) rfl T.m__law_draw T.F__law_draw.kp T.b__law_draw .nil zaI (zaa (pv 2) (zaa zag zad)))))
 (zae (zcC (zcB (zbz zix (zat zaJ (za6 (zhs rfl) rfl T.z_max PyProof.Rows.boot_max (zaa (zbu (sc:=zaj zfI) (N:=["_law_script","_law_cell","_law_left_here","_law_boxes_here","_law_budget","_law_worth","_law_many","_law_count","_law_costs","_law_due"]) (Nc:=["_law_cost","_law_hits","_law_of"]) (cap:=[none,none,none]) rfl rfl rfl (.of (by decide +kernel)) (zbj (pv 3)) (fun _ _ _ _=>(zbk rfl (zao (zam (i:=0) (show List.Nodup (["_law_cost","_law_hits","_law_of"]:List Str) from by decide) rfl (Or.inl rfl)) (zao (zam (i:=1) (show List.Nodup (["_law_cost","_law_hits","_law_of"]:List Str) from by decide) rfl (Or.inl rfl)) (zao (zam (i:=2) (show List.Nodup (["_law_cost","_law_hits","_law_of"]:List Str) from by decide) rfl (Or.inl rfl)) za9))))) (fun _ _ _ _=>zbb) (fun _ _ _ _=>(pv 2))) zad)) (pv 6)) zag (zbB _)) (zan (zcB (zbz (zhy hr.units0) (zaN zaG (zak G_budget_worth (hr.mono (by decide)) rfl T.m_budget_worth T.F_budget_worth.kp T.b_budget_worth .nil zaI (zaa (zbu (sc:=zaj zfI) (N:=["_law_script","_law_cell","_law_left_here","_law_boxes_here","_law_budget","_law_worth","_law_many","_law_count","_law_costs","_law_due"]) (Nc:=["_law_cost","_law_hits","_law_of","_law_many"]) (cap:=[none,none,none,some 6]) rfl rfl rfl (.of (by decide +kernel)) (zbj (pv 3)) (fun _ _ _ _=>(zbk rfl (zao (zam (i:=0) (show List.Nodup (["_law_cost","_law_hits","_law_of","_law_many"]:List Str) from by decide) rfl (Or.inl rfl)) (zao (zam (i:=1) (show List.Nodup (["_law_cost","_law_hits","_law_of","_law_many"]:List Str) from by decide) rfl (Or.inl rfl)) (zao (zam (i:=2) (show List.Nodup (["_law_cost","_law_hits","_law_of","_law_many"]:List Str) from by decide) rfl (Or.inl rfl)) za9))))) (fun _ _ _ _=>zbb) (fun _ _ _ _=>(zbe (zaa (pv 0) (zaa (zat zaJ (pv 1) (pv 3)) (zaa (zat zaJ (pv 2) (pv 3)) zad)))))) (zaa (pv 4) zad))) zag (fun _ _=>rfl)) (pv 5) (zbB _)) (zan (zaL zfu)) zbi)) zbi))
 (zae (zcC (zcB (zbz zix (zat zaJ (za6 (zhs rfl) rfl T.z_max PyProof.Rows.boot_max (zaa (zat zeD (zbu (sc:=zaj zfI) (N:=["_law_script","_law_cell","_law_left_here","_law_boxes_here","_law_budget","_law_worth","_law_many","_law_count","_law_costs","_law_due"]) (Nc:=["_law_cost","_law_hits","_law_of"]) (cap:=[none,none,none]) rfl rfl rfl (.of (by decide +kernel)) (zbj (pv 3)) (fun _ _ _ _=>(zbk rfl (zao (zam (i:=0) (show List.Nodup (["_law_cost","_law_hits","_law_of"]:List Str) from by decide) rfl (Or.inl rfl)) (zao (zam (i:=1) (show List.Nodup (["_law_cost","_law_hits","_law_of"]:List Str) from by decide) rfl (Or.inl rfl)) (zao (zam (i:=2) (show List.Nodup (["_law_cost","_law_hits","_law_of"]:List Str) from by decide) rfl (Or.inl rfl)) za9))))) (fun _ _ _ _=>zbb) (fun _ _ _ _=>(pv 0))) (zbN (zaa (pv 4) zad))) zad)) (pv 6)) zag (zbB _)) (zan (zcB (zbz (zhy hr.units0) (zaN zaG (zak G_budget_worth (hr.mono (by decide)) rfl T.m_budget_worth T.F_budget_worth.kp T.b_budget_worth .nil zaI (zaa (zbu (sc:=zaj zfI) (N:=["_law_script","_law_cell","_law_left_here","_law_boxes_here","_law_budget","_law_worth","_law_many","_law_count","_law_costs","_law_due"]) (Nc:=["_law_cost","_law_hits","_law_of","_law_many"]) (cap:=[none,none,none,some 6]) rfl rfl rfl (.of (by decide +kernel)) (zbj (pv 3)) (fun _ _ _ _=>(zbk rfl (zao (zam (i:=0) (show List.Nodup (["_law_cost","_law_hits","_law_of","_law_many"]:List Str) from by decide) rfl (Or.inl rfl)) (zao (zam (i:=1) (show List.Nodup (["_law_cost","_law_hits","_law_of","_law_many"]:List Str) from by decide) rfl (Or.inl rfl)) (zao (zam (i:=2) (show List.Nodup (["_law_cost","_law_hits","_law_of","_law_many"]:List Str) from by decide) rfl (Or.inl rfl)) za9))))) (fun _ _ _ _=>zbb) (fun _ _ _ _=>(zbe (zaa (zat zaJ (pv 0) (pv 3)) (zaa (pv 1) (zaa (pv 2) zad)))))) (zaa (zat zaJ (pv 4) (pv 6)) zad))) zag (fun _ _=>rfl)) (pv 5) (zbB _)) (zan (zaL zfu)) zbi)) zbi))
 (zae (zcC (zcB (zft (zdt (zak G__law_better (hr.mono (by decide)) rfl T.m__law_better T.F__law_better.kp T.b__law_better .nil zaI (zaa (pv 2) (zaa (pv 3) (zaa (pv 4) (zaa (pv 5) zad))))))) (zan (zaL zfu)) zbi))
 (zae (zaK (i:=7) zdv.nd rfl (Or.inl rfl) (zat zbg zag (zak G__law_draw (hr.mono (by decide)) rfl T.m__law_draw T.F__law_draw.kp T.b__law_draw .nil zaI (zaa (pv 2) (zaa zag zad)))))
 (zae (zcC (zcB (zbz (zhy hr.units0) (zaN zaG (zak G_budget_worth (hr.mono (by decide)) rfl T.m_budget_worth T.F_budget_worth.kp T.b_budget_worth .nil zaI (zaa (zat zqB (zbN (zaa (zaN zbw (pv 3) zag (fun _ _=>rfl)) zad)) (pv 7)) (zaa (pv 4) zad))) zag (fun _ _=>rfl)) (zak G__law_alike (hr.mono (by decide)) rfl T.m__law_alike T.F__law_alike.kp T.b__law_alike .nil zaI (zaa (zaN zbw (pv 3) zag (fun _ _=>rfl)) (zaa (pv 7) (zaa (pv 4) zad)))) (zbB _)) (zan (zaL zfu)) zbi))
 (zae (zaK (i:=8) zdv.nd rfl (Or.inr rfl) (zbu (sc:=zaj zfI) (N:=["_law_script","_law_cell","_law_left_here","_law_boxes_here","_law_budget","_law_worth","_law_many","_law_count","_law_costs","_law_due"]) (Nc:=["_law_k","_law_left_here"]) (cap:=[none,some 2]) rfl rfl rfl (.of (by decide +kernel)) (zcD rfl T.z_range (zaa (pv 7) zad)) (fun _ _ _ _=>(zam (i:=0) (show List.Nodup (["_law_k","_law_left_here"]:List Str) from by decide) rfl (Or.inl rfl))) (fun _ _ _ _=>zbb) (fun _ _ _ _=>(zat zbg zag (zak G__law_draw (hr.mono (by decide)) rfl T.m__law_draw T.F__law_draw.kp T.b__law_draw .nil zaI (zaa (pv 1) (zaa zag zad)))))))
 (zae (zaK (i:=9) zdv.nd rfl (Or.inl rfl) (zak G__law_lowest (hr.mono (by decide)) rfl T.m__law_lowest T.F__law_lowest.kp T.b__law_lowest .nil zaI (zaa (za6 (zj4 rfl) rfl T.z_min PyProof.Rows.boot_min (zaa (pv 4) (zaa (za6 (zeP rfl) rfl T.z_sum PyProof.Rows.boot_sum (zaa (pv 8) zad)) zad))) (zaa (za6 (zeP rfl) rfl T.z_sum PyProof.Rows.boot_sum (zaa (pv 8) zad)) zad))))
 (zan (zcB (zbz (zhy hr.units0) (zaN zaG (zak G_budget_worth (hr.mono (by decide)) rfl T.m_budget_worth T.F_budget_worth.kp T.b_budget_worth .nil zaI (zaa (zbu (sc:=zaj zfI) (N:=["_law_script","_law_cell","_law_left_here","_law_boxes_here","_law_budget","_law_worth","_law_many","_law_count","_law_costs","_law_due"]) (Nc:=["_law_k","_law_costs"]) (cap:=[none,some 8]) rfl rfl rfl (.of (by decide +kernel)) (zcD rfl T.z_range (zaa (pv 7) zad)) (fun _ _ _ _=>(zam (i:=0) (show List.Nodup (["_law_k","_law_costs"]:List Str) from by decide) rfl (Or.inl rfl))) (fun _ _ _ _=>zbb) (fun _ _ _ _=>(zbe (zaa (zaN zbw (pv 1) (pv 0) (fun _ _=>rfl)) (zaa (zat zbg (pv 0) zag) (zaa (zat zbg (pv 0) zag) zad)))))) (zaa (pv 4) zad))) zag (fun _ _=>rfl)) (pv 9) (zbB _)) (zan (zaL zfu)) zbi))))))))))))))))
 (zan (zaL zfu))),
  zp8 hS hl hb q⟩
end
theorem zlb {us:List Value} {n:Nat} (h:us.length=n+1):∃ a t,us=a::t∧t.length=n:=by
 cases us with
 | nil=>cases h
 | cons a t=>exact ⟨a,t,rfl,Nat.succ.inj h⟩
theorem zkN {us:List Value} (h:us.length=1):∃ a0,us=[a0]:=by
 obtain ⟨a0,u0,rfl,h0⟩:=zlb h
 cases List.eq_nil_of_length_eq_zero h0
 exact ⟨a0,rfl⟩
theorem zey {us:List Value} (h:us.length=2):∃ a0,∃ a1,us=[a0,a1]:=by
 obtain ⟨a0,u0,rfl,h0⟩:=zlb h
 obtain ⟨a1,u1,rfl,h1⟩:=zlb h0
 cases List.eq_nil_of_length_eq_zero h1
 exact ⟨a0,a1,rfl⟩
theorem zqi {us:List Value} (h:us.length=3):∃ a0,∃ a1,∃ a2,us=[a0,a1,a2]:=by
 obtain ⟨a0,u0,rfl,h0⟩:=zlb h
 obtain ⟨a1,u1,rfl,h1⟩:=zlb h0
 obtain ⟨a2,u2,rfl,h2⟩:=zlb h1
 cases List.eq_nil_of_length_eq_zero h2
 exact ⟨a0,a1,a2,rfl⟩
theorem lst4 {us:List Value} (h:us.length=4):∃ a0,∃ a1,∃ a2,∃ a3,us=[a0,a1,a2,a3]:=by
 obtain ⟨a0,u0,rfl,h0⟩:=zlb h
 obtain ⟨a1,u1,rfl,h1⟩:=zlb h0
 obtain ⟨a2,u2,rfl,h2⟩:=zlb h1
 obtain ⟨a3,u3,rfl,h3⟩:=zlb h2
 cases List.eq_nil_of_length_eq_zero h3
 exact ⟨a0,a1,a2,a3,rfl⟩
theorem zqx {K:PySem.W.Frag} {h:Heap} {mg:Str→Option Value} (X:K.In h) (G:h.Ns mainGlobals mg)
  {f0 f1 f2 f3 f4 f5 f6 f7 f8 f9 f10 f11 f12 f13 f14 f15 f16 f17 f18 f19 f20 f21 f22 f23 f24 f25 f26 f27 f28 f29 f30 f31 f32 f33 f34 f35 f36 f37 f38 f39 f40 f41 f42 f43:Addr} {d0 d1 d2 d3 d4 d5 d6 d7 d8 d9 d10 d11 d12 d13 d14 d15 d16 d17 d18 d19 d20 d21 d22 d23 d24 d25 d26 d27 d28 d29 d30 d31 d32 d33 d34 d35 d36 d37 d38 d39 d40 d41 d42 d43:FuncData}
  (F0:Fun K "divisor" "divisor" zeY f0 d0) (m0:mg "divisor"=some (.ref f0))
  (F1:Fun K "ratio" "ratio" ziu f1 d1) (m1:mg "ratio"=some (.ref f1))
  (F2:Fun K "plus" "plus" zjI f2 d2) (m2:mg "plus"=some (.ref f2))
  (F3:Fun K "minus" "minus" zib f3 d3) (m3:mg "minus"=some (.ref f3))
  (F4:Fun K "times" "times" zh3 f4 d4) (m4:mg "times"=some (.ref f4))
  (F5:Fun K "over" "over" zjW f5 d5) (m5:mg "over"=some (.ref f5))
  (F6:Fun K "below" "below" zhV f6 d6) (m6:mg "below"=some (.ref f6))
  (F7:Fun K "common" "common" zeU f7 d7) (m7:mg "common"=some (.ref f7))
  (F8:Fun K "shared_divisor" "shared_divisor" zb0 f8 d8) (m8:mg "shared_divisor"=some (.ref f8))
  (F9:Fun K "lowest" "lowest" zeR f9 d9) (m9:mg "lowest"=some (.ref f9))
  (F10:Fun K "is_whole" "is_whole" zez f10 d10) (m10:mg "is_whole"=some (.ref f10))
  (F11:Fun K "is_within" "is_within" zdE f11 d11) (m11:mg "is_within"=some (.ref f11))
  (F12:Fun K "is_box" "is_box" zf5 f12 d12) (m12:mg "is_box"=some (.ref f12))
  (F13:Fun K "look_boxes" "look_boxes" zcp f13 d13) (m13:mg "look_boxes"=some (.ref f13))
  (F14:Fun K "look_budget" "look_budget" zcO f14 d14) (m14:mg "look_budget"=some (.ref f14))
  (F15:Fun K "power" "power" ziw f15 d15) (m15:mg "power"=some (.ref f15))
  (F16:Fun K "missed" "missed" zgy f16 d16) (m16:mg "missed"=some (.ref f16))
  (F17:Fun K "chance" "chance" zgp f17 d17) (m17:mg "chance"=some (.ref f17))
  (F18:Fun K "gain" "gain" zkC f18 d18) (m18:mg "gain"=some (.ref f18))
  (F19:Fun K "cost_sum" "cost_sum" zdl f19 d19) (m19:mg "cost_sum"=some (.ref f19))
  (F20:Fun K "added" "added" zij f20 d20) (m20:mg "added"=some (.ref f20))
  (F21:Fun K "least_chance" "least_chance" zcv f21 d21) (m21:mg "least_chance"=some (.ref f21))
  (F22:Fun K "fair_weights" "fair_weights" zbO f22 d22) (m22:mg "fair_weights"=some (.ref f22))
  (F23:Fun K "chance_for" "chance_for" zbS f23 d23) (m23:mg "chance_for"=some (.ref f23))
  (F24:Fun K "counts_and_worth" "counts_and_worth" zba f24 d24) (m24:mg "counts_and_worth"=some (.ref f24))
  (F25:Fun K "look_shares" "look_shares" zb5 f25 d25) (m25:mg "look_shares"=some (.ref f25))
  (F26:Fun K "mix_of" "mix_of" zdq f26 d26) (m26:mg "mix_of"=some (.ref f26))
  (F27:Fun K "paper_of" "paper_of" zdp f27 d27) (m27:mg "paper_of"=some (.ref f27))
  (F28:Fun K "sure_answer" "sure_answer" zb4 f28 d28) (m28:mg "sure_answer"=some (.ref f28))
  (F29:Fun K "is_sure" "is_sure" zc7 f29 d29) (m29:mg "is_sure"=some (.ref f29))
  (F30:Fun K "budget_worth" "budget_worth" zcy f30 d30) (m30:mg "budget_worth"=some (.ref f30))
  (F31:Fun K "_law_mix" "_law_mix" zeo f31 d31) (m31:mg "_law_mix"=some (.ref f31))
  (F32:Fun K "_law_cell_at" "_law_cell_at" zcq f32 d32) (m32:mg "_law_cell_at"=some (.ref f32))
  (F33:Fun K "_law_left" "_law_left" zdD f33 d33) (m33:mg "_law_left"=some (.ref f33))
  (F34:Fun K "_law_draw" "_law_draw" zdM f34 d34) (m34:mg "_law_draw"=some (.ref f34))
  (F35:Fun K "_law_boxes" "_law_boxes" zc6 f35 d35) (m35:mg "_law_boxes"=some (.ref f35))
  (F36:Fun K "_law_lowest" "_law_lowest" zcF f36 d36) (m36:mg "_law_lowest"=some (.ref f36))
  (F37:Fun K "_law_miss" "_law_miss" zdR f37 d37) (m37:mg "_law_miss"=some (.ref f37))
  (F38:Fun K "_law_plus" "_law_plus" zdG f38 d38) (m38:mg "_law_plus"=some (.ref f38))
  (F39:Fun K "_law_less" "_law_less" zdK f39 d39) (m39:mg "_law_less"=some (.ref f39))
  (F40:Fun K "_law_turn" "_law_turn" zdF f40 d40) (m40:mg "_law_turn"=some (.ref f40))
  (F41:Fun K "_law_better" "_law_better" zcJ f41 d41) (m41:mg "_law_better"=some (.ref f41))
  (F42:Fun K "_law_alike" "_law_alike" zdb f42 d42) (m42:mg "_law_alike"=some (.ref f42))
  (F43:Fun K "law" "law" zfI f43 d43) (m43:mg "law"=some (.ref f43))
  (z_set:mg "set"=none)
  (z_isinstance:mg "isinstance"=none)
  (z_range:mg "range"=none)
  (z_all:mg "all"=none)
  (z_sorted:mg "sorted"=none)
  (z_abs:mg "abs"=none)
  (z_sum:mg "sum"=none)
  (z_len:mg "len"=none)
  (z_list:mg "list"=none)
  (z_zip:mg "zip"=none)
  (z_int:mg "int"=none)
  (z_bool:mg "bool"=none)
  (z_tuple:mg "tuple"=none)
  (z_max:mg "max"=none)
  (z_min:mg "min"=none)
  {c_NoNumber c_NoBoxes c_NoBudget:Addr}
  (ac_NoNumber:mg "NoNumber"=some (.ref c_NoNumber))
  (ac_NoBoxes:mg "NoBoxes"=some (.ref c_NoBoxes))
  (ac_NoBudget:mg "NoBudget"=some (.ref c_NoBudget))
  {k_MOST_BOXES:Tok} (ak_MOST_BOXES:mg "MOST_BOXES"=some (.int 6 k_MOST_BOXES))
  {k_MOST_COST:Tok} (ak_MOST_COST:mg "MOST_COST"=some (.int 60 k_MOST_COST))
  {k_MOST_OF:Tok} (ak_MOST_OF:mg "MOST_OF"=some (.int 50 k_MOST_OF))
  {k_MOST_BUDGET:Tok} (ak_MOST_BUDGET:mg "MOST_BUDGET"=some (.int 60 k_MOST_BUDGET))
  (xc_NoNumber:PySem.W.excIn K c_NoNumber zjn "ValueError.__new__"=true)
  (xc_NoBoxes:PySem.W.excIn K c_NoBoxes zjn "ValueError.__new__"=true)
  (xc_NoBudget:PySem.W.excIn K c_NoBudget zjn "ValueError.__new__"=true)
  : Txt K mg ⟨f0,d0,f1,d1,f2,d2,f3,d3,f4,d4,f5,d5,f6,d6,f7,d7,f8,d8,f9,d9,f10,d10,f11,d11,f12,d12,f13,d13,f14,d14,f15,d15,f16,d16,f17,d17,f18,d18,f19,d19,f20,d20,f21,d21,f22,d22,f23,d23,f24,d24,f25,d25,f26,d26,f27,d27,f28,d28,f29,d29,f30,d30,f31,d31,f32,d32,f33,d33,f34,d34,f35,d35,f36,d36,f37,d37,f38,d38,f39,d39,f40,d40,f41,d41,f42,d42,f43,d43,c_NoNumber,c_NoBoxes,c_NoBudget,k_MOST_BOXES,k_MOST_COST,k_MOST_OF,k_MOST_BUDGET⟩:=by
 exact ⟨F0,F0.binds fun _ _ _ _ _ _ us hl=>by obtain ⟨_,_,rfl⟩:=zey hl;rfl,m0,F1,F1.binds fun _ _ _ _ _ _ us hl=>by obtain ⟨_,_,rfl⟩:=zey hl;rfl,m1,F2,F2.binds fun _ _ _ _ _ _ us hl=>by obtain ⟨_,_,rfl⟩:=zey hl;rfl,m2,F3,F3.binds fun _ _ _ _ _ _ us hl=>by obtain ⟨_,_,rfl⟩:=zey hl;rfl,m3,F4,F4.binds fun _ _ _ _ _ _ us hl=>by obtain ⟨_,_,rfl⟩:=zey hl;rfl,m4,F5,F5.binds fun _ _ _ _ _ _ us hl=>by obtain ⟨_,_,rfl⟩:=zey hl;rfl,m5,F6,F6.binds fun _ _ _ _ _ _ us hl=>by obtain ⟨_,_,rfl⟩:=zey hl;rfl,m6,F7,F7.binds fun _ _ _ _ _ _ us hl=>by obtain ⟨_,rfl⟩:=zkN hl;rfl,m7,F8,F8.binds fun _ _ _ _ _ _ us hl=>by obtain ⟨_,rfl⟩:=zkN hl;rfl,m8,F9,F9.binds fun _ _ _ _ _ _ us hl=>by obtain ⟨_,rfl⟩:=zkN hl;rfl,m9,F10,F10.binds fun _ _ _ _ _ _ us hl=>by obtain ⟨_,rfl⟩:=zkN hl;rfl,m10,F11,F11.binds fun _ _ _ _ _ _ us hl=>by obtain ⟨_,_,_,rfl⟩:=zqi hl;rfl,m11,F12,F12.binds fun _ _ _ _ _ _ us hl=>by obtain ⟨_,rfl⟩:=zkN hl;rfl,m12,F13,F13.binds fun _ _ _ _ _ _ us hl=>by obtain ⟨_,rfl⟩:=zkN hl;rfl,m13,F14,F14.binds fun _ _ _ _ _ _ us hl=>by obtain ⟨_,rfl⟩:=zkN hl;rfl,m14,F15,F15.binds fun _ _ _ _ _ _ us hl=>by obtain ⟨_,_,rfl⟩:=zey hl;rfl,m15,F16,F16.binds fun _ _ _ _ _ _ us hl=>by obtain ⟨_,_,rfl⟩:=zey hl;rfl,m16,F17,F17.binds fun _ _ _ _ _ _ us hl=>by obtain ⟨_,_,rfl⟩:=zey hl;rfl,m17,F18,F18.binds fun _ _ _ _ _ _ us hl=>by obtain ⟨_,_,rfl⟩:=zey hl;rfl,m18,F19,F19.binds fun _ _ _ _ _ _ us hl=>by obtain ⟨_,_,rfl⟩:=zey hl;rfl,m19,F20,F20.binds fun _ _ _ _ _ _ us hl=>by obtain ⟨_,rfl⟩:=zkN hl;rfl,m20,F21,F21.binds fun _ _ _ _ _ _ us hl=>by obtain ⟨_,rfl⟩:=zkN hl;rfl,m21,F22,F22.binds fun _ _ _ _ _ _ us hl=>by obtain ⟨_,_,rfl⟩:=zey hl;rfl,m22,F23,F23.binds fun _ _ _ _ _ _ us hl=>by obtain ⟨_,_,_,rfl⟩:=zqi hl;rfl,m23,F24,F24.binds fun _ _ _ _ _ _ us hl=>by obtain ⟨_,_,rfl⟩:=zey hl;rfl,m24,F25,F25.binds fun _ _ _ _ _ _ us hl=>by obtain ⟨_,_,_,rfl⟩:=zqi hl;rfl,m25,F26,F26.binds fun _ _ _ _ _ _ us hl=>by obtain ⟨_,_,_,rfl⟩:=zqi hl;rfl,m26,F27,F27.binds fun _ _ _ _ _ _ us hl=>by obtain ⟨_,_,rfl⟩:=zey hl;rfl,m27,F28,F28.binds fun _ _ _ _ _ _ us hl=>by obtain ⟨_,rfl⟩:=zkN hl;rfl,m28,F29,F29.binds fun _ _ _ _ _ _ us hl=>by obtain ⟨_,_,rfl⟩:=zey hl;rfl,m29,F30,F30.binds fun _ _ _ _ _ _ us hl=>by obtain ⟨_,_,rfl⟩:=zey hl;rfl,m30,F31,F31.binds fun _ _ _ _ _ _ us hl=>by obtain ⟨_,_,rfl⟩:=zey hl;rfl,m31,F32,F32.binds fun _ _ _ _ _ _ us hl=>by obtain ⟨_,_,rfl⟩:=zey hl;rfl,m32,F33,F33.binds fun _ _ _ _ _ _ us hl=>by obtain ⟨_,_,rfl⟩:=zey hl;rfl,m33,F34,F34.binds fun _ _ _ _ _ _ us hl=>by obtain ⟨_,_,rfl⟩:=zey hl;rfl,m34,F35,F35.binds fun _ _ _ _ _ _ us hl=>by obtain ⟨_,_,rfl⟩:=zey hl;rfl,m35,F36,F36.binds fun _ _ _ _ _ _ us hl=>by obtain ⟨_,_,rfl⟩:=zey hl;rfl,m36,F37,F37.binds fun _ _ _ _ _ _ us hl=>by obtain ⟨_,_,rfl⟩:=zey hl;rfl,m37,F38,F38.binds fun _ _ _ _ _ _ us hl=>by obtain ⟨_,_,rfl⟩:=zey hl;rfl,m38,F39,F39.binds fun _ _ _ _ _ _ us hl=>by obtain ⟨_,_,rfl⟩:=zey hl;rfl,m39,F40,F40.binds fun _ _ _ _ _ _ us hl=>by obtain ⟨_,_,rfl⟩:=zey hl;rfl,m40,F41,F41.binds fun _ _ _ _ _ _ us hl=>by obtain ⟨_,_,_,_,rfl⟩:=lst4 hl;rfl,m41,F42,F42.binds fun _ _ _ _ _ _ us hl=>by obtain ⟨_,_,_,rfl⟩:=zqi hl;rfl,m42,F43,F43.binds fun _ _ _ _ _ _ us hl=>by obtain ⟨_,rfl⟩:=zkN hl;rfl,m43,z_set,z_isinstance,z_range,z_all,z_sorted,z_abs,z_sum,z_len,z_list,z_zip,z_int,z_bool,z_tuple,z_max,z_min,ac_NoNumber,ac_NoBoxes,ac_NoBudget,ak_MOST_BOXES,ak_MOST_COST,ak_MOST_OF,ak_MOST_BUDGET,xc_NoNumber,xc_NoBoxes,xc_NoBudget⟩
theorem zpS {K:PySem.W.Frag} {w:World} {mg:Str→Option Value} {h:Heap} {fa:Addr} {P:Program} (X:K.In h) (G:h.Ns mainGlobals mg) (hfa:mg "law"=some (.ref fa)) {a:Ad} (T:Txt K mg a) :
  ∃ fd:FuncData,(∀ (s:Shared) (u:Value),BindsTo s fd ⟨[u],[]⟩ [("_law_script",u)])∧∀ base:Heap,K.In base→base.Ns mainGlobals mg→zbT P w K mg base CX0 9 fa fd ["_law_script"] (zlQ K):=by
 have e:=hfa.symm.trans T.m_law
 cases e
 refine ⟨a.d_law,fun s v=>?_,fun base _ _=>zo2 T⟩
 obtain ⟨oc,od,kV,doc,pm,an,cdv,ct,osl,e,lk,hcd⟩:=T.F_law.ex
 rw [e]
 exact .of_eq rfl
theorem walk {l:PySem.W.OpenLaw} {q:Program} {loose:List Str} {XP:(Str→Option Value)→Heap→Prop} {YP:World→Heap→Prop} {d:DefRec} {K:Params→PySem.W.Frag} (hn:l.most=some 63) (hdf:d.params.defaults=[])
  (hY:∀ (w:World) (h:Heap),YP w h→(K w.params).In h)
  (F:∀ (w:World) (mg:Str→Option Value) (fa:Addr) (h:Heap),(K w.params).In h→h.Ns mainGlobals mg→mg d.name=some (.ref fa) →
   ∃ fd:FuncData,(∀ (s:Shared) (u:Value),BindsTo s fd ⟨[u],[]⟩ [("_law_script",u)])∧∀ base:Heap,(K w.params).In base→base.Ns mainGlobals mg→zbT l.prog w (K w.params) mg base CX0 9 fa fd ["_law_script"] (zlQ (K w.params))) :
  PySem.W.WalkO q loose XP YP l.row.toRowW d [] (fun f vs=>PySem.call f vs) :=
 L2.zl3 (n:=63) (k:=9) (x:="_law_script") (CX:=fun _=>CX0) (sp:=fun w=>zlQ (K w.params)) hn (by decide) hdf ⟨rfl,by decide,by decide⟩ hY F (fun _ _ a ns hb hl _ hS=>⟨a,ns,rfl,hS,hl,hb,fun _=>rfl⟩) fun _ _ _ _ _ z=>z
end My
open PySem PySem.W in
theorem My.walk_at {K:Params→Frag} {w:World} {h:Heap} {l:OpenLaw} {q:Program} {loose:List Str} {XP:(Str→Option Value)→Heap→Prop} {d:DefRec} {C:Prop} (_:(K w.params).In h)
  (use:WalkO q loose XP (fun w h=>(K w.params).In h) l.row.toRowW d [] (fun f vs=>PySem.call f vs)→C) (W:WalkO q loose XP (fun w h=>(K w.params).In h) l.row.toRowW d [] (fun f vs=>PySem.call f vs)):C:=use W
noncomputable section
namespace Hd
open PySem PySem.W.Fast
structure Q (α : Type) where
  a : α
  b : α
  c : α
  d : α
  e : α
  f : α
  g : α
  h : α
class X where
  s : Q (Q (Q Str))
  t : Q (Q (Q String))
  r : Q (Q (Q Obj))
  p : Program
  P : Params
def sp (p : Program) (n : Nat) : Stmt := (p.main.body.drop n).headD (.Pass ⟨0, 0, 0, 0⟩)
def st [x : X] (n : Nat) : Stmt := sp x.p n
def cb : Stmt → List Stmt
  | .ClassDef _ _ _ b .. => b
  | _ => []
def sm [x : X] (n k : Nat) : Stmt := ((cb (st n)).drop k).headD (.Pass ⟨0, 0, 0, 0⟩)
def fn (s : Stmt) (q : Str) (g : Addr) (c : List (Str × Addr)) (d k o m : Value) (a : Option Addr) (z t : Value) (b : Addr) : FuncData := match s with
  | .FunctionDef n p y _ _ _ u .. => ⟨n, q, p, .stmts y, u, g, c, d, k, o, m, a, z, t, b⟩
  | _ => default
abbrev z := W.BT.nil
def N (o : Obj) (l r : W.BT) : W.BT := .node o l r
def L (o : Obj) : W.BT := .node o .nil .nil
def e [x : X] (s : Str) (n : Nat) (v : Value) : DictEntry := ⟨PyData.keyHash x.P s, .str s n, v⟩
def vR (n : Nat) : Option Value := some (.ref n)
def vr (n : Nat) : Value := .ref n
def vO : Value := .int 0 0
def vI (n : Int) : Value := .int n 0
def vS (s : Str) (n : Tok) : Value := .str s n
def vY (s : String) : Value := .type s
def vB (s : String) : Value := .builtin s
section
variable [x : X]
def i0 := e x.s.a.a.d 165 (vS x.s.a.a.e 187)
def i1 := e x.s.a.a.f 166 .none
def i2 := e x.s.a.a.g 167 .none
def i3 := e x.s.a.a.h 168 (vB x.t.a.a.e)
def i4 := e x.s.a.b.a 169 .none
def i5 := e x.s.a.b.b 170 (vr 6)
def i6 := e x.s.a.b.c 171 (vr 4)
def i7 := e x.s.a.b.d 173 (vS x.s.a.a.b 172)
def i8 := e x.s.a.b.e 174 .none
def i9 := e x.s.a.b.f 206 (vr 24)
def i10 := e x.s.a.b.g 196 (vS x.s.a.a.e 187)
def i11 := e x.s.a.b.h 198 (vS x.s.a.b.f 197)
def i12 := e x.s.a.c.a 200 (.int 2 199)
def i13 := e x.s.a.c.b 201 (vr 22)
def i14 := e x.s.a.c.c 203 (vr 25)
def i15 := e x.s.a.a.f 204 .none
def i16 := e x.s.a.c.d 222 (vr 37)
def i17 := e x.s.a.b.g 214 (vS x.s.a.a.e 187)
def i18 := e x.s.a.b.h 216 (vS x.s.a.c.d 215)
def i19 := e x.s.a.c.a 218 (.int 4 217)
def i20 := e x.s.a.c.b 219 (vr 35)
def i21 := e x.s.a.a.f 220 .none
def i22 := e x.s.a.c.e 238 (vr 49)
def i23 := e x.s.a.b.g 230 (vS x.s.a.a.e 187)
def i24 := e x.s.a.b.h 232 (vS x.s.a.c.e 231)
def i25 := e x.s.a.c.a 234 (.int 6 233)
def i26 := e x.s.a.c.b 235 (vr 47)
def i27 := e x.s.a.a.f 236 .none
def i28 := e x.s.a.a.d 165 (vS x.s.a.c.f 255)
def i29 := e x.s.a.c.g 254 (vr 61)
def i30 := e x.s.a.c.h 265 (vr 70)
def i31 := e x.s.a.d.a 274 (vr 77)
def i32 := e x.s.a.d.b 282 (vr 84)
def i33 := e x.s.a.d.c 290 (vr 91)
def i34 := e x.s.a.d.d 298 (vr 98)
def i35 := e x.s.a.b.g 246 (vS x.s.a.a.e 187)
def i36 := e x.s.a.b.h 248 (vS x.s.a.c.g 247)
def i37 := e x.s.a.c.a 250 (.int 8 249)
def i38 := e x.s.a.c.b 251 (vr 59)
def i39 := e x.s.a.a.f 252 .none
def i40 := e x.s.a.a.d 165 (vS x.s.a.e.c 354)
def i41 := e x.s.a.e.d 306 (vr 105)
def i42 := e x.s.a.e.e 314 (vr 112)
def i43 := e x.s.a.e.f 320 (vr 117)
def i44 := e x.s.a.e.g 329 (vr 124)
def i45 := e x.s.a.e.h 335 (vr 129)
def i46 := e x.s.a.f.a 344 (vr 136)
def i47 := e x.s.a.f.b 353 (vr 143)
def i48 := e x.s.a.f.c 357 (.int 6 356)
def i49 := e x.s.a.f.d 359 (.int 60 358)
def i50 := e x.s.a.f.e 361 (.int 50 360)
def i51 := e x.s.a.f.f 363 (.int 60 362)
def i52 := e x.s.a.f.g 373 (vr 150)
def i53 := e x.s.a.f.h 379 (vr 155)
def i54 := e x.s.a.g.a 386 (vr 162)
def i55 := e x.s.a.g.b 396 (vr 169)
def i56 := e x.s.b.a.a 404 (vr 176)
def i57 := e x.s.b.a.b 414 (vr 183)
def i58 := e x.s.b.a.c 424 (vr 190)
def i59 := e x.s.b.a.d 430 (vr 195)
def i60 := e x.s.b.a.e 439 (vr 202)
def i61 := e x.s.b.a.f 448 (vr 209)
def i62 := e x.s.b.a.g 454 (vr 214)
def i63 := e x.s.b.a.h 460 (vr 219)
def i64 := e x.s.b.b.a 466 (vr 224)
def i65 := e x.s.b.b.b 472 (vr 229)
def i66 := e x.s.b.b.c 478 (vr 234)
def i67 := e x.s.b.b.d 484 (vr 239)
def i68 := e x.s.b.b.e 490 (vr 244)
def i69 := e x.s.b.b.f 496 (vr 249)
def i70 := e x.s.a.a.d 165 (vS x.s.b.c.d 507)
def i71 := e x.s.b.c.e 506 (vr 256)
def i72 := e x.s.b.c.f 517 (vr 263)
def i73 := e x.s.b.c.g 525 (vr 270)
def i74 := e x.s.b.c.h 534 (vr 277)
def i75 := e x.s.b.d.a 544 (vr 284)
def i76 := e x.s.b.d.b 556 (vr 291)
def i77 := e x.s.b.d.c 563 (vr 298)
def i78 := e x.s.b.d.d 572 (vr 305)
def i79 := e x.s.b.d.e 582 (vr 312)
def i80 := e x.s.b.d.f 593 (vr 319)
def i81 := e x.s.b.d.g 601 (vr 326)
def i82 := e x.s.b.d.h 609 (vr 333)
def i83 := e x.s.b.g.h 615 (vr 338)
def i84 := e x.s.b.h.a 621 (vr 343)
def i85 := e x.s.b.h.b 627 (vr 348)
def i86 := e x.s.b.h.c 633 (vr 353)
def i87 := e x.s.b.h.d 639 (vr 358)
def i88 := e x.s.b.h.e 653 (vr 365)
def i89 := e x.s.b.h.f 659 (vr 370)
def i90 := e x.s.b.h.g 669 (vr 377)
def i91 := e x.s.b.h.h 687 (vr 384)
def i92 := e x.s.c.a.a 703 (vr 391)
def i93 := e x.s.c.a.b 709 (vr 396)
def zai : Obj := ⟨(vY x.t.a.a.a), none, (.seq #[] 0), #[]⟩
def zas : Obj := ⟨.none, none, (.fields #[]), #[]⟩
def zk9 : Obj := ⟨(vY x.t.a.a.b), none, (.fields #[(vS x.s.a.a.a 182), (vS x.s.a.a.a 183), (vS x.s.a.a.b 184), (vI 1), vO, vO, vO, vO, (vr 11), (.bool false), (vI 181), (vr 12), .none, .none, .none, .none, (vI 185), (vI 1), (vS x.s.a.a.b 186)]), #[]⟩
def zk2 : Obj := ⟨(vY x.t.a.a.c), none, .plain, #[(vR 13), (vR 3), (vR 3), none, (some (vS x.s.a.a.c 164)), none, (vR 0)]⟩
def b708 : Obj := ⟨(vY x.t.a.a.d), none, (.dict #[i0, i1, i2, i3, i4, i5, i6, i7, i8, i9] 10), #[]⟩
def b709 : Obj := ⟨.none, none, (.fields #[(vI 2), vO, (vr 20)]), #[]⟩
def zlY : Obj := ⟨(vY x.t.a.a.a), none, (.seq #[(vY x.t.a.a.f)] 0), #[]⟩
def zdV : Obj := ⟨(vY x.t.a.a.g), none, (.fields #[(vB x.t.a.a.h), (vY x.t.a.b.a)]), #[]⟩
def zl1 : Obj := ⟨(vY x.t.a.a.d), none, (.dict #[i10, i11, i12, i13] 4), #[]⟩
def zmj : Obj := ⟨(vY x.t.a.a.b), none, (.fields #[(vS x.s.a.b.f 191), (vS x.s.a.b.f 192), (vS x.s.a.a.b 193), (vI 2), vO, vO, vO, vO, (vr 18), (.bool false), (vI 181), (vr 19), .none, .none, .none, .none, (vI 194), (vI 2), (vS x.s.a.a.b 195)]), #[]⟩
def zlh : Obj := ⟨(vY x.t.a.a.c), none, .plain, #[(vR 20), (vR 3), (vR 17), none, (some (vS x.s.a.a.e 187)), none, (vR 0)]⟩
def zlT : Obj := ⟨(vY x.t.a.a.d), none, (.dict #[i10, i12, i13, i14, i15] 3), #[]⟩
def b719 : Obj := ⟨(vY x.t.a.b.a), none, (.cls ⟨x.s.a.b.f, [(vY x.t.a.a.f)], [(vr 24), (vY x.t.a.a.f), (vY x.t.a.b.b), (vY x.t.a.b.c), (vY x.t.a.b.d)], 23, x.s.a.b.f, true, [], [], false, none, false⟩), #[(vR 15), none, (some (vS x.s.a.b.f 189)), (some (vS x.s.a.b.f 197)), (some (vB x.t.a.b.e)), (some (.bool true))]⟩
def zmd : Obj := ⟨(vY x.t.a.b.f), none, (.fields #[(vS x.s.a.c.c 202), (vr 24), (vB x.t.a.b.g), .none]), #[]⟩
def zlf : Obj := ⟨(vY x.t.a.b.h), none, (.fields #[(vr 24), (vr 24), (vr 24)]), #[]⟩
def zln : Obj := ⟨(vY x.t.a.a.g), none, (.fields #[(vB x.t.a.c.a), (vr 24)]), #[]⟩
def b723 : Obj := ⟨(vY x.t.a.a.d), none, (.dict #[i0, i1, i2, i3, i4, i5, i6, i7, i8, i9, i16] 11), #[]⟩
def b724 : Obj := ⟨.none, none, (.fields #[(vI 2), vO, (vr 20), (vI 4), vO, (vr 33)]), #[]⟩
def b725 : Obj := ⟨(vY x.t.a.b.a), none, (.cls ⟨x.s.a.b.f, [(vY x.t.a.a.f)], [(vr 24), (vY x.t.a.a.f), (vY x.t.a.b.b), (vY x.t.a.b.c), (vY x.t.a.b.d)], 23, x.s.a.b.f, true, [], [(vr 37)], false, none, false⟩), #[(vR 15), none, (some (vS x.s.a.b.f 189)), (some (vS x.s.a.b.f 197)), (some (vB x.t.a.b.e)), (some (.bool true))]⟩
def zfw : Obj := ⟨(vY x.t.a.a.a), none, (.seq #[(vr 24)] 0), #[]⟩
def zmI : Obj := ⟨(vY x.t.a.a.d), none, (.dict #[i17, i18, i19, i20] 4), #[]⟩
def zmT : Obj := ⟨(vY x.t.a.a.b), none, (.fields #[(vS x.s.a.c.d 209), (vS x.s.a.c.d 210), (vS x.s.a.a.b 211), (vI 4), vO, vO, vO, vO, (vr 31), (.bool false), (vI 181), (vr 32), .none, .none, .none, .none, (vI 212), (vI 4), (vS x.s.a.a.b 213)]), #[]⟩
def zmU : Obj := ⟨(vY x.t.a.a.c), none, .plain, #[(vR 33), (vR 3), (vR 30), none, (some (vS x.s.a.a.e 187)), none, (vR 0)]⟩
def zmP : Obj := ⟨(vY x.t.a.a.d), none, (.dict #[i17, i19, i20, i21] 2), #[]⟩
def zmW : Obj := ⟨(vY x.t.a.b.a), none, (.cls ⟨x.s.a.c.d, [(vr 24)], [(vr 37), (vr 24), (vY x.t.a.a.f), (vY x.t.a.b.b), (vY x.t.a.b.c), (vY x.t.a.b.d)], 36, x.s.a.c.d, true, [], [], false, none, false⟩), #[(vR 28), none, (some (vS x.s.a.c.d 207)), (some (vS x.s.a.c.d 215)), (some (vB x.t.a.b.e)), (some (.bool true))]⟩
def zmw : Obj := ⟨(vY x.t.a.b.h), none, (.fields #[(vr 37), (vr 37), (vr 37)]), #[]⟩
def zmY : Obj := ⟨(vY x.t.a.a.g), none, (.fields #[(vB x.t.a.c.a), (vr 37)]), #[]⟩
def b738 : Obj := ⟨(vY x.t.a.a.d), none, (.dict #[i0, i1, i2, i3, i4, i5, i6, i7, i8, i9, i16, i22] 12), #[]⟩
def b739 : Obj := ⟨.none, none, (.fields #[(vI 2), vO, (vr 20), (vI 4), vO, (vr 33), (vI 6), vO, (vr 45)]), #[]⟩
def b740 : Obj := ⟨(vY x.t.a.b.a), none, (.cls ⟨x.s.a.b.f, [(vY x.t.a.a.f)], [(vr 24), (vY x.t.a.a.f), (vY x.t.a.b.b), (vY x.t.a.b.c), (vY x.t.a.b.d)], 23, x.s.a.b.f, true, [], [(vr 37), (vr 49)], false, none, false⟩), #[(vR 15), none, (some (vS x.s.a.b.f 189)), (some (vS x.s.a.b.f 197)), (some (vB x.t.a.b.e)), (some (.bool true))]⟩
def zob : Obj := ⟨(vY x.t.a.a.d), none, (.dict #[i23, i24, i25, i26] 4), #[]⟩
def znt : Obj := ⟨(vY x.t.a.a.b), none, (.fields #[(vS x.s.a.c.e 225), (vS x.s.a.c.e 226), (vS x.s.a.a.b 227), (vI 6), vO, vO, vO, vO, (vr 43), (.bool false), (vI 181), (vr 44), .none, .none, .none, .none, (vI 228), (vI 6), (vS x.s.a.a.b 229)]), #[]⟩
def zna : Obj := ⟨(vY x.t.a.a.c), none, .plain, #[(vR 45), (vR 3), (vR 42), none, (some (vS x.s.a.a.e 187)), none, (vR 0)]⟩
def znr : Obj := ⟨(vY x.t.a.a.d), none, (.dict #[i23, i25, i26, i27] 2), #[]⟩
def znJ : Obj := ⟨(vY x.t.a.b.a), none, (.cls ⟨x.s.a.c.e, [(vr 24)], [(vr 49), (vr 24), (vY x.t.a.a.f), (vY x.t.a.b.b), (vY x.t.a.b.c), (vY x.t.a.b.d)], 48, x.s.a.c.e, true, [], [], false, none, false⟩), #[(vR 40), none, (some (vS x.s.a.c.e 223)), (some (vS x.s.a.c.e 231)), (some (vB x.t.a.b.e)), (some (.bool true))]⟩
def zm9 : Obj := ⟨(vY x.t.a.b.h), none, (.fields #[(vr 49), (vr 49), (vr 49)]), #[]⟩
def znn : Obj := ⟨(vY x.t.a.a.g), none, (.fields #[(vB x.t.a.c.a), (vr 49)]), #[]⟩
def b753 : Obj := ⟨(vY x.t.a.a.d), none, (.dict #[i28, i1, i2, i3, i4, i5, i6, i7, i8, i9, i16, i22, i29, i30, i31, i32, i33, i34] 18), #[]⟩
def b754 : Obj := ⟨.none, none, (.fields #[(vI 2), vO, (vr 20), (vI 4), vO, (vr 33), (vI 6), vO, (vr 45), (vI 8), vO, (vr 57), (vI 11), vO, (vr 69), (vI 19), vO, (vr 76), (vI 26), vO, (vr 83), (vI 28), vO, (vr 90), (vI 30), vO, (vr 97)]), #[]⟩
def zos : Obj := ⟨(vY x.t.a.b.a), none, (.cls ⟨x.s.a.b.f, [(vY x.t.a.a.f)], [(vr 24), (vY x.t.a.a.f), (vY x.t.a.b.b), (vY x.t.a.b.c), (vY x.t.a.b.d)], 23, x.s.a.b.f, true, [], [(vr 37), (vr 49), (vr 61)], false, none, false⟩), #[(vR 15), none, (some (vS x.s.a.b.f 189)), (some (vS x.s.a.b.f 197)), (some (vB x.t.a.b.e)), (some (.bool true))]⟩
def zop : Obj := ⟨(vY x.t.a.a.d), none, (.dict #[i35, i36, i37, i38] 4), #[]⟩
def zoA : Obj := ⟨(vY x.t.a.a.b), none, (.fields #[(vS x.s.a.c.g 241), (vS x.s.a.c.g 242), (vS x.s.a.a.b 243), (vI 8), vO, vO, vO, vO, (vr 55), (.bool false), (vI 181), (vr 56), .none, .none, .none, .none, (vI 244), (vI 8), (vS x.s.a.a.b 245)]), #[]⟩
def zox : Obj := ⟨(vY x.t.a.a.c), none, .plain, #[(vR 57), (vR 3), (vR 54), none, (some (vS x.s.a.a.e 187)), none, (vR 0)]⟩
def zor : Obj := ⟨(vY x.t.a.a.d), none, (.dict #[i35, i37, i38, i39] 2), #[]⟩
def zoq : Obj := ⟨(vY x.t.a.b.a), none, (.cls ⟨x.s.a.c.g, [(vr 24)], [(vr 61), (vr 24), (vY x.t.a.a.f), (vY x.t.a.b.b), (vY x.t.a.b.c), (vY x.t.a.b.d)], 60, x.s.a.c.g, true, [], [], false, none, false⟩), #[(vR 52), none, (some (vS x.s.a.c.g 239)), (some (vS x.s.a.c.g 247)), (some (vB x.t.a.b.e)), (some (.bool true))]⟩
def zoF : Obj := ⟨(vY x.t.a.b.h), none, (.fields #[(vr 61), (vr 61), (vr 61)]), #[]⟩
def zoI : Obj := ⟨(vY x.t.a.a.g), none, (.fields #[(vB x.t.a.c.a), (vr 61)]), #[]⟩
def zon : Obj := ⟨(vY x.t.a.a.a), none, (.seq #[(vS x.s.a.d.e 260), (vS x.s.a.d.f 261), (vS x.s.a.d.g 262)] 0), #[]⟩
def zow : Obj := ⟨.none, none, (.func (fn (st 6) x.s.a.c.h 0 [] .none .none .none .none none .none .none 0)), #[]⟩
def zov : Obj := ⟨(vY x.t.a.a.b), none, (.fields #[(vS x.s.a.c.h 257), (vS x.s.a.c.h 258), (vS x.s.a.a.b 259), (vI 11), (vI 2), vO, vO, (vI 3), (vr 64), (.bool true), (vI 181), (vr 65), .none, (vr 66), (vr 67), (vr 68), (vI 263), (vI 11), (vS x.s.a.a.b 264)]), #[]⟩
def zoR : Obj := ⟨(vY x.t.a.c.b), none, (.func (fn (st 6) x.s.a.c.h 3 [] .none .none .none (vS x.s.a.c.f 255) none (vr 69) .none 0)), #[]⟩
def zou : Obj := ⟨(vY x.t.a.a.a), none, (.seq #[(vS x.s.a.d.h 269), (vS x.s.a.e.a 270), (vS x.s.a.e.b 271)] 0), #[]⟩
def zoM : Obj := ⟨.none, none, (.func (fn (st 7) x.s.a.d.a 0 [] .none .none .none .none none .none .none 0)), #[]⟩
def zoz : Obj := ⟨(vY x.t.a.a.b), none, (.fields #[(vS x.s.a.d.a 266), (vS x.s.a.d.a 267), (vS x.s.a.a.b 268), (vI 19), (vI 2), vO, vO, (vI 3), (vr 71), (.bool true), (vI 181), (vr 72), .none, (vr 73), (vr 74), (vr 75), (vI 272), (vI 19), (vS x.s.a.a.b 273)]), #[]⟩
def zoD : Obj := ⟨(vY x.t.a.c.b), none, (.func (fn (st 7) x.s.a.d.a 3 [] .none .none .none (vS x.s.a.c.f 255) none (vr 76) .none 0)), #[]⟩
def zoo : Obj := ⟨(vY x.t.a.a.a), none, (.seq #[(vS x.s.a.d.e 278), (vS x.s.a.d.f 279)] 0), #[]⟩
def zoO : Obj := ⟨.none, none, (.func (fn (st 8) x.s.a.d.b 0 [] .none .none .none .none none .none .none 0)), #[]⟩
def zoJ : Obj := ⟨(vY x.t.a.a.b), none, (.fields #[(vS x.s.a.d.b 275), (vS x.s.a.d.b 276), (vS x.s.a.a.b 277), (vI 26), (vI 2), vO, vO, (vI 3), (vr 78), (.bool true), (vI 181), (vr 79), .none, (vr 80), (vr 81), (vr 82), (vI 280), (vI 26), (vS x.s.a.a.b 281)]), #[]⟩
def zoT : Obj := ⟨(vY x.t.a.c.b), none, (.func (fn (st 8) x.s.a.d.b 3 [] .none .none .none (vS x.s.a.c.f 255) none (vr 83) .none 0)), #[]⟩
def zoS : Obj := ⟨(vY x.t.a.a.a), none, (.seq #[(vS x.s.a.d.e 286), (vS x.s.a.d.f 287)] 0), #[]⟩
def zoE : Obj := ⟨.none, none, (.func (fn (st 9) x.s.a.d.c 0 [] .none .none .none .none none .none .none 0)), #[]⟩
def zoK : Obj := ⟨(vY x.t.a.a.b), none, (.fields #[(vS x.s.a.d.c 283), (vS x.s.a.d.c 284), (vS x.s.a.a.b 285), (vI 28), (vI 2), vO, vO, (vI 3), (vr 85), (.bool true), (vI 181), (vr 86), .none, (vr 87), (vr 88), (vr 89), (vI 288), (vI 28), (vS x.s.a.a.b 289)]), #[]⟩
def zot : Obj := ⟨(vY x.t.a.c.b), none, (.func (fn (st 9) x.s.a.d.c 3 [] .none .none .none (vS x.s.a.c.f 255) none (vr 90) .none 0)), #[]⟩
def zoG : Obj := ⟨(vY x.t.a.a.a), none, (.seq #[(vS x.s.a.d.e 294), (vS x.s.a.d.f 295)] 0), #[]⟩
def zoy : Obj := ⟨.none, none, (.func (fn (st 10) x.s.a.d.d 0 [] .none .none .none .none none .none .none 0)), #[]⟩
def zoH : Obj := ⟨(vY x.t.a.a.b), none, (.fields #[(vS x.s.a.d.d 291), (vS x.s.a.d.d 292), (vS x.s.a.a.b 293), (vI 30), (vI 2), vO, vO, (vI 3), (vr 92), (.bool true), (vI 181), (vr 93), .none, (vr 94), (vr 95), (vr 96), (vI 296), (vI 30), (vS x.s.a.a.b 297)]), #[]⟩
def zoN : Obj := ⟨(vY x.t.a.c.b), none, (.func (fn (st 10) x.s.a.d.d 3 [] .none .none .none (vS x.s.a.c.f 255) none (vr 97) .none 0)), #[]⟩
def b803 : Obj := ⟨(vY x.t.a.a.d), none, (.dict #[i40, i1, i2, i3, i4, i5, i6, i7, i8, i9, i16, i22, i29, i30, i31, i32, i33, i34, i41, i42, i43, i44, i45, i46, i47, i48, i49, i50, i51, i52, i53, i54, i55] 33), #[]⟩
def b804 : Obj := ⟨.none, none, (.fields #[(vI 2), vO, (vr 20), (vI 4), vO, (vr 33), (vI 6), vO, (vr 45), (vI 8), vO, (vr 57), (vI 11), vO, (vr 69), (vI 19), vO, (vr 76), (vI 26), vO, (vr 83), (vI 28), vO, (vr 90), (vI 30), vO, (vr 97), (vI 32), vO, (vr 104), (vI 34), vO, (vr 111), (vI 36), vO, (vr 116), (vI 41), vO, (vr 123), (vI 46), vO, (vr 128), (vI 50), vO, (vr 135), (vI 52), vO, (vr 142), (vI 59), vO, (vr 149), (vI 64), vO, (vr 154), (vI 67), vO, (vr 161), (vI 70), vO, (vr 168)]), #[]⟩
def zpv : Obj := ⟨(vY x.t.a.a.a), none, (.seq #[(vS x.s.a.d.e 302), (vS x.s.a.d.f 303)] 0), #[]⟩
def zqu : Obj := ⟨.none, none, (.func (fn (st 11) x.s.a.e.d 0 [] .none .none .none .none none .none .none 0)), #[]⟩
def zqm : Obj := ⟨(vY x.t.a.a.b), none, (.fields #[(vS x.s.a.e.d 299), (vS x.s.a.e.d 300), (vS x.s.a.a.b 301), (vI 32), (vI 2), vO, vO, (vI 3), (vr 99), (.bool true), (vI 181), (vr 100), .none, (vr 101), (vr 102), (vr 103), (vI 304), (vI 32), (vS x.s.a.a.b 305)]), #[]⟩
def zqK : Obj := ⟨(vY x.t.a.c.b), none, (.func (fn (st 11) x.s.a.e.d 3 [] .none .none .none (vS x.s.a.c.f 255) none (vr 104) .none 0)), #[]⟩
def zqT : Obj := ⟨(vY x.t.a.a.a), none, (.seq #[(vS x.s.a.d.e 310), (vS x.s.a.d.f 311)] 0), #[]⟩
def zqc : Obj := ⟨.none, none, (.func (fn (st 12) x.s.a.e.e 0 [] .none .none .none .none none .none .none 0)), #[]⟩
def zql : Obj := ⟨(vY x.t.a.a.b), none, (.fields #[(vS x.s.a.e.e 307), (vS x.s.a.e.e 308), (vS x.s.a.a.b 309), (vI 34), (vI 2), vO, vO, (vI 3), (vr 106), (.bool true), (vI 181), (vr 107), .none, (vr 108), (vr 109), (vr 110), (vI 312), (vI 34), (vS x.s.a.a.b 313)]), #[]⟩
def zpR : Obj := ⟨(vY x.t.a.c.b), none, (.func (fn (st 12) x.s.a.e.e 3 [] .none .none .none (vS x.s.a.c.f 255) none (vr 111) .none 0)), #[]⟩
def zqw : Obj := ⟨.none, none, (.func (fn (st 13) x.s.a.e.f 0 [] .none .none .none .none none .none .none 0)), #[]⟩
def zqe : Obj := ⟨(vY x.t.a.a.b), none, (.fields #[(vS x.s.a.e.f 315), (vS x.s.a.e.f 316), (vS x.s.a.a.b 317), (vI 36), (vI 1), vO, vO, (vI 3), (vr 113), (.bool true), (vI 181), (vr 114), .none, .none, .none, (vr 115), (vI 318), (vI 36), (vS x.s.a.a.b 319)]), #[]⟩
def zpf : Obj := ⟨(vY x.t.a.c.b), none, (.func (fn (st 13) x.s.a.e.f 3 [] .none .none .none (vS x.s.a.c.f 255) none (vr 116) .none 0)), #[]⟩
def zpe : Obj := ⟨(vY x.t.a.a.a), none, (.seq #[(vS x.s.a.g.c 324), (vS x.s.a.e.b 325), (vS x.s.a.g.d 326)] 0), #[]⟩
def zqS : Obj := ⟨.none, none, (.func (fn (st 14) x.s.a.e.g 0 [] .none .none .none .none none .none .none 0)), #[]⟩
def zoZ : Obj := ⟨(vY x.t.a.a.b), none, (.fields #[(vS x.s.a.e.g 321), (vS x.s.a.e.g 322), (vS x.s.a.a.b 323), (vI 41), (vI 1), vO, vO, (vI 3), (vr 118), (.bool true), (vI 181), (vr 119), .none, (vr 120), (vr 121), (vr 122), (vI 327), (vI 41), (vS x.s.a.a.b 328)]), #[]⟩
def zo4 : Obj := ⟨(vY x.t.a.c.b), none, (.func (fn (st 14) x.s.a.e.g 3 [] .none .none .none (vS x.s.a.c.f 255) none (vr 123) .none 0)), #[]⟩
def zpZ : Obj := ⟨.none, none, (.func (fn (st 15) x.s.a.e.h 0 [] .none .none .none .none none .none .none 0)), #[]⟩
def zpb : Obj := ⟨(vY x.t.a.a.b), none, (.fields #[(vS x.s.a.e.h 330), (vS x.s.a.e.h 331), (vS x.s.a.a.b 332), (vI 46), (vI 1), vO, vO, (vI 3), (vr 125), (.bool true), (vI 181), (vr 126), .none, .none, .none, (vr 127), (vI 333), (vI 46), (vS x.s.a.a.b 334)]), #[]⟩
def zpI : Obj := ⟨(vY x.t.a.c.b), none, (.func (fn (st 15) x.s.a.e.h 3 [] .none .none .none (vS x.s.a.c.f 255) none (vr 128) .none 0)), #[]⟩
def zp5 : Obj := ⟨(vY x.t.a.a.a), none, (.seq #[(vS x.s.a.g.e 341)] 0), #[]⟩
def zqr : Obj := ⟨.none, none, (.func (fn (st 17) x.s.a.f.a 0 [] .none .none .none .none none .none .none 0)), #[]⟩
def zqA : Obj := ⟨(vY x.t.a.a.b), none, (.fields #[(vS x.s.a.f.a 338), (vS x.s.a.f.a 339), (vS x.s.a.a.b 340), (vI 50), (vI 1), vO, vO, (vI 3), (vr 130), (.bool true), (vI 181), (vr 131), .none, (vr 132), (vr 133), (vr 134), (vI 342), (vI 50), (vS x.s.a.a.b 343)]), #[]⟩
def zpK : Obj := ⟨(vY x.t.a.c.b), none, (.func (fn (st 17) x.s.a.f.a 3 [] .none .none .none (vS x.s.a.g.f 336) none (vr 135) .none 0)), #[]⟩
def zpq : Obj := ⟨(vY x.t.a.a.a), none, (.seq #[(vS x.s.a.g.e 348), (vS x.s.a.g.g 349), (vS x.s.a.g.h 350)] 0), #[]⟩
def zqH : Obj := ⟨.none, none, (.func (fn (st 18) x.s.a.f.b 0 [] .none .none .none .none none .none .none 0)), #[]⟩
def zqq : Obj := ⟨(vY x.t.a.a.b), none, (.fields #[(vS x.s.a.f.b 345), (vS x.s.a.f.b 346), (vS x.s.a.a.b 347), (vI 52), (vI 3), vO, vO, (vI 3), (vr 137), (.bool true), (vI 181), (vr 138), .none, (vr 139), (vr 140), (vr 141), (vI 351), (vI 52), (vS x.s.a.a.b 352)]), #[]⟩
def zpW : Obj := ⟨(vY x.t.a.c.b), none, (.func (fn (st 18) x.s.a.f.b 3 [] .none .none .none (vS x.s.a.g.f 336) none (vr 142) .none 0)), #[]⟩
def zpw : Obj := ⟨(vY x.t.a.a.a), none, (.seq #[(vS x.s.a.g.e 367), (vS x.s.a.h.a 368), (vS x.s.a.h.b 369), (vS x.s.a.h.c 370)] 0), #[]⟩
def zoU : Obj := ⟨.none, none, (.func (fn (st 24) x.s.a.f.g 0 [] .none .none .none .none none .none .none 0)), #[]⟩
def zpG : Obj := ⟨(vY x.t.a.a.b), none, (.fields #[(vS x.s.a.f.g 364), (vS x.s.a.f.g 365), (vS x.s.a.a.b 366), (vI 59), (vI 1), vO, vO, (vI 3), (vr 144), (.bool true), (vI 181), (vr 145), .none, (vr 146), (vr 147), (vr 148), (vI 371), (vI 59), (vS x.s.a.a.b 372)]), #[]⟩
def zqD : Obj := ⟨(vY x.t.a.c.b), none, (.func (fn (st 24) x.s.a.f.g 3 [] .none .none .none (vS x.s.a.e.c 354) none (vr 149) .none 0)), #[]⟩
def zqh : Obj := ⟨.none, none, (.func (fn (st 25) x.s.a.f.h 0 [] .none .none .none .none none .none .none 0)), #[]⟩
def zpy : Obj := ⟨(vY x.t.a.a.b), none, (.fields #[(vS x.s.a.f.h 374), (vS x.s.a.f.h 375), (vS x.s.a.a.b 376), (vI 64), (vI 1), vO, vO, (vI 3), (vr 151), (.bool true), (vI 181), (vr 152), .none, .none, .none, (vr 153), (vI 377), (vI 64), (vS x.s.a.a.b 378)]), #[]⟩
def zqy : Obj := ⟨(vY x.t.a.c.b), none, (.func (fn (st 25) x.s.a.f.h 3 [] .none .none .none (vS x.s.a.e.c 354) none (vr 154) .none 0)), #[]⟩
def zpc : Obj := ⟨(vY x.t.a.a.a), none, (.seq #[(vS x.s.a.h.d 383)] 0), #[]⟩
def zo1 : Obj := ⟨.none, none, (.func (fn (st 26) x.s.a.g.a 0 [] .none .none .none .none none .none .none 0)), #[]⟩
def zpd : Obj := ⟨(vY x.t.a.a.b), none, (.fields #[(vS x.s.a.g.a 380), (vS x.s.a.g.a 381), (vS x.s.a.a.b 382), (vI 67), (vI 1), vO, vO, (vI 3), (vr 156), (.bool true), (vI 181), (vr 157), .none, (vr 158), (vr 159), (vr 160), (vI 384), (vI 67), (vS x.s.a.a.b 385)]), #[]⟩
def zqV : Obj := ⟨(vY x.t.a.c.b), none, (.func (fn (st 26) x.s.a.g.a 3 [] .none .none .none (vS x.s.a.e.c 354) none (vr 161) .none 0)), #[]⟩
def zqW : Obj := ⟨(vY x.t.a.a.a), none, (.seq #[(vS x.s.a.h.e 390), (vS x.s.a.h.f 391), (vS x.s.a.h.g 392), (vS x.s.a.h.h 393)] 0), #[]⟩
def zqC : Obj := ⟨.none, none, (.func (fn (st 27) x.s.a.g.b 0 [] .none .none .none .none none .none .none 0)), #[]⟩
def zp3 : Obj := ⟨(vY x.t.a.a.b), none, (.fields #[(vS x.s.a.g.b 387), (vS x.s.a.g.b 388), (vS x.s.a.a.b 389), (vI 70), (vI 2), vO, vO, (vI 3), (vr 163), (.bool true), (vI 181), (vr 164), .none, (vr 165), (vr 166), (vr 167), (vI 394), (vI 70), (vS x.s.a.a.b 395)]), #[]⟩
def zpm : Obj := ⟨(vY x.t.a.c.b), none, (.func (fn (st 27) x.s.a.g.b 3 [] .none .none .none (vS x.s.a.e.c 354) none (vr 168) .none 0)), #[]⟩
def b876 : Obj := ⟨(vY x.t.a.a.d), none, (.dict #[i40, i1, i2, i3, i4, i5, i6, i7, i8, i9, i16, i22, i29, i30, i31, i32, i33, i34, i41, i42, i43, i44, i45, i46, i47, i48, i49, i50, i51, i52, i53, i54, i55, i56, i57, i58, i59, i60, i61, i62, i63, i64, i65, i66, i67, i68, i69] 47), #[]⟩
def b877 : Obj := ⟨.none, none, (.fields #[(vI 2), vO, (vr 20), (vI 4), vO, (vr 33), (vI 6), vO, (vr 45), (vI 8), vO, (vr 57), (vI 11), vO, (vr 69), (vI 19), vO, (vr 76), (vI 26), vO, (vr 83), (vI 28), vO, (vr 90), (vI 30), vO, (vr 97), (vI 32), vO, (vr 104), (vI 34), vO, (vr 111), (vI 36), vO, (vr 116), (vI 41), vO, (vr 123), (vI 46), vO, (vr 128), (vI 50), vO, (vr 135), (vI 52), vO, (vr 142), (vI 59), vO, (vr 149), (vI 64), vO, (vr 154), (vI 67), vO, (vr 161), (vI 70), vO, (vr 168), (vI 75), vO, (vr 175), (vI 77), vO, (vr 182), (vI 80), vO, (vr 189), (vI 83), vO, (vr 194), (vI 85), vO, (vr 201), (vI 90), vO, (vr 208), (vI 96), vO, (vr 213), (vI 98), vO, (vr 218), (vI 104), vO, (vr 223), (vI 113), vO, (vr 228), (vI 115), vO, (vr 233), (vI 128), vO, (vr 238), (vI 132), vO, (vr 243), (vI 135), vO, (vr 248)]), #[]⟩
def b880 : Obj := ⟨(vY x.t.a.a.a), none, (.seq #[(vS x.s.b.b.g 400), (vS x.s.a.h.f 401)] 0), #[]⟩
def b882 : Obj := ⟨.none, none, (.func (fn (st 28) x.s.b.a.a 0 [] .none .none .none .none none .none .none 0)), #[]⟩
def b883 : Obj := ⟨(vY x.t.a.a.b), none, (.fields #[(vS x.s.b.a.a 397), (vS x.s.b.a.a 398), (vS x.s.a.a.b 399), (vI 75), (vI 2), vO, vO, (vI 3), (vr 170), (.bool true), (vI 181), (vr 171), .none, (vr 172), (vr 173), (vr 174), (vI 402), (vI 75), (vS x.s.a.a.b 403)]), #[]⟩
def b884 : Obj := ⟨(vY x.t.a.c.b), none, (.func (fn (st 28) x.s.b.a.a 3 [] .none .none .none (vS x.s.a.e.c 354) none (vr 175) .none 0)), #[]⟩
def b887 : Obj := ⟨(vY x.t.a.a.a), none, (.seq #[(vS x.s.b.b.g 408), (vS x.s.a.h.f 409), (vS x.s.a.d.h 410), (vS x.s.a.e.a 411)] 0), #[]⟩
def b889 : Obj := ⟨.none, none, (.func (fn (st 29) x.s.b.a.b 0 [] .none .none .none .none none .none .none 0)), #[]⟩
def b890 : Obj := ⟨(vY x.t.a.a.b), none, (.fields #[(vS x.s.b.a.b 405), (vS x.s.b.a.b 406), (vS x.s.a.a.b 407), (vI 77), (vI 2), vO, vO, (vI 3), (vr 177), (.bool true), (vI 181), (vr 178), .none, (vr 179), (vr 180), (vr 181), (vI 412), (vI 77), (vS x.s.a.a.b 413)]), #[]⟩
def b891 : Obj := ⟨(vY x.t.a.c.b), none, (.func (fn (st 29) x.s.b.a.b 3 [] .none .none .none (vS x.s.a.e.c 354) none (vr 182) .none 0)), #[]⟩
def b894 : Obj := ⟨(vY x.t.a.a.a), none, (.seq #[(vS x.s.b.b.g 418), (vS x.s.a.h.f 419), (vS x.s.a.d.h 420), (vS x.s.a.e.a 421)] 0), #[]⟩
def b896 : Obj := ⟨.none, none, (.func (fn (st 30) x.s.b.a.c 0 [] .none .none .none .none none .none .none 0)), #[]⟩
def b897 : Obj := ⟨(vY x.t.a.a.b), none, (.fields #[(vS x.s.b.a.c 415), (vS x.s.b.a.c 416), (vS x.s.a.a.b 417), (vI 80), (vI 2), vO, vO, (vI 3), (vr 184), (.bool true), (vI 181), (vr 185), .none, (vr 186), (vr 187), (vr 188), (vI 422), (vI 80), (vS x.s.a.a.b 423)]), #[]⟩
def b898 : Obj := ⟨(vY x.t.a.c.b), none, (.func (fn (st 30) x.s.b.a.c 3 [] .none .none .none (vS x.s.a.e.c 354) none (vr 189) .none 0)), #[]⟩
def b901 : Obj := ⟨.none, none, (.func (fn (st 31) x.s.b.a.d 0 [] .none .none .none .none none .none .none 0)), #[]⟩
def b902 : Obj := ⟨(vY x.t.a.a.b), none, (.fields #[(vS x.s.b.a.d 425), (vS x.s.b.a.d 426), (vS x.s.a.a.b 427), (vI 83), (vI 2), vO, vO, (vI 3), (vr 191), (.bool true), (vI 181), (vr 192), .none, .none, .none, (vr 193), (vI 428), (vI 83), (vS x.s.a.a.b 429)]), #[]⟩
def b903 : Obj := ⟨(vY x.t.a.c.b), none, (.func (fn (st 31) x.s.b.a.d 3 [] .none .none .none (vS x.s.a.e.c 354) none (vr 194) .none 0)), #[]⟩
def b906 : Obj := ⟨(vY x.t.a.a.a), none, (.seq #[(vS x.s.b.b.h 434), (vS x.s.b.c.a 435), (vS x.s.b.c.b 436)] 0), #[]⟩
def b908 : Obj := ⟨.none, none, (.func (fn (st 32) x.s.b.a.e 0 [] .none .none .none .none none .none .none 0)), #[]⟩
def b909 : Obj := ⟨(vY x.t.a.a.b), none, (.fields #[(vS x.s.b.a.e 431), (vS x.s.b.a.e 432), (vS x.s.a.a.b 433), (vI 85), (vI 1), vO, vO, (vI 3), (vr 196), (.bool true), (vI 181), (vr 197), .none, (vr 198), (vr 199), (vr 200), (vI 437), (vI 85), (vS x.s.a.a.b 438)]), #[]⟩
def b910 : Obj := ⟨(vY x.t.a.c.b), none, (.func (fn (st 32) x.s.b.a.e 3 [] .none .none .none (vS x.s.a.e.c 354) none (vr 201) .none 0)), #[]⟩
def b913 : Obj := ⟨(vY x.t.a.a.a), none, (.seq #[(vS x.s.b.c.c 443), (vS x.s.a.g.g 444), (vS x.s.a.d.e 445)] 0), #[]⟩
def b915 : Obj := ⟨.none, none, (.func (fn (st 33) x.s.b.a.f 0 [] .none .none .none .none none .none .none 0)), #[]⟩
def b916 : Obj := ⟨(vY x.t.a.a.b), none, (.fields #[(vS x.s.b.a.f 440), (vS x.s.b.a.f 441), (vS x.s.a.a.b 442), (vI 90), (vI 1), vO, vO, (vI 3), (vr 203), (.bool true), (vI 181), (vr 204), .none, (vr 205), (vr 206), (vr 207), (vI 446), (vI 90), (vS x.s.a.a.b 447)]), #[]⟩
def b917 : Obj := ⟨(vY x.t.a.c.b), none, (.func (fn (st 33) x.s.b.a.f 3 [] .none .none .none (vS x.s.a.e.c 354) none (vr 208) .none 0)), #[]⟩
def b920 : Obj := ⟨.none, none, (.func (fn (st 34) x.s.b.a.g 0 [] .none .none .none .none none .none .none 0)), #[]⟩
def b921 : Obj := ⟨(vY x.t.a.a.b), none, (.fields #[(vS x.s.b.a.g 449), (vS x.s.b.a.g 450), (vS x.s.a.a.b 451), (vI 96), (vI 2), vO, vO, (vI 3), (vr 210), (.bool true), (vI 181), (vr 211), .none, .none, .none, (vr 212), (vI 452), (vI 96), (vS x.s.a.a.b 453)]), #[]⟩
def b922 : Obj := ⟨(vY x.t.a.c.b), none, (.func (fn (st 34) x.s.b.a.g 3 [] .none .none .none (vS x.s.a.e.c 354) none (vr 213) .none 0)), #[]⟩
def b925 : Obj := ⟨.none, none, (.func (fn (st 35) x.s.b.a.h 0 [] .none .none .none .none none .none .none 0)), #[]⟩
def b926 : Obj := ⟨(vY x.t.a.a.b), none, (.fields #[(vS x.s.b.a.h 455), (vS x.s.b.a.h 456), (vS x.s.a.a.b 457), (vI 98), (vI 3), vO, vO, (vI 3), (vr 215), (.bool true), (vI 181), (vr 216), .none, .none, .none, (vr 217), (vI 458), (vI 98), (vS x.s.a.a.b 459)]), #[]⟩
def b927 : Obj := ⟨(vY x.t.a.c.b), none, (.func (fn (st 35) x.s.b.a.h 3 [] .none .none .none (vS x.s.a.e.c 354) none (vr 218) .none 0)), #[]⟩
def b930 : Obj := ⟨.none, none, (.func (fn (st 36) x.s.b.b.a 0 [] .none .none .none .none none .none .none 0)), #[]⟩
def b931 : Obj := ⟨(vY x.t.a.a.b), none, (.fields #[(vS x.s.b.b.a 461), (vS x.s.b.b.a 462), (vS x.s.a.a.b 463), (vI 104), (vI 2), vO, vO, (vI 3), (vr 220), (.bool true), (vI 181), (vr 221), .none, .none, .none, (vr 222), (vI 464), (vI 104), (vS x.s.a.a.b 465)]), #[]⟩
def b932 : Obj := ⟨(vY x.t.a.c.b), none, (.func (fn (st 36) x.s.b.b.a 3 [] .none .none .none (vS x.s.a.e.c 354) none (vr 223) .none 0)), #[]⟩
def b935 : Obj := ⟨.none, none, (.func (fn (st 37) x.s.b.b.b 0 [] .none .none .none .none none .none .none 0)), #[]⟩
def b936 : Obj := ⟨(vY x.t.a.a.b), none, (.fields #[(vS x.s.b.b.b 467), (vS x.s.b.b.b 468), (vS x.s.a.a.b 469), (vI 113), (vI 3), vO, vO, (vI 3), (vr 225), (.bool true), (vI 181), (vr 226), .none, .none, .none, (vr 227), (vI 470), (vI 113), (vS x.s.a.a.b 471)]), #[]⟩
def b937 : Obj := ⟨(vY x.t.a.c.b), none, (.func (fn (st 37) x.s.b.b.b 3 [] .none .none .none (vS x.s.a.e.c 354) none (vr 228) .none 0)), #[]⟩
def b940 : Obj := ⟨.none, none, (.func (fn (st 38) x.s.b.b.c 0 [] .none .none .none .none none .none .none 0)), #[]⟩
def b941 : Obj := ⟨(vY x.t.a.a.b), none, (.fields #[(vS x.s.b.b.c 473), (vS x.s.b.b.c 474), (vS x.s.a.a.b 475), (vI 115), (vI 3), vO, vO, (vI 3), (vr 230), (.bool true), (vI 181), (vr 231), .none, .none, .none, (vr 232), (vI 476), (vI 115), (vS x.s.a.a.b 477)]), #[]⟩
def b942 : Obj := ⟨(vY x.t.a.c.b), none, (.func (fn (st 38) x.s.b.b.c 3 [] .none .none .none (vS x.s.a.e.c 354) none (vr 233) .none 0)), #[]⟩
def b945 : Obj := ⟨.none, none, (.func (fn (st 39) x.s.b.b.d 0 [] .none .none .none .none none .none .none 0)), #[]⟩
def b946 : Obj := ⟨(vY x.t.a.a.b), none, (.fields #[(vS x.s.b.b.d 479), (vS x.s.b.b.d 480), (vS x.s.a.a.b 481), (vI 128), (vI 2), vO, vO, (vI 3), (vr 235), (.bool true), (vI 181), (vr 236), .none, .none, .none, (vr 237), (vI 482), (vI 128), (vS x.s.a.a.b 483)]), #[]⟩
def b947 : Obj := ⟨(vY x.t.a.c.b), none, (.func (fn (st 39) x.s.b.b.d 3 [] .none .none .none (vS x.s.a.e.c 354) none (vr 238) .none 0)), #[]⟩
def b950 : Obj := ⟨.none, none, (.func (fn (st 40) x.s.b.b.e 0 [] .none .none .none .none none .none .none 0)), #[]⟩
def b951 : Obj := ⟨(vY x.t.a.a.b), none, (.fields #[(vS x.s.b.b.e 485), (vS x.s.b.b.e 486), (vS x.s.a.a.b 487), (vI 132), (vI 1), vO, vO, (vI 3), (vr 240), (.bool true), (vI 181), (vr 241), .none, .none, .none, (vr 242), (vI 488), (vI 132), (vS x.s.a.a.b 489)]), #[]⟩
def b952 : Obj := ⟨(vY x.t.a.c.b), none, (.func (fn (st 40) x.s.b.b.e 3 [] .none .none .none (vS x.s.a.e.c 354) none (vr 243) .none 0)), #[]⟩
def b955 : Obj := ⟨.none, none, (.func (fn (st 41) x.s.b.b.f 0 [] .none .none .none .none none .none .none 0)), #[]⟩
def b956 : Obj := ⟨(vY x.t.a.a.b), none, (.fields #[(vS x.s.b.b.f 491), (vS x.s.b.b.f 492), (vS x.s.a.a.b 493), (vI 135), (vI 2), vO, vO, (vI 3), (vr 245), (.bool true), (vI 181), (vr 246), .none, .none, .none, (vr 247), (vI 494), (vI 135), (vS x.s.a.a.b 495)]), #[]⟩
def b957 : Obj := ⟨(vY x.t.a.c.b), none, (.func (fn (st 41) x.s.b.b.f 3 [] .none .none .none (vS x.s.a.e.c 354) none (vr 248) .none 0)), #[]⟩
def b958 : Obj := ⟨(vY x.t.a.a.d), none, (.dict #[i70, i1, i2, i3, i4, i5, i6, i7, i8, i9, i16, i22, i29, i30, i31, i32, i33, i34, i41, i42, i43, i44, i45, i46, i47, i48, i49, i50, i51, i52, i53, i54, i55, i56, i57, i58, i59, i60, i61, i62, i63, i64, i65, i66, i67, i68, i69, i71, i72, i73, i74, i75, i76, i77, i78, i79, i80, i81, i82] 59), #[]⟩
def b959 : Obj := ⟨.none, none, (.fields #[(vI 2), vO, (vr 20), (vI 4), vO, (vr 33), (vI 6), vO, (vr 45), (vI 8), vO, (vr 57), (vI 11), vO, (vr 69), (vI 19), vO, (vr 76), (vI 26), vO, (vr 83), (vI 28), vO, (vr 90), (vI 30), vO, (vr 97), (vI 32), vO, (vr 104), (vI 34), vO, (vr 111), (vI 36), vO, (vr 116), (vI 41), vO, (vr 123), (vI 46), vO, (vr 128), (vI 50), vO, (vr 135), (vI 52), vO, (vr 142), (vI 59), vO, (vr 149), (vI 64), vO, (vr 154), (vI 67), vO, (vr 161), (vI 70), vO, (vr 168), (vI 75), vO, (vr 175), (vI 77), vO, (vr 182), (vI 80), vO, (vr 189), (vI 83), vO, (vr 194), (vI 85), vO, (vr 201), (vI 90), vO, (vr 208), (vI 96), vO, (vr 213), (vI 98), vO, (vr 218), (vI 104), vO, (vr 223), (vI 113), vO, (vr 228), (vI 115), vO, (vr 233), (vI 128), vO, (vr 238), (vI 132), vO, (vr 243), (vI 135), vO, (vr 248), (vI 137), vO, (vr 255), (vI 145), vO, (vr 262), (vI 148), vO, (vr 269), (vI 152), vO, (vr 276), (vI 157), vO, (vr 283), (vI 165), vO, (vr 290), (vI 172), vO, (vr 297), (vI 174), vO, (vr 304), (vI 181), vO, (vr 311), (vI 187), vO, (vr 318), (vI 194), vO, (vr 325), (vI 196), vO, (vr 332)]), #[]⟩
def b962 : Obj := ⟨(vY x.t.a.a.a), none, (.seq #[(vS x.s.b.e.a 500), (vS x.s.a.h.d 501), (vS x.s.b.e.b 502), (vS x.s.b.e.c 503)] 0), #[]⟩
def b964 : Obj := ⟨.none, none, (.func (fn (st 42) x.s.b.c.e 0 [] .none .none .none .none none .none .none 0)), #[]⟩
def b965 : Obj := ⟨(vY x.t.a.a.b), none, (.fields #[(vS x.s.b.c.e 497), (vS x.s.b.c.e 498), (vS x.s.a.a.b 499), (vI 137), (vI 2), vO, vO, (vI 3), (vr 250), (.bool true), (vI 181), (vr 251), .none, (vr 252), (vr 253), (vr 254), (vI 504), (vI 137), (vS x.s.a.a.b 505)]), #[]⟩
def b966 : Obj := ⟨(vY x.t.a.c.b), none, (.func (fn (st 42) x.s.b.c.e 3 [] .none .none .none (vS x.s.a.e.c 354) none (vr 255) .none 0)), #[]⟩
def b969 : Obj := ⟨(vY x.t.a.a.a), none, (.seq #[(vS x.s.b.e.d 512), (vS x.s.b.e.e 513), (vS x.s.b.e.f 514)] 0), #[]⟩
def b971 : Obj := ⟨.none, none, (.func (fn (st 44) x.s.b.c.f 0 [] .none .none .none .none none .none .none 0)), #[]⟩
def b972 : Obj := ⟨(vY x.t.a.a.b), none, (.fields #[(vS x.s.b.c.f 509), (vS x.s.b.c.f 510), (vS x.s.a.a.b 511), (vI 145), (vI 2), vO, vO, (vI 3), (vr 257), (.bool true), (vI 181), (vr 258), .none, (vr 259), (vr 260), (vr 261), (vI 515), (vI 145), (vS x.s.a.a.b 516)]), #[]⟩
def b973 : Obj := ⟨(vY x.t.a.c.b), none, (.func (fn (st 44) x.s.b.c.f 3 [] .none .none .none (vS x.s.b.c.d 507) none (vr 262) .none 0)), #[]⟩
def b976 : Obj := ⟨(vY x.t.a.a.a), none, (.seq #[(vS x.s.b.e.g 521), (vS x.s.b.e.e 522)] 0), #[]⟩
def b978 : Obj := ⟨.none, none, (.func (fn (st 45) x.s.b.c.g 0 [] .none .none .none .none none .none .none 0)), #[]⟩
def b979 : Obj := ⟨(vY x.t.a.a.b), none, (.fields #[(vS x.s.b.c.g 518), (vS x.s.b.c.g 519), (vS x.s.a.a.b 520), (vI 148), (vI 2), vO, vO, (vI 3), (vr 264), (.bool true), (vI 181), (vr 265), .none, (vr 266), (vr 267), (vr 268), (vI 523), (vI 148), (vS x.s.a.a.b 524)]), #[]⟩
def b980 : Obj := ⟨(vY x.t.a.c.b), none, (.func (fn (st 45) x.s.b.c.g 3 [] .none .none .none (vS x.s.b.c.d 507) none (vr 269) .none 0)), #[]⟩
def b983 : Obj := ⟨(vY x.t.a.a.a), none, (.seq #[(vS x.s.b.e.g 529), (vS x.s.b.e.e 530), (vS x.s.b.e.h 531)] 0), #[]⟩
def b985 : Obj := ⟨.none, none, (.func (fn (st 46) x.s.b.c.h 0 [] .none .none .none .none none .none .none 0)), #[]⟩
def b986 : Obj := ⟨(vY x.t.a.a.b), none, (.fields #[(vS x.s.b.c.h 526), (vS x.s.b.c.h 527), (vS x.s.a.a.b 528), (vI 152), (vI 2), vO, vO, (vI 3), (vr 271), (.bool true), (vI 181), (vr 272), .none, (vr 273), (vr 274), (vr 275), (vI 532), (vI 152), (vS x.s.a.a.b 533)]), #[]⟩
def b987 : Obj := ⟨(vY x.t.a.c.b), none, (.func (fn (st 46) x.s.b.c.h 3 [] .none .none .none (vS x.s.b.c.d 507) none (vr 276) .none 0)), #[]⟩
def b990 : Obj := ⟨(vY x.t.a.a.a), none, (.seq #[(vS x.s.b.f.a 538), (vS x.s.b.f.b 539), (vS x.s.b.e.f 540), (vS x.s.b.f.c 541)] 0), #[]⟩
def b992 : Obj := ⟨.none, none, (.func (fn (st 47) x.s.b.d.a 0 [] .none .none .none .none none .none .none 0)), #[]⟩
def b993 : Obj := ⟨(vY x.t.a.a.b), none, (.fields #[(vS x.s.b.d.a 535), (vS x.s.b.d.a 536), (vS x.s.a.a.b 537), (vI 157), (vI 2), vO, vO, (vI 3), (vr 278), (.bool true), (vI 181), (vr 279), .none, (vr 280), (vr 281), (vr 282), (vI 542), (vI 157), (vS x.s.a.a.b 543)]), #[]⟩
def b994 : Obj := ⟨(vY x.t.a.c.b), none, (.func (fn (st 47) x.s.b.d.a 3 [] .none .none .none (vS x.s.b.c.d 507) none (vr 283) .none 0)), #[]⟩
def b997 : Obj := ⟨(vY x.t.a.a.a), none, (.seq #[(vS x.s.b.f.a 548), (vS x.s.b.f.d 549), (vS x.s.b.f.e 550), (vS x.s.b.e.e 551), (vS x.s.b.f.f 552), (vS x.s.b.f.g 553)] 0), #[]⟩
def b999 : Obj := ⟨.none, none, (.func (fn (st 48) x.s.b.d.b 0 [] .none .none .none .none none .none .none 0)), #[]⟩
def znD : Obj := ⟨(vY x.t.a.a.b), none, (.fields #[(vS x.s.b.d.b 545), (vS x.s.b.d.b 546), (vS x.s.a.a.b 547), (vI 165), (vI 2), vO, vO, (vI 3), (vr 285), (.bool true), (vI 181), (vr 286), .none, (vr 287), (vr 288), (vr 289), (vI 554), (vI 165), (vS x.s.a.a.b 555)]), #[]⟩
def zm3 : Obj := ⟨(vY x.t.a.c.b), none, (.func (fn (st 48) x.s.b.d.b 3 [] .none .none .none (vS x.s.b.c.d 507) none (vr 290) .none 0)), #[]⟩
def zns : Obj := ⟨(vY x.t.a.a.a), none, (.seq #[(vS x.s.b.f.h 560)] 0), #[]⟩
def znK : Obj := ⟨.none, none, (.func (fn (st 49) x.s.b.d.c 0 [] .none .none .none .none none .none .none 0)), #[]⟩
def zok : Obj := ⟨(vY x.t.a.a.b), none, (.fields #[(vS x.s.b.d.c 557), (vS x.s.b.d.c 558), (vS x.s.a.a.b 559), (vI 172), (vI 1), vO, vO, (vI 3), (vr 292), (.bool true), (vI 181), (vr 293), .none, (vr 294), (vr 295), (vr 296), (vI 561), (vI 172), (vS x.s.a.a.b 562)]), #[]⟩
def znh : Obj := ⟨(vY x.t.a.c.b), none, (.func (fn (st 49) x.s.b.d.c 3 [] .none .none .none (vS x.s.b.c.d 507) none (vr 297) .none 0)), #[]⟩
def zni : Obj := ⟨(vY x.t.a.a.a), none, (.seq #[(vS x.s.b.f.h 567), (vS x.s.b.g.a 568), (vS x.s.b.g.b 569)] 0), #[]⟩
def znb : Obj := ⟨.none, none, (.func (fn (st 50) x.s.b.d.d 0 [] .none .none .none .none none .none .none 0)), #[]⟩
def znN : Obj := ⟨(vY x.t.a.a.b), none, (.fields #[(vS x.s.b.d.d 564), (vS x.s.b.d.d 565), (vS x.s.a.a.b 566), (vI 174), (vI 1), vO, vO, (vI 3), (vr 299), (.bool true), (vI 181), (vr 300), .none, (vr 301), (vr 302), (vr 303), (vI 570), (vI 174), (vS x.s.a.a.b 571)]), #[]⟩
def znQ : Obj := ⟨(vY x.t.a.c.b), none, (.func (fn (st 50) x.s.b.d.d 3 [] .none .none .none (vS x.s.b.c.d 507) none (vr 304) .none 0)), #[]⟩
def znG : Obj := ⟨(vY x.t.a.a.a), none, (.seq #[(vS x.s.b.g.c 576), (vS x.s.b.g.d 577), (vS x.s.b.g.a 578), (vS x.s.b.g.b 579)] 0), #[]⟩
def zoi : Obj := ⟨.none, none, (.func (fn (st 51) x.s.b.d.e 0 [] .none .none .none .none none .none .none 0)), #[]⟩
def zmZ : Obj := ⟨(vY x.t.a.a.b), none, (.fields #[(vS x.s.b.d.e 573), (vS x.s.b.d.e 574), (vS x.s.a.a.b 575), (vI 181), (vI 2), vO, vO, (vI 3), (vr 306), (.bool true), (vI 181), (vr 307), .none, (vr 308), (vr 309), (vr 310), (vI 580), (vI 181), (vS x.s.a.a.b 581)]), #[]⟩
def znf : Obj := ⟨(vY x.t.a.c.b), none, (.func (fn (st 51) x.s.b.d.e 3 [] .none .none .none (vS x.s.b.c.d 507) none (vr 311) .none 0)), #[]⟩
def zne : Obj := ⟨(vY x.t.a.a.a), none, (.seq #[(vS x.s.b.g.e 586), (vS x.s.b.g.f 587), (vS x.s.b.g.c 588), (vS x.s.b.g.d 589), (vS x.s.b.g.g 590)] 0), #[]⟩
def zm1 : Obj := ⟨.none, none, (.func (fn (st 52) x.s.b.d.f 0 [] .none .none .none .none none .none .none 0)), #[]⟩
def znM : Obj := ⟨(vY x.t.a.a.b), none, (.fields #[(vS x.s.b.d.f 583), (vS x.s.b.d.f 584), (vS x.s.a.a.b 585), (vI 187), (vI 2), vO, vO, (vI 3), (vr 313), (.bool true), (vI 181), (vr 314), .none, (vr 315), (vr 316), (vr 317), (vI 591), (vI 187), (vS x.s.a.a.b 592)]), #[]⟩
def znA : Obj := ⟨(vY x.t.a.c.b), none, (.func (fn (st 52) x.s.b.d.f 3 [] .none .none .none (vS x.s.b.c.d 507) none (vr 318) .none 0)), #[]⟩
def zof : Obj := ⟨(vY x.t.a.a.a), none, (.seq #[(vS x.s.b.g.a 597), (vS x.s.b.g.b 598)] 0), #[]⟩
def zoa : Obj := ⟨.none, none, (.func (fn (st 53) x.s.b.d.g 0 [] .none .none .none .none none .none .none 0)), #[]⟩
def znd : Obj := ⟨(vY x.t.a.a.b), none, (.fields #[(vS x.s.b.d.g 594), (vS x.s.b.d.g 595), (vS x.s.a.a.b 596), (vI 194), (vI 2), vO, vO, (vI 3), (vr 320), (.bool true), (vI 181), (vr 321), .none, (vr 322), (vr 323), (vr 324), (vI 599), (vI 194), (vS x.s.a.a.b 600)]), #[]⟩
def znX : Obj := ⟨(vY x.t.a.c.b), none, (.func (fn (st 53) x.s.b.d.g 3 [] .none .none .none (vS x.s.b.c.d 507) none (vr 325) .none 0)), #[]⟩
def zm4 : Obj := ⟨(vY x.t.a.a.a), none, (.seq #[(vS x.s.b.g.a 605), (vS x.s.b.g.b 606)] 0), #[]⟩
def znj : Obj := ⟨.none, none, (.func (fn (st 54) x.s.b.d.h 0 [] .none .none .none .none none .none .none 0)), #[]⟩
def zoj : Obj := ⟨(vY x.t.a.a.b), none, (.fields #[(vS x.s.b.d.h 602), (vS x.s.b.d.h 603), (vS x.s.a.a.b 604), (vI 196), (vI 2), vO, vO, (vI 3), (vr 327), (.bool true), (vI 181), (vr 328), .none, (vr 329), (vr 330), (vr 331), (vI 607), (vI 196), (vS x.s.a.a.b 608)]), #[]⟩
def zm0 : Obj := ⟨(vY x.t.a.c.b), none, (.func (fn (st 54) x.s.b.d.h 3 [] .none .none .none (vS x.s.b.c.d 507) none (vr 332) .none 0)), #[]⟩
def zpB : Obj := ⟨(vY x.t.a.a.d), none, (.dict #[i70, i1, i2, i3, i4, i5, i6, i7, i8, i9, i16, i22, i29, i30, i31, i32, i33, i34, i41, i42, i43, i44, i45, i46, i47, i48, i49, i50, i51, i52, i53, i54, i55, i56, i57, i58, i59, i60, i61, i62, i63, i64, i65, i66, i67, i68, i69, i71, i72, i73, i74, i75, i76, i77, i78, i79, i80, i81, i82, i83, i84, i85, i86, i87, i88, i89, i90, i91, i92, i93] 70), #[]⟩
def zpX : Obj := ⟨.none, none, (.fields #[(vI 2), vO, (vr 20), (vI 4), vO, (vr 33), (vI 6), vO, (vr 45), (vI 8), vO, (vr 57), (vI 11), vO, (vr 69), (vI 19), vO, (vr 76), (vI 26), vO, (vr 83), (vI 28), vO, (vr 90), (vI 30), vO, (vr 97), (vI 32), vO, (vr 104), (vI 34), vO, (vr 111), (vI 36), vO, (vr 116), (vI 41), vO, (vr 123), (vI 46), vO, (vr 128), (vI 50), vO, (vr 135), (vI 52), vO, (vr 142), (vI 59), vO, (vr 149), (vI 64), vO, (vr 154), (vI 67), vO, (vr 161), (vI 70), vO, (vr 168), (vI 75), vO, (vr 175), (vI 77), vO, (vr 182), (vI 80), vO, (vr 189), (vI 83), vO, (vr 194), (vI 85), vO, (vr 201), (vI 90), vO, (vr 208), (vI 96), vO, (vr 213), (vI 98), vO, (vr 218), (vI 104), vO, (vr 223), (vI 113), vO, (vr 228), (vI 115), vO, (vr 233), (vI 128), vO, (vr 238), (vI 132), vO, (vr 243), (vI 135), vO, (vr 248), (vI 137), vO, (vr 255), (vI 145), vO, (vr 262), (vI 148), vO, (vr 269), (vI 152), vO, (vr 276), (vI 157), vO, (vr 283), (vI 165), vO, (vr 290), (vI 172), vO, (vr 297), (vI 174), vO, (vr 304), (vI 181), vO, (vr 311), (vI 187), vO, (vr 318), (vI 194), vO, (vr 325), (vI 196), vO, (vr 332), (vI 198), vO, (vr 337), (vI 202), vO, (vr 342), (vI 204), vO, (vr 347), (vI 211), vO, (vr 352), (vI 221), vO, (vr 357), (vI 225), vO, (vr 364), (vI 233), vO, (vr 369), (vI 248), vO, (vr 376), (vI 253), vO, (vr 383), (vI 262), vO, (vr 390), (vI 271), vO, (vr 395)]), #[]⟩
def zpP : Obj := ⟨.none, none, (.func (fn (st 55) x.s.b.g.h 0 [] .none .none .none .none none .none .none 0)), #[]⟩
def zqs : Obj := ⟨(vY x.t.a.a.b), none, (.fields #[(vS x.s.b.g.h 610), (vS x.s.b.g.h 611), (vS x.s.a.a.b 612), (vI 198), (vI 2), vO, vO, (vI 3), (vr 334), (.bool true), (vI 181), (vr 335), .none, .none, .none, (vr 336), (vI 613), (vI 198), (vS x.s.a.a.b 614)]), #[]⟩
def zoW : Obj := ⟨(vY x.t.a.c.b), none, (.func (fn (st 55) x.s.b.g.h 3 [] .none .none .none (vS x.s.b.c.d 507) none (vr 337) .none 0)), #[]⟩
def zqP : Obj := ⟨.none, none, (.func (fn (st 56) x.s.b.h.a 0 [] .none .none .none .none none .none .none 0)), #[]⟩
def zpL : Obj := ⟨(vY x.t.a.a.b), none, (.fields #[(vS x.s.b.h.a 616), (vS x.s.b.h.a 617), (vS x.s.a.a.b 618), (vI 202), (vI 2), vO, vO, (vI 3), (vr 339), (.bool true), (vI 181), (vr 340), .none, .none, .none, (vr 341), (vI 619), (vI 202), (vS x.s.a.a.b 620)]), #[]⟩
def zpj : Obj := ⟨(vY x.t.a.c.b), none, (.func (fn (st 56) x.s.b.h.a 3 [] .none .none .none (vS x.s.b.c.d 507) none (vr 342) .none 0)), #[]⟩
def zqQ : Obj := ⟨.none, none, (.func (fn (st 57) x.s.b.h.b 0 [] .none .none .none .none none .none .none 0)), #[]⟩
def zpU : Obj := ⟨(vY x.t.a.a.b), none, (.fields #[(vS x.s.b.h.b 622), (vS x.s.b.h.b 623), (vS x.s.a.a.b 624), (vI 204), (vI 3), vO, vO, (vI 3), (vr 344), (.bool true), (vI 181), (vr 345), .none, .none, .none, (vr 346), (vI 625), (vI 204), (vS x.s.a.a.b 626)]), #[]⟩
def zqz : Obj := ⟨(vY x.t.a.c.b), none, (.func (fn (st 57) x.s.b.h.b 3 [] .none .none .none (vS x.s.b.c.d 507) none (vr 347) .none 0)), #[]⟩
def zqR : Obj := ⟨.none, none, (.func (fn (st 58) x.s.b.h.c 0 [] .none .none .none .none none .none .none 0)), #[]⟩
def zqj : Obj := ⟨(vY x.t.a.a.b), none, (.fields #[(vS x.s.b.h.c 628), (vS x.s.b.h.c 629), (vS x.s.a.a.b 630), (vI 211), (vI 3), vO, vO, (vI 3), (vr 349), (.bool true), (vI 181), (vr 350), .none, .none, .none, (vr 351), (vI 631), (vI 211), (vS x.s.a.a.b 632)]), #[]⟩
def zoV : Obj := ⟨(vY x.t.a.c.b), none, (.func (fn (st 58) x.s.b.h.c 3 [] .none .none .none (vS x.s.b.c.d 507) none (vr 352) .none 0)), #[]⟩
def zps : Obj := ⟨.none, none, (.func (fn (st 59) x.s.b.h.d 0 [] .none .none .none .none none .none .none 0)), #[]⟩
def zo7 : Obj := ⟨(vY x.t.a.a.b), none, (.fields #[(vS x.s.b.h.d 634), (vS x.s.b.h.d 635), (vS x.s.a.a.b 636), (vI 221), (vI 4), vO, vO, (vI 3), (vr 354), (.bool true), (vI 181), (vr 355), .none, .none, .none, (vr 356), (vI 637), (vI 221), (vS x.s.a.a.b 638)]), #[]⟩
def zpx : Obj := ⟨(vY x.t.a.c.b), none, (.func (fn (st 59) x.s.b.h.d 3 [] .none .none .none (vS x.s.b.c.d 507) none (vr 357) .none 0)), #[]⟩
def zqp : Obj := ⟨(vY x.t.a.a.a), none, (.seq #[(vS x.s.b.g.e 643), (vS x.s.c.a.c 644), (vS x.s.c.a.d 645), (vS x.s.c.a.e 646), (vS x.s.c.a.f 647), (vS x.s.c.a.g 648), (vS x.s.b.g.c 649), (vS x.s.b.g.d 650)] 0), #[]⟩
def zo8 : Obj := ⟨.none, none, (.func (fn (st 60) x.s.b.h.e 0 [] .none .none .none .none none .none .none 0)), #[]⟩
def zqF : Obj := ⟨(vY x.t.a.a.b), none, (.fields #[(vS x.s.b.h.e 640), (vS x.s.b.h.e 641), (vS x.s.a.a.b 642), (vI 225), (vI 4), vO, vO, (vI 3), (vr 359), (.bool true), (vI 181), (vr 360), .none, (vr 361), (vr 362), (vr 363), (vI 651), (vI 225), (vS x.s.a.a.b 652)]), #[]⟩
def zqk : Obj := ⟨(vY x.t.a.c.b), none, (.func (fn (st 60) x.s.b.h.e 3 [] .none .none .none (vS x.s.b.c.d 507) none (vr 364) .none 0)), #[]⟩
def zo5 : Obj := ⟨.none, none, (.func (fn (st 61) x.s.b.h.f 0 [] .none .none .none .none none .none .none 0)), #[]⟩
def zqN : Obj := ⟨(vY x.t.a.a.b), none, (.fields #[(vS x.s.b.h.f 654), (vS x.s.b.h.f 655), (vS x.s.a.a.b 656), (vI 233), (vI 4), vO, vO, (vI 3), (vr 366), (.bool true), (vI 181), (vr 367), .none, .none, .none, (vr 368), (vI 657), (vI 233), (vS x.s.a.a.b 658)]), #[]⟩
def zph : Obj := ⟨(vY x.t.a.c.b), none, (.func (fn (st 61) x.s.b.h.f 3 [] .none .none .none (vS x.s.b.c.d 507) none (vr 369) .none 0)), #[]⟩
def zpn : Obj := ⟨(vY x.t.a.a.a), none, (.seq #[(vS x.s.b.f.a 663), (vS x.s.b.g.f 664), (vS x.s.b.g.g 665), (vS x.s.b.e.e 666)] 0), #[]⟩
def zp2 : Obj := ⟨.none, none, (.func (fn (st 62) x.s.b.h.g 0 [] .none .none .none .none none .none .none 0)), #[]⟩
def zqg : Obj := ⟨(vY x.t.a.a.b), none, (.fields #[(vS x.s.b.h.g 660), (vS x.s.b.h.g 661), (vS x.s.a.a.b 662), (vI 248), (vI 2), vO, vO, (vI 3), (vr 371), (.bool true), (vI 181), (vr 372), .none, (vr 373), (vr 374), (vr 375), (vI 667), (vI 248), (vS x.s.a.a.b 668)]), #[]⟩
def zqO : Obj := ⟨(vY x.t.a.c.b), none, (.func (fn (st 62) x.s.b.h.g 3 [] .none .none .none (vS x.s.b.c.d 507) none (vr 376) .none 0)), #[]⟩
def zqf : Obj := ⟨(vY x.t.a.a.a), none, (.seq #[(vS x.s.b.f.a 673), (vS x.s.c.a.h 674), (vS x.s.c.b.a 675), (vS x.s.c.b.b 676), (vS x.s.b.e.e 677), (vS x.s.b.f.f 678), (vS x.s.c.b.c 679), (vS x.s.b.f.g 680), (vS x.s.c.b.d 681), (vS x.s.c.b.e 682), (vS x.s.c.b.f 683), (vS x.s.c.b.g 684)] 0), #[]⟩
def zpa : Obj := ⟨.none, none, (.func (fn (st 63) x.s.b.h.h 0 [] .none .none .none .none none .none .none 0)), #[]⟩
def zpr : Obj := ⟨(vY x.t.a.a.b), none, (.fields #[(vS x.s.b.h.h 670), (vS x.s.b.h.h 671), (vS x.s.a.a.b 672), (vI 253), (vI 4), vO, vO, (vI 3), (vr 378), (.bool true), (vI 181), (vr 379), .none, (vr 380), (vr 381), (vr 382), (vI 685), (vI 253), (vS x.s.a.a.b 686)]), #[]⟩
def zpD : Obj := ⟨(vY x.t.a.c.b), none, (.func (fn (st 63) x.s.b.h.h 3 [] .none .none .none (vS x.s.b.c.d 507) none (vr 383) .none 0)), #[]⟩
def zpY : Obj := ⟨(vY x.t.a.a.a), none, (.seq #[(vS x.s.b.g.e 691), (vS x.s.b.g.f 692), (vS x.s.c.b.a 693), (vS x.s.c.b.h 694), (vS x.s.c.c.a 695), (vS x.s.b.g.c 696), (vS x.s.b.g.d 697), (vS x.s.c.c.b 698), (vS x.s.c.c.c 699), (vS x.s.c.c.d 700)] 0), #[]⟩
def zpC : Obj := ⟨.none, none, (.func (fn (st 64) x.s.c.a.a 0 [] .none .none .none .none none .none .none 0)), #[]⟩
def zpT : Obj := ⟨(vY x.t.a.a.b), none, (.fields #[(vS x.s.c.a.a 688), (vS x.s.c.a.a 689), (vS x.s.a.a.b 690), (vI 262), (vI 3), vO, vO, (vI 3), (vr 385), (.bool true), (vI 181), (vr 386), .none, (vr 387), (vr 388), (vr 389), (vI 701), (vI 262), (vS x.s.a.a.b 702)]), #[]⟩
def zpF : Obj := ⟨(vY x.t.a.c.b), none, (.func (fn (st 64) x.s.c.a.a 3 [] .none .none .none (vS x.s.b.c.d 507) none (vr 390) .none 0)), #[]⟩
def zpO : Obj := ⟨.none, none, (.func (fn (st 65) x.s.c.a.b 0 [] .none .none .none .none none .none .none 0)), #[]⟩
def zqb : Obj := ⟨(vY x.t.a.a.b), none, (.fields #[(vS x.s.c.a.b 704), (vS x.s.c.a.b 705), (vS x.s.a.a.b 706), (vI 271), (vI 1), vO, vO, (vI 3), (vr 392), (.bool true), (vI 181), (vr 393), .none, .none, .none, (vr 394), (vI 707), (vI 271), (vS x.s.a.a.b 708)]), #[]⟩
def zqJ : Obj := ⟨(vY x.t.a.c.b), none, (.func (fn (st 65) x.s.c.a.b 3 [] .none .none .none (vS x.s.b.c.d 507) none (vr 395) .none 0)), #[]⟩
def m705 : Heap := ⟨⟨[x.r.a.a.a, x.r.a.a.b, x.r.a.a.c, x.r.a.a.d, x.r.a.a.e, x.r.a.a.f, x.r.a.a.g, x.r.a.a.h, x.r.a.b.a, x.r.a.b.b, x.r.a.b.c, zai, zas, zk9, zk2]⟩, ⟨[], [], [], 0, [], [], false, #[], [], 0, false, false, false, 0, [2000, 10, 10], false, 0, true, [], [], 0, false⟩⟩
def m706 : W.BT := (N x.r.a.a.a (N x.r.a.a.b (N x.r.a.a.d (L x.r.a.a.h) (L zai)) (N x.r.a.a.f (L x.r.a.b.b) (L zk9))) (N x.r.a.a.c (N x.r.a.a.e (L x.r.a.b.a) (L zas)) (N x.r.a.a.g (L x.r.a.b.c) (L zk2))))
def m722 : W.BT := (N x.r.a.a.a (N x.r.a.a.b (N b708 (N x.r.a.a.h (L zlY) (L zlT)) (N zai (L zas) (L zln))) (N x.r.a.a.f (N x.r.a.b.b (L zl1) (L zmd)) (N zk9 (L zlh) z))) (N x.r.a.a.c (N x.r.a.a.e (N x.r.a.b.a (L zdV) (L b719)) (N b709 (L zmj) z)) (N x.r.a.a.g (N x.r.a.b.c (L zai) (L zlf)) (N zk2 (L zai) z))))
def m737 : W.BT := (N x.r.a.a.a (N x.r.a.a.b (N b723 (N x.r.a.a.h (N zlY (L zai) z) (N zlT (L zmY) z)) (N zai (N zas (L zai) z) (L zln))) (N x.r.a.a.f (N x.r.a.b.b (N zl1 (L zmT) z) (L zmd)) (N zk9 (N zlh (L zmW) z) (L zdV)))) (N x.r.a.a.c (N x.r.a.a.e (N x.r.a.b.a (N zdV (L zas) z) (L b725)) (N b724 (N zmj (L zmP) z) (L zfw))) (N x.r.a.a.g (N x.r.a.b.c (N zai (L zmU) z) (L zlf)) (N zk2 (N zai (L zmw) z) (L zmI)))))
def m752 : W.BT := (N x.r.a.a.a (N x.r.a.a.b (N b738 (N x.r.a.a.h (N zlY (L zai) (L zai)) (N zlT (L zmY) z)) (N zai (N zas (L zai) (L znn)) (N zln (L zai) z))) (N x.r.a.a.f (N x.r.a.b.b (N zl1 (L zmT) (L znJ)) (N zmd (L zdV) z)) (N zk9 (N zlh (L zmW) z) (N zdV (L znt) z)))) (N x.r.a.a.c (N x.r.a.a.e (N x.r.a.b.a (N zdV (L zas) (L znr)) (N b740 (L zfw) z)) (N b739 (N zmj (L zmP) z) (N zfw (L zas) z))) (N x.r.a.a.g (N x.r.a.b.c (N zai (L zmU) (L zm9)) (N zlf (L zob) z)) (N zk2 (N zai (L zmw) z) (N zmI (L zna) z)))))
def m802 : W.BT := (N x.r.a.a.a (N x.r.a.a.b (N b753 (N x.r.a.a.h (N zlY (N zai (L zoI) (L zai)) (N zai (L zas) z)) (N zlT (N zmY (L zai) z) (N zai (L zoS) z))) (N zai (N zas (N zai (L zai) z) (N znn (L zoJ) z)) (N zln (N zai (L zoM) z) (N zai (L zot) z)))) (N x.r.a.a.f (N x.r.a.b.b (N zl1 (N zmT (L zas) (L zoH)) (N znJ (L zai) z)) (N zmd (N zdV (L zou) z) (N zoA (L zoE) z))) (N zk9 (N zlh (N zmW (L zov) z) (N zdV (L zai) z)) (N zdV (N znt (L zoD) z) (N zoq (L zas) z))))) (N x.r.a.a.c (N x.r.a.a.e (N x.r.a.b.a (N zdV (N zas (L zai) (L zoy)) (N znr (L zoo) z)) (N zos (N zfw (L zas) z) (N zas (L zai) z))) (N b754 (N zmj (N zmP (L zow) z) (N zfw (L zoT) z)) (N zfw (N zas (L zoz) z) (N zor (L zai) z)))) (N x.r.a.a.g (N x.r.a.b.c (N zai (N zmU (L zon) (L zoN)) (N zm9 (L zoO) z)) (N zlf (N zob (L zai) z) (N zox (L zoK) z))) (N zk2 (N zai (N zmw (L zoR) z) (N zop (L zas) z)) (N zmI (N zna (L zai) z) (N zoF (L zoG) z))))))
def m875 : W.BT := (N x.r.a.a.a (N x.r.a.a.b (N b803 (N x.r.a.a.h (N zlY (N zai (N zoI (L zpZ) z) (N zai (L zai) z)) (N zai (N zas (L zpW) z) (L zql))) (N zlT (N zmY (N zai (L zqA) z) (N zqu (L zqC) z)) (N zai (N zoS (L zai) z) (L zas)))) (N zai (N zas (N zai (N zai (L zas) z) (N zai (L zai) z)) (N znn (N zoJ (L zai) z) (L zqw))) (N zln (N zai (N zoM (L zpq) z) (L zas)) (N zai (N zot (L zqy) z) (L zoZ))))) (N x.r.a.a.f (N x.r.a.b.b (N zl1 (N zmT (N zas (L zpI) z) (N zoH (L zpd) z)) (N znJ (N zai (L zas) z) (L zai))) (N zmd (N zdV (N zou (L zai) z) (N zqK (L zpm) z)) (N zoA (N zoE (L zqh) z) (L zai)))) (N zk9 (N zlh (N zmW (N zov (L zai) z) (N zpv (L zqW) z)) (N zdV (N zai (L zpG) z) (L zpf))) (N zdV (N znt (N zoD (L zqH) z) (L zai)) (N zoq (N zas (L zas) z) (L zai)))))) (N x.r.a.a.c (N x.r.a.a.e (N x.r.a.b.a (N zdV (N zas (N zai (L zpb) z) (N zoy (L zo1) z)) (N znr (N zoo (L zai) z) (L zpR))) (N zos (N zfw (N zas (L zpK) z) (N zqm (L zp3) z)) (N zas (N zai (L zas) z) (L zpe)))) (N b804 (N zmj (N zmP (N zow (L zp5) z) (N zas (L zas) z)) (N zfw (N zoT (L zoU) z) (L zqe))) (N zfw (N zas (N zoz (L zai) z) (L zqT)) (N zor (N zai (L zai) z) (L zo4))))) (N x.r.a.a.g (N x.r.a.b.c (N zai (N zmU (N zon (L zai) z) (N zoN (L zqV) z)) (N zm9 (N zoO (L zpw) z) (L zas))) (N zlf (N zob (N zai (L zas) z) (L zai)) (N zox (N zoK (L zpy) z) (L zqS)))) (N zk2 (N zai (N zmw (N zoR (L zqr) z) (N zai (L zai) z)) (N zop (N zas (L zqD) z) (L zai))) (N zmI (N zna (N zai (L zqq) z) (L zqc)) (N zoF (N zoG (L zpc) z) (L zas)))))))
def m957 : W.BT := (N x.r.a.a.a (N x.r.a.a.b (N b876 (N x.r.a.a.h (N zlY (N zai (N zoI (L zpZ) (L zai)) (N zai (L zai) (L b931))) (N zai (N zas (L zpW) (L b915)) (N zql (L b883) (L b947)))) (N zlT (N zmY (N zai (L zqA) (L zai)) (N zqu (L zqC) (L zas))) (N zai (N zoS (L zai) (L zai)) (N zas (L b891) (L b955))))) (N zai (N zas (N zai (N zai (L zas) (L b903)) (N zai (L zai) (L b935))) (N znn (N zoJ (L zai) (L zas)) (N zqw (L b887) (L b951)))) (N zln (N zai (N zoM (L zpq) (L zai)) (N zas (L zas) (L zai))) (N zai (N zot (L zqy) (L b927)) (N zoZ (L zai) z))))) (N x.r.a.a.f (N x.r.a.b.b (N zl1 (N zmT (N zas (L zpI) (L b901)) (N zoH (L zpd) (L zai))) (N znJ (N zai (L zas) (L b917)) (N zai (L zai) (L zas)))) (N zmd (N zdV (N zou (L zai) (L b909)) (N zqK (L zpm) (L b941))) (N zoA (N zoE (L zqh) (L b925)) (N zai (L zas) (L b957))))) (N zk9 (N zlh (N zmW (N zov (L zai) (L zas)) (N zpv (L zqW) (L b937))) (N zdV (N zai (L zpG) (L b921)) (N zpf (L b889) (L zai)))) (N zdV (N znt (N zoD (L zqH) (L b913)) (N zai (L zai) (L b945))) (N zoq (N zas (L zas) (L zas)) (N zai (L b897) z)))))) (N x.r.a.a.c (N x.r.a.a.e (N x.r.a.b.a (N zdV (N zas (N zai (L zpb) (L zas)) (N zoy (L zo1) (L b932))) (N znr (N zoo (L zai) (L b916)) (N zpR (L b884) (L zai)))) (N zos (N zfw (N zas (L zpK) (L b908)) (N zqm (L zp3) (L b940))) (N zas (N zai (L zas) (L zas)) (N zpe (L zai) (L b956))))) (N b877 (N zmj (N zmP (N zow (L zp5) (L zai)) (N zas (L zas) (L b936))) (N zfw (N zoT (L zoU) (L b920)) (N zqe (L zai) (L b952)))) (N zfw (N zas (N zoz (L zai) (L zas)) (N zqT (L b880) (L zas))) (N zor (N zai (L zai) (L zai)) (N zo4 (L b896) z))))) (N x.r.a.a.g (N x.r.a.b.c (N zai (N zmU (N zon (L zai) (L b902)) (N zoN (L zqV) (L zas))) (N zm9 (N zoO (L zpw) (L zai)) (N zas (L zas) (L b950)))) (N zlf (N zob (N zai (L zas) (L b910)) (N zai (L zai) (L b942))) (N zox (N zoK (L zpy) (L b926)) (N zqS (L b894) z)))) (N zk2 (N zai (N zmw (N zoR (L zqr) (L b906)) (N zai (L zai) (L zai))) (N zop (N zas (L zqD) (L b922)) (N zai (L b890) (L zas)))) (N zmI (N zna (N zai (L zqq) (L zai)) (N zqc (L b882) (L b946))) (N zoF (N zoG (L zpc) (L b930)) (N zas (L b898) z)))))))
def m1043 : W.BT := (N x.r.a.a.a (N x.r.a.a.b (N b958 (N x.r.a.a.h (N zlY (N zai (N zoI (N zpZ (L b965) z) (N zai (L znA) z)) (N zai (N zai (L b997) z) (L b931))) (N zai (N zas (N zpW (L zai) z) (L b915)) (N zql (N b883 (L znb) z) (L b947)))) (N zlT (N zmY (N zai (N zqA (L b973) z) (N zai (L zai) z)) (N zqu (N zqC (L zai) z) (L zas))) (N zai (N zoS (N zai (L zas) z) (L zai)) (N zas (N b891 (L zmZ) z) (L b955))))) (N zai (N zas (N zai (N zai (N zas (L b969) z) (N b903 (L zai) z)) (N zai (N zai (L zm3) z) (L b935))) (N znn (N zoJ (N zai (L b985) z) (L zas)) (N zqw (N b887 (L zas) z) (L b951)))) (N zln (N zai (N zoM (N zpq (L zai) z) (N zai (L znj) z)) (N zas (N zas (L zai) z) (L zai))) (N zai (N zot (N zqy (L b993) z) (L b927)) (N zoZ (N zai (L zne) z) (L zas)))))) (N x.r.a.a.f (N x.r.a.b.b (N zl1 (N zmT (N zas (N zpI (L zai) z) (N b901 (L zas) z)) (N zoH (N zpd (L b999) z) (L zai))) (N znJ (N zai (N zas (L b983) z) (L b917)) (N zai (N zai (L znQ) z) (L zas)))) (N zmd (N zdV (N zou (N zai (L zas) z) (N b909 (L zm4) z)) (N zqK (N zpm (L zok) z) (L b941))) (N zoA (N zoE (N zqh (L zai) z) (L b925)) (N zai (N zas (L zai) z) (L b957))))) (N zk9 (N zlh (N zmW (N zov (N zai (L b971) z) (N zas (L znd) z)) (N zpv (N zqW (L zas) z) (L b937))) (N zdV (N zai (N zpG (L b987) z) (L b921)) (N zpf (N b889 (L zai) z) (L zai)))) (N zdV (N znt (N zoD (N zqH (L b979) z) (N b913 (L zm0) z)) (N zai (N zai (L zni) z) (L b945))) (N zoq (N zas (N zas (L zai) z) (L zas)) (N zai (N b897 (L zm1) z) (L zai))))))) (N x.r.a.a.c (N x.r.a.a.e (N x.r.a.b.a (N zdV (N zas (N zai (N zpb (L b966) z) (N zas (L zai) z)) (N zoy (N zo1 (L zai) z) (L b932))) (N znr (N zoo (N zai (L zas) z) (L b916)) (N zpR (N b884 (L znN) z) (L zai)))) (N zos (N zfw (N zas (N zpK (L zai) z) (N b908 (L zas) z)) (N zqm (N zp3 (L znK) z) (L b940))) (N zas (N zai (N zas (L b990) z) (L zas)) (N zpe (N zai (L znf) z) (L b956))))) (N b959 (N zmj (N zmP (N zow (N zp5 (L zai) z) (N zai (L zoa) z)) (N zas (N zas (L zai) z) (L b936))) (N zfw (N zoT (N zoU (L b986) z) (L b920)) (N zqe (N zai (L znG) z) (L b952)))) (N zfw (N zas (N zoz (N zai (L b978) z) (N zas (L zoj) z)) (N zqT (N b880 (L zas) z) (L zas))) (N zor (N zai (N zai (L b994) z) (L zai)) (N zo4 (N b896 (L zai) z) (L b962)))))) (N x.r.a.a.g (N x.r.a.b.c (N zai (N zmU (N zon (N zai (L zas) z) (N b902 (L zof) z)) (N zoN (N zqV (L znD) z) (L zas))) (N zm9 (N zoO (N zpw (L zai) z) (L zai)) (N zas (N zas (L zai) z) (L b950)))) (N zlf (N zob (N zai (N zas (L b976) z) (N b910 (L zai) z)) (N zai (N zai (L znh) z) (L b942))) (N zox (N zoK (N zpy (L b992) z) (L b926)) (N zqS (N b894 (L zas) z) (L zai))))) (N zk2 (N zai (N zmw (N zoR (N zqr (L b972) z) (N b906 (L znX) z)) (N zai (N zai (L zns) z) (L zai))) (N zop (N zas (N zqD (L zai) z) (L b922)) (N zai (N b890 (L zoi) z) (L zas)))) (N zmI (N zna (N zai (N zqq (L b980) z) (L zai)) (N zqc (N b882 (L zai) z) (L b946))) (N zoF (N zoG (N zpc (L zas) z) (L b930)) (N zas (N b898 (L znM) z) (L b964))))))))
def m1108 : W.BT := (N x.r.a.a.a (N x.r.a.a.b (N zpB (N x.r.a.a.h (N zlY (N zai (N zoI (N zpZ (L b965) (L zpr)) (N zai (L znA) z)) (N zai (N zai (L b997) z) (N b931 (L zqR) z))) (N zai (N zas (N zpW (L zai) z) (N b915 (L zas) z)) (N zql (N b883 (L znb) z) (N b947 (L zas) z)))) (N zlT (N zmY (N zai (N zqA (L b973) (L zpF)) (N zai (L zai) z)) (N zqu (N zqC (L zai) z) (N zas (L zai) z))) (N zai (N zoS (N zai (L zas) z) (N zai (L zpj) z)) (N zas (N b891 (L zmZ) z) (N b955 (L zp2) z))))) (N zai (N zas (N zai (N zai (N zas (L b969) (L zpY)) (N b903 (L zai) z)) (N zai (N zai (L zm3) z) (N b935 (L zas) z))) (N znn (N zoJ (N zai (L b985) z) (N zas (L zai) z)) (N zqw (N b887 (L zas) z) (N b951 (L zai) z)))) (N zln (N zai (N zoM (N zpq (L zai) (L zqb)) (N zai (L znj) z)) (N zas (N zas (L zai) z) (N zai (L zo8) z))) (N zai (N zot (N zqy (L b993) z) (N b927 (L zpU) z)) (N zoZ (N zai (L zne) z) (N zas (L zas) z)))))) (N x.r.a.a.f (N x.r.a.b.b (N zl1 (N zmT (N zas (N zpI (L zai) (L zai)) (N b901 (L zas) z)) (N zoH (N zpd (L b999) z) (N zai (L zoV) z))) (N znJ (N zai (N zas (L b983) z) (N b917 (L zqs) z)) (N zai (N zai (L znQ) z) (N zas (L zqN) z)))) (N zmd (N zdV (N zou (N zai (L zas) (L zas)) (N b909 (L zm4) z)) (N zqK (N zpm (L zok) z) (N b941 (L zqp) z))) (N zoA (N zoE (N zqh (L zai) z) (N b925 (L zas) z)) (N zai (N zas (L zai) z) (N b957 (L zqO) z))))) (N zk9 (N zlh (N zmW (N zov (N zai (L b971) (L zpC)) (N zas (L znd) z)) (N zpv (N zqW (L zas) z) (N b937 (L zo7) z))) (N zdV (N zai (N zpG (L b987) z) (N b921 (L zqP) z)) (N zpf (N b889 (L zai) z) (N zai (L zpn) z)))) (N zdV (N znt (N zoD (N zqH (L b979) z) (N b913 (L zm0) z)) (N zai (N zai (L zni) z) (N b945 (L zqk) z))) (N zoq (N zas (N zas (L zai) z) (N zas (L zai) z)) (N zai (N b897 (L zm1) z) (N zai (L zai) z))))))) (N x.r.a.a.c (N x.r.a.a.e (N x.r.a.b.a (N zdV (N zas (N zai (N zpb (L b966) (L zpD)) (N zas (L zai) z)) (N zoy (N zo1 (L zai) z) (N b932 (L zqj) z))) (N znr (N zoo (N zai (L zas) z) (N b916 (L zpP) z)) (N zpR (N b884 (L znN) z) (N zai (L zo5) z)))) (N zos (N zfw (N zas (N zpK (L zai) (L zai)) (N b908 (L zas) z)) (N zqm (N zp3 (L znK) z) (N b940 (L zas) z))) (N zas (N zai (N zas (L b990) z) (N zas (L zai) z)) (N zpe (N zai (L znf) z) (N b956 (L zqg) z))))) (N zpX (N zmj (N zmP (N zow (N zp5 (L zai) (L zai)) (N zai (L zoa) z)) (N zas (N zas (L zai) z) (N b936 (L zps) z))) (N zfw (N zoT (N zoU (L b986) z) (N b920 (L zas) z)) (N zqe (N zai (L znG) z) (N b952 (L zas) z)))) (N zfw (N zas (N zoz (N zai (L b978) (L zqJ)) (N zas (L zoj) z)) (N zqT (N b880 (L zas) z) (N zas (L zqF) z))) (N zor (N zai (N zai (L b994) z) (N zai (L zqz) z)) (N zo4 (N b896 (L zai) z) (N b962 (L zqf) z)))))) (N x.r.a.a.g (N x.r.a.b.c (N zai (N zmU (N zon (N zai (L zas) (L zas)) (N b902 (L zof) z)) (N zoN (N zqV (L znD) z) (N zas (L zai) z))) (N zm9 (N zoO (N zpw (L zai) z) (N zai (L zoW) z)) (N zas (N zas (L zai) z) (N b950 (L zph) z)))) (N zlf (N zob (N zai (N zas (L b976) (L zpO)) (N b910 (L zai) z)) (N zai (N zai (L znh) z) (N b942 (L zai) z))) (N zox (N zoK (N zpy (L b992) z) (N b926 (L zqQ) z)) (N zqS (N b894 (L zas) z) (N zai (L zai) z))))) (N zk2 (N zai (N zmw (N zoR (N zqr (L b972) (L zpT)) (N b906 (L znX) z)) (N zai (N zai (L zns) z) (N zai (L zpx) z))) (N zop (N zas (N zqD (L zai) z) (N b922 (L zpL) z)) (N zai (N b890 (L zoi) z) (N zas (L zai) z)))) (N zmI (N zna (N zai (N zqq (L b980) z) (N zai (L zai) z)) (N zqc (N b882 (L zai) z) (N b946 (L zai) z))) (N zoF (N zoG (N zpc (L zas) z) (N b930 (L zas) z)) (N zas (N b898 (L znM) z) (N b964 (L zpa) z))))))))
def m1109 : Heap := ⟨⟨[x.r.a.a.a, x.r.a.a.b, x.r.a.a.c, zpB, x.r.a.a.e, x.r.a.a.f, x.r.a.a.g, x.r.a.a.h, x.r.a.b.a, x.r.a.b.b, x.r.a.b.c, zai, zpX, zk9, zk2, zlY, zdV, zl1, zai, zas, zmj, zlh, zai, zlT, zos, zmd, zlf, zln, zfw, zdV, zmI, zai, zas, zmT, zmU, zai, zmP, zmW, zmw, zmY, zfw, zdV, zob, zai, zas, znt, zna, zai, znr, znJ, zm9, znn, zfw, zdV, zop, zai, zas, zoA, zox, zai, zor, zoq, zoF, zoI, zai, zas, zon, zai, zow, zov, zoR, zai, zas, zou, zai, zoM, zoz, zoD, zai, zas, zoo, zai, zoO, zoJ, zoT, zai, zas, zoS, zai, zoE, zoK, zot, zai, zas, zoG, zai, zoy, zoH, zoN, zai, zas, zpv, zai, zqu, zqm, zqK, zai, zas, zqT, zai, zqc, zql, zpR, zai, zas, zqw, zqe, zpf, zai, zas, zpe, zai, zqS, zoZ, zo4, zai, zas, zpZ, zpb, zpI, zai, zas, zp5, zai, zqr, zqA, zpK, zai, zas, zpq, zai, zqH, zqq, zpW, zai, zas, zpw, zai, zoU, zpG, zqD, zai, zas, zqh, zpy, zqy, zai, zas, zpc, zai, zo1, zpd, zqV, zai, zas, zqW, zai, zqC, zp3, zpm, zai, zas, b880, zai, b882, b883, b884, zai, zas, b887, zai, b889, b890, b891, zai, zas, b894, zai, b896, b897, b898, zai, zas, b901, b902, b903, zai, zas, b906, zai, b908, b909, b910, zai, zas, b913, zai, b915, b916, b917, zai, zas, b920, b921, b922, zai, zas, b925, b926, b927, zai, zas, b930, b931, b932, zai, zas, b935, b936, b937, zai, zas, b940, b941, b942, zai, zas, b945, b946, b947, zai, zas, b950, b951, b952, zai, zas, b955, b956, b957, zai, zas, b962, zai, b964, b965, b966, zai, zas, b969, zai, b971, b972, b973, zai, zas, b976, zai, b978, b979, b980, zai, zas, b983, zai, b985, b986, b987, zai, zas, b990, zai, b992, b993, b994, zai, zas, b997, zai, b999, znD, zm3, zai, zas, zns, zai, znK, zok, znh, zai, zas, zni, zai, znb, znN, znQ, zai, zas, znG, zai, zoi, zmZ, znf, zai, zas, zne, zai, zm1, znM, znA, zai, zas, zof, zai, zoa, znd, znX, zai, zas, zm4, zai, znj, zoj, zm0, zai, zas, zpP, zqs, zoW, zai, zas, zqP, zpL, zpj, zai, zas, zqQ, zpU, zqz, zai, zas, zqR, zqj, zoV, zai, zas, zps, zo7, zpx, zai, zas, zqp, zai, zo8, zqF, zqk, zai, zas, zo5, zqN, zph, zai, zas, zpn, zai, zp2, zqg, zqO, zai, zas, zqf, zai, zpa, zpr, zpD, zai, zas, zpY, zai, zpC, zpT, zpF, zai, zas, zpO, zqb, zqJ]⟩, ⟨[], [], [], 0, [], [], false, #[], [], 0, false, false, false, 0, [2000, 10, 10], false, 0, true, [], [], 0, false⟩⟩
end
def m698v (p : Program) : Program := { p with main := { p.main with body := [sp p 1, sp p 2, sp p 3, sp p 4, sp p 6, sp p 7, sp p 8, sp p 9, sp p 10, sp p 11, sp p 12, sp p 13, sp p 14, sp p 15, sp p 17, sp p 18, sp p 20, sp p 21, sp p 22, sp p 23, sp p 24, sp p 25, sp p 26, sp p 27, sp p 28, sp p 29, sp p 30, sp p 31, sp p 32, sp p 33, sp p 34, sp p 35, sp p 36, sp p 37, sp p 38, sp p 39, sp p 40, sp p 41, sp p 42, sp p 44, sp p 45, sp p 46, sp p 47, sp p 48, sp p 49, sp p 50, sp p 51, sp p 52, sp p 53, sp p 54, sp p 55, sp p 56, sp p 57, sp p 58, sp p 59, sp p 60, sp p 61, sp p 62, sp p 63, sp p 64, sp p 65] } }
def m708s (p : Program) : List Stmt := [sp p 0, sp p 1]
def m723s (p : Program) : List Stmt := [sp p 2]
def m738s (p : Program) : List Stmt := [sp p 3]
def m753s (p : Program) : List Stmt := [sp p 4, sp p 5, sp p 6, sp p 7, sp p 8, sp p 9, sp p 10]
def m803s (p : Program) : List Stmt := [sp p 11, sp p 12, sp p 13, sp p 14, sp p 15, sp p 16, sp p 17, sp p 18, sp p 19, sp p 20, sp p 21, sp p 22, sp p 23, sp p 24, sp p 25, sp p 26, sp p 27]
def m876s (p : Program) : List Stmt := [sp p 28, sp p 29, sp p 30, sp p 31, sp p 32, sp p 33, sp p 34, sp p 35, sp p 36, sp p 37, sp p 38, sp p 39, sp p 40, sp p 41]
def m958s (p : Program) : List Stmt := [sp p 42, sp p 43, sp p 44, sp p 45, sp p 46, sp p 47, sp p 48, sp p 49, sp p 50, sp p 51, sp p 52, sp p 53, sp p 54]
def m1044s (p : Program) : List Stmt := [sp p 55, sp p 56, sp p 57, sp p 58, sp p 59, sp p 60, sp p 61, sp p 62, sp p 63, sp p 64, sp p 65]
def u0 : Q Str := ⟨Str.ofString "<module>", Str.ofString "/claim/cut.py", Str.ofString "__main__", Str.ofString "__name__", Str.ofString "hideworth.errors", Str.ofString "__doc__", Str.ofString "__package__", Str.ofString "__loader__"⟩
def u1 : Q Str := ⟨Str.ofString "__spec__", Str.ofString "__annotations__", Str.ofString "__builtins__", Str.ofString "__file__", Str.ofString "__cached__", Str.ofString "HideError", Str.ofString "__module__", Str.ofString "__qualname__"⟩
def u2 : Q Str := ⟨Str.ofString "__firstlineno__", Str.ofString "__static_attributes__", Str.ofString "__weakref__", Str.ofString "NoNumber", Str.ofString "NoBoxes", Str.ofString "hideworth.ratios", Str.ofString "NoBudget", Str.ofString "divisor"⟩
def u3 : Q Str := ⟨Str.ofString "ratio", Str.ofString "plus", Str.ofString "minus", Str.ofString "times", Str.ofString "one", Str.ofString "other", Str.ofString "rest", Str.ofString "top"⟩
def u4 : Q Str := ⟨Str.ofString "bottom", Str.ofString "shared", Str.ofString "hideworth.boxes", Str.ofString "over", Str.ofString "below", Str.ofString "common", Str.ofString "shared_divisor", Str.ofString "lowest"⟩
def u5 : Q Str := ⟨Str.ofString "is_whole", Str.ofString "is_within", Str.ofString "MOST_BOXES", Str.ofString "MOST_COST", Str.ofString "MOST_OF", Str.ofString "MOST_BUDGET", Str.ofString "is_box", Str.ofString "look_boxes"⟩
def u6 : Q Str := ⟨Str.ofString "look_budget", Str.ofString "power", Str.ofString "numbers", Str.ofString "number", Str.ofString "thing", Str.ofString "hideworth.checks", Str.ofString "least", Str.ofString "most"⟩
def u7 : Q Str := ⟨Str.ofString "cost", Str.ofString "hits", Str.ofString "of", Str.ofString "budget", Str.ofString "base", Str.ofString "count", Str.ofString "product", Str.ofString "k"⟩
def u8 : Q Str := ⟨Str.ofString "missed", Str.ofString "chance", Str.ofString "gain", Str.ofString "cost_sum", Str.ofString "added", Str.ofString "least_chance", Str.ofString "fair_weights", Str.ofString "chance_for"⟩
def u9 : Q Str := ⟨Str.ofString "counts_and_worth", Str.ofString "look_shares", Str.ofString "mix_of", Str.ofString "paper_of", Str.ofString "sure_answer", Str.ofString "is_sure", Str.ofString "box", Str.ofString "fractions"⟩
def u10 : Q Str := ⟨Str.ofString "total", Str.ofString "fraction", Str.ofString "chances", Str.ofString "law_hideworth_k25_whole_boxes_told_otherwise", Str.ofString "budget_worth", Str.ofString "_law_mix", Str.ofString "_law_cell_at", Str.ofString "_law_left"⟩
def u11 : Q Str := ⟨Str.ofString "_law_draw", Str.ofString "_law_boxes", Str.ofString "_law_whole", Str.ofString "_law_fraction", Str.ofString "_law_lowest", Str.ofString "_law_miss", Str.ofString "_law_plus", Str.ofString "_law_less"⟩
def u12 : Q Str := ⟨Str.ofString "boxes", Str.ofString "counts", Str.ofString "worth", Str.ofString "_law_number", Str.ofString "_law_k", Str.ofString "_law_mixed", Str.ofString "_law_script", Str.ofString "_law_cell"⟩
def u13 : Q Str := ⟨Str.ofString "_law_left_here", Str.ofString "_law_base", Str.ofString "_law_digit", Str.ofString "_law_most", Str.ofString "_law_found", Str.ofString "_law_cost", Str.ofString "_law_of", Str.ofString "_law_thing"⟩
def u14 : Q Str := ⟨Str.ofString "_law_one", Str.ofString "_law_other", Str.ofString "_law_top", Str.ofString "_law_bottom", Str.ofString "_law_box", Str.ofString "_law_many", Str.ofString "_law_turn_here", Str.ofString "_law_plan"⟩
def u15 : Q Str := ⟨Str.ofString "_law_price", Str.ofString "_law_chance", Str.ofString "_law_keeps", Str.ofString "_law_finds", Str.ofString "_law_marks", Str.ofString "_law_hides", Str.ofString "_law_turn", Str.ofString "_law_better"⟩
def u16 : Q Str := ⟨Str.ofString "_law_alike", Str.ofString "law", Str.ofString "_law_weight", Str.ofString "_law_price_here", Str.ofString "_law_count", Str.ofString "_law_gain", Str.ofString "_law_due", Str.ofString "_law_boxes_here"⟩
def u17 : Q Str := ⟨Str.ofString "_law_budget", Str.ofString "_law_worth", Str.ofString "_law_hits", Str.ofString "_law_cheap", Str.ofString "_law_sure", Str.ofString "_law_some", Str.ofString "_law_much", Str.ofString "_law_per"⟩
def u18 : Q Str := ⟨Str.ofString "_law_looks", Str.ofString "_law_low", Str.ofString "_law_high", Str.ofString "_law_rest", Str.ofString "_law_rest", Str.ofString "_law_rest", Str.ofString "_law_rest", Str.ofString "_law_rest"⟩
def v0 : Q String := ⟨"tuple", "code", "frame", "dict", "__main__.__loader__#opaque", "ValueError", "builtin_function_or_method", "type.__prepare__"⟩
def v1 : Q String := ⟨"type", "Exception", "BaseException", "object", "ValueError.__new__", "getset_descriptor", "ExceptionGroup.__weakref__", "super"⟩
def v2 : Q String := ⟨"object.__init_subclass__", "function", "function", "function", "function", "function", "function", "function"⟩
def w0 (P : Params) : Q Obj := ⟨W.boot_o_0 P, W.boot_o_1 P, W.boot_o_2 P, W.boot_o_3 P, W.boot_o_4 P, W.boot_o_5 P, W.boot_o_6 P, W.boot_o_7 P⟩
def w1 (P : Params) : Q Obj := ⟨W.boot_o_8 P, W.boot_o_9 P, W.boot_o_10 P, W.boot_o_10 P, W.boot_o_10 P, W.boot_o_10 P, W.boot_o_10 P, W.boot_o_10 P⟩
lay_quick u0 u1 u2 u3 u4 u5 u6 u7 u8 u9 u10 u11 u12 u13 u14 u15 u16 u17 u18 v0 v1 v2 w0 w1 PySem.Challenge.pw_hideworth_k25_whole_boxes_told_otherwise
def K (a' b' c' d' e' f' g' h' i' j' k' l' m' n' o' p' q' r' s' : Q Str) (t' u' v' : Q String) (w' x' : Params → Q Obj) (y' : Program) (P : Params) : X := ⟨⟨⟨a',b',c',d',e',f',g',h'⟩,⟨i',j',k',l',m',n',o',p'⟩,⟨q',r',s',s',s',s',s',s'⟩,⟨q',r',s',s',s',s',s',s'⟩,⟨q',r',s',s',s',s',s',s'⟩,⟨q',r',s',s',s',s',s',s'⟩,⟨q',r',s',s',s',s',s',s'⟩,⟨q',r',s',s',s',s',s',s'⟩⟩,⟨⟨t',u',v',v',v',v',v',v'⟩,⟨t',u',v',v',v',v',v',v'⟩,⟨t',u',v',v',v',v',v',v'⟩,⟨t',u',v',v',v',v',v',v'⟩,⟨t',u',v',v',v',v',v',v'⟩,⟨t',u',v',v',v',v',v',v'⟩,⟨t',u',v',v',v',v',v',v'⟩,⟨t',u',v',v',v',v',v',v'⟩⟩,⟨⟨w' P,x' P,x' P,x' P,x' P,x' P,x' P,x' P⟩,⟨w' P,x' P,x' P,x' P,x' P,x' P,x' P,x' P⟩,⟨w' P,x' P,x' P,x' P,x' P,x' P,x' P,x' P⟩,⟨w' P,x' P,x' P,x' P,x' P,x' P,x' P,x' P⟩,⟨w' P,x' P,x' P,x' P,x' P,x' P,x' P,x' P⟩,⟨w' P,x' P,x' P,x' P,x' P,x' P,x' P,x' P⟩,⟨w' P,x' P,x' P,x' P,x' P,x' P,x' P,x' P⟩,⟨w' P,x' P,x' P,x' P,x' P,x' P,x' P,x' P⟩⟩,y',P⟩
def k0 := K u0 u1 u2 u3 u4 u5 u6 u7 u8 u9 u10 u11 u12 u13 u14 u15 u16 u17 u18 v0 v1 v2 w0 w1 PySem.Challenge.pw_hideworth_k25_whole_boxes_told_otherwise
def k1 := K tw13894225608423057668 tw17531079430653816501 tw13809737476558091540 tw2367299412457286945 tw1912701158020654693 tw2188347355606102534 tw16368670287772101220 tw14842115654739255404 tw4717311838995323452 tw594758545415977400 tw10895325593200808953 tw10037743213843438893 tw10009084784789568687 tw5084553986333570498 tw16641277437810104112 tw11875653558476324687 tw1672153094372761355 tw4580522010931877059 tw15163288008780518816 tw15633551313878501473 tw10735261366311057212 tw13734974896645664886 tw1278260381020688717 tw13492767390215788210 tw1700701465070966444
theorem ke : k0 = k1 := by
  unfold k0 k1
  rw [te13894225608423057668, te17531079430653816501, te13809737476558091540, te2367299412457286945, te1912701158020654693, te2188347355606102534, te16368670287772101220, te14842115654739255404, te4717311838995323452, te594758545415977400, te10895325593200808953, te10037743213843438893, te10009084784789568687, te5084553986333570498, te16641277437810104112, te11875653558476324687, te1672153094372761355, te4580522010931877059, te15163288008780518816, te15633551313878501473, te10735261366311057212, te13734974896645664886, te1278260381020688717, te13492767390215788210, te1700701465070966444]
theorem kE {β : Type _} (f : X → β) : (fun P => f (k0 P)) = fun P => f (k1 P) := congrArg (fun y P => f (y P)) ke
end Hd
namespace PySem.W.Fast
def tw4832853192461420286 : Program := Hd.m698v tw1700701465070966444
theorem te4832853192461420286 : Hd.m698v PySem.Challenge.pw_hideworth_k25_whole_boxes_told_otherwise = tw4832853192461420286 := congrArg Hd.m698v te1700701465070966444
def tw10054406067175832524 (P : Params) : Heap := @Hd.m705 (Hd.k1 P)
theorem te10054406067175832524 : (fun P => @Hd.m705 (Hd.k0 P)) = tw10054406067175832524 := Hd.kE @Hd.m705
def tw6056013738915308182 (P : Params) : BT := @Hd.m706 (Hd.k1 P)
theorem te6056013738915308182 : (fun P => @Hd.m706 (Hd.k0 P)) = tw6056013738915308182 := Hd.kE @Hd.m706
def tw1398097571759004496 : List Stmt := Hd.m708s tw1700701465070966444
theorem te1398097571759004496 : Hd.m708s PySem.Challenge.pw_hideworth_k25_whole_boxes_told_otherwise = tw1398097571759004496 := congrArg Hd.m708s te1700701465070966444
def tw17436066744302088441 (P : Params) : BT := @Hd.m722 (Hd.k1 P)
theorem te17436066744302088441 : (fun P => @Hd.m722 (Hd.k0 P)) = tw17436066744302088441 := Hd.kE @Hd.m722
def tw15557271159321980484 : List Stmt := Hd.m723s tw1700701465070966444
theorem te15557271159321980484 : Hd.m723s PySem.Challenge.pw_hideworth_k25_whole_boxes_told_otherwise = tw15557271159321980484 := congrArg Hd.m723s te1700701465070966444
def tw10057108766882747221 (P : Params) : BT := @Hd.m737 (Hd.k1 P)
theorem te10057108766882747221 : (fun P => @Hd.m737 (Hd.k0 P)) = tw10057108766882747221 := Hd.kE @Hd.m737
def tw5567535521681842570 : List Stmt := Hd.m738s tw1700701465070966444
theorem te5567535521681842570 : Hd.m738s PySem.Challenge.pw_hideworth_k25_whole_boxes_told_otherwise = tw5567535521681842570 := congrArg Hd.m738s te1700701465070966444
def tw1185222462328280294 (P : Params) : BT := @Hd.m752 (Hd.k1 P)
theorem te1185222462328280294 : (fun P => @Hd.m752 (Hd.k0 P)) = tw1185222462328280294 := Hd.kE @Hd.m752
def tw4139690732364704132 : List Stmt := Hd.m753s tw1700701465070966444
theorem te4139690732364704132 : Hd.m753s PySem.Challenge.pw_hideworth_k25_whole_boxes_told_otherwise = tw4139690732364704132 := congrArg Hd.m753s te1700701465070966444
def tw3641889255369147469 (P : Params) : BT := @Hd.m802 (Hd.k1 P)
theorem te3641889255369147469 : (fun P => @Hd.m802 (Hd.k0 P)) = tw3641889255369147469 := Hd.kE @Hd.m802
def tw11982147100163500099 : List Stmt := Hd.m803s tw1700701465070966444
theorem te11982147100163500099 : Hd.m803s PySem.Challenge.pw_hideworth_k25_whole_boxes_told_otherwise = tw11982147100163500099 := congrArg Hd.m803s te1700701465070966444
def tw490059667468632314 (P : Params) : BT := @Hd.m875 (Hd.k1 P)
theorem te490059667468632314 : (fun P => @Hd.m875 (Hd.k0 P)) = tw490059667468632314 := Hd.kE @Hd.m875
def tw9823542031815918317 : List Stmt := Hd.m876s tw1700701465070966444
theorem te9823542031815918317 : Hd.m876s PySem.Challenge.pw_hideworth_k25_whole_boxes_told_otherwise = tw9823542031815918317 := congrArg Hd.m876s te1700701465070966444
def tw2263300633171963412 (P : Params) : BT := @Hd.m957 (Hd.k1 P)
theorem te2263300633171963412 : (fun P => @Hd.m957 (Hd.k0 P)) = tw2263300633171963412 := Hd.kE @Hd.m957
def tw8035894690437603526 : List Stmt := Hd.m958s tw1700701465070966444
theorem te8035894690437603526 : Hd.m958s PySem.Challenge.pw_hideworth_k25_whole_boxes_told_otherwise = tw8035894690437603526 := congrArg Hd.m958s te1700701465070966444
def tw16430512056783146926 (P : Params) : BT := @Hd.m1043 (Hd.k1 P)
theorem te16430512056783146926 : (fun P => @Hd.m1043 (Hd.k0 P)) = tw16430512056783146926 := Hd.kE @Hd.m1043
def tw13863231547528979097 : List Stmt := Hd.m1044s tw1700701465070966444
theorem te13863231547528979097 : Hd.m1044s PySem.Challenge.pw_hideworth_k25_whole_boxes_told_otherwise = tw13863231547528979097 := congrArg Hd.m1044s te1700701465070966444
def tw14911653014851578667 (P : Params) : BT := @Hd.m1108 (Hd.k1 P)
theorem te14911653014851578667 : (fun P => @Hd.m1108 (Hd.k0 P)) = tw14911653014851578667 := Hd.kE @Hd.m1108
def tw17598048863644865326 (P : Params) : Heap := @Hd.m1109 (Hd.k1 P)
theorem te17598048863644865326 : (fun P => @Hd.m1109 (Hd.k0 P)) = tw17598048863644865326 := Hd.kE @Hd.m1109
end PySem.W.Fast
end
open PySem PySem.W PyProof.Rows PySem.W.X PySem.W.ZRun
set_option maxRecDepth 100000 in
set_option maxHeartbeats 0 in
theorem PySem.Challenge.cw_hideworth_k25_whole_boxes_told_otherwise_holds : PySem.Challenge.rw_hideworth_k25_whole_boxes_told_otherwise.Holds := by
 w_on;o_law;z_head;(case hw=>w_witness2)
 k_fill
 intro w s0 s1 m0 m1 G Y fa o pm cd doc dV kV ho hd hc hD hm hg xs vs as L h1 h2 h3 h4 h5
 z_open Y L KX ZH ZN ZT
 refine My.walk_at (l:=PySem.Challenge.rw_hideworth_k25_whole_boxes_told_otherwise) KX (fun W=>W w s0 s1 m0 m1 G KX fa o pm cd doc dV kV ho hd hc hD hm hg xs vs as h1 h2 h3 h4 h5) (My.walk (l:=PySem.Challenge.rw_hideworth_k25_whole_boxes_told_otherwise) rfl rfl (fun _ _ h=>h) ?F)
 case F =>
  intro w mg fa h KX G hmg
  refine' My.zpS KX G hmg (My.zqx KX G (L2.zaX ?l0 ?c0 ?k0) (mg_of KX G ?a0) (L2.zaX ?l1 ?c1 ?k1) (mg_of KX G ?a1) (L2.zaX ?l2 ?c2 ?k2) (mg_of KX G ?a2) (L2.zaX ?l3 ?c3 ?k3) (mg_of KX G ?a3) (L2.zaX ?l4 ?c4 ?k4) (mg_of KX G ?a4) (L2.zaX ?l5 ?c5 ?k5) (mg_of KX G ?a5) (L2.zaX ?l6 ?c6 ?k6) (mg_of KX G ?a6) (L2.zaX ?l7 ?c7 ?k7) (mg_of KX G ?a7) (L2.zaX ?l8 ?c8 ?k8) (mg_of KX G ?a8) (L2.zaX ?l9 ?c9 ?k9) (mg_of KX G ?a9) (L2.zaX ?l10 ?c10 ?k10) (mg_of KX G ?a10) (L2.zaX ?l11 ?c11 ?k11) (mg_of KX G ?a11) (L2.zaX ?l12 ?c12 ?k12) (mg_of KX G ?a12) (L2.zaX ?l13 ?c13 ?k13) (mg_of KX G ?a13) (L2.zaX ?l14 ?c14 ?k14) (mg_of KX G ?a14) (L2.zaX ?l15 ?c15 ?k15) (mg_of KX G ?a15) (L2.zaX ?l16 ?c16 ?k16) (mg_of KX G ?a16) (L2.zaX ?l17 ?c17 ?k17) (mg_of KX G ?a17) (L2.zaX ?l18 ?c18 ?k18) (mg_of KX G ?a18) (L2.zaX ?l19 ?c19 ?k19) (mg_of KX G ?a19) (L2.zaX ?l20 ?c20 ?k20) (mg_of KX G ?a20) (L2.zaX ?l21 ?c21 ?k21) (mg_of KX G ?a21) (L2.zaX ?l22 ?c22 ?k22) (mg_of KX G ?a22) (L2.zaX ?l23 ?c23 ?k23) (mg_of KX G ?a23) (L2.zaX ?l24 ?c24 ?k24) (mg_of KX G ?a24) (L2.zaX ?l25 ?c25 ?k25) (mg_of KX G ?a25) (L2.zaX ?l26 ?c26 ?k26) (mg_of KX G ?a26) (L2.zaX ?l27 ?c27 ?k27) (mg_of KX G ?a27) (L2.zaX ?l28 ?c28 ?k28) (mg_of KX G ?a28) (L2.zaX ?l29 ?c29 ?k29) (mg_of KX G ?a29) (L2.zaX ?l30 ?c30 ?k30) (mg_of KX G ?a30) (L2.zaX ?l31 ?c31 ?k31) (mg_of KX G ?a31) (L2.zaX ?l32 ?c32 ?k32) (mg_of KX G ?a32) (L2.zaX ?l33 ?c33 ?k33) (mg_of KX G ?a33) (L2.zaX ?l34 ?c34 ?k34) (mg_of KX G ?a34) (L2.zaX ?l35 ?c35 ?k35) (mg_of KX G ?a35) (L2.zaX ?l36 ?c36 ?k36) (mg_of KX G ?a36) (L2.zaX ?l37 ?c37 ?k37) (mg_of KX G ?a37) (L2.zaX ?l38 ?c38 ?k38) (mg_of KX G ?a38) (L2.zaX ?l39 ?c39 ?k39) (mg_of KX G ?a39) (L2.zaX ?l40 ?c40 ?k40) (mg_of KX G ?a40) (L2.zaX ?l41 ?c41 ?k41) (mg_of KX G ?a41) (L2.zaX ?l42 ?c42 ?k42) (mg_of KX G ?a42) (L2.zaX ?l43 ?c43 ?k43) (mg_of KX G ?a43) (mg_none_of KX G ?z_set) (mg_none_of KX G ?z_isinstance) (mg_none_of KX G ?z_range) (mg_none_of KX G ?z_all) (mg_none_of KX G ?z_sorted) (mg_none_of KX G ?z_abs) (mg_none_of KX G ?z_sum) (mg_none_of KX G ?z_len) (mg_none_of KX G ?z_list) (mg_none_of KX G ?z_zip) (mg_none_of KX G ?z_int) (mg_none_of KX G ?z_bool) (mg_none_of KX G ?z_tuple) (mg_none_of KX G ?z_max) (mg_none_of KX G ?z_min) (mg_of KX G ?ac_NoNumber) (mg_of KX G ?ac_NoBoxes) (mg_of KX G ?ac_NoBudget) (mg_of KX G ?ak_MOST_BOXES) (mg_of KX G ?ak_MOST_COST) (mg_of KX G ?ak_MOST_OF) (mg_of KX G ?ak_MOST_BUDGET) ?xc_NoNumber ?xc_NoBoxes ?xc_NoBudget)
  (case a0=>k_is);(case l0=>k_is);(case c0=>k_is);(case k0=>k_is)
  (case a1=>k_is);(case l1=>k_is);(case c1=>k_is);(case k1=>k_is)
  (case a2=>k_is);(case l2=>k_is);(case c2=>k_is);(case k2=>k_is)
  (case a3=>k_is);(case l3=>k_is);(case c3=>k_is);(case k3=>k_is)
  (case a4=>k_is);(case l4=>k_is);(case c4=>k_is);(case k4=>k_is)
  (case a5=>k_is);(case l5=>k_is);(case c5=>k_is);(case k5=>k_is)
  (case a6=>k_is);(case l6=>k_is);(case c6=>k_is);(case k6=>k_is)
  (case a7=>k_is);(case l7=>k_is);(case c7=>k_is);(case k7=>k_is)
  (case a8=>k_is);(case l8=>k_is);(case c8=>k_is);(case k8=>k_is)
  (case a9=>k_is);(case l9=>k_is);(case c9=>k_is);(case k9=>k_is)
  (case a10=>k_is);(case l10=>k_is);(case c10=>k_is);(case k10=>k_is)
  (case a11=>k_is);(case l11=>k_is);(case c11=>k_is);(case k11=>k_is)
  (case a12=>k_is);(case l12=>k_is);(case c12=>k_is);(case k12=>k_is)
  (case a13=>k_is);(case l13=>k_is);(case c13=>k_is);(case k13=>k_is)
  (case a14=>k_is);(case l14=>k_is);(case c14=>k_is);(case k14=>k_is)
  (case a15=>k_is);(case l15=>k_is);(case c15=>k_is);(case k15=>k_is)
  (case a16=>k_is);(case l16=>k_is);(case c16=>k_is);(case k16=>k_is)
  (case a17=>k_is);(case l17=>k_is);(case c17=>k_is);(case k17=>k_is)
  (case a18=>k_is);(case l18=>k_is);(case c18=>k_is);(case k18=>k_is)
  (case a19=>k_is);(case l19=>k_is);(case c19=>k_is);(case k19=>k_is)
  (case a20=>k_is);(case l20=>k_is);(case c20=>k_is);(case k20=>k_is)
  (case a21=>k_is);(case l21=>k_is);(case c21=>k_is);(case k21=>k_is)
  (case a22=>k_is);(case l22=>k_is);(case c22=>k_is);(case k22=>k_is)
  (case a23=>k_is);(case l23=>k_is);(case c23=>k_is);(case k23=>k_is)
  (case a24=>k_is);(case l24=>k_is);(case c24=>k_is);(case k24=>k_is)
  (case a25=>k_is);(case l25=>k_is);(case c25=>k_is);(case k25=>k_is)
  (case a26=>k_is);(case l26=>k_is);(case c26=>k_is);(case k26=>k_is)
  (case a27=>k_is);(case l27=>k_is);(case c27=>k_is);(case k27=>k_is)
  (case a28=>k_is);(case l28=>k_is);(case c28=>k_is);(case k28=>k_is)
  (case a29=>k_is);(case l29=>k_is);(case c29=>k_is);(case k29=>k_is)
  (case a30=>k_is);(case l30=>k_is);(case c30=>k_is);(case k30=>k_is)
  (case a31=>k_is);(case l31=>k_is);(case c31=>k_is);(case k31=>k_is)
  (case a32=>k_is);(case l32=>k_is);(case c32=>k_is);(case k32=>k_is)
  (case a33=>k_is);(case l33=>k_is);(case c33=>k_is);(case k33=>k_is)
  (case a34=>k_is);(case l34=>k_is);(case c34=>k_is);(case k34=>k_is)
  (case a35=>k_is);(case l35=>k_is);(case c35=>k_is);(case k35=>k_is)
  (case a36=>k_is);(case l36=>k_is);(case c36=>k_is);(case k36=>k_is)
  (case a37=>k_is);(case l37=>k_is);(case c37=>k_is);(case k37=>k_is)
  (case a38=>k_is);(case l38=>k_is);(case c38=>k_is);(case k38=>k_is)
  (case a39=>k_is);(case l39=>k_is);(case c39=>k_is);(case k39=>k_is)
  (case a40=>k_is);(case l40=>k_is);(case c40=>k_is);(case k40=>k_is)
  (case a41=>k_is);(case l41=>k_is);(case c41=>k_is);(case k41=>k_is)
  (case a42=>k_is);(case l42=>k_is);(case c42=>k_is);(case k42=>k_is)
  (case a43=>k_is);(case l43=>k_is);(case c43=>k_is);(case k43=>k_is)
  (case z_set=>k_is)
  (case z_isinstance=>k_is)
  (case z_range=>k_is)
  (case z_all=>k_is)
  (case z_sorted=>k_is)
  (case z_abs=>k_is)
  (case z_sum=>k_is)
  (case z_len=>k_is)
  (case z_list=>k_is)
  (case z_zip=>k_is)
  (case z_int=>k_is)
  (case z_bool=>k_is)
  (case z_tuple=>k_is)
  (case z_max=>k_is)
  (case z_min=>k_is)
  (case ac_NoNumber=>k_is)
  (case ac_NoBoxes=>k_is)
  (case ac_NoBudget=>k_is)
  (case ak_MOST_BOXES=>k_is)
  (case ak_MOST_COST=>k_is)
  (case ak_MOST_OF=>k_is)
  (case ak_MOST_BUDGET=>k_is)
  (case xc_NoNumber=>k_exc)
  (case xc_NoBoxes=>k_exc)
  (case xc_NoBudget=>k_exc)
