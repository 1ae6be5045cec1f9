import PyProof.Rows.All
import Wide.All
import OpenK.AllK
import Wide.FinOn
import Lean
import PyProof.EqAt
import PyProof.EqKinds
import PyProof.TupleCall
import KE.IntBitsLaws
import PyProof.NeKinds
import KE.KIsAll
import PyProof.ExcAttrAll.ValueError
import KE.RegKIsAll
import OpenK.KOwn
import PyProof.ConsumeWalk
import PyProof.SumWalkG
import PyProof.Rows.SeqCalls
import PyProof.Rows.SeqGen
import PyProof.ZipIter
import PyProof.Rows.ZipGen
import PyProof.Rows.FactsT2
import PyProof.WalkInts
import PyProof.SeqI3
import PyProof.AutoSeq1
import PyProof.WalksEnum
import PyProof.EnumMake
import PyProof.ListRange
import PyProof.ExcInit
import PyProof.InstStoreFacts
import KE.KLam
import KE.KMinKey
import OpenK.ZGo
import PySem.Challenge.RW_hideworth_k13_whole_tables_told_otherwis
set_option Elab.async false
set_option linter.all false
set_option maxRecDepth 100000
namespace L2
open PySem PySem.Spec PyProof.Rows
abbrev Key:=Sum Int Str
def zn0:Key→Value→Bool
 | .inl k,v=>Value.isInt k v
 | .inr x,v=>Value.isStrOf x v
def keyH (w:World):Key→Int
 | .inl k=>hashInt k
 | .inr x=>hashStr w x
theorem zbk:∀ {k:Key} {v:Value},zn0 k v=true→(∃ i t,k=Sum.inl i∧v=Value.int i t)∨(∃ x t,k=Sum.inr x∧v=Value.str x t)
 | .inl i,v,h=>by
  obtain ⟨t,e⟩:=Value.isInt_shape (k:=i) (v:=v) h
  exact .inl ⟨i,t,rfl,e⟩
 | .inr x,v,h=>by
  obtain ⟨t,e⟩:=Value.isStrOf_shape (x:=x) (v:=v) h
  exact .inr ⟨x,t,rfl,e⟩
theorem znJ (a b:Int):decide ((Sum.inl a:Key)=Sum.inl b)=(a == b):=by
 by_cases e:a=b
 ·subst e;simp
 ·have h:¬ (Sum.inl a:Key)=Sum.inl b:=fun q=>e (Sum.inl.inj q)
  rw [decide_eq_false h]
  exact (beq_eq_false_iff_ne.mpr e).symm
theorem znK (a b:Str):decide ((Sum.inr a:Key)=Sum.inr b)=decide (a=b):=by
 by_cases e:a=b
 ·subst e;simp
 ·have h:¬ (Sum.inr a:Key)=Sum.inr b:=fun q=>e (Sum.inr.inj q)
  rw [decide_eq_false h,decide_eq_false e]
theorem znX (a:Int) (b:Str):decide ((Sum.inl a:Key)=Sum.inr b)=false:=decide_eq_false (fun q=>nomatch q)
theorem zoh (a:Str) (b:Int):decide ((Sum.inr a:Key)=Sum.inl b)=false:=decide_eq_false (fun q=>nomatch q)
def zhp (prog:Program) (w:World):PySem.KeyKind prog w Key where
 is:=zn0
 hash:=keyH w
 inj:=fun v a b ha hb=>by
  rcases zbk ha with ⟨i,t,rfl,rfl⟩ | ⟨x,t,rfl,rfl⟩
  ·rcases zbk hb with ⟨j,u,rfl,e⟩ | ⟨y,u,rfl,e⟩
   ·injection e with e1 _;rw [e1]
   ·exact nomatch e
  ·rcases zbk hb with ⟨j,u,rfl,e⟩ | ⟨y,u,rfl,e⟩
   ·exact nomatch e
   ·injection e with e1 _;rw [e1]
 byValue:=fun k v h=>by
  rcases zbk h with ⟨i,t,rfl,rfl⟩ | ⟨x,t,rfl,rfl⟩ <;> rfl
 pyHash:=fun hv h=>by
  rcases zbk hv with ⟨i,t,rfl,rfl⟩ | ⟨x,t,rfl,rfl⟩
  ·exact wpAny_pyHash_int h
  ·exact wpAny_pyHash_str h
 eqBool:=fun hu hv h=>by
  rcases zbk hu with ⟨i,t,rfl,rfl⟩ | ⟨x,t,rfl,rfl⟩
  ·rcases zbk hv with ⟨j,u,rfl,rfl⟩ | ⟨y,u,rfl,rfl⟩
   ·rw [znJ] at h;exact wpAny_eqBool_int h
   ·rw [znX] at h;exact SeqAt.EqAt.int_str i t y u _ _ _ _ h
  ·rcases zbk hv with ⟨j,u,rfl,rfl⟩ | ⟨y,u,rfl,rfl⟩
   ·rw [zoh] at h;exact SeqAt.EqAt.str_int x t j u _ _ _ _ h
   ·rw [znK] at h;exact wpAny_eqBool_str h
 «strs»:=fun k x t v h=>by
  rcases zbk h with ⟨i,u,rfl,e⟩ | ⟨y,u,rfl,e⟩
  ·exact nomatch e
  ·injection e with e1 _
   subst e1
   cases v <;> rfl
end L2
namespace L2
open PySem PySem.Spec PyProof.Rows
inductive V where
 | non | bl (b:Bool) | int (i:Int) | str (x:Str) | byt (b:Array UInt8) | flt (b:UInt64) | ref (a:Addr) | ty (n:String)
 deriving DecidableEq
def zbR:V→Value→Prop
 | .non,u=>u=Value.none
 | .bl b,u=>u=Value.bool b
 | .int i,u=>∃ t,u=Value.int i t
 | .str x,u=>∃ t,u=Value.str x t
 | .byt b,u=>∃ t,u=Value.bytes b t
 | .flt b,u=>∃ t,u=Value.float b t
 | .ref a,u=>u=Value.ref a
 | .ty n,u=>u=Value.type n
abbrev zbq:List V→List Value→Prop:=Paired zbR
theorem zbq.length {xs:List V} {us:List Value} (r:zbq xs us):xs.length=us.length:=Paired.length r
theorem zbq.get:∀ {xs:List V} {us:List Value} {i:Nat} {x:V},zbq xs us→xs[i]?=some x→∃ u,us[i]?=some u∧zbR x u
 | _,_,_,_,.nil,e=>by simp at e
 | _,_,0,_,.cons r _,e=>by simp at e;subst e;exact ⟨_,rfl,r⟩
 | _,_,i+1,x,.cons _ t,e=>by
  obtain ⟨u,h1,h2⟩:=zbq.get (i:=i) (x:=x) t (by simpa using e)
  exact ⟨u,by simpa using h1,h2⟩
theorem zbq.set {x:V} {u:Value} (r:zbR x u):∀ {xs:List V} {us:List Value} (i:Nat),zbq xs us→zbq (xs.set i x) (us.set i u)
 | _,_,_,.nil=>.nil
 | _,_,0,.cons _ t=>.cons r t
 | _,_,i+1,.cons q t=>.cons q (zbq.set r i t)
theorem zbq.append:∀ {xs ys:List V} {us ws:List Value},zbq xs us→zbq ys ws→zbq (xs++ys) (us++ws)
 | _,_,_,_,.nil,s=>s
 | _,_,_,_,.cons r t,s=>.cons r (zbq.append t s)
theorem zbq.take:∀ {xs:List V} {us:List Value} (n:Nat),zbq xs us→zbq (xs.take n) (us.take n)
 | _,_,0,_=>.nil
 | _,_,_+1,.nil=>.nil
 | _,_,n+1,.cons r t=>.cons r (zbq.take n t)
theorem zbq.drop:∀ {xs:List V} {us:List Value} (n:Nat),zbq xs us→zbq (xs.drop n) (us.drop n)
 | _,_,0,r=>r
 | _,_,_+1,.nil=>.nil
 | _,_,n+1,.cons _ t=>zbq.drop n t
def zj6:Option V→Option Value→Prop
 | some v,some u=>zbR v u
 | none,none=>True
 | _,_=>False
def KV {κ:Type}:List (κ×V)→List (κ×Value)→Prop:=Paired fun (p:κ×V) (q:κ×Value)=>p.1=q.1∧zbR p.2 q.2
def kV:Key→V
 | .inl i=>.int i
 | .inr x=>.str x
inductive HO where
  | lst (xs:List V)
  | tup (xs:List V)
  | dK (kvs:List (Key×V)) | dT (kvs:List (List Key×V))
  | set (S:Int→Bool) (n:Nat)
  | ins (C dx:Addr) (fs:List (Str×V))
  | own (x:Addr)
  | xd (fs:List (Str×V))
  | met (f x:Addr)
  | rng (lo hi:Int)
  | frz (o:Obj) (u:HO)
  | tbl (ps:Array Value)
  | ext (φ:Heap→Prop)
abbrev Hp:=Addr→Option HO
def upd (H:Hp) (a:Addr) (o:HO):Hp:=fun b=>if b=a then some o else H b
theorem zae {H:Hp} {a:Addr} {o:HO}:upd H a o a=some o:=by unfold upd;rw [if_pos rfl]
theorem zak {H:Hp} {a b:Addr} {o:HO} (h:b≠a):upd H a o b=H b:=by unfold upd;rw [if_neg h]
theorem zf9 {H:Hp} {a:Addr} {o u:HO}:upd (upd H a o) a u=upd H a u:=by
 funext b;unfold upd;split <;> rfl
theorem zaG {H:Hp} {a b:Addr} {o:HO} (h:H a=some o) (h':H b=none):a≠b:=by
 intro e;subst e;rw [h] at h';cases h'
section
variable (P:Program) (w:World)
def zb9 (H:Hp) (h:Heap) (a:Addr):HO→Prop
 | .lst xs=>xs.length≤sizeLine∧∃ (its:List Value) (n:Nat),zbq xs its∧h.get? a=some { cls:=.type "list",data:=.seq its.toArray n }
 | .tup xs=>xs.length≤sizeLine∧∃ its:List Value,zbq xs its∧IsTup h a its.toArray
 | .dK kvs=>kvs.length≤sizeLine∧(a == sysModules)=false∧∃ vs,KV kvs vs∧h.DictOf (zhp P w) a vs
 | .dT kvs=>kvs.length≤sizeLine∧(a == sysModules)=false∧∃ xs:List (List Key×Addr×Value),
   Paired (fun (p:List Key×V) (q:List Key×Addr×Value)=>p.1=q.1∧H q.2.1=some (.tup (p.1.map kV))∧zbR p.2 q.2.2) kvs xs ∧
   ∃ o es ep,h.get? a=some o∧o.ExactDict∧o.data=.dict es ep∧es.toList=xs.map (entryOfKey (tupleKind (zhp P w)))∧(xs.map (·.1)).Nodup
 | .set S n=>h.SetOf (intKind P w) a S n
 | .ins C dx fs=>H dx=some (.own a)∧fs.length≤1000∧dx≠a∧h.get? a=some (PySem.W.instObj C dx) ∧
   ∃ mA,h.Ns1 dx mA∧(∀ f,zj6 (fs.lookup f) (mA f))∧PySem.Within mA (fs.map (·.1))
 | .own _=>∃ o,h.get? a=some o
 | .xd fs=>∃ mA,h.Ns1 a mA∧∀ f,zj6 (fs.lookup f) (mA f)
 | .rng lo hi=>∃ t u v,h.get? a=some { cls:=.type "range",data:=.fields #[.int lo t,.int hi u,.int 1 v] }
 | .frz o u=>h.get? a=some o∧zb9 H h a u
 | .tbl ps=>h.get? a=some { cls:=.none,data:=.fields ps }
 | .met f x=>h.get? a=some (PySem.W.methodObj (.ref f) (.ref x))
 | .ext φ=>φ h∧(∃ o,h.get? a=some o)∧∀ h1 h2:Heap,φ h1→(∀ o,h1.get? a=some o→h2.get? a=some o)→φ h2
def HOk (H:Hp) (h:Heap):Prop:=∀ a o,H a=some o→zb9 P w H h a o
end
section
variable {P:Program} {w:World} {H H':Hp} {h h':Heap} {a:Addr} {o:HO}
theorem zb9.lt (x:zb9 P w H h a o):a<h.objs.size:=by
 cases o with
 | lst xs=>obtain ⟨_,_,_,_,e⟩:=x;exact Heap.lt_size e
 | tup xs=>obtain ⟨_,_,_,p⟩:=x;exact p.lt
 | dK kvs=>obtain ⟨_,_,_,_,o,_,_,e,_⟩:=x;exact Heap.lt_size e
 | dT kvs=>obtain ⟨_,_,_,_,o,_,_,e,_⟩:=x;exact Heap.lt_size e
 | set S n=>obtain ⟨o,_,_,_,e,_⟩:=x;exact Heap.lt_size e
 | ins C dx fs=>obtain ⟨_,_,_,e,_⟩:=x;exact Heap.lt_size e
 | own y=>obtain ⟨_,e⟩:=x;exact Heap.lt_size e
 | xd fs=>obtain ⟨_,⟨_,_,_,e,_⟩,_⟩:=x;exact Heap.lt_size e
 | rng lo hi=>obtain ⟨_,_,_,e⟩:=x;exact Heap.lt_size e
 | frz ob u=>obtain ⟨e,_⟩:=x;exact Heap.lt_size e
 | tbl ps=>exact Heap.lt_size (show h.get? a=some _ from x)
 | met f y=>exact Heap.lt_size (show h.get? a=some _ from x)
 | ext φ=>obtain ⟨_,⟨_,e⟩,_⟩:=x;exact Heap.lt_size e
theorem Paired.mapP {α β:Type} {F G:α→β→Prop}:∀ {l₁:List α} {l₂:List β},Paired F l₁ l₂→(∀ a b,F a b→G a b)→Paired G l₁ l₂
 | _,_,.nil,_=>.nil
 | _,_,.cons r t,f=>.cons (f _ _ r) (Paired.mapP t f)
theorem zb9.stay (x:zb9 P w H h a o) (k:∀ b u,(b=a∨H b=some (.own a))→h.get? b=some u→h'.get? b=some u)
  (ho:∀ b,H b=some (.own a)→H' b=some (.own a)) (ht:∀ b xs,H b=some (.tup xs)→H' b=some (.tup xs)):zb9 P w H' h' a o:=by
 induction o with
 | lst xs=>obtain ⟨z,its,n,r,e⟩:=x;exact ⟨z,its,n,r,k _ _ (.inl rfl) e⟩
 | tup xs=>obtain ⟨z,its,r,ob,e,c⟩:=x;exact ⟨z,its,r,ob,k _ _ (.inl rfl) e,c⟩
 | dK kvs=>obtain ⟨z,y,vs,r,ob,es,ep,e,c⟩:=x;exact ⟨z,y,vs,r,ob,es,ep,k _ _ (.inl rfl) e,c⟩
 | dT kvs =>
  obtain ⟨z,y,xs,r,ob,es,ep,e,c⟩:=x
  exact ⟨z,y,xs,Paired.mapP r fun p q z=>⟨z.1,ht _ _ z.2.1,z.2.2⟩,ob,es,ep,k _ _ (.inl rfl) e,c⟩
 | set S n=>obtain ⟨ob,es,ep,t,e,c⟩:=x;exact ⟨ob,es,ep,t,k _ _ (.inl rfl) e,c⟩
 | ins C dx fs =>
  obtain ⟨d,z,ne,e,mA,⟨od,es,ep,e2,c⟩,r⟩:=x
  exact ⟨ho _ d,z,ne,k _ _ (.inl rfl) e,mA,⟨od,es,ep,k _ _ (.inr d) e2,c⟩,r⟩
 | own y=>obtain ⟨ob,e⟩:=x;exact ⟨ob,k _ _ (.inl rfl) e⟩
 | xd fs=>obtain ⟨mA,⟨od,es,ep,e,c⟩,r⟩:=x;exact ⟨mA,⟨od,es,ep,k _ _ (.inl rfl) e,c⟩,r⟩
 | rng lo hi=>obtain ⟨t,u,v,e⟩:=x;exact ⟨t,u,v,k _ _ (.inl rfl) e⟩
 | frz ob u ih=>obtain ⟨e,q⟩:=x;exact ⟨k _ _ (.inl rfl) e,ih q⟩
 | tbl ps =>
  have e:h.get? a=some { cls:=.none,data:=.fields ps }:=x
  show h'.get? a=some { cls:=.none,data:=.fields ps }
  exact k a _ (.inl rfl) e
 | met f y =>
  have e:h.get? a=some (PySem.W.methodObj (.ref f) (.ref y)):=x
  show h'.get? a=some (PySem.W.methodObj (.ref f) (.ref y))
  exact k a _ (.inl rfl) e
 | ext φ=>obtain ⟨p,⟨o,e⟩,st⟩:=x;exact ⟨st _ _ p fun o q=>k _ _ (.inl rfl) q,⟨o,k _ _ (.inl rfl) e⟩,st⟩
theorem HOk.lt (x:HOk P w H h) (e:H a=some o):a<h.objs.size:=(x a o e).lt
theorem HOk.fresh (x:HOk P w H h) (e:h.objs.size≤a):H a=none:=by
 cases q:H a with
 | none=>rfl
 | some u=>exact absurd (Nat.lt_of_lt_of_le (x.lt q) e) (Nat.lt_irrefl _)
theorem HOk.kept (x:HOk P w H h) (k:∀ b u,h.get? b=some u→h'.get? b=some u):HOk P w H h':=fun a o e =>
 (x a o e).stay (fun b u _ q=>k b u q) (fun _ q=>q) fun _ _ q=>q
theorem HOk.laid (x:HOk P w H h) (k:∀ b u,h.get? b=some u→h'.get? b=some u) (hp:h.objs.size≤a) (new:zb9 P w (upd H a o) h' a o):HOk P w (upd H a o) h':=fun b u e=>by
 have hn:=x.fresh hp
 by_cases hb:b=a
 ·subst hb;rw [zae] at e;cases e;exact new
 ·rw [zak hb] at e
  exact (x b u e).stay (fun c v _ q=>k c v q) (fun c q=>by rw [zak (zaG q hn)];exact q) fun c xs q=>by rw [zak (zaG q hn)];exact q
end
def Rd (H:Hp) (a:Addr) (u:HO):Prop:=H a=some u∨∃ o,H a=some (.frz o u)
theorem Rd.ok {P:Program} {w:World} {H:Hp} {h:Heap} {a:Addr} {u:HO} (r:Rd H a u) (x:HOk P w H h):zb9 P w H h a u:=by
 rcases r with r | ⟨o,r⟩
 ·exact x a u r
 ·obtain ⟨_,q⟩:=x a _ r
  exact q
def Mut:Option HO→Prop
 | some (.lst _)=>True
 | some (.dK _)=>True
 | some (.dT _)=>True
 | some (.set _ _)=>True
 | some (.ins _ _ _)=>True
 | some (.ext _)=>True
 | _=>False
section
variable {P:Program} {w:World} {H:Hp} {h h':Heap} {x e:Addr} {o':HO}
theorem HOk.write (ok:HOk P w H h) (mu:Mut (H x)) (he:e=x∨H e=some (.own x)) (k:∀ b u,b≠e→h.get? b=some u→h'.get? b=some u) (heo:∃ u,h'.get? e=some u)
  (new:zb9 P w (upd H x o') h' x o'):HOk P w (upd H x o') h':=fun b u q=>by
 have nown:∀ c y,H c=some (.own y)→c≠x:=fun c y r z=>by subst z;rw [r] at mu;exact mu
 have ntup:∀ c xs,H c=some (.tup xs)→c≠x:=fun c xs r z=>by subst z;rw [r] at mu;exact mu
 by_cases hb:b=x
 ·subst hb;rw [zae] at q;cases q;exact new
 ·rw [zak hb] at q
  by_cases hbe:b=e
  ·have q':H b=some (.own x):=by
    rcases he with z | z
    ·exact absurd (hbe.trans z) hb
    ·rw [hbe];exact z
   rw [q] at q';cases q'
   obtain ⟨v,hv⟩:=heo
   exact ⟨v,by rw [hbe];exact hv⟩
  ·refine (ok b u q).stay (fun c v hc r=>k c v ?_ r) (fun c r=>by rw [zak (nown c b r)];exact r) fun c xs r=>by rw [zak (ntup c xs r)];exact r
   rcases hc with rfl | hc
   ·exact hbe
   ·rintro rfl
    rcases he with z | z
    ·exact nown c b hc z
    ·rw [hc] at z;cases z;exact hb rfl
end
structure Un (fs ex:List Addr) (H H':Hp) (h h':Heap):Prop where
 keep:∀ b o,h.get? b=some o→H b=none→b∉fs→b∉ex→h'.get? b=some o
 slot:∀ b o,h.get? b=some o→H b=none→b∈fs→b∉ex→∃ sl,h'.get? b=some { o with slots:=sl }
 free:∀ b o,h.get? b=some o→H b=none→b∉ex→H' b=none
 there:∀ b o,h.get? b=some o→b∉ex→∃ o',h'.get? b=some o'
 tups:∀ b xs,H b=some (.tup xs)→H' b=some (.tup xs)
 frzs:∀ b o u,H b=some (.frz o u)→H' b=some (.frz o u)
 tbls:∀ b ps,H b=some (.tbl ps)→∃ more,H' b=some (.tbl (ps++more))
section
variable {fs fs' ex ex':List Addr} {H H1 H2:Hp} {h h1 h2 h':Heap} {a x e:Addr} {o:HO}
theorem Un.any (u:Un fs ex H H1 h h1) {b:Addr} {ob:Obj} (q:h.get? b=some ob) (n:H b=none) (hx:b∉ex):∃ sl,h1.get? b=some { ob with slots:=sl }:=by
 by_cases hb:b∈fs
 ·exact u.slot b ob q n hb hx
 ·exact ⟨ob.slots,u.keep b ob q n hb hx⟩
theorem Un.kept (k:∀ b u,h.get? b=some u→h'.get? b=some u):Un fs ex H H h h' :=
 ⟨fun b ob q _ _ _=>k b ob q,fun b ob q _ _ _=>⟨ob.slots,k b ob q⟩,fun _ _ _ n _=>n,fun b ob q _=>⟨ob,k b ob q⟩,fun _ _ q=>q,fun _ _ _ q=>q,fun _ ps q=>⟨#[],by rw [q];simp⟩⟩
theorem Un.refl:Un fs ex H H h h:=Un.kept fun _ _ q=>q
theorem Un.laid (k:∀ b u,h.get? b=some u→h'.get? b=some u) (hp:h.objs.size≤a) (hn:H a=none):Un fs ex H (upd H a o) h h' where
 keep:=fun b u q _ _ _=>k b u q
 slot:=fun b u q _ _ _=>⟨u.slots,k b u q⟩
 free:=fun b u q n _=>by rw [zak (Nat.ne_of_lt (Nat.lt_of_lt_of_le (Heap.lt_size q) hp))];exact n
 there:=fun b u q _=>⟨u,k b u q⟩
 tups:=fun b xs q=>by rw [zak (zaG q hn)];exact q
 frzs:=fun b u xs q=>by rw [zak (zaG q hn)];exact q
 tbls:=fun b ps q=>⟨#[],by rw [zak (zaG q hn),q];simp⟩
theorem Un.write (mu:Mut (H x)) (he:e=x∨H e=some (.own x)) (k:∀ b u,b≠e→h.get? b=some u→h'.get? b=some u) (heo:∃ u,h'.get? e=some u):Un fs ex H (upd H x o) h h':=by
 have hx:∀ b,H b=none→b≠x:=fun b n z=>by subst z;rw [n] at mu;exact mu
 have hb:∀ b,H b=none→b≠e:=fun b n z=>by
  subst z
  rcases he with r | r
  ·exact hx b n r
  ·rw [n] at r;cases r
 have hm:∀ b u,H b=some u→¬ Mut (some u)→b≠x:=fun b u q nm z=>by subst z;rw [q] at mu;exact nm mu
 refine ⟨fun b u q n _ _=>k b u (hb b n) q,fun b u q n _ _=>⟨u.slots,k b u (hb b n) q⟩,fun b u q n _=>by rw [zak (hx b n)];exact n,fun b u q _=>?_,
  fun b xs q=>by rw [zak (hm b _ q fun z=>z)];exact q,fun b u xs q=>by rw [zak (hm b _ q fun z=>z)];exact q,fun b ps q=>⟨#[],by rw [zak (hm b _ q fun z=>z),q];simp⟩⟩
 by_cases hbe:b=e
 ·subst hbe;exact heo
 ·exact ⟨u,k b u hbe q⟩
end
def trk (h:Heap) (H:Hp):List Addr:=(List.range h.objs.size).filter fun a=>(H a).isSome
def zjI (h:Heap) (H:Hp):Heap:=PySem.W.hideAll h (trk h H)
theorem zjH (h:Heap) (H:Hp):(zjI h H).objs.size=h.objs.size:=PySem.W.hideAll_size _ _
theorem zkR {h:Heap} {H:Hp} {b:Addr} {o:Obj} (e:h.get? b=some o) (n:H b=none):(zjI h H).get? b=some o :=
 PySem.W.hideAll_get _ e fun hm=>by
  have q:(H b).isSome=true:=(List.mem_filter.mp hm).2
  rw [n] at q;simp at q
theorem zl9 {h:Heap} {H:Hp} {b:Addr} {o:Obj} (e:(zjI h H).get? b=some o):h.get? b=some o∧H b=none:=by
 have e':h.get? b=some o:=PySem.W.of_hideAll (trk h H) e
 refine ⟨e',?_⟩
 cases q:H b with
 | none=>rfl
 | some x =>
  have hm:b∈trk h H:=List.mem_filter.mpr ⟨List.mem_range.mpr (Heap.lt_size e'),by simp [q]⟩
  have z:(zjI h H).get? b=none:=PySem.W.hideAll_none (trk h H) hm
  rw [z] at e;cases e
def zmk (g h:Heap) (L:Addr):List (Addr×Obj):=(List.range h.objs.size).filterMap fun a=>if a=L∨(g.get? a).isSome=true then none else (h.get? a).map fun o=>(a,o)
def rest (g h:Heap) (L d:Addr):List (Addr×Obj):=(zmk g h L).filter fun p=>decide (p.1≠d)
end L2
namespace L2
open PySem PySem.Spec PyProof.Rows
structure Mod (K:PySem.W.Frag) (mg:Str→Option Value) (base:Heap):Prop where
 kin:K.In base
 glob:base.Ns mainGlobals mg
 blt:∃ mb,base.Ns builtinsNs mb∧∀ x:Str,x≠"__name__"→mb x=bootBuiltins x
 nolimit:base.NoLimit
structure Cx where
 prog:Program
 w:World
 K:PySem.W.Frag
 mg:Str→Option Value
 base:Heap
 A:Around
 N:List Str
 s₀:Shared
 H₀:Hp
 env:Env
 outer:List Env
 stack:List Env
 ex:List Addr
 fn:Str→Bool
 calm:Bool
 pn:List (Addr×Obj)
 xe:Value→Shared→Prop
def frs (l:List Env):List Addr:=l.filterMap (·.frame)
abbrev Cx.fs (X:Cx):List Addr:=frs X.outer
def Vis (sc:Scope) (x:Str):Prop:=sc.names.lookup x=some .local∨sc.names.lookup x=some .cell∨sc.names.lookup x=some .free
def Loc (sc:Scope) (x:Str):Prop:=sc.names.lookup x=some .local∨sc.names.lookup x=some .cell
def Look (env:Env) (h:Heap) (m:Str→Option Value) (x:Str) (u:Value):Prop :=
 (env.kindOf x=some .local∧m x=some u)∨((env.kindOf x=some .cell∨env.kindOf x=some .free)∧∃ c,env.cells.lookup x=some c∧h.IsCell c (some u))
structure Cx.Ok (X:Cx):Prop where
 mod:Mod X.K X.mg X.base
 kind:X.env.scope.kind=.function
 glob:X.env.globals=mainGlobals
 blt:X.env.builtins=builtinsNs
 above:X.s₀.heap.objs.size≤X.env.locals
 inj:∀ x y c,X.env.cells.lookup x=some c→X.env.cells.lookup y=some c→x=y
 has:∀ x,(X.env.kindOf x=some .cell∨X.env.kindOf x=some .free)→∃ c,X.env.cells.lookup x=some c
 cab:∀ x c,X.fn x=true→X.env.cells.lookup x=some c→X.s₀.heap.objs.size≤c
 hd:X.calm=true→X.A.handled=none
 frames:X.A.frames=some X.stack
 stk:X.stack=X.outer∨(X.stack=X.env::X.outer∧X.env.frame=some X.env.locals)
 exf:∀ b∈X.ex,b≠X.env.locals∧∀ x c,X.env.cells.lookup x=some c→c≠b
 bs:∀ b o,X.base.get? b=some o→X.s₀.heap.get? b=some o∧X.H₀ b=none
 bsz:X.base.objs.size≤X.s₀.heap.objs.size
 noex:∀ b o,X.base.get? b=some o→b∉X.ex
 exfs:∀ b∈X.ex,b∉X.fs
 funs:X.s₀.heap.FunFrames X.base X.outer
 frf:∀ b∈X.fs,X.H₀ b=none
structure Inv (X:Cx) (pins:List (Addr×Obj)) (σ:List (Option V)) (H:Hp) (s:Shared):Prop where
 ok:X.Ok
 os:s.os=X.s₀.os
 bare:AllBare s.gens
 base:Un X.fs X.ex X.H₀ H X.s₀.heap s.heap
 loc:∃ m,s.heap.Ns X.env.locals m∧∀ (i:Nat) (x:Str) (v:V),X.N[i]?=some x→σ[i]?=some (some v)→Vis X.env.scope x→∃ u,zbR v u∧Look X.env s.heap m x u
 cell:∀ x c,X.env.cells.lookup x=some c→∃ v,s.heap.IsCell c v
 free:H X.env.locals=none
 freeC:∀ x c,X.env.cells.lookup x=some c→H c=none
 pin:∀ p∈X.pn++pins,s.heap.get? p.1=some p.2∧H p.1=none∧p.1≠X.env.locals∧p.1∉X.fs∧∀ v,p.2.data≠.cell v
 hok:HOk X.prog X.w H s.heap
 len:σ.length=X.N.length
section
variable {X:Cx} {pins:List (Addr×Obj)} {σ:List (Option V)} {H H':Hp} {s:Shared} {h':Heap}
theorem Cx.Ok.nofr (ok:X.Ok) {b:Addr} {o:Obj} (e:X.base.get? b=some o):b∉X.fs:=fun hb=>by
 have:=(ok.funs.mem hb).1
 rw [e] at this;cases this
theorem Inv.bs (I:Inv X pins σ H s):∀ b o,X.base.get? b=some o→s.heap.get? b=some o∧H b=none:=fun b o e =>
 ⟨I.base.keep b o (I.ok.bs b o e).1 (I.ok.bs b o e).2 (I.ok.nofr e) (I.ok.noex b o e),I.base.free b o (I.ok.bs b o e).1 (I.ok.bs b o e).2 (I.ok.noex b o e)⟩
theorem Inv.bk (I:Inv X pins σ H s):∀ b o,X.base.get? b=some o→s.heap.get? b=some o:=fun b o e=>(I.bs b o e).1
theorem Inv.mod (I:Inv X pins σ H s):Mod X.K X.mg X.base:=I.ok.mod
theorem Inv.kIn (I:Inv X pins σ H s):X.K.In s.heap:=I.ok.mod.kin.keeps I.bk
theorem Inv.lt (I:Inv X pins σ H s):X.env.locals<s.heap.objs.size:=let ⟨_,hn,_⟩:=I.loc;hn.lt
theorem Inv.sz (I:Inv X pins σ H s):X.s₀.heap.objs.size≤s.heap.objs.size:=Nat.le_trans I.ok.above (Nat.le_of_lt I.lt)
theorem Inv.nofs (I:Inv X pins σ H s) {a:Addr} (h:s.heap.objs.size≤a):a∉X.fs:=fun hb=>by
 obtain ⟨_,o,ho,_⟩:=I.ok.funs.mem hb
 exact absurd (Nat.lt_of_lt_of_le (Heap.lt_size ho) (Nat.le_trans I.sz h)) (Nat.lt_irrefl _)
theorem Inv.cne (I:Inv X pins σ H s):∀ x c,X.env.cells.lookup x=some c→c≠X.env.locals:=fun x c e z=>by
 obtain ⟨v,o,ho,hd⟩:=I.cell x c e
 obtain ⟨m,⟨o',es,ep,ho',hd',_⟩,_⟩:=I.loc
 rw [z,ho'] at ho;cases ho;rw [hd'] at hd;cases hd
theorem Inv.funs (I:Inv X pins σ H s):s.heap.FunFrames X.base X.outer:=by
 have all:∀ (l:List Env),(∀ b∈frs l,b∈X.fs)→X.s₀.heap.FunFrames X.base l→s.heap.FunFrames X.base l:=by
  intro l
  induction l with
  | nil=>intro _ _;trivial
  | cons env r ih =>
   intro hs hl
   obtain ⟨hk,⟨L,o,hf,hn,ho,hd⟩,hr⟩:=hl
   have hL:L∈X.fs:=hs L (by unfold frs;rw [List.filterMap_cons,hf];exact List.mem_cons_self)
   obtain ⟨sl,e⟩:=I.base.slot L o ho (I.ok.frf L hL) hL fun z=>I.ok.exfs L z hL
   exact ⟨hk,⟨L,_,hf,hn,e,hd⟩,ih (fun b hb=>hs b (by unfold frs;rw [List.filterMap_cons,hf];exact List.mem_cons_of_mem _ hb)) hr⟩
 exact all X.outer (fun _ hb=>hb) I.ok.funs
theorem Inv.stack (I:Inv X pins σ H s):s.heap.FunFrames X.base X.stack:=by
 rcases I.ok.stk with e | ⟨e,hf⟩
 ·rw [e];exact I.funs
 ·rw [e]
  obtain ⟨m,hn,_⟩:=I.loc
  refine .cons (by rw [I.ok.kind];decide) hf hn ?_ I.funs
  exact Heap.get?_none_of_le (Nat.le_trans I.ok.bsz I.ok.above)
theorem Inv.stkSub (I:Inv X pins σ H s):∀ b∈frs X.stack,b∈X.env.locals::X.fs:=fun b hb=>by
 rcases I.ok.stk with e | ⟨e,hf⟩
 ·rw [e] at hb;exact List.mem_cons_of_mem _ hb
 ·rw [e] at hb
  unfold frs at hb
  rw [List.filterMap_cons,hf] at hb
  exact hb
theorem Inv.stkFree (I:Inv X pins σ H s):∀ b∈frs X.stack,H b=none:=fun b hb=>by
 rcases List.mem_cons.mp (I.stkSub b hb) with e | hb
 ·rw [e];exact I.free
 ·obtain ⟨_,o,ho,_⟩:=I.ok.funs.mem hb
  exact I.base.free b o ho (I.ok.frf b hb) fun z=>I.ok.exfs b z hb
theorem Inv.step {g':Array GenState} {t':Nat} {d':Drawn} {ch:List Addr} (I:Inv X pins σ H s)
  (hch:∀ b∈ch,(b∈X.ex∨X.s₀.heap.objs.size≤b)∧b≠X.env.locals∧(∀ x c,X.env.cells.lookup x=some c→c≠b)∧∀ p∈X.pn++pins,p.1≠b)
  (keep:∀ b o,b≠X.env.locals→b∉X.fs→b∉ch→s.heap.get? b=some o→H b=none→h'.get? b=some o)
  (slot:∀ b o,b≠X.env.locals→b∈X.fs→b∉ch→s.heap.get? b=some o→H b=none→∃ sl,h'.get? b=some { o with slots:=sl }) (free:∀ b o,b∉ch→s.heap.get? b=some o→H b=none→H' b=none)
  (there:∀ b o,b∉ch→s.heap.get? b=some o→∃ o',h'.get? b=some o')
  (tups:∀ b xs,H b=some (.tup xs)→H' b=some (.tup xs)) (frzs:∀ b o u,H b=some (.frz o u)→H' b=some (.frz o u)) (tbls:∀ b ps,H b=some (.tbl ps)→∃ more,H' b=some (.tbl (ps++more)))
  (ns:∀ m,s.heap.Ns X.env.locals m→h'.Ns X.env.locals m) (hok:HOk X.prog X.w H' h') (hg:AllBare g') :
  Inv X pins σ H' { s with heap:=h',gens:=g',drawn:=d',toks:=t' }:=by
 have neL:∀ b o,X.s₀.heap.get? b=some o→b≠X.env.locals:=fun b o e=>Nat.ne_of_lt (Nat.lt_of_lt_of_le (Heap.lt_size e) I.ok.above)
 have neC:∀ b o,X.s₀.heap.get? b=some o→b∉X.ex→b∉ch:=fun b o e hx hb=>by
  rcases (hch b hb).1 with z | z
  ·exact hx z
  ·exact absurd (Nat.lt_of_lt_of_le (Heap.lt_size e) z) (Nat.lt_irrefl _)
 have cellK:∀ x c,X.env.cells.lookup x=some c→∀ v,s.heap.IsCell c v→h'.IsCell c v:=fun x c e v ⟨o,ho,hd⟩=>by
  have nch:c∉ch:=fun z=>(hch c z).2.2.1 x c e rfl
  by_cases hc:c∈X.fs
  ·obtain ⟨sl,q⟩:=slot c o (I.cne x c e) hc nch ho (I.freeC x c e)
   exact ⟨_,q,hd⟩
  ·exact ⟨o,keep c o (I.cne x c e) hc nch ho (I.freeC x c e),hd⟩
 refine ⟨I.ok,I.os,hg,⟨fun b o e n hb hx=>?_,fun b o e n hb hx=>?_,fun b o e n hx=>?_,fun b o e hx=>?_,fun b xs e=>tups b xs (I.base.tups b xs e),fun b o xs e=>frzs b o xs (I.base.frzs b o xs e),fun b ps e=>?_⟩,?_,fun x c e=>?_,?_,fun x c e=>?_,fun p hp=>?_,hok,I.len⟩
 ·exact keep b o (neL b o e) hb (neC b o e hx) (I.base.keep b o e n hb hx) (I.base.free b o e n hx)
 ·obtain ⟨sl,e1⟩:=I.base.slot b o e n hb hx
  obtain ⟨sl',e2⟩:=slot b _ (neL b o e) hb (neC b o e hx) e1 (I.base.free b o e n hx)
  exact ⟨sl',e2⟩
 ·obtain ⟨o',e1⟩:=I.base.there b o e hx
  exact free b o' (neC b o e hx) e1 (I.base.free b o e n hx)
 ·obtain ⟨o',e1⟩:=I.base.there b o e hx
  exact there b o' (neC b o e hx) e1
 ·obtain ⟨m1,e1⟩:=I.base.tbls b ps e
  obtain ⟨m2,e2⟩:=tbls b _ e1
  exact ⟨m1++m2,by rw [e2,Array.append_assoc]⟩
 ·obtain ⟨m,hn,hl⟩:=I.loc
  refine ⟨m,ns m hn,fun i x v e1 e2 e3=>?_⟩
  obtain ⟨u,r,l⟩:=hl i x v e1 e2 e3
  refine ⟨u,r,?_⟩
  rcases l with l | ⟨k,c,e,z⟩
  ·exact .inl l
  ·exact .inr ⟨k,c,e,cellK x c e _ z⟩
 ·obtain ⟨v,z⟩:=I.cell x c e
  exact ⟨v,cellK x c e v z⟩
 ·obtain ⟨m,⟨o,_,_,ho,_⟩,_⟩:=I.loc
  exact free _ o (fun z=>(hch _ z).2.1 rfl) ho I.free
 ·obtain ⟨v,o,ho,hd⟩:=I.cell x c e
  exact free c o (fun z=>(hch c z).2.2.1 x c e rfl) ho (I.freeC x c e)
 ·obtain ⟨e,n,ne,nf,d⟩:=I.pin p hp
  have nch:p.1∉ch:=fun z=>(hch p.1 z).2.2.2 p hp rfl
  exact ⟨keep p.1 p.2 ne nf nch e n,free p.1 p.2 nch e n,ne,nf,d⟩
theorem Inv.un {t':Nat} (I:Inv X pins σ H s) (u:Un X.fs [] H H' s.heap h') (hok:HOk X.prog X.w H' h'):Inv X pins σ H' { s with heap:=h',toks:=t' }:=by
 obtain ⟨m,⟨o,es,ep,ho,r⟩,_⟩:=id I.loc
 obtain ⟨sl,hL⟩:=u.any ho I.free (by simp)
 exact I.step (g':=s.gens) (d':=s.drawn) (ch:=[]) (fun _ z=>nomatch z) (fun b o _ hb _ e n=>u.keep b o e n hb (by simp)) (fun b o _ hb _ e n=>u.slot b o e n hb (by simp)) (fun b o _ e n=>u.free b o e n (by simp)) (fun b o _ e=>u.there b o e (by simp)) u.tups u.frzs u.tbls (fun m' hm=>by
  obtain ⟨o',es',ep',ho',r'⟩:=hm
  rw [ho] at ho';cases ho'
  exact ⟨_,es',ep',hL,r'⟩) hok I.bare
theorem Inv.call {g':Array GenState} {t':Nat} {d':Drawn} {ch:List Addr} (I:Inv X pins σ H s) (u:Un (frs X.stack) ch H H' s.heap h') (hok:HOk X.prog X.w H' h') (hg:AllBare g')
  (hch:∀ b∈ch,(b∈X.ex∨X.s₀.heap.objs.size≤b)∧b≠X.env.locals∧(∀ x c,X.env.cells.lookup x=some c→c≠b)∧∀ p∈X.pn++pins,p.1≠b) :
  Inv X pins σ H' { s with heap:=h',gens:=g',drawn:=d',toks:=t' }:=by
 obtain ⟨m,⟨o,es,ep,ho,r⟩,_⟩:=id I.loc
 obtain ⟨sl,hL⟩:=u.any ho I.free fun z=>(hch _ z).2.1 rfl
 exact I.step (ch:=ch) hch (fun b o hL hb hc e n=>u.keep b o e n (fun z=>(List.mem_cons.mp (I.stkSub b z)).elim hL hb) hc) (fun b o _ _ hc e n=>u.any e n hc) (fun b o hc e n=>u.free b o e n hc) (fun b o hc e=>u.there b o e hc) u.tups u.frzs u.tbls (fun m' hm=>by
  obtain ⟨o',es',ep',ho',r'⟩:=hm
  rw [ho] at ho';cases ho'
  exact ⟨_,es',ep',hL,r'⟩) hok hg
theorem Inv.turned {t':Nat} {it:Addr} (I:Inv X pins σ H s) (k:∀ b o,b≠it→s.heap.get? b=some o→h'.get? b=some o) (hn:H it=none) (hL:it≠X.env.locals)
  (h1:it∈X.ex∨X.s₀.heap.objs.size≤it) (h2:∀ x c,X.env.cells.lookup x=some c→c≠it) (h3:∀ p∈X.pn++pins,p.1≠it):Inv X pins σ H { s with heap:=h',toks:=t' }:=by
 have nit:∀ b u,H b=some u→b≠it:=fun b u e z=>by rw [z,hn] at e;cases e
 refine I.step (g':=s.gens) (d':=s.drawn) (ch:=[it]) (fun b hb=>?_) (fun b o _ _ hc e _=>k b o (fun z=>hc (by simp [z])) e) (fun b o _ _ hc e _=>⟨o.slots,k b o (fun z=>hc (by simp [z])) e⟩) (fun _ _ _ _ n=>n)
  (fun b o hc e=>⟨o,k b o (fun z=>hc (by simp [z])) e⟩) (fun _ _ e=>e) (fun _ _ _ e=>e) (fun b ps e=>⟨#[],by rw [e];simp⟩) (fun m hm=>?_) (fun b u e=>?_) I.bare
 ·have e:b=it:=by simpa using hb
  subst e
  exact ⟨h1,hL,h2,h3⟩
 ·obtain ⟨o,es,ep,ho,r⟩:=hm
  exact ⟨o,es,ep,k _ o (Ne.symm hL) ho,r⟩
 ·refine (I.hok b u e).stay (fun c v hc q=>k c v ?_ q) (fun _ q=>q) fun _ _ q=>q
  rcases hc with z | z
  ·rw [z];exact nit b u e
  ·exact nit c _ z
theorem Inv.tok (I:Inv X pins σ H s) (t:Nat):Inv X pins σ H { s with toks:=t }:=I.un (h':=s.heap) (t':=t) Un.refl I.hok
theorem Inv.kept {t':Nat} (I:Inv X pins σ H s) (k:∀ b u,s.heap.get? b=some u→h'.get? b=some u):Inv X pins σ H { s with heap:=h',toks:=t' }:=I.un (Un.kept k) (I.hok.kept k)
theorem Inv.laid {a:Addr} {o:HO} {t':Nat} (I:Inv X pins σ H s) (k:∀ b u,s.heap.get? b=some u→h'.get? b=some u) (hp:s.heap.objs.size≤a) (new:zb9 X.prog X.w (upd H a o) h' a o) :
  Inv X pins σ (upd H a o) { s with heap:=h',toks:=t' }:=I.un (Un.laid k hp (I.hok.fresh hp)) (I.hok.laid k hp new)
theorem Inv.write {x e:Addr} {o:HO} {t':Nat} (I:Inv X pins σ H s) (mu:Mut (H x)) (he:e=x∨H e=some (.own x)) (k:∀ b u,b≠e→s.heap.get? b=some u→h'.get? b=some u) (heo:∃ u,h'.get? e=some u)
  (new:zb9 X.prog X.w (upd H x o) h' x o):Inv X pins σ (upd H x o) { s with heap:=h',toks:=t' }:=I.un (Un.write mu he k heo) (I.hok.write mu he k heo new)
theorem Inv.pins_of {pins':List (Addr×Obj)} (I:Inv X pins σ H s) (h:∀ p∈pins',s.heap.get? p.1=some p.2∧H p.1=none∧p.1≠X.env.locals∧p.1∉X.fs∧∀ v,p.2.data≠.cell v):Inv X pins' σ H s :=
 ⟨I.ok,I.os,I.bare,I.base,I.loc,I.cell,I.free,I.freeC,fun p hp=>(List.mem_append.mp hp).elim (fun z=>I.pin p (List.mem_append_left _ z)) (h p),I.hok,I.len⟩
theorem zig {N:List Str} (hN:N.Nodup) {i j:Nat} {x:Str} (a:N[i]?=some x) (b:N[j]?=some x):i=j:=by
 obtain ⟨h1,e1⟩:=List.getElem?_eq_some_iff.mp a
 obtain ⟨h2,e2⟩:=List.getElem?_eq_some_iff.mp b
 exact (List.getElem_inj hN).mp (e1.trans e2.symm)
theorem zeV {M:Model} {A:Around} {E:Value→Shared→Prop} {i:Nat} {x:Str} {v:V} {u:Value} {Q:Unit→Shared→Prop} (I:Inv X pins σ H s) (hN:X.N.Nodup) (hi:X.N[i]?=some x) (hx:Loc X.env.scope x) (r:zbR v u)
  (h:∀ s',Inv X pins (σ.set i (some v)) H s'→(∃ a,Heap.SameBut a s.heap s'.heap∧(a=X.env.locals∨X.env.cells.lookup x=some a))→Q () s') (hf:X.fn x=true∨X.env.scope.names.lookup x=some .local:=by first | exact .inl rfl | exact .inr rfl | assumption):wpAny M A (storeName X.env x u) Q E s:=by
 obtain ⟨m,hn,hl⟩:=id I.loc
 have hcls:(X.env.scope.kind == .class || (X.env.scope.kind == .module&&X.env.locals != X.env.globals))=false:=by rw [I.ok.kind];rfl
 have hiσ:i<σ.length:=by rw [I.len];exact (List.getElem?_eq_some_iff.mp hi).1
 have cne:=I.cne
 have tracked:∀ {a:Addr} {h':Heap},(∃ o,s.heap.get? a=some o∧H a=none)→Heap.SameBut a s.heap h'→HOk X.prog X.w H h':=fun {a h'} ha hs b ob e=>by
  obtain ⟨_,_,hfree⟩:=ha
  refine (I.hok b ob e).stay (fun c w' hc q=>(hs.2 c ?_).trans q) (fun _ q=>q) fun _ _ q=>q
  rintro rfl
  rcases hc with rfl | hc
  ·rw [hfree] at e;cases e
  ·rw [hfree] at hc;cases hc
 rcases hx with hk | hk
 ·refine wpAny_storeName_local hk hn (fun h' hn' hs=>?_) hcls
  obtain ⟨oL,_,_,hoL,_⟩:=id hn
  refine h _ ⟨I.ok,I.os,I.bare,⟨fun b o e n hb hx=>?_,fun b o e n hb hx=>?_,I.base.free,fun b o e hx=>?_,I.base.tups,I.base.frzs,I.base.tbls⟩,⟨_,hn',fun j y v' e1 e2 e3=>?_⟩,fun y c e=>?_,I.free,I.freeC,fun p hp=>?_,tracked ⟨oL,hoL,I.free⟩ hs,by simpa using I.len⟩ ⟨_,hs,.inl rfl⟩
  ·exact (hs.2 b (Nat.ne_of_lt (Nat.lt_of_lt_of_le (Heap.lt_size e) I.ok.above))).trans (I.base.keep b o e n hb hx)
  ·obtain ⟨sl,e1⟩:=I.base.slot b o e n hb hx
   exact ⟨sl,(hs.2 b (Nat.ne_of_lt (Nat.lt_of_lt_of_le (Heap.lt_size e) I.ok.above))).trans e1⟩
  ·obtain ⟨o',e1⟩:=I.base.there b o e hx
   exact ⟨o',(hs.2 b (Nat.ne_of_lt (Nat.lt_of_lt_of_le (Heap.lt_size e) I.ok.above))).trans e1⟩
  ·by_cases hj:j=i
   ·subst hj
    rw [hi] at e1;cases e1
    rw [List.getElem?_set_self hiσ] at e2
    cases e2
    exact ⟨u,r,.inl ⟨hk,by simp⟩⟩
   ·rw [List.getElem?_set_ne (Ne.symm hj)] at e2
    obtain ⟨u',r',q⟩:=hl j y v' e1 e2 e3
    refine ⟨u',r',?_⟩
    rcases q with ⟨k,e⟩ | ⟨k,c,e,z⟩
    ·refine .inl ⟨k,?_⟩
     have:y≠x:=fun e=>hj (zig hN e1 (e ▸ hi))
     simp [this,e]
    ·exact .inr ⟨k,c,e,z.sameBut hs (cne y c e)⟩
  ·obtain ⟨w',z⟩:=I.cell y c e
   exact ⟨w',z.sameBut hs (cne y c e)⟩
  ·obtain ⟨e,n,ne,nf,d⟩:=I.pin p hp
   exact ⟨(hs.2 p.1 ne).trans e,n,ne,nf,d⟩
 ·have hfn:X.fn x=true:=by
   rcases hf with z | z
   ·exact z
   ·rw [z] at hk;cases hk
  obtain ⟨c,hc⟩:=I.ok.has x (.inl hk)
  obtain ⟨w',z⟩:=I.cell x c hc
  refine wpAny_storeName_cell I.ok.kind hk hc z (fun h' hc' hs=>?_)
  obtain ⟨oc,hoc,hocd⟩:=id z
  refine h { s with heap:=h' } ⟨I.ok,I.os,I.bare,⟨fun b o e n hb hx=>?_,fun b o e n hb hx=>?_,I.base.free,fun b o e hx=>?_,I.base.tups,I.base.frzs,I.base.tbls⟩,⟨m,hn.sameBut hs (Ne.symm (cne x c hc)),fun j y v' e1 e2 e3=>?_⟩,fun y c' e=>?_,I.free,I.freeC,fun p hp=>?_,tracked ⟨oc,hoc,I.freeC x c hc⟩ hs,by simpa using I.len⟩ ⟨c,hs,.inr hc⟩
  ·exact (hs.2 b (Nat.ne_of_lt (Nat.lt_of_lt_of_le (Heap.lt_size e) (I.ok.cab x c hfn hc)))).trans (I.base.keep b o e n hb hx)
  ·obtain ⟨sl,e1⟩:=I.base.slot b o e n hb hx
   exact ⟨sl,(hs.2 b (Nat.ne_of_lt (Nat.lt_of_lt_of_le (Heap.lt_size e) (I.ok.cab x c hfn hc)))).trans e1⟩
  ·obtain ⟨o',e1⟩:=I.base.there b o e hx
   exact ⟨o',(hs.2 b (Nat.ne_of_lt (Nat.lt_of_lt_of_le (Heap.lt_size e) (I.ok.cab x c hfn hc)))).trans e1⟩
  ·by_cases hj:j=i
   ·subst hj
    rw [hi] at e1;cases e1
    rw [List.getElem?_set_self hiσ] at e2
    cases e2
    exact ⟨u,r,.inr ⟨.inl hk,c,hc,hc'⟩⟩
   ·rw [List.getElem?_set_ne (Ne.symm hj)] at e2
    obtain ⟨u',r',q⟩:=hl j y v' e1 e2 e3
    refine ⟨u',r',?_⟩
    rcases q with q | ⟨k,c',e,z'⟩
    ·exact .inl q
    ·refine .inr ⟨k,c',e,z'.sameBut hs ?_⟩
     rintro rfl
     exact hj (zig hN e1 (I.ok.inj _ _ _ e hc ▸ hi))
  ·by_cases hcc:c'=c
   ·subst hcc;exact ⟨_,hc'⟩
   ·obtain ⟨w2,z2⟩:=I.cell y c' e
    exact ⟨w2,z2.sameBut hs hcc⟩
  ·obtain ⟨e,n,ne,nf,d⟩:=I.pin p hp
   refine ⟨(hs.2 p.1 ?_).trans e,n,ne,nf,d⟩
   intro q
   rw [q,hoc] at e
   have q':oc=p.2:=Option.some.inj e
   exact d w' (by rw [← q'];exact hocd)
theorem zeN {M:Model} {A:Around} {E:Value→Shared→Prop} {i:Nat} {x:Str} {v:V} {u:Value} {Q:Unit→Shared→Prop} (I:Inv X pins σ H s) (hN:X.N.Nodup) (hi:X.N[i]?=some x) (hx:Loc X.env.scope x) (r:zbR v u)
  (h:∀ s',Inv X pins (σ.set i (some v)) H s'→Q () s') (hf:X.fn x=true∨X.env.scope.names.lookup x=some .local:=by first | exact .inl rfl | exact .inr rfl | assumption):wpAny M A (storeName X.env x u) Q E s :=
 zeV I hN hi hx r (fun s' I' _=>h s' I') hf
theorem Inv.call' {s':Shared} {ch:List Addr} (I:Inv X pins σ H s) (ho:s'.os=s.os) (u:Un (frs X.stack) ch H H' s.heap s'.heap) (hok:HOk X.prog X.w H' s'.heap) (hg:AllBare s'.gens)
  (hch:∀ b∈ch,(b∈X.ex∨X.s₀.heap.objs.size≤b)∧b≠X.env.locals∧(∀ x c,X.env.cells.lookup x=some c→c≠b)∧∀ p∈X.pn++pins,p.1≠b):Inv X pins σ H' s':=by
 obtain ⟨h',g',d',t',o'⟩:=s'
 have e:o'=s.os:=ho
 subst e
 exact I.call (g':=g') (t':=t') (d':=d') u hok hg hch
end
abbrev XK:=Value→Option Addr→Hp→Prop
abbrev St:=List (Option V)
abbrev VK:=V→Hp→Prop
abbrev TE:=St→Hp→VK→Prop
abbrev TT:=St→Hp→(Bool→Hp→Prop)→Prop
abbrev TA:=St→Hp→(List V→Hp→Prop)→Prop
structure zcb where
 nx:St→Hp→Prop
 rt:VK
 bk:St→Hp→Prop:=fun _ _=>False
 ct:St→Hp→Prop:=fun _ _=>False
abbrev TS:=zcb→St→Hp→Prop
def EP (X:Cx) (pins:List (Addr×Obj)) (σ:St) (Q:VK) (u:Value) (s':Shared):Prop:=∃ v H',Inv X pins σ H' s'∧zbR v u∧Q v H'
def TP (X:Cx) (pins:List (Addr×Obj)) (σ:St) (Q:Bool→Hp→Prop) (b:Bool) (s':Shared):Prop:=∃ H',Inv X pins σ H' s'∧Q b H'
def AP (X:Cx) (pins:List (Addr×Obj)) (σ:St) (Q:List V→Hp→Prop) (us:List Value) (s':Shared):Prop:=∃ vs H',Inv X pins σ H' s'∧zbq vs us∧Q vs H'
def SP (X:Cx) (pins:List (Addr×Obj)) (D:zcb) (f:Flow) (s':Shared):Prop :=
 match f with
 | .next=>∃ σ' H',Inv X pins σ' H' s'∧D.nx σ' H'
 | .brk=>∃ σ' H',Inv X pins σ' H' s'∧D.bk σ' H'
 | .cont=>∃ σ' H',Inv X pins σ' H' s'∧D.ct σ' H'
 | .ret u=>∃ v σ' H',Inv X pins σ' H' s'∧zbR v u∧D.rt v H'
def PE (X:Cx) (e:Expr) (t:TE):Prop :=
 ∀ (pins:List (Addr×Obj)) (s:Shared) (σ:St) (H:Hp) (Q:VK),Inv X pins σ H s→t σ H Q→wpAny (model X.prog X.w) X.A (eval e X.env) (EP X pins σ Q) X.xe s
def PT (X:Cx) (e:Expr) (t:TT):Prop :=
 ∀ (pins:List (Addr×Obj)) (s:Shared) (σ:St) (H:Hp) (Q:Bool→Hp→Prop),Inv X pins σ H s→t σ H Q→wpAny (model X.prog X.w) X.A (isTrue e X.env (eval e X.env)) (TP X pins σ Q) X.xe s
def PW (X:Cx) (e:Expr) (t:TT):Prop :=
 ∀ (whole:Sem Value) (pins:List (Addr×Obj)) (s:Shared) (σ:St) (H:Hp) (Q:Bool→Hp→Prop),Inv X pins σ H s→t σ H Q→wpAny (model X.prog X.w) X.A (isTrue e X.env whole) (TP X pins σ Q) X.xe s
theorem PW.pt {X:Cx} {e:Expr} {t:TT} (h:PW X e t):PT X e t:=h _
def PA (X:Cx) (es:List Expr) (t:TA):Prop :=
 ∀ (pos:Pos) (pins:List (Addr×Obj)) (s:Shared) (σ:St) (H:Hp) (Q:List V→Hp→Prop),Inv X pins σ H s→t σ H Q→wpAny (model X.prog X.w) X.A (spliced (backTo pos (starEach es X.env))) (AP X pins σ Q) X.xe s
def PS (X:Cx) (st:Stmt) (t:TS):Prop :=
 ∀ (pins:List (Addr×Obj)) (s:Shared) (σ:St) (H:Hp) (D:zcb),Inv X pins σ H s→t D σ H→wpAny (model X.prog X.w) X.A (exec st X.env) (SP X pins D) X.xe s
def PSs (X:Cx) (st:List Stmt) (t:TS):Prop :=
 ∀ (pins:List (Addr×Obj)) (s:Shared) (σ:St) (H:Hp) (D:zcb),Inv X pins σ H s→t D σ H→wpAny (model X.prog X.w) X.A (execs st X.env) (SP X pins D) X.xe s
theorem thn {α:Type} {t:Sem α} {Q Q':α→Shared→Prop} {M:Model} {A:Around} {E:Value→Shared→Prop} {s:Shared} (h:wpAny M A t Q E s) (hQ:∀ a s,Q a s→Q' a s):wpAny M A t Q' E s:=wpAny_mono h hQ fun _ _ x=>x
end L2
namespace L2
open PySem PySem.Spec PyProof.Rows
section
variable {X:Cx}
def zab (i:Nat):TE:=fun σ H Q=>∃ v,σ[i]?=some (some v)∧Q v H
def tC (v:V):TE:=fun _ H Q=>Q v H
theorem zoa {i:Nat} {x:Str} {pos:Pos} (hN:X.N[i]?=some x) (hv:Vis X.env.scope x) (hd:(x == ("__debug__":Str))=false:=by decide) (hcd:(x == ("__classdict__":Str))=false:=by decide):PE X (.Name x pos) (zab i):=by
 intro pins s σ H Q I h
 obtain ⟨v,e,h⟩:=h
 obtain ⟨m,hn,hl⟩:=I.loc
 obtain ⟨u,r,l⟩:=hl i x v hN e hv
 have fin:EP X pins σ Q u s:=⟨v,H,I,r,h⟩
 rcases l with ⟨hk,hm⟩ | ⟨hk,c,hc,hcell⟩
 ·exact wpAny_Name (wpAny_loadName_local I.ok.kind hk hn hm fin) hd
 ·rcases hk with hk | hk
  ·exact wpAny_Name (wpAny_loadName_cell I.ok.kind hk hc hcell fin) hd
  ·exact wpAny_Name (wpAny_loadName_free I.ok.kind hk hc hcell fin hcd) hd
theorem zaj {i j pos}:PE X (.Constant (.int i) j pos) (tC (.int i)):=fun _ _ _ H _ I h=>wpAny_Constant_int ⟨.int i,H,I.tok _,⟨_,rfl⟩,h⟩
theorem zg8 {b j pos}:PE X (.Constant (.bool b) j pos) (tC (.bl b)):=fun _ _ _ H _ I h=>Constant_bool ⟨.bl b,H,I,rfl,h⟩
theorem zid {j pos}:PE X (.Constant .none j pos) (tC .non):=fun _ _ _ H _ I h=>Constant_none ⟨.non,H,I,rfl,h⟩
def Gl (X:Cx) (x:Str):Prop:=X.env.kindOf x=some .globalImplicit
theorem zhP {E:Value→Shared→Prop} {pins:List (Addr×Obj)} {s:Shared} {σ:St} {H:Hp} {x:Str} {u:Value} {pos:Pos} {Q:Value→Shared→Prop} (I:Inv X pins σ H s) (hg:Gl X x) (hm:X.mg x=some u) (h:Q u s)
  (hd:(x == ("__debug__":Str))=false:=by decide):wpAny (model X.prog X.w) X.A (eval (.Name x pos) X.env) Q E s :=
 Calls.Name_function_global I.ok.kind hg (Calls.loadGlobal_global (by rw [I.ok.glob];exact I.mod.glob.keeps I.bk) hm h) hd
theorem zeZ {E:Value→Shared→Prop} {pins:List (Addr×Obj)} {s:Shared} {σ:St} {H:Hp} {x:Str} {u:Value} {pos:Pos} {Q:Value→Shared→Prop} (I:Inv X pins σ H s) (hg:Gl X x) (hm:X.mg x=none) (hv:bootBuiltins x=some u) (h:Q u s)
  (hn:x≠"__name__":=by decide) (hd:(x == ("__debug__":Str))=false:=by decide):wpAny (model X.prog X.w) X.A (eval (.Name x pos) X.env) Q E s:=by
 obtain ⟨mb,h1,h2⟩:=I.mod.blt
 exact Calls.Name_function_global I.ok.kind hg (Calls.loadGlobal_builtin (by rw [I.ok.glob];exact I.mod.glob.keeps I.bk) hm (by rw [I.ok.blt];exact h1.keeps I.bk) ((h2 x hn).trans hv) h) hd
theorem zjA {x:Str} {v:V} {u:Value} {pos:Pos} (hg:Gl X x) (hm:X.mg x=some u) (r:zbR v u) (hd:(x == ("__debug__":Str))=false:=by decide):PE X (.Name x pos) (tC v) :=
 fun _ _ _ H _ I h=>zhP I hg hm ⟨v,H,I,r,h⟩ hd
theorem zgc {x:Str} {v:V} {u:Value} {pos:Pos} (hg:Gl X x) (hm:X.mg x=none) (hv:bootBuiltins x=some u) (r:zbR v u) (hn:x≠"__name__":=by decide) (hd:(x == ("__debug__":Str))=false:=by decide):PE X (.Name x pos) (tC v) :=
 fun _ _ _ H _ I h=>zeZ I hg hm hv ⟨v,H,I,r,h⟩ hn hd
variable {a b:Expr} {ta tb:TE} {pos:Pos}
def tB (t:TE):TT:=fun σ H Q=>t σ H fun x H1=>∃ c,x=.bl c∧Q c H1
theorem zhW {e:Expr} {t:TE} (h:PE X e t) (he:∀ whole,isTrue e X.env whole=(do let v ← whole;standAt e.pos;holding [v] (truthy v)):=by intro _;rfl):PT X e (tB t):=by
 intro pins s σ H Q I hw
 refine isTrue_plain (thn (h pins s σ H _ I hw) fun v s1 hQ'=>?_) (he _)
 obtain ⟨x,H1,I1,r1,q1⟩:=hQ'
 obtain ⟨d,rfl,q⟩:=q1
 cases r1
 exact wpAny_truthy_bool ⟨H1,I1,q⟩
variable {tA tB':TT} {rest:List Expr}
def tAnd (t u:TT):TT:=fun σ H Q=>t σ H fun c H1=>if c=true then u σ H1 Q else Q false H1
def tOr (t u:TT):TT:=fun σ H Q=>t σ H fun c H1=>if c=true then Q true H1 else u σ H1 Q
def zlt (t:TT):TT:=fun σ H Q=>t σ H fun c H1=>Q (!c) H1
theorem zl7 (ha:PT X a tA):PW X (.BoolOp .And [a] pos) tA:=by
 intro wh pins s σ H Q I h
 refine isTrue_and (thn (ha pins s σ H Q I h) fun c s1 e=>?_)
 cases c with
 | true=>exact isTrue_and_nil e
 | false=>exact e
theorem zlj (ha:PT X a tA):PW X (.BoolOp .Or [a] pos) tA:=by
 intro wh pins s σ H Q I h
 refine isTrue_or (thn (ha pins s σ H Q I h) fun c s1 e=>?_)
 cases c with
 | false=>exact isTrue_or_nil e
 | true=>exact e
theorem zok (ha:PT X a tA) (hb:PW X (.BoolOp .And (b::rest) pos) tB'):PW X (.BoolOp .And (a::b::rest) pos) (tAnd tA tB'):=by
 intro wh pins s σ H Q I h
 refine isTrue_and (thn (ha pins s σ H _ I h) fun c s1 hQ'=>?_)
 obtain ⟨H1,I1,q1⟩:=hQ'
 cases c with
 | true=>exact hb wh pins s1 σ H1 Q I1 q1
 | false=>exact ⟨H1,I1,q1⟩
theorem zn5 (ha:PT X a tA) (hb:PW X (.BoolOp .Or (b::rest) pos) tB'):PW X (.BoolOp .Or (a::b::rest) pos) (tOr tA tB'):=by
 intro wh pins s σ H Q I h
 refine isTrue_or (thn (ha pins s σ H _ I h) fun c s1 hQ'=>?_)
 obtain ⟨H1,I1,q1⟩:=hQ'
 cases c with
 | true=>exact ⟨H1,I1,q1⟩
 | false=>exact hb wh pins s1 σ H1 Q I1 q1
theorem zij (ha:PT X a tA):PT X (.UnaryOp .Not a pos) (zlt tA):=by
 intro pins s σ H Q I h
 exact isTrue_not (ha pins s σ H (fun c H1=>Q (!c) H1) I h)
def zgz (ta tb:TE):TE:=fun σ H Q=>ta σ H fun x H1=>∃ c,x=.bl c∧if c=true then tb σ H1 Q else Q (.bl false) H1
def tOrV (ta tb:TE):TE:=fun σ H Q=>ta σ H fun x H1=>∃ c,x=.bl c∧if c=true then Q (.bl true) H1 else tb σ H1 Q
def zmz (ta:TE):TE:=fun σ H Q=>ta σ H fun x H1=>∃ c,x=.bl c∧Q (.bl (!c)) H1
theorem zgS {op} {t:TE} (h:PE X a t):PE X (.BoolOp op [a] pos) t:=fun pins s σ H Q I hw=>BoolOp_one (h pins s σ H Q I hw)
theorem zhd (ha:PE X a ta) (hb:PE X (.BoolOp .And (b::rest) pos) tb):PE X (.BoolOp .And (a::b::rest) pos) (zgz ta tb):=by
 intro pins s σ H Q I h
 refine BoolOp_and (thn (ha pins s σ H _ I h) fun v s1 hQ'=>?_)
 obtain ⟨x,H1,I1,r1,q1⟩:=hQ'
 obtain ⟨c,rfl,q1⟩:=q1
 cases r1
 refine wpAny_truthy_bool ?_
 cases c with
 | true=>exact hb pins s1 σ H1 Q I1 q1
 | false=>exact ⟨.bl false,H1,I1,rfl,q1⟩
theorem pe_or (ha:PE X a ta) (hb:PE X (.BoolOp .Or (b::rest) pos) tb):PE X (.BoolOp .Or (a::b::rest) pos) (tOrV ta tb):=by
 intro pins s σ H Q I h
 refine BoolOp_or (thn (ha pins s σ H _ I h) fun v s1 hQ'=>?_)
 obtain ⟨x,H1,I1,r1,q1⟩:=hQ'
 obtain ⟨c,rfl,q1⟩:=q1
 cases r1
 refine wpAny_truthy_bool ?_
 cases c with
 | false=>exact hb pins s1 σ H1 Q I1 q1
 | true=>exact ⟨.bl true,H1,I1,rfl,q1⟩
theorem znV (ha:PE X a ta):PE X (.UnaryOp .Not a pos) (zmz ta):=by
 intro pins s σ H Q I h
 refine UnaryOp_ (thn (ha pins s σ H _ I h) fun v s1 hQ'=>?_)
 obtain ⟨x,H1,I1,r1,q1⟩:=hQ'
 obtain ⟨c,rfl,q1⟩:=q1
 cases r1
 exact not_of (wpAny_truthy_bool ⟨.bl (!c),H1,I1,rfl,q1⟩)
end
end L2
namespace L2
open PySem PySem.Spec PyProof.Rows
def SqL (K:PySem.W.Frag) (H:Hp) (a:Addr) (xs:List V):Prop :=
 Rd H a (.lst xs) ∨
  ∃ (o:Obj) (its:Array Value) (n:Nat),K.lookup a=some o∧o.cls=.type "list"∧o.dict=none∧o.data=.seq its n∧its.size≤sizeLine∧zbq xs its.toList
def SqT (K:PySem.W.Frag) (H:Hp) (a:Addr) (xs:List V):Prop :=
 Rd H a (.tup xs) ∨
  ∃ (o:Obj) (its:Array Value) (n:Nat),K.lookup a=some o∧o.cls=.type "tuple"∧o.data=.seq its n∧its.size≤sizeLine∧zbq xs its.toList
def absV:Value→Option V
 | .none=>some .non
 | .bool b=>some (.bl b)
 | .int i _=>some (.int i)
 | .str x _=>some (.str x)
 | .bytes b _=>some (.byt b)
 | .float b _=>some (.flt b)
 | .ref a=>some (.ref a)
 | .type n=>some (.ty n)
 | _=>none
theorem zbR.abs {x:V} {u:Value} (r:zbR x u):absV u=some x:=by
 cases x with
 | non=>cases r;rfl
 | bl _=>cases r;rfl
 | int _=>obtain ⟨t,rfl⟩:=r;rfl
 | str _=>obtain ⟨t,rfl⟩:=r;rfl
 | byt _=>obtain ⟨t,rfl⟩:=r;rfl
 | flt _=>obtain ⟨t,rfl⟩:=r;rfl
 | ref _=>cases r;rfl
 | ty _=>cases r;rfl
theorem zbR.inj {x y:V} {u:Value} (r:zbR x u) (q:zbR y u):x=y:=Option.some.inj (r.abs.symm.trans q.abs)
theorem zbq.inj:∀ {xs ys:List V} {us:List Value},zbq xs us→zbq ys us→xs=ys
 | _,_,_,.nil,.nil=>rfl
 | _,_,_,.cons r t,.cons r' t'=>by rw [r.inj r',zbq.inj t t']
section
variable {X:Cx} {pins:List (Addr×Obj)} {σ:St} {H:Hp} {s:Shared} {a:Addr} {xs ys:List V}
theorem SqL.of {K:PySem.W.Frag} (h:H a=some (.lst xs)):SqL K H a xs:=.inl (.inl h)
theorem SqT.of {K:PySem.W.Frag} (h:H a=some (.tup xs)):SqT K H a xs:=.inl (.inl h)
theorem Inv.list (I:Inv X pins σ H s) (h:SqL X.K H a xs):∃ its:List Value,zbq xs its∧PlainL s.heap a its.toArray∧xs.length≤sizeLine:=by
 rcases h with h | ⟨o,its,n,hk,hc,hd,hs,hz,r⟩
 ·obtain ⟨z,its,n,r,e⟩:=h.ok I.hok
  exact ⟨its,r,⟨_,n,e,rfl,rfl,rfl⟩,z⟩
 ·refine ⟨its.toList,r,⟨o,n,I.kIn a o hk,hc,hd,by simpa using hs⟩,?_⟩
  have e:=r.length
  simp only [Array.length_toList] at e
  (first|lia|omega)
theorem Inv.tuple (I:Inv X pins σ H s) (h:SqT X.K H a xs):∃ its:List Value,zbq xs its∧IsTup s.heap a its.toArray∧xs.length≤sizeLine:=by
 rcases h with h | ⟨o,its,n,hk,hc,hs,hz,r⟩
 ·obtain ⟨z,its,r,p⟩:=h.ok I.hok
  exact ⟨its,r,p,z⟩
 ·refine ⟨its.toList,r,⟨o,I.kIn a o hk,hc,n,by simpa using hs⟩,?_⟩
  have e:=r.length
  simp only [Array.length_toList] at e
  (first|lia|omega)
theorem Inv.list_inj (I:Inv X pins σ H s) (h:SqL X.K H a xs) (h':SqL X.K H a ys):xs=ys:=by
 obtain ⟨its,r,⟨o,n,e,_,_,d⟩,_⟩:=I.list h
 obtain ⟨its',r',⟨o',n',e',_,_,d'⟩,_⟩:=I.list h'
 rw [e] at e';cases e'
 rw [d] at d'
 injection d' with d1 _
 have:its=its':=by simpa using congrArg Array.toList d1
 subst this
 exact r.inj r'
end
abbrev Cx.wish (X:Cx) (E:Value→Shared→Prop):Cx:={ X with xe:=E }
abbrev Cx.nox (X:Cx):Cx:=X.wish fun _ _=>False
theorem Cx.Ok.wish {X:Cx} (ok:X.Ok) (E:Value→Shared→Prop):(X.wish E).Ok :=
 ⟨ok.mod,ok.kind,ok.glob,ok.blt,ok.above,ok.inj,ok.has,ok.cab,ok.hd,ok.frames,ok.stk,ok.exf,ok.bs,ok.bsz,ok.noex,ok.exfs,ok.funs,ok.frf⟩
theorem Cx.Ok.unwish {X:Cx} {E:Value→Shared→Prop} (ok:(X.wish E).Ok):X.Ok :=
 ⟨ok.mod,ok.kind,ok.glob,ok.blt,ok.above,ok.inj,ok.has,ok.cab,ok.hd,ok.frames,ok.stk,ok.exf,ok.bs,ok.bsz,ok.noex,ok.exfs,ok.funs,ok.frf⟩
section
variable {X:Cx} {pins:List (Addr×Obj)} {σ:St} {H:Hp} {s:Shared} {E:Value→Shared→Prop}
theorem Inv.wish (I:Inv X pins σ H s) (E:Value→Shared→Prop):Inv (X.wish E) pins σ H s:=⟨I.ok.wish E,I.os,I.bare,I.base,I.loc,I.cell,I.free,I.freeC,I.pin,I.hok,I.len⟩
theorem Inv.unwish (I:Inv (X.wish E) pins σ H s):Inv X pins σ H s:=⟨I.ok.unwish,I.os,I.bare,I.base,I.loc,I.cell,I.free,I.freeC,I.pin,I.hok,I.len⟩
theorem SP.unwish {D:zcb} {f:Flow} {s':Shared} (h:SP (X.wish E) pins D f s'):SP X pins D f s':=by
 cases f with
 | next=>obtain ⟨σ',H',I,q⟩:=h;exact ⟨σ',H',I.unwish,q⟩
 | brk=>obtain ⟨σ',H',I,q⟩:=h;exact ⟨σ',H',I.unwish,q⟩
 | cont=>obtain ⟨σ',H',I,q⟩:=h;exact ⟨σ',H',I.unwish,q⟩
 | ret u=>obtain ⟨v,σ',H',I,r,q⟩:=h;exact ⟨v,σ',H',I.unwish,r,q⟩
theorem PSs.nox {st:List Stmt} {t:TS} (h:PSs X.nox st t):PSs X st t:=fun pins s σ H D I hw =>
 wpAny_mono (h pins s σ H D (I.wish _) hw) (fun _ _ q=>q.unwish) fun _ _ z=>False.elim z
end
section
variable {X:Cx} {st:Stmt} {rest:List Stmt} {t u:TS} {e:Expr} {te:TE} {pos:Pos}
def zbo:TS:=fun D σ H=>D.nx σ H
def zaM (t u:TS):TS:=fun D σ H=>t { D with nx:=u D } σ H
theorem zbi:PSs X [] zbo:=fun _ _ σ H _ I h=>wpAny_execs_nil ⟨σ,H,I,h⟩
theorem zad (h1:PS X st t) (h2:PSs X rest u):PSs X (st::rest) (zaM t u):=by
 intro pins s σ H D I h
 refine wpAny_execs_cons (thn (h1 pins s σ H { D with nx:=u D } I h) fun f s1 q=>?_)
 cases f with
 | next =>
  obtain ⟨σ',H',I',q⟩:=q
  exact h2 pins s1 σ' H' D I' q
 | ret v=>exact q
 | brk=>exact q
 | cont=>exact q
theorem zam (h1:PS X st t):PSs X [st] t:=by
 intro pins s σ H D I h
 refine wpAny_execs_cons (thn (h1 pins s σ H D I h) fun f s1 q=>?_)
 cases f with
 | next=>exact wpAny_execs_nil q
 | ret v=>exact q
 | brk=>exact q
 | cont=>exact q
theorem Inv.quiet {pins:List (Addr×Obj)} {σ:St} {H:Hp} {s:Shared} (I:Inv X pins σ H s):interactive X.env=false:=by simp [interactive,I.ok.kind]
def zgf (te:TE):TS:=fun D σ H=>te σ H fun _ H1=>D.nx σ H1
theorem zgd (he:PE X e te) (hs:swapsWith e none pos.line X.env=pure false:=by rfl):PS X (.Expr e pos) (zgf te):=by
 intro pins s σ H D I h
 exact wpAny_Expr_any (thn (he pins s σ H _ I h) fun v s1 ⟨x,H1,I1,r1,q1⟩=>⟨σ,H1,I1,q1⟩) I.quiet hs
def zbM (te:TE):TS:=fun D σ H=>te σ H D.rt
theorem zaQ (he:PE X e te):PS X (.Return (some e) pos) (zbM te):=by
 intro pins s σ H D I h
 exact wpAny_Return_some (thn (he pins s σ H _ I h) fun v s1 ⟨x,H1,I1,r1,q1⟩=>⟨x,σ,H1,I1,r1,q1⟩)
def zda (c:TT) (t u:TS):TS:=fun D σ H=>c σ H fun b H1=>if b=true then t D σ H1 else u D σ H1
theorem zcZ {c:Expr} {a b:List Stmt} {tc:TT} (hc:PT X c tc) (ha:PSs X a t) (hb:PSs X b u):PS X (.If c a b pos) (zda tc t u):=by
 intro pins s σ H D I h
 refine wpAny_If (thn (hc pins s σ H _ I h) fun d s1 hQ'=>?_)
 obtain ⟨H1,I1,q1⟩:=hQ'
 cases d with
 | true=>exact ha pins s1 σ H1 D I1 q1
 | false=>exact hb pins s1 σ H1 D I1 q1
def zi8:TS:=fun _ _ _=>False
theorem zib:PS X st zi8:=fun _ _ _ _ _ _ h=>h.elim
end
abbrev TG:=V→St→Hp→(St→Hp→Prop)→Prop
abbrev TGs:=List V→St→Hp→(St→Hp→Prop)→Prop
def PG (X:Cx) (target:Expr) (t:TG):Prop :=
 ∀ (pins:List (Addr×Obj)) (s:Shared) (σ:St) (H:Hp) (v:V) (u:Value) (Q:St→Hp→Prop),Inv X pins σ H s→zbR v u→t v σ H Q →
  wpAny (model X.prog X.w) X.A (assign target X.env u) (fun _ s'=>∃ σ' H',Inv X pins σ' H' s'∧Q σ' H') X.xe s
def PGs (X:Cx) (ts:List Expr) (t:TGs):Prop :=
 ∀ (pins:List (Addr×Obj)) (s:Shared) (σ:St) (H:Hp) (vs:List V) (us:List Value) (Q:St→Hp→Prop),Inv X pins σ H s→zbq vs us→t vs σ H Q →
  wpAny (model X.prog X.w) X.A (assignInOrder ((assignEach ts X.env).map (·.2)) us) (fun _ s'=>∃ σ' H',Inv X pins σ' H' s'∧Q σ' H') X.xe s
abbrev TSet:=V→V→V→Hp→(Hp→Prop)→Prop
def PSet (X:Cx) (t:TSet):Prop :=
 ∀ (pins:List (Addr×Obj)) (s:Shared) (σ:St) (H:Hp) (o i v:V) (ov iv u:Value) (Q:Hp→Prop),Inv X pins σ H s→zbR o ov→zbR i iv→zbR v u→t o i v H Q →
  wpAny (model X.prog X.w) X.A (setItem ov iv u) (fun _ s'=>∃ H',Inv X pins σ H' s'∧Q H') X.xe s
section
variable {X:Cx} {pos:Pos}
def zai (i:Nat):TG:=fun v σ H Q=>Q (σ.set i (some v)) H
theorem zau {i:Nat} {x:Str} (hN:X.N.Nodup) (hi:X.N[i]?=some x) (hx:Loc X.env.scope x) (hf:X.fn x=true∨X.env.scope.names.lookup x=some .local:=by first | exact .inl rfl | exact .inr rfl | assumption):PG X (.Name x pos) (zai i):=by
 intro pins s σ H v u Q I r h
 exact wpAny_assign_Name (zeN I hN hi hx r (fun s' I'=>⟨_,H,I',h⟩) hf)
def znl:TGs:=fun vs σ H Q=>vs=[]∧Q σ H
def zfm (t:TG) (u:TGs):TGs:=fun vs σ H Q=>∃ v r,vs=v::r∧t v σ H fun σ' H'=>u r σ' H' Q
theorem zho:PGs X [] znl:=by
 intro pins s σ H vs us Q I r h
 obtain ⟨e,h⟩:=h
 subst e
 cases r
 exact assignInOrder_nil ⟨σ,H,I,h⟩
theorem zdq {e:Expr} {es:List Expr} {t:TG} {u:TGs} (h1:PG X e t) (h2:PGs X es u)
  (hs:(assignEach (e::es) X.env).map (·.2)=assign e X.env::(assignEach es X.env).map (·.2):=by rfl):PGs X (e::es) (zfm t u):=by
 intro pins s σ H vs us Q I r h
 obtain ⟨v,vr,e1,h⟩:=h
 subst e1
 cases r with
 | cons r rr =>
  rw [hs]
  refine assignInOrder_cons (thn (h1 pins s σ H _ _ _ I r h) fun _ s1 hQ'=>?_)
  obtain ⟨σ1,H1,I1,q1⟩:=hQ'
  exact h2 pins s1 σ1 H1 _ _ Q I1 rr q1
def zne (K:PySem.W.Frag) (n:Nat) (t:TGs):TG:=fun v σ H Q=>∃ a xs,v=.ref a∧SqT K H a xs∧xs.length=n∧t xs σ H Q
theorem zjq {es:List Expr} {k:Nat} {t:TGs} {n:Nat} (hc:X.calm=true) (h:PGs X es t)
  (hn:(assignEach es X.env).length=n:=by rfl) (hst:(assignEach es X.env).findIdx? (·.1)=none:=by rfl):PG X (.Tuple es k pos) (zne X.K n t):=by
 intro pins s σ H v u Q I r hw
 obtain ⟨a,xs,e1,hq,hl,hw⟩:=hw
 subst e1
 cases r
 obtain ⟨its,rv,ht,hz⟩:=I.tuple hq
 refine assign_Tuple_tuple (I.ok.hd hc) ht (by simp [hn,← hl,rv.length]) hst fun h' hx=>?_
 have I1:Inv X pins σ H { s with heap:=h' }:=I.kept (t':=s.toks) fun b o e=>hx b o (Nat.ne_of_lt (Heap.lt_size e)) e
 exact h pins _ σ H xs _ Q I1 (by simpa using rv) hw
def zhv (to ti:TE) (t:TSet):TG:=fun v σ H Q=>to σ H fun o H1=>ti σ H1 fun i H2=>t o i v H2 fun H3=>Q σ H3
theorem zeA {o i:Expr} {to ti:TE} {t:TSet} (ho:PE X o to) (hi:PE X i ti) (hs:PSet X t)
  (ha:∀ v,assign (.Subscript o i pos) X.env v=(do
   let ov ← holding [v] (eval o X.env)
   let iv ← holding [v,ov] (eval i X.env)
   standAt pos
   holding [v,ov,iv] (setItem ov iv v)
   release [v,ov,iv] []):=by intro _;rfl):PG X (.Subscript o i pos) (zhv to ti t):=by
 intro pins s σ H v u Q I r h
 rw [ha]
 refine wpAny_bind (wpAny_holding (thn (ho pins s σ H _ I h) fun ov s1 hQ'=>?_))
 obtain ⟨x,H1,I1,r1,q1⟩:=hQ'
 refine wpAny_bind (wpAny_holding (thn (hi pins s1 σ H1 _ I1 q1) fun iv s2 hQ'=>?_))
 obtain ⟨y,H2,I2,r2,q2⟩:=hQ'
 refine wpAny_bind (wpAny_standAt (wpAny_bind (wpAny_holding (thn (hs pins s2 σ H2 x y v ov iv u _ I2 r1 r2 r q2) fun _ s3 hQ'=>?_))))
 obtain ⟨H3,I3,q3⟩:=hQ'
 exact wpAny_release ⟨σ,H3,I3,q3⟩
def zaU (te:TE) (g:TG):TS:=fun D σ H=>te σ H fun x H1=>g x σ H1 D.nx
theorem zdN {tg e:Expr} {te:TE} {g:TG} (he:PE X e te) (hg:PG X tg g) (hs:swapsWithSole [tg] e pos.line X.env=pure false:=by rfl) (hw:swappedStores [tg] e X.env=pure none:=by rfl)
  (h1:(assignEach [tg] X.env).map (·.2)=[assign tg X.env]:=by rfl):PS X (.Assign [tg] e pos) (zaU te g):=by
 intro pins s σ H D I h
 refine wpAny_Assign_stores (thn (he pins s σ H _ I h) fun v s1 hQ'=>?_) hs hw
 obtain ⟨x,H1,I1,r1,q1⟩:=hQ'
 rw [h1]
 exact thn (hg pins s1 σ H1 x v _ I1 r1 q1) fun _ s2 q=>q
theorem zas {i:Nat} {x:Str} {e:Expr} {te:TE} {pos':Pos} (hN:X.N.Nodup) (hi:X.N[i]?=some x) (hx:Loc X.env.scope x) (he:PE X e te) (hs:swapsWith e (some (.Name x pos')) pos.line X.env=pure false:=by rfl) (hf:X.fn x=true∨X.env.scope.names.lookup x=some .local:=by first | exact .inl rfl | exact .inr rfl | assumption) :
  PS X (.Assign [.Name x pos'] e pos) (zaU te (zai i)):=by
 intro pins s σ H D I h
 refine wpAny_Assign_Name (thn (he pins s σ H _ I h) fun v s1 hQ'=>?_) hs
 obtain ⟨y,H1,I1,r1,q1⟩:=hQ'
 exact zeN I1 hN hi hx r1 (fun s2 I2=>⟨_,H1,I2,q1⟩) hf
def tPar (i j:Nat) (ta:TA):TS:=fun D σ H=>ta σ H fun vs H1=>∃ v w,vs=[v,w]∧D.nx ((σ.set i (some v)).set j (some w)) H1
theorem znE {i j:Nat} {x y:Str} {a b:Expr} {ta:TA} {px py pt:Pos} {kt k2 pt2} (hc:X.calm=true) (hN:X.N.Nodup) (hi:X.N[i]?=some x) (hj:X.N[j]?=some y) (hij:i≠j)
  (hx:X.env.scope.names.lookup x=some .local) (hy:X.env.scope.names.lookup y=some .local) (ha:PA X [a,b] ta)
  (hw:swappedStores [.Tuple [.Name x px,.Name y py] kt pt] (.Tuple [a,b] k2 pt2) X.env=pure (some [x,y]))
  (hs:swapsWithSole [.Tuple [.Name x px,.Name y py] kt pt] (.Tuple [a,b] k2 pt2) pos.line X.env=pure false:=by rfl) :
  PS X (.Assign [.Tuple [.Name x px,.Name y py] kt pt] (.Tuple [a,b] k2 pt2) pos) (tPar i j ta):=by
 intro pins s σ H D I h
 rw [exec_Assign_arm]
 refine wpAny_bind (wpAny_standAt ?_)
 rw [hs]
 refine wpAny_bind (wpAny_pure ?_)
 rw [if_neg (by decide)]
 refine wpAny_bind (Tuple_ (thn (ha _ pins s σ H _ I h) fun us s1 hQ'=>?_))
 obtain ⟨vs,H1,I1,r1,q1⟩:=hQ'
 obtain ⟨v,w,e1,q1⟩:=q1
 subst e1
 obtain ⟨u1,u2,rfl,rv,rw'⟩:∃ u1 u2,us=[u1,u2]∧zbR v u1∧zbR w u2:=by
  cases r1 with
  | cons p q =>
   cases q with
   | cons p' q' =>
    cases q'
    exact ⟨_,_,rfl,p,p'⟩
 refine wpAny_newObj_type ?_ (by show 2≤sizeLine;decide)
 have I2:Inv X pins σ H1 { s1 with heap:=s1.heap.push { cls:=.type "tuple",data:=.seq [u1,u2].toArray } }:=I1.kept (t':=s1.toks) fun b o e=>Heap.get?_push_of_some _ e
 rw [hw]
 refine wpAny_bind (wpAny_pure ?_)
 show wpAny (model X.prog X.w) X.A (do rule "assign.swapped-stores";let items ← unpackItems (.ref s1.heap.objs.size) 2 none;assignInOrder [fun v=>bindName X.env y v,fun v=>bindName X.env x v] items.reverse;pure Flow.next) _ _ _
 refine wpAny_bind (wpAny_rule (wpAny_bind (unpackItems_tuple (items:=#[u1,u2]) (I.ok.hd hc) (IsTup.new s1.heap _) fun h' hx'=>?_)))
 have I3:=I2.kept (h':=h') (t':=s1.toks) fun b o e=>hx' b o (Nat.ne_of_lt (Heap.lt_size e)) e
 show wpAny _ _ (assignInOrder [fun v=>bindName X.env y v,fun v=>bindName X.env x v] [u2,u1] >>= fun _=>pure Flow.next) _ _ _
 refine wpAny_bind (assignInOrder_cons (wpAny_bindName (zeN I3 hN hj (.inl hy) rw' (fun s2 I4=>?_) (.inr hy))))
 refine assignInOrder_cons (wpAny_bindName (zeN I4 hN hi (.inl hx) rv (fun s3 I5=>assignInOrder_nil (wpAny_pure ?_)) (.inr hx)))
 rw [List.set_comm _ _ (Ne.symm hij)] at I5
 exact ⟨_,H1,I5,q1⟩
end
section
variable {X:Cx} {pos:Pos}
def zeP (c:TT) (tb:TS):TS:=fun D σ H=>∃ W:Nat→St→Hp→Prop,(∃ m,W m σ H)∧∀ m σ H,W m σ H →
 c σ H fun b H1=>if b=true then ∃ N:St→Hp→Prop,(∀ σ' H',N σ' H'→∃ m',m'<m∧W m' σ' H')∧tb { D with nx:=N,ct:=N,bk:=D.nx } σ H1 else D.nx σ H1
theorem zfX {c:Expr} {body:List Stmt} {tc:TT} {tb:TS} (hp:PassesOwn (model X.prog X.w) X.A X.env X.xe) (hc:PT X c tc) (hb:PSs X body tb):PS X (.While c body [] pos) (zeP tc tb):=by
 intro pins s σ H D I h
 obtain ⟨W,⟨m0,w0⟩,turn⟩:=h
 refine wpAny_While (codeAny_whileLoop (fun n s'=>∃ σ' H',Inv X pins σ' H' s'∧W n σ' H') ?_ m0 ⟨σ,H,I,w0⟩)
 rintro n s1 ⟨σ1,H1,I1,w1⟩
 refine wpAny_passesOwn hp (thn (hc pins s1 σ1 H1 _ I1 (turn n σ1 H1 w1)) fun b s2 hQ'=>?_)
 obtain ⟨H2,I2,q2⟩:=hQ'
 cases b with
 | true =>
  obtain ⟨N,hN,q2⟩:=q2
  rw [if_pos rfl]
  refine wpAny_passesOwn hp (thn (hb pins s2 σ1 H2 _ I2 q2) fun f s3 q3=>?_)
  cases f with
  | next =>
   obtain ⟨σ3,H3,I3,n3⟩:=q3
   obtain ⟨m',hm,w3⟩:=hN σ3 H3 n3
   exact ⟨m',hm,σ3,H3,I3,w3⟩
  | cont =>
   obtain ⟨σ3,H3,I3,n3⟩:=q3
   obtain ⟨m',hm,w3⟩:=hN σ3 H3 n3
   exact ⟨m',hm,σ3,H3,I3,w3⟩
  | brk=>exact q3
  | ret v=>exact q3
 | false =>
  rw [if_neg Bool.false_ne_true]
  exact wpAny_execs_nil ⟨σ1,H2,I2,q2⟩
end
structure It where
 go:Nat→Hp→Prop
 yld:Nat→Hp→V→Hp→Prop
 stop:Nat→Hp→Prop
def zeH (X:Cx) (pins:List (Addr×Obj)) (H:Hp) (b:Addr):Prop :=
 H b=none∧b≠X.env.locals∧b∉X.fs∧(b∈X.ex∨X.s₀.heap.objs.size≤b)∧(∀ x c,X.env.cells.lookup x=some c→c≠b)∧∀ p∈X.pn++pins,p.1≠b
theorem Inv.fpOk {X:Cx} {pins:List (Addr×Obj)} {σ:St} {H H':Hp} {s:Shared} {b:Addr} (I:Inv X pins σ H s) (hb:s.heap.objs.size≤b) (hn:H' b=none):zeH X pins H' b:=by
 refine ⟨hn,Nat.ne_of_gt (Nat.lt_of_lt_of_le I.lt hb),I.nofs hb,.inr (Nat.le_trans I.sz hb),fun x c e z=>?_,fun p hp z=>?_⟩
 ·obtain ⟨v,q⟩:=I.cell x c e
  exact absurd (Nat.lt_of_lt_of_le q.lt (by rw [z];exact hb)) (Nat.lt_irrefl _)
 ·exact absurd (Nat.lt_of_lt_of_le (Heap.lt_size (I.pin p hp).1) (by rw [z];exact hb)) (Nat.lt_irrefl _)
structure Turn (P:Program) (w:World) (K:PySem.W.Frag) (tg:Expr) (J:It) (fp:List Addr) (it:Addr) (tn:Nat→Heap→Prop):Prop where
 mem:it∈fp
 obj:∀ i h,tn i h→∀ b∈fp,∃ o,h.get? b=some o∧∀ v,o.data≠.cell v
 keep:∀ i h h',tn i h→(∀ b∈fp,∀ o,h.get? b=some o→h'.get? b=some o)→tn i h'
 item:∀ (X:Cx),X.prog=P→X.w=w→X.K=K→X.calm=true→∀ (i:Nat) (pins:List (Addr×Obj)) (s:Shared) (σ:St) (H:Hp) (E:Value→Shared→Prop),Inv X pins σ H s→(∀ b∈fp,zeH X pins H b)→tn i s.heap→J.go i H →
  wpAny (model P w) X.A (pyNext (.ref it)) (fun r s1=>∃ u,r=some u ∧
   wpAny (model P w) X.A (letOwnedTupleGo tg (.ref it) u) (fun _ s2=>∃ x H',Inv X pins σ H' s2∧zbR x u∧J.yld i H x H'∧tn (i+1) s2.heap∧∀ b∈fp,H' b=none) E s1) E s
 done:∀ (X:Cx),X.prog=P→X.w=w→X.K=K→X.calm=true→∀ (i:Nat) (pins:List (Addr×Obj)) (s:Shared) (σ:St) (H:Hp) (E:Value→Shared→Prop),Inv X pins σ H s→(∀ b∈fp,zeH X pins H b)→tn i s.heap→J.stop i H →
  wpAny (model P w) X.A (pyNext (.ref it)) (fun r s1=>r=none∧Inv X pins σ H s1) E s
 self:∀ (A:Around) (i:Nat) (s:Shared) (Q:Value→Shared→Prop) (E:Value→Shared→Prop),tn i s.heap→Q (.ref it) s→wpAny (model P w) A (pyIter (.ref it)) Q E s
abbrev TI:=St→Hp→(It→Hp→Prop)→Prop
def PIE (X:Cx) (pins:List (Addr×Obj)) (σ:St) (tg:Expr) (R:It→Hp→Prop) (itv:Value) (s2:Shared):Prop :=
 ∃ (it:Addr) (fp:List Addr) (tn:Nat→Heap→Prop) (J:It) (H':Hp),itv=.ref it∧Inv X pins σ H' s2∧Turn X.prog X.w X.K tg J fp it tn∧tn 0 s2.heap∧(∀ b∈fp,zeH X pins H' b)∧R J H'
def PI (X:Cx) (tg iter:Expr) (wi:TI):Prop :=
 ∀ (pins:List (Addr×Obj)) (s:Shared) (σ:St) (H:Hp) (R:It→Hp→Prop),Inv X pins σ H s→wi σ H R →
  wpAny (model X.prog X.w) X.A (eval iter X.env) (fun v s1=>wpAny (model X.prog X.w) X.A (pyIter v) (PIE X pins σ tg R) X.xe s1) X.xe s
theorem zn9 {M:Model} {A:Around} {E:Value→Shared→Prop} {s:Shared} {tg:Expr} {it:Addr} {u:Value} {o:Obj} {n:String} {vs:Array Value} {Q:Unit→Shared→Prop} (ho:s.heap.get? it=some o) (hc:o.cls=.type n) (hd:o.data=.fields vs)
  (hn:["enumerate","zip","dict_itemiterator","dict_reverseitemiterator","odict_iterator","itertools.zip_longest","itertools.pairwise"].contains n=false) (hQ:Q () s):wpAny M A (letOwnedTupleGo tg (.ref it) u) Q E s:=by
 unfold letOwnedTupleGo
 cases tg <;> first
  | exact wpAny_pure hQ
  | (cases u <;> first
    | exact wpAny_pure hQ
    | (refine wpAny_bind (wpAny_load ho ?_)
       rw [hc,hd]
       show wpAny M A (if (["enumerate","zip","dict_itemiterator","dict_reverseitemiterator","odict_iterator","itertools.zip_longest","itertools.pairwise"].contains n&&vs[0]? == some (rawInt _))=true then _ else _) Q E s
       rw [if_neg (by intro h;rw [hn,Bool.false_and] at h;cases h)]
       exact wpAny_pure hQ))
def Itl (K:PySem.W.Frag) (a:Addr):It :=
 ⟨fun i H=>∃ xs x,SqL K H a xs∧xs[i]?=some x,fun i H x H'=>H'=H∧∀ xs,SqL K H a xs→xs[i]?=some x,fun i H=>∃ xs,SqL K H a xs∧xs.length≤i⟩
def Itr (lo:Int) (n:Nat):It:=⟨fun i _=>i<n,fun i H x H'=>H'=H∧x=.int (lo+i),fun i _=>n≤i⟩
theorem zj1 {P:Program} {w:World} {K:PySem.W.Frag} {tg:Expr} (a it:Addr):Turn P w K tg (Itl K a) [it] it (fun i h=>h.IsListIter it a i) where
 mem:=by simp
 obj:=fun i h st b hb=>by
  have e:b=it:=by simpa using hb
  subst e
  obtain ⟨o,e,c,d⟩:=st
  exact ⟨o,e,fun v z=>by rw [d] at z;cases z⟩
 keep:=fun i h h' st k=>st.at fun o e=>k it (by simp) o e
 item:=by
  intro X hP hw hK hc i pins s σ H E I hf st hg
  subst hP hw hK
  obtain ⟨xs,x,hq,hx⟩:=hg
  obtain ⟨its,rv,p,hz⟩:=I.list hq
  obtain ⟨u,hu,ru⟩:=rv.get hx
  obtain ⟨f0,f1,f2,f3,f4,f5⟩:=hf it (by simp)
  refine wpAny_pyNext_list_item st p.isList (x:=u) (by simpa using hu) fun h' st' sb=>?_
  have I1:Inv X pins σ H { s with heap:=h' }:=I.turned (t':=s.toks) (fun b o hb e=>(sb.2 b hb).trans e) f0 f1 f3 f4 f5
  obtain ⟨o,e,c,d⟩:=id st'
  exact ⟨u,rfl,zn9 (s:={ s with heap:=h' }) e c d (by decide) ⟨x,H,I1,ru,⟨rfl,fun ys hy=>by rw [I.list_inj hy hq];exact hx⟩,st',fun b hb=>(hf b hb).1⟩⟩
 done:=by
  intro X hP hw hK hc i pins s σ H E I hf st hg
  subst hP hw hK
  obtain ⟨xs,hq,hx⟩:=hg
  obtain ⟨its,rv,p,hz⟩:=I.list hq
  obtain ⟨f0,f1,f2,f3,f4,f5⟩:=hf it (by simp)
  have hl:=rv.length
  exact wpAny_pyNext_list_end (I.ok.hd hc) st p.isList (by simp;(first|lia|omega)) fun h' eb=>⟨rfl,I.turned (t':=s.toks) (fun b o hb e=>eb b o hb e) f0 f1 f3 f4 f5⟩
 self:=fun _ _ _ _ _ st h=>wpAny_pyIter_listiter st h
theorem ziw {P:Program} {w:World} {K:PySem.W.Frag} {tg:Expr} (it:Addr) (lo:Int) (n:Nat):Turn P w K tg (Itr lo n) [it] it (fun i h=>IsRangeIter h it (lo+(i:Nat)*1) ((n:Int) - (i:Nat)) 1) where
 mem:=by simp
 obj:=fun i h st b hb=>by
  have e:b=it:=by simpa using hb
  subst e
  exact ⟨_,st,fun v z=>by
   have z':Data.fields _=Data.cell v:=z
   cases z'⟩
 keep:=fun i h h' st k=>k it (by simp) _ st
 item:=by
  intro X hP hw hK hc i pins s σ H E I hf st hg
  subst hP hw hK
  obtain ⟨f0,f1,f2,f3,f4,f5⟩:=hf it (by simp)
  have W:=Walks.range (prog:=X.prog) (w:=X.w) (I.ok.hd hc) it lo 1 n
  refine W.item i s _ _ hg st fun v h' tk hv st' kk=>?_
  obtain ⟨t,rfl⟩:=hv
  have I1:Inv X pins σ H { s with heap:=h',toks:=tk }:=I.turned (fun b o hb e=>kk b o (by simpa using hb) e) f0 f1 f3 f4 f5
  refine ⟨_,rfl,zn9 (s:={ s with heap:=h',toks:=tk }) (n:="range_iterator") st' rfl rfl (by decide) ⟨.int (lo+i),H,I1,⟨t,?_⟩,⟨rfl,rfl⟩,st',fun b hb=>(hf b hb).1⟩⟩
  rw [Int.mul_one]
 done:=by
  intro X hP hw hK hc i pins s σ H E I hf st hg
  subst hP hw hK
  obtain ⟨f0,f1,f2,f3,f4,f5⟩:=hf it (by simp)
  exact wpAny_pyNext_range_end (I.ok.hd hc) st (by have:n≤i:=hg;(first|lia|omega)) fun h' eb=>⟨rfl,I.turned (t':=s.toks) (fun b o hb e=>eb b o hb e) f0 f1 f3 f4 f5⟩
 self:=fun _ _ _ _ _ st h=>wpAny_pyIter_rangeiter st h
end L2
namespace L2
open PySem PySem.Spec PyProof.Rows
section
variable {X:Cx} {tg:Expr}
def zbT (K:PySem.W.Frag) (tl:TE):TI:=fun σ H R=>tl σ H fun x H1=>∃ a,x=.ref a∧(∃ xs,SqL K H1 a xs)∧R (Itl K a) H1
theorem zbn {l:Expr} {tl:TE} (hl:PE X l tl):PI X tg l (zbT X.K tl):=by
 intro pins s σ H R I h
 refine thn (hl pins s σ H _ I h) fun v s1 hQ'=>?_
 obtain ⟨x,H1,I1,r1,q1⟩:=hQ'
 obtain ⟨a,e,⟨xs,hq⟩,q⟩:=q1
 subst e
 cases r1
 obtain ⟨its,rv,p,hz⟩:=I1.list hq
 refine wpAny_pyIter_list p.isList ?_
 refine ⟨s1.heap.objs.size,[s1.heap.objs.size],_,_,H1,rfl,I1.kept (t':=s1.toks) fun b o e=>Heap.get?_push_of_some _ e,zj1 a _,⟨_,Heap.get?_push_size _ rfl,rfl,rfl⟩,fun b hb=>?_,q⟩
 have e:b=s1.heap.objs.size:=by simpa using hb
 subst e
 exact I1.fpOk (Nat.le_refl _) (I1.hok.fresh (Nat.le_refl _))
theorem zk0 {pins:List (Addr×Obj)} {σ:St} {H:Hp} {s:Shared} {R:It→Hp→Prop} {E:Value→Shared→Prop} {lo hi:Int} {t u v:Tok} {tk:Nat} (I:Inv X pins σ H s) (h1:-(2 ^ 62)≤lo) (h2:lo<2 ^ 62) (h3:-(2 ^ 62)≤hi) (h4:hi<2 ^ 62)
  (q:R (Itr lo (hi - lo).toNat) H):wpAny (model X.prog X.w) X.A (pyIter (.ref s.heap.objs.size)) (PIE X pins σ tg R) E { s with heap:=s.heap.push { cls:=.type "range",data:=.fields #[.int lo t,.int hi u,.int 1 v] },toks:=tk }:=by
 refine wpAny_pyIter_range (IsRange.new ..) (small_one h1 h2 h3 h4) ?_
 have I1:Inv X pins σ H { s with heap:=s.heap.push { cls:=.type "range",data:=.fields #[.int lo t,.int hi u,.int 1 v] },toks:=tk }:=I.kept fun b o e=>Heap.get?_push_of_some _ e
 refine ⟨(s.heap.push { cls:=.type "range",data:=.fields #[.int lo t,.int hi u,.int 1 v] }).objs.size,[(s.heap.push { cls:=.type "range",data:=.fields #[.int lo t,.int hi u,.int 1 v] }).objs.size],_,_,H,rfl,
  I1.kept (t':=tk) fun b o e=>Heap.get?_push_of_some _ e,ziw _ lo (hi - lo).toNat,?_,fun b hb=>?_,q⟩
 ·have e1:lo+((0:Nat):Int)*1=lo:=by simp
  have e2:(((hi - lo).toNat:Nat):Int) - ((0:Nat):Int)=Builtin.Range.rangeSize lo hi 1:=by rw [rangeSize_one];split <;> (first|lia|omega)
  show IsRangeIter _ _ (lo+((0:Nat):Int)*1) ((((hi - lo).toNat:Nat):Int) - ((0:Nat):Int)) 1
  rw [e1,e2]
  exact Heap.get?_push_size _ rfl
 ·have e:b=(s.heap.push { cls:=.type "range",data:=.fields #[.int lo t,.int hi u,.int 1 v] }).objs.size:=by simpa using hb
  subst e
  exact I1.fpOk (Nat.le_refl _) (I1.hok.fresh (Nat.le_refl _))
def zc3 (ta:TA):TI:=fun σ H R=>ta σ H fun vs H1=>∃ j:Int,vs=[.int j]∧-(2 ^ 62)≤j∧j<2 ^ 62∧R (Itr 0 j.toNat) H1
theorem zba {a:Expr} {ta:TA} {p pos:Pos} (hg:Gl X "range") (hm:X.mg "range"=none) (ha:PA X [a] ta) (hs:starEach [a] X.env=[(false,eval a X.env)]:=by rfl):PI X tg (.Call (.Name "range" p) [a] [] pos) (zc3 ta):=by
 intro pins s σ H R I h
 refine Call_ (zeZ I hg hm boot_range (PyProof.Rows.callWith_type1 (thn (ha pos pins s σ H _ I h) fun us s1 hQ'=>?_) hs rfl))
 obtain ⟨vs,H1,I1,r1,q1⟩:=hQ'
 obtain ⟨j,e,q1,q2,q⟩:=q1
 subst e
 cases r1 with
 | cons r rr =>
  cases rr
  obtain ⟨t,rfl⟩:=r
  exact call_range_1 (zk0 I1 (by (first|lia|omega)) (by (first|lia|omega)) q1 q2 (by simpa using q))
def zj5 (wi:TI) (g:TG) (tb:TS):TS:=fun D σ H=>wi σ H fun J H1=>∃ W:Nat→Nat→St→Hp→Prop,(∃ m,W 0 m σ H1)∧∀ i m σ H,W i m σ H →
 (J.stop i H∧D.nx σ H)∨(J.go i H∧∃ N:St→Hp→Prop,(∀ σ' H',N σ' H'→∃ m',m'<m∧W (i+1) m' σ' H')∧∀ x H',J.yld i H x H'→g x σ H' fun σ2 H2=>tb { D with nx:=N,ct:=N,bk:=D.nx } σ2 H2)
def zfw (fp:List Addr) (h:Heap):List (Addr×Obj):=fp.filterMap fun b=>(h.get? b).map fun o=>(b,o)
theorem zcs {fp:List Addr} {h:Heap} {b:Addr} {o:Obj} (hb:b∈fp) (e:h.get? b=some o):(b,o)∈zfw fp h:=List.mem_filterMap.mpr ⟨b,hb,by rw [e];rfl⟩
theorem zi1 {fp:List Addr} {h:Heap} {p:Addr×Obj} (hp:p∈zfw fp h):p.1∈fp∧h.get? p.1=some p.2:=by
 obtain ⟨b,hb,e⟩:=List.mem_filterMap.mp hp
 cases q:h.get? b with
 | none=>rw [q] at e;cases e
 | some o =>
  rw [q] at e
  have e':(b,o)=p:=Option.some.inj e
  subst e'
  exact ⟨hb,q⟩
theorem Inv.pinned {pins:List (Addr×Obj)} {σ:St} {H:Hp} {s:Shared} {fp:List Addr} (I:Inv X pins σ H s) (hf:∀ b∈fp,zeH X pins H b) (ho:∀ b∈fp,∃ o,s.heap.get? b=some o∧∀ v,o.data≠.cell v):Inv X (pins++zfw fp s.heap) σ H s :=
 I.pins_of fun p hp=>(List.mem_append.mp hp).elim (fun z=>I.pin p (List.mem_append_right _ z)) fun z=>by
  obtain ⟨hb,e⟩:=zi1 z
  obtain ⟨f0,f1,f2,_⟩:=hf p.1 hb
  obtain ⟨o,e',d⟩:=ho p.1 hb
  rw [e] at e';cases e'
  exact ⟨e,f0,f1,f2,d⟩
theorem Inv.unpinned {pins pl:List (Addr×Obj)} {σ:St} {H:Hp} {s:Shared} (I:Inv X (pins++pl) σ H s):Inv X pins σ H s:=I.pins_of fun p hp=>I.pin p (List.mem_append_right _ (List.mem_append_left _ hp))
theorem zex {iter:Expr} {body:List Stmt} {wi:TI} {g:TG} {tb:TS} {pos:Pos} (hp:PassesOwn (model X.prog X.w) X.A X.env X.xe) (hc:X.calm=true) (hi:PI X tg iter wi) (hg:PG X tg g) (hb:PSs X body tb)
  (hs:∀ x,foldedSetIterable iter X.env x=pure x:=by intro _;rfl):PS X (.For tg iter body [] pos) (zj5 wi g tb):=by
 intro pins s σ H D I h
 refine wpAny_For (thn (hi pins s σ H _ I h) fun v s1 h1=>thn h1 fun itv s2 h2=>?_) hs
 obtain ⟨it,fp,tn,J,H2,e,I2,T,st2,f2,W,⟨m0,w0⟩,turn⟩:=h2
 subst e
 have stat:∀ {H':Hp},(∀ b∈fp,H' b=none)→∀ b∈fp,zeH X pins H' b:=fun hn b hb=>⟨hn b hb,(f2 b hb).2⟩
 refine codeAny_forLoop_any (fun n s'=>∃ i σ' H',Inv X pins σ' H' s'∧tn i s'.heap∧(∀ b∈fp,H' b=none)∧W i n σ' H') ?_ m0 ⟨0,σ,H2,I2,st2,fun b hb=>(f2 b hb).1,w0⟩
 rintro n s3 ⟨i,σ3,H3,I3,st3,fr3,w3⟩
 rcases turn i n σ3 H3 w3 with ⟨stop,qn⟩ | ⟨go,N,hN,step⟩
 ·refine wpAny_passesOwn hp (thn (T.done X rfl rfl rfl hc i pins s3 σ3 H3 X.xe I3 (stat fr3) st3 stop) fun r s4 hQ'=>?_)
  obtain ⟨hr,I4⟩:=hQ'
  subst hr
  exact wpAny_execs_nil ⟨σ3,H3,I4,qn⟩
 ·refine wpAny_passesOwn hp (thn (T.item X rfl rfl rfl hc i pins s3 σ3 H3 X.xe I3 (stat fr3) st3 go) fun r s4 hQ'=>?_)
  obtain ⟨u,hr,h4⟩:=hQ'
  subst hr
  refine wpAny_passesOwn hp (thn h4 fun _ s5 hQ'=>?_)
  obtain ⟨x,H5,I5,r5,y5,st5,fr5⟩:=hQ'
  have I5':=I5.pinned (stat fr5) (T.obj _ _ st5)
  refine wpAny_passesOwn hp (thn (hg _ s5 σ3 H5 x u _ I5' r5 (step x H5 y5)) fun _ s6 hQ'=>?_)
  obtain ⟨σ6,H6,I6,q6⟩:=hQ'
  refine wpAny_passesOwn hp (thn (hb _ s6 σ6 H6 _ I6 q6) fun f s7 q7=>?_)
  have again:∀ {σ7:St} {H7:Hp},Inv X (pins++zfw fp s5.heap) σ7 H7 s7→N σ7 H7→∃ m,m<n∧∃ i σ' H',Inv X pins σ' H' s7∧tn i s7.heap∧(∀ b∈fp,H' b=none)∧W i m σ' H':=fun {σ7 H7} I7 n7=>by
   obtain ⟨m',hm,w7⟩:=hN σ7 H7 n7
   refine ⟨m',hm,i+1,σ7,H7,I7.unpinned,T.keep _ _ _ st5 fun b hb o e=>(I7.pin (b,o) (List.mem_append_right _ (List.mem_append_right _ (zcs hb e)))).1,fun b hb=>?_,w7⟩
   obtain ⟨o,e,d⟩:=T.obj _ _ st5 b hb
   exact (I7.pin (b,o) (List.mem_append_right _ (List.mem_append_right _ (zcs hb e)))).2.1
  cases f with
  | next=>obtain ⟨σ7,H7,I7,n7⟩:=q7;exact again I7 n7
  | cont=>obtain ⟨σ7,H7,I7,n7⟩:=q7;exact again I7 n7
  | brk=>obtain ⟨σ7,H7,I7,q7⟩:=q7;exact ⟨σ7,H7,I7.unpinned,q7⟩
  | ret v=>obtain ⟨x7,σ7,H7,I7,r7,q7⟩:=q7;exact ⟨x7,σ7,H7,I7.unpinned,r7,q7⟩
end
theorem zkL {K:PySem.W.Frag} {a:Addr} {xs:List V} {g:TG} {tb:TS} {D:zcb} {σ:St} {H:Hp} (Pv:Nat→St→Hp→Prop) (h0:Pv 0 σ H) (hl:∀ i σ H,i≤xs.length→Pv i σ H→SqL K H a xs)
  (hs:∀ i x σ H,xs[i]?=some x→Pv i σ H→g x σ H fun σ2 H2=>tb { D with nx:=Pv (i+1),ct:=Pv (i+1),bk:=D.nx } σ2 H2) (hd:∀ σ H,Pv xs.length σ H→D.nx σ H) :
  ∃ W:Nat→Nat→St→Hp→Prop,(∃ m,W 0 m σ H)∧∀ i m σ H,W i m σ H →
   ((Itl K a).stop i H∧D.nx σ H)∨((Itl K a).go i H∧∃ N:St→Hp→Prop,(∀ σ' H',N σ' H'→∃ m',m'<m∧W (i+1) m' σ' H')∧∀ x H',(Itl K a).yld i H x H'→g x σ H' fun σ2 H2=>tb { D with nx:=N,ct:=N,bk:=D.nx } σ2 H2):=by
 refine ⟨fun i m σ H=>m=xs.length - i∧i≤xs.length∧Pv i σ H,⟨xs.length,by simp,Nat.zero_le _,h0⟩,?_⟩
 rintro i m σ H ⟨rfl,hi,p⟩
 have q:=hl i σ H hi p
 by_cases hlt:i<xs.length
 ·refine .inr ⟨⟨xs,xs[i],q,by simp [hlt]⟩,Pv (i+1),fun σ' H' p'=>⟨xs.length - (i+1),by (first|lia|omega),rfl,hlt,p'⟩,fun x H' y=>?_⟩
  obtain ⟨e,y⟩:=y
  subst e
  exact hs i x σ _ (y xs q) p
 ·have e:i=xs.length:=by (first|lia|omega)
  subst e
  exact .inl ⟨⟨xs,q,Nat.le_refl _⟩,hd σ H p⟩
theorem zjf {lo:Int} {n:Nat} {g:TG} {tb:TS} {D:zcb} {σ:St} {H:Hp} (Pv:Nat→St→Hp→Prop) (h0:Pv 0 σ H)
  (hs:∀ i σ H,i<n→Pv i σ H→g (.int (lo+i)) σ H fun σ2 H2=>tb { D with nx:=Pv (i+1),ct:=Pv (i+1),bk:=D.nx } σ2 H2) (hd:∀ σ H,Pv n σ H→D.nx σ H) :
  ∃ W:Nat→Nat→St→Hp→Prop,(∃ m,W 0 m σ H)∧∀ i m σ H,W i m σ H →
   ((Itr lo n).stop i H∧D.nx σ H)∨((Itr lo n).go i H∧∃ N:St→Hp→Prop,(∀ σ' H',N σ' H'→∃ m',m'<m∧W (i+1) m' σ' H')∧∀ x H',(Itr lo n).yld i H x H'→g x σ H' fun σ2 H2=>tb { D with nx:=N,ct:=N,bk:=D.nx } σ2 H2):=by
 refine ⟨fun i m σ H=>m=n - i∧i≤n∧Pv i σ H,⟨n,by simp,Nat.zero_le _,h0⟩,?_⟩
 rintro i m σ H ⟨rfl,hi,p⟩
 by_cases hlt:i<n
 ·refine .inr ⟨hlt,Pv (i+1),fun σ' H' p'=>⟨n - (i+1),by (first|lia|omega),rfl,hlt,p'⟩,fun x H' y=>?_⟩
  obtain ⟨e,y⟩:=y
  subst e y
  exact hs i σ _ hlt p
 ·have e:i=n:=by (first|lia|omega)
  subst e
  exact .inl ⟨Nat.le_refl _,hd σ H p⟩
theorem zh3 {c:TT} {tb:TS} {D:zcb} {σ:St} {H:Hp} (Pv:St→Hp→Prop) (μ:St→Hp→Nat) (h0:Pv σ H)
  (hs:∀ σ H,Pv σ H→c σ H fun b H1=>if b=true then tb { D with nx:=fun σ' H'=>Pv σ' H'∧μ σ' H'<μ σ H,ct:=fun σ' H'=>Pv σ' H'∧μ σ' H'<μ σ H,bk:=D.nx } σ H1 else D.nx σ H1)
  (mono:∀ σ H Q Q',(∀ b H1,Q b H1→Q' b H1)→c σ H Q→c σ H Q'):zeP c tb D σ H:=by
 refine ⟨fun m σ H=>m=μ σ H∧Pv σ H,⟨_,rfl,h0⟩,?_⟩
 rintro m σ H ⟨rfl,p⟩
 refine mono σ H _ _ (fun b H1 q=>?_) (hs σ H p)
 cases b with
 | true=>exact ⟨_,fun σ' H' ⟨p',l⟩=>⟨_,l,rfl,p'⟩,q⟩
 | false=>exact q
end L2
namespace L2
open PySem PySem.Spec PyProof.Rows
abbrev R2:=V→V→Hp→VK→Prop
def OpR (X:Cx) (f:Value→Value→Sem Value) (r:R2):Prop :=
 ∀ (pins:List (Addr×Obj)) (s:Shared) (σ:St) (H:Hp) (x y:V) (v u:Value) (Q:VK),Inv X pins σ H s→zbR x v→zbR y u→r x y H Q →
  wpAny (model X.prog X.w) X.A (f v u) (EP X pins σ Q) X.xe s
def UnR (X:Cx) (f:Value→Sem Value) (r:V→Hp→VK→Prop):Prop :=
 ∀ (pins:List (Addr×Obj)) (s:Shared) (σ:St) (H:Hp) (x:V) (v:Value) (Q:VK),Inv X pins σ H s→zbR x v→r x H Q →
  wpAny (model X.prog X.w) X.A (f v) (EP X pins σ Q) X.xe s
def zfp (X:Cx) (f:Value) (r:List V→Hp→VK→Prop):Prop :=
 ∀ (pins:List (Addr×Obj)) (s:Shared) (σ:St) (H:Hp) (xs:List V) (us:List Value) (Q:VK),Inv X pins σ H s→zbq xs us→r xs H Q →
  wpAny (model X.prog X.w) X.A (call f us) (EP X pins σ Q) X.xe s
def TruR (X:Cx) (r:V→Hp→(Bool→Hp→Prop)→Prop):Prop :=
 ∀ (pins:List (Addr×Obj)) (s:Shared) (σ:St) (H:Hp) (x:V) (v:Value) (Q:Bool→Hp→Prop),Inv X pins σ H s→zbR x v→r x H Q →
  wpAny (model X.prog X.w) X.A (truthy v) (TP X pins σ Q) X.xe s
def tOp (r:R2) (ta tb:TE):TE:=fun σ H Q=>ta σ H fun x H1=>tb σ H1 fun y H2=>r x y H2 Q
def tUn (r:V→Hp→VK→Prop) (ta:TE):TE:=fun σ H Q=>ta σ H fun x H1=>r x H1 Q
def rI (C:Int→Int→Prop) (g:Int→Int→V):R2:=fun x y H Q=>∃ i j,x=.int i∧y=.int j∧C i j∧Q (g i j) H
def rI0 (g:Int→Int→V):R2:=fun x y H Q=>∃ i j,x=.int i∧y=.int j∧Q (g i j) H
def rU (g:Int→V):V→Hp→VK→Prop:=fun x H Q=>∃ i,x=.int i∧Q (g i) H
section
variable {X:Cx} {a b c:Expr} {ta tb tc:TE} {pos:Pos}
theorem binT (ha:PE X a ta) (hb:PE X b tb) {pins:List (Addr×Obj)} {s:Shared} {σ:St} {H:Hp} {R:V→V→Hp→Prop} (I:Inv X pins σ H s)
  (h:ta σ H fun x H1=>tb σ H1 fun y H2=>R x y H2) {Q:Value→Shared→Prop} {f:Value→Value→Sem Value}
  (hf:∀ v u s2 x y H2,Inv X pins σ H2 s2→zbR x v→zbR y u→R x y H2→wpAny (model X.prog X.w) X.A (f v u) Q X.xe s2) :
  wpAny (model X.prog X.w) X.A (eval a X.env) (fun v s₁=>wpAny (model X.prog X.w) X.A (eval b X.env) (fun u s₂=>wpAny (model X.prog X.w) X.A (f v u) Q X.xe s₂) X.xe s₁) X.xe s:=by
 refine thn (ha pins s σ H _ I h) fun v s1 hQ'=>?_
 obtain ⟨x,H1,I1,r1,q1⟩:=hQ'
 refine thn (hb pins s1 σ H1 _ I1 q1) fun u s2 hQ'=>?_
 obtain ⟨y,H2,I2,r2,q2⟩:=hQ'
 exact hf v u s2 x y H2 I2 r1 r2 q2
theorem zav {op:Operator} {r:R2} (ho:OpR X (binaryOp op) r) (ha:PE X a ta) (hb:PE X b tb):PE X (.BinOp a op b pos) (tOp r ta tb):=by
 intro pins s σ H Q I h
 exact wpAny_BinOp (binT ha hb I h fun v u s2 x y H2 I2 rx ry q=>ho pins s2 σ H2 x y v u Q I2 rx ry q)
theorem zd0 {op:UnaryOp} {r:V→Hp→VK→Prop} (ho:UnR X (unaryOp op) r) (ha:PE X a ta):PE X (.UnaryOp op a pos) (tUn r ta):=by
 intro pins s σ H Q I h
 exact UnaryOp_ (thn (ha pins s σ H _ I h) fun v s1 ⟨x,H1,I1,r1,q1⟩=>ho pins s1 σ H1 x v Q I1 r1 q1)
theorem opI {f:Value→Value→Sem Value} {C:Int→Int→Prop} {g:Int→Int→Int}
  (rule:∀ (i j:Int) (t u:Tok) (s:Shared) (Q:Value→Shared→Prop) (E:Value→Shared→Prop),C i j→Q (.int (g i j) s.toks) { s with toks:=s.toks+1 }→wpAny (model X.prog X.w) X.A (f (.int i t) (.int j u)) Q E s) :
  OpR X f (rI C fun i j=>.int (g i j)):=by
 intro pins s σ H x y v u Q I rx ry h
 obtain ⟨i,j,rfl,rfl,hc,q⟩:=h
 obtain ⟨t,rfl⟩:=rx
 obtain ⟨t',rfl⟩:=ry
 exact rule i j t t' s _ _ hc ⟨.int (g i j),H,I.tok _,⟨_,rfl⟩,q⟩
theorem opI0 {f:Value→Value→Sem Value} {g:Int→Int→Int}
  (rule:∀ (i j:Int) (t u:Tok) (s:Shared) (Q:Value→Shared→Prop) (E:Value→Shared→Prop),Q (.int (g i j) s.toks) { s with toks:=s.toks+1 }→wpAny (model X.prog X.w) X.A (f (.int i t) (.int j u)) Q E s) :
  OpR X f (rI0 fun i j=>.int (g i j)):=by
 intro pins s σ H x y v u Q I rx ry h
 obtain ⟨i,j,rfl,rfl,q⟩:=h
 obtain ⟨t,rfl⟩:=rx
 obtain ⟨t',rfl⟩:=ry
 exact rule i j t t' s _ _ ⟨.int (g i j),H,I.tok _,⟨_,rfl⟩,q⟩
theorem opB0 {f:Value→Value→Sem Value} {g:Int→Int→Bool}
  (rule:∀ (i j:Int) (t u:Tok) (s:Shared) (Q:Value→Shared→Prop) (E:Value→Shared→Prop),Q (.bool (g i j)) s→wpAny (model X.prog X.w) X.A (f (.int i t) (.int j u)) Q E s) :
  OpR X f (rI0 fun i j=>.bl (g i j)):=by
 intro pins s σ H x y v u Q I rx ry h
 obtain ⟨i,j,rfl,rfl,q⟩:=h
 obtain ⟨t,rfl⟩:=rx
 obtain ⟨t',rfl⟩:=ry
 exact rule i j t t' s _ _ ⟨.bl (g i j),H,I,rfl,q⟩
def zlx (i j:Int):Prop:=0≤j∧j≤1000000∧i.natAbs<2 ^ 64
theorem zcm:OpR X (binaryOp .Add) (rI0 fun i j=>.int (i+j)):=opI0 fun _ _ _ _ _ _ _ q=>add_int q
theorem zc8:OpR X (binaryOp .Sub) (rI0 fun i j=>.int (i - j)):=opI0 fun _ _ _ _ _ _ _ q=>sub_int q
theorem zgy:OpR X (binaryOp .Mod) (rI (fun _ j=>0<j) fun i j=>.int (i % j)):=opI fun i j _ _ _ _ _ hc q=>by
 have h1:(0:Int)<j:=hc
 exact mod_int' (by (first|lia|omega)) (by rw [Int.fmod_eq_emod_of_nonneg i (by (first|lia|omega))];exact q)
theorem zl3:OpR X (binaryOp .Mod) (rI (fun _ j=>j≠0) fun i j=>.int (i.fmod j)):=opI fun _ _ _ _ _ _ _ hc q=>mod_int' hc q
theorem zi0:OpR X (binaryOp .Pow) (rI zlx fun i j=>.int (i ^ j.toNat)):=opI fun _ _ _ _ _ _ _ hc q=>pow_int_small hc.1 hc.2.1 hc.2.2 q
theorem unI {f:Value→Sem Value} {g:Int→Int}
  (rule:∀ (i:Int) (t:Tok) (s:Shared) (Q:Value→Shared→Prop) (E:Value→Shared→Prop),Q (.int (g i) s.toks) { s with toks:=s.toks+1 }→wpAny (model X.prog X.w) X.A (f (.int i t)) Q E s) :
  UnR X f (rU fun i=>.int (g i)):=by
 intro pins s σ H x v Q I rx h
 obtain ⟨i,rfl,q⟩:=h
 obtain ⟨t,rfl⟩:=rx
 exact rule i t s _ _ ⟨.int (g i),H,I.tok _,⟨_,rfl⟩,q⟩
theorem zcB:UnR X (unaryOp .USub) (rU fun i=>.int (-i)):=unI fun _ _ _ _ _ q=>neg_int q
end
def scal:V→V→Bool
 | .non,.non=>true | .non,.int _=>true | .int _,.non=>true | .non,.bl _=>true | .bl _,.non=>true | .non,.str _=>true | .str _,.non=>true
 | .int _,.int _=>true | .bl _,.bl _=>true | .str _,.str _=>true | .byt _,.byt _=>true
 | .int _,.str _=>true | .str _,.int _=>true | .bl _,.str _=>true | .str _,.bl _=>true
 | _,_=>false
def rEq:R2:=fun x y H Q=>scal x y=true∧Q (.bl (decide (x=y))) H
theorem zlR {i j:Int}:decide (V.int i=V.int j)=(i == j):=by
 rw [Bool.eq_iff_iff]
 simp
theorem znQ {i j:Bool}:decide (V.bl i=V.bl j)=(i == j):=by
 rw [Bool.eq_iff_iff]
 simp
theorem zmq {i j:Str}:decide (V.str i=V.str j)=(i == j):=by
 rw [Bool.eq_iff_iff]
 simp
theorem zmC {i j:Array UInt8}:decide (V.byt i=V.byt j)=(i.toList == j.toList):=by
 rw [Bool.eq_iff_iff]
 cases i
 cases j
 simp
section
variable {X:Cx} {a b c:Expr} {ta tb tc:TE} {pos:Pos}
theorem zb2 {pins:List (Addr×Obj)} {σ:St} {H:Hp} {s:Shared} {Q:VK} {k k':Bool} (I:Inv X pins σ H s) (q:Q (.bl k) H) (e:k=k'):EP X pins σ Q (.bool k') s:=by
 subst e
 exact ⟨.bl k,H,I,rfl,q⟩
theorem zix:OpR X (compareOp .Eq) rEq:=by
 intro pins s σ H x y v u Q I rx ry h
 obtain ⟨hs,q⟩:=h
 cases x with
 | non =>
  cases rx
  cases y with
  | non=>cases ry;exact PySem.EqNone.eq_none_none (zb2 I q (by simp))
  | bl j=>cases ry;exact PySem.EqNone.eq_none_bool (zb2 I q (by simp))
  | int j=>obtain ⟨t',rfl⟩:=ry;exact PySem.EqNone.eq_none_int (zb2 I q (by simp))
  | str j=>obtain ⟨t',rfl⟩:=ry;exact PySem.EqNone.eq_none_str (zb2 I q (by simp))
  | _=>exact absurd (show false=true from hs) Bool.false_ne_true
 | bl i =>
  cases rx
  cases y with
  | non=>cases ry;exact PySem.EqNone.eq_bool_none (zb2 I q (by simp))
  | bl j=>cases ry;exact eq_bool (zb2 I q znQ)
  | str j=>obtain ⟨t',rfl⟩:=ry;exact PySem.EqMixed.eq_bool_str (zb2 I q (by simp))
  | _=>exact absurd (show false=true from hs) Bool.false_ne_true
 | int i =>
  obtain ⟨t,rfl⟩:=rx
  cases y with
  | non=>cases ry;exact PySem.EqNone.eq_int_none (zb2 I q (by simp))
  | int j=>obtain ⟨t',rfl⟩:=ry;exact eq_int (zb2 I q zlR)
  | str j=>obtain ⟨t',rfl⟩:=ry;exact PySem.EqMixed.eq_int_str (zb2 I q (by simp))
  | _=>exact absurd (show false=true from hs) Bool.false_ne_true
 | str i =>
  obtain ⟨t,rfl⟩:=rx
  cases y with
  | non=>cases ry;exact PySem.EqNone.eq_str_none (zb2 I q (by simp))
  | bl j=>cases ry;exact PySem.EqMixed.eq_str_bool (zb2 I q (by simp))
  | int j=>obtain ⟨t',rfl⟩:=ry;exact PySem.EqMixed.eq_str_int (zb2 I q (by simp))
  | str j=>obtain ⟨t',rfl⟩:=ry;exact eq_str (zb2 I q zmq)
  | _=>exact absurd (show false=true from hs) Bool.false_ne_true
 | byt i =>
  obtain ⟨t,rfl⟩:=rx
  cases y with
  | byt j=>obtain ⟨t',rfl⟩:=ry;exact PySem.W.eq_bytes (zb2 I q zmC)
  | _=>exact absurd (show false=true from hs) Bool.false_ne_true
 | _=>cases y <;> exact absurd (show false=true from hs) Bool.false_ne_true
theorem zhT:OpR X (compareOp .Lt) (rI0 fun i j=>.bl (decide (i<j))):=opB0 fun _ _ _ _ _ _ _ q=>lt_int q
theorem zkg:OpR X (compareOp .LtE) (rI0 fun i j=>.bl (decide (i≤j))):=opB0 fun _ _ _ _ _ _ _ q=>le_int q
theorem zmI:OpR X (compareOp .Gt) (rI0 fun i j=>.bl (decide (j<i))):=opB0 fun _ _ _ _ _ _ _ q=>gt_int q
theorem op_ge:OpR X (compareOp .GtE) (rI0 fun i j=>.bl (decide (j≤i))):=opB0 fun _ _ _ _ _ _ _ q=>ge_int q
theorem znt:OpR X (compareOp .Is) (fun x y H Q=>y=.non∧Q (.bl (decide (x=.non))) H):=by
 intro pins s σ H x y v u Q I rx ry h
 obtain ⟨rfl,q⟩:=h
 cases ry
 refine is_none_gen (zb2 I q ?_)
 cases x <;> first
  | (cases rx;rfl)
  | (obtain ⟨t,rfl⟩:=rx;rfl)
theorem zmT:OpR X (compareOp .IsNot) (fun x y H Q=>y=.non∧Q (.bl (!decide (x=.non))) H):=by
 intro pins s σ H x y v u Q I rx ry h
 obtain ⟨rfl,q⟩:=h
 cases ry
 refine isnot_none_gen (zb2 I q ?_)
 cases x <;> first
  | (cases rx;rfl)
  | (obtain ⟨t,rfl⟩:=rx;rfl)
theorem zbp (b:Expr) {op:CmpOp} (h:op≠.In:=by decide) (h2:op≠.NotIn:=by decide):behindInMarks op b=false:=by
 have e1:(op == CmpOp.In)=false:=by cases op <;> first | rfl | exact absurd rfl h
 have e2:(op == CmpOp.NotIn)=false:=by cases op <;> first | rfl | exact absurd rfl h2
 cases b <;> simp [behindInMarks,e1,e2]
theorem zeX {op:CmpOp} {r:R2} (ho:OpR X (compareOp op) r) (ha:PE X a ta) (hb:PE X b tb) (hm:behindInMarks op b=false):PE X (.Compare a [op] [b] pos) (tOp r ta tb):=by
 intro pins s σ H Q I h
 exact wpAny_Compare1 (binT ha hb I h fun v u s2 x y H2 I2 rx ry q=>ho pins s2 σ H2 x y v u Q I2 rx ry q) hm
def zbd (t:TE):TT:=fun σ H Q=>t σ H fun x H'=>∃ k,x=.bl k∧Q k H'
theorem zbh {op:CmpOp} {r:R2} (ho:OpR X (compareOp op) r) (ha:PE X a ta) (hb:PE X b tb) (hm:behindInMarks op b=false):PT X (.Compare a [op] [b] pos) (zbd (tOp r ta tb)):=by
 intro pins s σ H Q I h
 refine wpAny_isTrue_Compare1 (thn (ha pins s σ H _ I h) fun v s1 ⟨x,H1,I1,r1,q1⟩=>thn (hb pins s1 σ H1 _ I1 q1) fun u s2 ⟨y,H2,I2,r2,q2⟩ =>
  thn (ho pins s2 σ H2 x y v u _ I2 r1 r2 q2) fun c s3 ⟨z,H3,I3,r3,k,e,q3⟩=>?_) hm
 subst e
 cases r3
 exact wpAny_truthy_bool ⟨H3,I3,q3⟩
def zfD (r r':R2) (ta tb tc:TE):TE:=fun σ H Q=>ta σ H fun x H1=>tb σ H1 fun y H2=>r x y H2 fun z H3=>∃ k,z=.bl k ∧
 (if k=true then tc σ H3 fun w' H4=>r' y w' H4 Q else Q (.bl false) H3)
theorem zld {op op':CmpOp} {r r':R2} (ho:OpR X (compareOp op) r) (ho':OpR X (compareOp op') r') (ha:PE X a ta) (hb:PE X b tb) (hc:PE X c tc)
  (hm:lastMarks [op,op'] [b,c]=false:=by with_unfolding_all rfl):PE X (.Compare a [op,op'] [b,c] pos) (zfD r r' ta tb tc):=by
 intro pins s σ H Q I h
 refine Compare_chain (thn (ha pins s σ H _ I h) fun v s1 ⟨x,H1,I1,r1,q1⟩=>chain_link (thn (hb pins s1 σ H1 _ I1 q1) fun u s2 ⟨y,H2,I2,r2,q2⟩ =>
  thn (ho pins s2 σ H2 x y v u _ I2 r1 r2 q2) fun d s3 ⟨z,H3,I3,r3,k,e,q3⟩=>?_)) hm
 subst e
 cases r3
 refine wpAny_truthy_bool ?_
 cases k with
 | false=>exact ite_ff ⟨.bl false,H3,I3,rfl,q3⟩
 | true=>exact ite_tt (chain_last (thn (hc pins s3 σ H3 _ I3 q3) fun w' s4 ⟨z',H4,I4,r4,q4⟩=>ho' pins s4 σ H4 y z' u w' Q I4 r2 r4 q4))
theorem zkm {op op':CmpOp} {r r':R2} (ho:OpR X (compareOp op) r) (ho':OpR X (compareOp op') r') (ha:PE X a ta) (hb:PE X b tb) (hc:PE X c tc)
  (hm:lastMarks [op,op'] [b,c]=false:=by with_unfolding_all rfl):PT X (.Compare a [op,op'] [b,c] pos) (zbd (zfD r r' ta tb tc)):=by
 intro pins s σ H Q I h
 refine isTrue_chain (thn (ha pins s σ H _ I h) fun v s1 ⟨x,H1,I1,r1,q1⟩=>test_link (thn (hb pins s1 σ H1 _ I1 q1) fun u s2 ⟨y,H2,I2,r2,q2⟩ =>
  thn (ho pins s2 σ H2 x y v u _ I2 r1 r2 q2) fun d s3 ⟨z,H3,I3,r3,k,e,q3⟩=>?_)) hm
 subst e
 cases r3
 refine wpAny_truthy_bool ?_
 cases k with
 | false =>
  obtain ⟨k',e',q'⟩:=q3
  cases e'
  exact ite_ff ⟨H3,I3,q'⟩
 | true =>
  refine ite_tt (test_last (thn (hc pins s3 σ H3 _ I3 q3) fun w' s4 ⟨z',H4,I4,r4,q4⟩=>thn (ho' pins s4 σ H4 y z' u w' _ I4 r2 r4 q4) fun d' s5 hQ'=>?_))
  obtain ⟨z2,H5,I5,r5,k2,e2,q5⟩:=hQ'
  subst e2
  cases r5
  exact wpAny_truthy_bool ⟨H5,I5,q5⟩
def znW (K:PySem.W.Frag) (x:V) (H:Hp) (k:Bool):Prop :=
 match x with
 | .non=>k=false
 | .bl b=>k=b
 | .int i=>k=(i != 0)
 | .str y=>y.length≤sizeLine∧k=((y.length:Int) != 0)
 | .byt y=>y.size≤sizeLine∧k=((y.size:Int) != 0)
 | .ref p=>(∃ xs,SqL K H p xs∧k=!xs.isEmpty)∨(∃ xs,SqT K H p xs∧k=!xs.isEmpty)∨∃ kvs,H p=some (.dK kvs)∧k=!kvs.isEmpty
 | _=>False
theorem ziA {κ:Type} {kvs:List (κ×V)} {vs:List (κ×Value)} (r:KV kvs vs):(!vs.isEmpty)=!kvs.isEmpty:=by
 cases r <;> rfl
theorem zfv {xs:List V} {its:List Value} (r:zbq xs its):(!its.toArray.isEmpty)=!xs.isEmpty:=by
 cases r <;> simp
theorem zgB:(sizeLine:Nat)<2 ^ 63:=by rw [sizeLine_eq];decide
theorem zn8:TruR X (fun x H Q=>∃ k,znW X.K x H k∧Q k H):=by
 intro pins s σ H x v Q I rx h
 obtain ⟨k,e,q⟩:=h
 have hl:=zgB
 have hs:sizeLine=16777216:=sizeLine_eq
 cases x with
 | non =>
  cases rx
  have e':k=false:=e
  subst e'
  exact truthy_none ⟨H,I,q⟩
 | bl b =>
  cases rx
  have e':k=b:=e
  subst e'
  exact wpAny_truthy_bool ⟨H,I,q⟩
 | int i =>
  obtain ⟨t,rfl⟩:=rx
  have e':k=(i != 0):=e
  subst e'
  exact PySem.P.truthy_int ⟨H,I,q⟩
 | str y =>
  obtain ⟨t,rfl⟩:=rx
  obtain ⟨hy,e'⟩:y.length≤sizeLine∧k=((y.length:Int) != 0):=e
  subst e'
  exact PySem.P.truthy_str (by (first|lia|omega)) ⟨H,I.tok _,q⟩
 | byt y =>
  obtain ⟨t,rfl⟩:=rx
  obtain ⟨hy,e'⟩:y.size≤sizeLine∧k=((y.size:Int) != 0):=e
  subst e'
  exact PySem.W.truthy_bytes (by (first|lia|omega)) ⟨H,I.tok _,q⟩
 | ref p =>
  cases rx
  have e':(∃ xs,SqL X.K H p xs∧k=!xs.isEmpty)∨(∃ xs,SqT X.K H p xs∧k=!xs.isEmpty)∨∃ kvs,H p=some (.dK kvs)∧k=!kvs.isEmpty:=e
  rcases e' with ⟨xs,hx,e'⟩ | ⟨xs,hx,e'⟩ | ⟨kvs,hx,e'⟩
  ·subst e'
   obtain ⟨its,r,pl,hz⟩:=I.list hx
   have hlen:=r.length
   exact wpAny_truthy_list pl.isList (by simp only [List.size_toArray];(first|lia|omega)) ⟨H,I.tok _,by rw [zfv r];exact q⟩
  ·subst e'
   obtain ⟨its,r,pl,hz⟩:=I.tuple hx
   have hlen:=r.length
   exact truthy_tuple pl (by simp only [List.size_toArray];(first|lia|omega)) ⟨H,I.tok _,by rw [zfv r];exact q⟩
  ·subst e'
   obtain ⟨hz,hS,vs,r,m⟩:kvs.length≤sizeLine∧(p == sysModules)=false∧∃ vs,KV kvs vs∧s.heap.DictOf (zhp X.prog X.w) p vs:=I.hok p _ hx
   have hlen:kvs.length=vs.length:=Paired.length r
   exact wpAny_truthy_dict hS m (by (first|lia|omega)) ⟨H,I.tok _,by rw [ziA r];exact q⟩
 | _=>exact (show False from e).elim
theorem zh7 (ha:PE X a ta) (he:∀ whole,isTrue a X.env whole=(do let v ← whole;standAt a.pos;holding [v] (truthy v))) :
  PT X a (fun σ H Q=>ta σ H fun x H'=>∃ k,znW X.K x H' k∧Q k H'):=by
 intro pins s σ H Q I h
 exact isTrue_plain (thn (ha pins s σ H _ I h) fun v s1 ⟨x,H1,I1,r1,q1⟩=>zn8 pins s1 σ H1 x v Q I1 r1 q1) (he _)
theorem zjP {x:V} {us:List Value} (r:zbq [x] us):∃ u,us=[u]∧zbR x u:=by
 cases r with
 | cons r1 r2=>cases r2;exact ⟨_,rfl,r1⟩
theorem zob {x y:V} {us:List Value} (r:zbq [x,y] us):∃ u w',us=[u,w']∧zbR x u∧zbR y w':=by
 cases r with
 | cons r1 r2 =>
  cases r2 with
  | cons r3 r4=>cases r4;exact ⟨_,_,rfl,r1,r3⟩
theorem zik:zfp X (.builtin "abs") (fun xs H Q=>∃ i,xs=[.int i]∧Q (.int (if i<0 then -i else i)) H):=by
 intro pins s σ H xs us Q I r h
 obtain ⟨i,rfl,q⟩:=h
 obtain ⟨u,rfl,t,rfl⟩:=zjP r
 exact call_abs_int fun u tk=>⟨.int (if i<0 then -i else i),H,I.tok _,⟨_,rfl⟩,q⟩
end
end L2
namespace L2
open PySem PySem.Spec PyProof.Rows
structure zmu (h:Heap) (x dx C:Addr) (mA:Str→Option Value):Prop where
 obj:h.get? x=some (PySem.W.instObj C dx)
 ns:h.Ns1 dx mA
 ne:dx≠x
theorem zja {h:Heap} {dx:Addr} {mA:Str→Option Value} (n:h.Ns1 dx mA):∃ od,h.get? dx=some od∧∀ name,PySem.W.lookIn name od=some (mA name):=by
 obtain ⟨o,es,ep,ho,hd,hk,_,hm⟩:=n
 refine ⟨o,ho,fun name=>?_⟩
 have e:=hm name
 unfold nsFind findBy at e
 rw [← Array.find?_toList] at e
 unfold PySem.W.lookIn
 rw [hd]
 dsimp only
 split
 ·rename_i y q
  rw [q] at e
  exact congrArg some e
 ·rename_i q
  rw [q] at e
  have a:es.toList.any (·.refKey)=false:=by
   rw [List.any_eq_false]
   intro y hy
   obtain ⟨z,t,hkey⟩:=hk y (Array.mem_toList_iff.mp hy)
   simp [DictEntry.refKey,hkey]
  have a':¬ es.toList.any (·.refKey)=true:=by rw [a];exact Bool.false_ne_true
  rw [if_neg a']
  exact congrArg some e
theorem zmu.look {h:Heap} {x dx C:Addr} {mA:Str→Option Value} (I:zmu h x dx C mA):∃ od,PySem.W.InstAt h x (PySem.W.instObj C dx) C (some od)∧∀ name,PySem.W.lookIn name od=some (mA name) :=
 let ⟨od,ho,hl⟩:=zja I.ns
 ⟨od,⟨I.obj,rfl,rfl,ho⟩,hl⟩
section
variable {prog:Program} {w:World} {A:Around} {E:Value→Shared→Prop} {s:Shared} {K:PySem.W.Frag} {x dx C f:Addr} {mA:Str→Option Value} {name:Str} {v:Value}
theorem zlW {expr:Bool} {Q:Value→Shared→Prop} (X:K.In s.heap) (I:zmu s.heap x dx C mA) (hg:PySem.W.plainGet K C name=true) (hh:PySem.W.hasDictIn K C=true)
  (ha:PySem.W.findIn K (.ref C) name=some none) (hv:mA name=some v) (hv':PySem.W.handedIn v=true) (h:Q v { s with toks:=s.toks+1 }) :
  wpAny (model prog w) A (getAttr (.ref x) name expr) Q E s:=by
 obtain ⟨od,J,hl⟩:=I.look
 exact PySem.W.get_value X J (PySem.W.plainGet_of hg).1 (PySem.W.findObj_own hh ha rfl (by rw [hl,hv])) hv' h
theorem zkK {pl:Sem Bool} {Q:Value×List Value→Shared→Prop} (X:K.In s.heap) (I:zmu s.heap x dx C mA) (hg:PySem.W.plainGet K C name=true)
  (hf:PySem.W.findIn K (.ref C) name=some (some (.ref f))) (ht:PySem.W.isFn K (.ref f)=true) (hv:mA name=none) (h:Q (.ref f,[.ref x]) s) :
  wpAny (model prog w) A (getMethod (.ref x) name pl) Q E s:=by
 obtain ⟨od,J,hl⟩:=I.look
 exact PySem.W.method_fn X J (PySem.W.plainGet_of hg).1 (PySem.W.plainGet_of hg).2 hf (beq_iff_eq.mp ht) (by show (PySem.W.lookIn name od).map (·.isSome)=some false;rw [hl,hv];rfl) h
theorem zmx {ns:List Str} {Q:Unit→Shared→Prop} (X:K.In s.heap) (I:zmu s.heap x dx C mA)
  (hs:PySem.W.findIn K (.ref C) "__setattr__"=some (some (.builtin "object.__setattr__"))) (hp:PySem.W.plainOver K C=true) (ht:PySem.W.takerIn K C name=some none) (hh:PySem.W.hasDictIn K C=true)
  (hw:PySem.Within mA ns) (hsz:ns.length≤sizeLine)
  (h:∀ h',zmu h' x dx C (fun y=>if y=name then some v else mA y)→Heap.SameBut dx s.heap h'→Q () { s with heap:=h',toks:=s.toks+2 }) :
  wpAny (model prog w) A (setAttr (.ref x) name v) Q E s:=by
 obtain ⟨od,J,hl⟩:=I.look
 refine PySem.W.set_plain X J hs (PySem.W.osa_open (s:={ s with toks:=s.toks+1 }) (r:=none) X J hp ht fun b=>?_)
 obtain ⟨cd,hc,hd'⟩:=PySem.W.any_some hh
 have hx:s.heap.get? x=some ⟨.ref C,some dx,.plain,#[]⟩:=I.obj
 refine wpAny_bind (wpAny_pure (wpAny_bind (wpAny_bind (wpAny_loadPart hx (wpAny_bind (PySem.W.Looks.here (s:={ s with toks:=s.toks+1 }) (PySem.W.looks_clsIn X hc) ?_))))))
 rw [hd']
 refine wpAny_pure (a:=some dx) (wpAny_bind (wpAny_pure (wpAny_bind ?_)))
 refine wpAny_nsSet1 (s:={ s with toks:=s.toks+1 }) I.ns fun h' hn2 hs2=>?_
 obtain ⟨oD,esD,epD,hoD,hdD,hcD⟩:=hn2.count (PySem.Within.cons name v hw)
 refine wpAny_bind (wpAny_lookBehind hoD (by rw [hdD];exact pastItsLine_dict (Nat.le_trans hcD (by rw [List.length_cons];(first|lia|omega)))) ?_)
 exact wpAny_pure (h _ ⟨(hs2.2 _ (Ne.symm I.ne)).trans I.obj,hn2,I.ne⟩ hs2)
theorem zk7 {R:Result→Shared→Prop} {vs:List Value} {kw:List (Str×Value)} (X:K.In s.heap) (hm:PySem.W.makesIn K C=true)
  (hi:PySem.W.findIn K (.ref C) "__init__"=some (some (.ref f))) (hf:PySem.W.typeIn K (.ref f)=some (.type "function"))
  (h:codeAny (model prog w) (A.under (.builtin "type.__call__" ⟨.ref C::vs,kw⟩)) (.call (.ref f) ⟨.ref (s.heap.objs.size+1)::vs,kw⟩) (PySem.W.InitBack (s.heap.objs.size+1) R)
   { s with heap:=(s.heap.push PySem.W.emptyDict).push (PySem.W.instObj C s.heap.objs.size) }) :
  codeAny (model prog w) A (.call (.ref C) ⟨vs,kw⟩) R s:=by
 obtain ⟨hh,g,d,t,os⟩:=s
 exact PySem.W.make_core (PySem.W.makes_of X hm) (PySem.W.looks_findIn X hi) (fun self=>PySem.W.bind_fn X self hf) (.inl rfl) h
end
def zeL (f:Str) (v:V):List (Str×V)→List (Str×V)
 | []=>[(f,v)]
 | (g,x)::r=>if g=f then (g,v)::r else (g,x)::zeL f v r
theorem zfc (f g:Str) (v:V):∀ fs:List (Str×V),(zeL f v fs).lookup g=if g=f then some v else fs.lookup g
 | []=>by
  show List.lookup g [(f,v)]=_
  by_cases h:g=f
  ·have hb:(g == f)=true:=beq_iff_eq.mpr h
   simp only [List.lookup,hb,if_pos h]
  ·have hb:(g == f)=false:=beq_eq_false_iff_ne.mpr h
   simp only [List.lookup,hb,if_neg h]
 | (k,x)::r=>by
  have ih:=zfc f g v r
  rw [show zeL f v ((k,x)::r)=(if k=f then (k,v)::r else (k,x)::zeL f v r) from rfl]
  by_cases hk:k=f
  ·rw [if_pos hk]
   by_cases h:g=k
   ·have hb:(g == k)=true:=beq_iff_eq.mpr h
    simp only [List.lookup,hb,if_pos (h.trans hk)]
   ·have hb:(g == k)=false:=beq_eq_false_iff_ne.mpr h
    simp only [List.lookup,hb,if_neg (fun e:g=f=>h (e.trans hk.symm))]
  ·rw [if_neg hk]
   by_cases h:g=k
   ·have hb:(g == k)=true:=beq_iff_eq.mpr h
    simp only [List.lookup,hb,if_neg (fun e:g=f=>hk (h.symm.trans e))]
   ·have hb:(g == k)=false:=beq_eq_false_iff_ne.mpr h
    simp only [List.lookup,hb]
    exact ih
theorem zfa (f:Str) (v:V):∀ fs:List (Str×V),f∈(zeL f v fs).map (·.1)∧∀ g,g∈fs.map (·.1)→g∈(zeL f v fs).map (·.1)
 | []=>⟨by simp [zeL],fun g h=>by simp at h⟩
 | (k,x)::r=>by
  obtain ⟨i1,i2⟩:=zfa f v r
  rw [show zeL f v ((k,x)::r)=(if k=f then (k,v)::r else (k,x)::zeL f v r) from rfl]
  by_cases hk:k=f
  ·rw [if_pos hk]
   subst hk
   exact ⟨by simp,fun g h=>by simpa using h⟩
  ·rw [if_neg hk]
   refine ⟨?_,fun g h=>?_⟩
   ·rw [List.map_cons]
    exact List.mem_cons_of_mem _ i1
   ·rw [List.map_cons] at h ⊢
    rcases List.mem_cons.mp h with e | e
    ·exact List.mem_cons.mpr (.inl e)
    ·exact List.mem_cons_of_mem _ (i2 g e)
theorem ze3 (f:Str) (v:V):∀ fs:List (Str×V),(zeL f v fs).length≤fs.length+1
 | []=>by simp [zeL]
 | (k,x)::r=>by
  have ih:=ze3 f v r
  rw [show zeL f v ((k,x)::r)=(if k=f then (k,v)::r else (k,x)::zeL f v r) from rfl]
  by_cases hk:k=f
  ·rw [if_pos hk,List.length_cons,List.length_cons];(first|lia|omega)
  ·rw [if_neg hk,List.length_cons,List.length_cons];(first|lia|omega)
theorem zj6.some_of {v:V} {o:Option Value} (r:zj6 (some v) o):∃ u,o=some u∧zbR v u:=by
 cases o with
 | none=>exact (show False from r).elim
 | some u=>exact ⟨u,rfl,r⟩
theorem zj6.none_of {o:Option Value} (r:zj6 none o):o=none:=by
 cases o with
 | none=>rfl
 | some u=>exact (show False from r).elim
theorem zjp {v:V} {u:Value} (r:zbR v u):PySem.W.handedIn u=true:=by
 cases v with
 | non=>cases (show u=Value.none from r);rfl
 | bl b=>cases (show u=Value.bool b from r);rfl
 | int i=>obtain ⟨t,e⟩:=(show ∃ t,u=Value.int i t from r);cases e;rfl
 | str x=>obtain ⟨t,e⟩:=(show ∃ t,u=Value.str x t from r);cases e;rfl
 | byt b=>obtain ⟨t,e⟩:=(show ∃ t,u=Value.bytes b t from r);cases e;rfl
 | flt b=>obtain ⟨t,e⟩:=(show ∃ t,u=Value.float b t from r);cases e;rfl
 | ref a=>cases (show u=Value.ref a from r);rfl
 | ty n=>cases (show u=Value.type n from r);rfl
section
variable {P:Program} {w:World} {H H':Hp} {h h':Heap} {a C dx:Addr} {fs fs':List (Str×V)}
theorem zgb (hok:HOk P w H h) (e:H a=some (.ins C dx fs)):∃ mA,zmu h a dx C mA∧(∀ f,zj6 (fs.lookup f) (mA f))∧PySem.Within mA (fs.map (·.1))∧fs.length≤1000∧H dx=some (.own a):=by
 obtain ⟨d,z,ne,ob,mA,n,r,q⟩:=(show zb9 P w H h a (.ins C dx fs) from hok a _ e)
 exact ⟨mA,⟨ob,n,ne⟩,r,q,z,d⟩
end
structure Cls (K:PySem.W.Frag) (C:Addr):Prop where
 pg:PySem.W.plainGet K C Str.empty=true
 hd:PySem.W.hasDictIn K C=true
 po:PySem.W.plainOver K C=true
 sa:PySem.W.findIn K (.ref C) "__setattr__"=some (some (.builtin "object.__setattr__"))
theorem Cls.get {K:PySem.W.Frag} {C:Addr} (c:Cls K C) (f:Str):PySem.W.plainGet K C f=true:=c.pg
def zbS (K:PySem.W.Frag) (C:Addr) (f:Str):Prop:=PySem.W.findIn K (.ref C) f=some none
theorem zbS.taker {K:PySem.W.Frag} {C:Addr} {f:Str} (n:zbS K C f):PySem.W.takerIn K C f=some none:=by
 unfold PySem.W.takerIn
 rw [show PySem.W.findIn K (.ref C) f=some none from n]
 rfl
structure zfr (K:PySem.W.Frag) (C:Addr) (m:Str) (f:Addr):Prop where
 at_:PySem.W.findIn K (.ref C) m=some (some (.ref f))
 fn:PySem.W.isFn K (.ref f)=true
 kp:PySem.W.keepIn K (.ref f)=true
section
variable {X:Cx} {pins:List (Addr×Obj)} {σ:St} {H:Hp} {s:Shared} {a C dx:Addr} {fs:List (Str×V)} {f:Str} {v:V} {A:Around} {E:Value→Shared→Prop}
theorem zim {b:Bool} {Q:Value→Shared→Prop} (I:Inv X pins σ H s) (e:H a=some (.ins C dx fs)) (c:Cls X.K C) (n:zbS X.K C f) (l:fs.lookup f=some v)
  (h:∀ u s',Inv X pins σ H s'→zbR v u→Q u s'):wpAny (model X.prog X.w) A (getAttr (.ref a) f b) Q E s:=by
 obtain ⟨mA,O,r,_,_,_⟩:=zgb I.hok e
 obtain ⟨u,hu,ru⟩:=zj6.some_of (v:=v) (o:=mA f) (by rw [← l];exact r f)
 exact zlW I.kIn O (c.get f) c.hd n hu (zjp ru) (h u _ (I.tok _) ru)
theorem zfA {m:Str} {g:Addr} {pl:Sem Bool} {Q:Value×List Value→Shared→Prop} (I:Inv X pins σ H s) (e:H a=some (.ins C dx fs)) (c:Cls X.K C) (k:zfr X.K C m g) (l:fs.lookup m=none)
  (h:Q (.ref g,[.ref a]) s):wpAny (model X.prog X.w) A (getMethod (.ref a) m pl) Q E s:=by
 obtain ⟨mA,O,r,_,_,_⟩:=zgb I.hok e
 have hn:mA m=none:=zj6.none_of (by rw [← l];exact r m)
 exact zkK I.kIn O (c.get m) k.at_ k.fn hn h
theorem zit {y:V} {u:Value} {Q:Unit→Shared→Prop} (I:Inv X pins σ H s) (e:H a=some (.ins C dx fs)) (c:Cls X.K C) (n:zbS X.K C f) (hl:fs.length<1000) (ry:zbR y u)
  (h:∀ s',Inv X pins σ (upd H a (.ins C dx (zeL f y fs))) s'→Q () s'):wpAny (model X.prog X.w) A (setAttr (.ref a) f u) Q E s:=by
 obtain ⟨mA,O,r,wi,_,ho⟩:=zgb I.hok e
 have hz:(fs.map (·.1)).length≤sizeLine:=by rw [List.length_map,sizeLine_eq];(first|lia|omega)
 refine zmx I.kIn O c.sa c.po n.taker c.hd wi hz fun h' O' sb=>h _ ?_
 have hd:∃ o,h'.get? dx=some o:=let ⟨o,_,_,e',_⟩:=O'.ns;⟨o,e'⟩
 refine I.write (x:=a) (e:=dx) (by rw [e];exact True.intro) (.inr ho) (fun b q hb z=>(sb.2 b hb).trans z) hd ?_
 refine ⟨by rw [zak O.ne];exact ho,?_,O.ne,O'.obj,_,O'.ns,fun g=>?_,fun g hg=>?_⟩
 ·have:=ze3 f y fs;(first|lia|omega)
 ·show zj6 ((zeL f y fs).lookup g) (if g=f then some u else mA g)
  rw [zfc]
  by_cases q:g=f
  ·rw [if_pos q,if_pos q];exact ry
  ·rw [if_neg q,if_neg q];exact r g
 ·by_cases q:g=f
  ·rw [q];exact (zfa f y fs).1
  ·refine (zfa f y fs).2 g (wi g fun z=>hg ?_)
   show (if g=f then some u else mA g)=none
   rw [if_neg q];exact z
theorem Inv.made (I:Inv X pins σ H s):Inv X pins σ (upd (upd H s.heap.objs.size (.own (s.heap.objs.size+1))) (s.heap.objs.size+1) (.ins C s.heap.objs.size []))
  { s with heap:=(s.heap.push PySem.W.emptyDict).push (PySem.W.instObj C s.heap.objs.size) }:=by
 have e1:(s.heap.push PySem.W.emptyDict).get? s.heap.objs.size=some PySem.W.emptyDict:=Heap.get?_push_size s.heap rfl
 have e2:((s.heap.push PySem.W.emptyDict).push (PySem.W.instObj C s.heap.objs.size)).get? (s.heap.objs.size+1)=some (PySem.W.instObj C s.heap.objs.size):=by
  have:=Heap.get?_push_size (s.heap.push PySem.W.emptyDict) (o:=PySem.W.instObj C s.heap.objs.size) rfl
  rwa [Heap.size_push] at this
 have e3:(s.heap.push PySem.W.emptyDict).Ns s.heap.objs.size (fun _=>none):=⟨PySem.W.emptyDict,#[],_,e1,rfl,(fun e he=>absurd he (by simp)),fun _=>rfl⟩
 have I1:=I.laid (a:=s.heap.objs.size) (o:=.own (s.heap.objs.size+1)) (h':=s.heap.push PySem.W.emptyDict) (t':=s.toks) (fun b u q=>Heap.get?_push_of_some _ q) (Nat.le_refl _) ⟨_,e1⟩
 refine I1.laid (a:=s.heap.objs.size+1) (o:=.ins C s.heap.objs.size []) (t':=s.toks) (fun b u q=>Heap.get?_push_of_some _ q) (Nat.le_of_eq (Heap.size_push _ _)) ?_
 have ne:s.heap.objs.size≠s.heap.objs.size+1:=Nat.ne_of_lt (Nat.lt_succ_self _)
 refine ⟨by rw [zak ne,zae],Nat.zero_le _,ne,e2,fun _=>none,(Heap.Ns1.of_empty e3).at fun o q=>Heap.get?_push_of_some _ q,fun _=>True.intro,fun y hy=>absurd rfl hy⟩
theorem zmp {prog:Program} {w:World} {env:Env} {e:Expr} {f:Str} {pos:Pos} {s:Shared} {Q:Value→Shared→Prop} (hb:attributeBase e f env (eval e env)=eval e env)
  (h:wpAny (model prog w) A (eval e env) (fun o s₁=>wpAny (model prog w) A (getAttr o f true) Q E s₁) E s):wpAny (model prog w) A (eval (.Attribute e f pos) env) Q E s :=
 Attribute_any_ h (by rw [arm_eval_Attribute,hb])
end
section
variable {X:Cx} {o e value:Expr} {f:Str} {pos pos' tpos:Pos} {ta tv:TE}
end
section
variable {X:Cx} {pins:List (Addr×Obj)} {σ:St} {H:Hp} {s:Shared} {A:Around} {E:Value→Shared→Prop} {Q:Value→Shared→Prop} {c:Value} {b:Bool}
inductive zii (K:PySem.W.Frag) (H:Hp):V→Value→Prop where
 | non:zii K H .non (.type "NoneType")
 | bl (x:Bool):zii K H (.bl x) (.type "bool")
 | int (i:Int):zii K H (.int i) (.type "int")
 | str (x:Str):zii K H (.str x) (.type "str")
 | flt (x:UInt64):zii K H (.flt x) (.type "float")
 | lst {a:Addr} {xs:List V} (e:H a=some (.lst xs)):zii K H (.ref a) (.type "list")
 | frz {a:Addr} {o:Obj} {xs:List V} (e:H a=some (.frz o (.lst xs))):zii K H (.ref a) (.type "list")
 | tup {a:Addr} {xs:List V} (e:H a=some (.tup xs)):zii K H (.ref a) (.type "tuple")
 | dK {a:Addr} {kvs:List (Key×V)} (e:H a=some (.dK kvs)):zii K H (.ref a) (.type "dict")
 | dT {a:Addr} {kvs:List (List Key×V)} (e:H a=some (.dT kvs)):zii K H (.ref a) (.type "dict")
 | ins {a C dx:Addr} {fs:List (Str×V)} (e:H a=some (.ins C dx fs)) (cl:Cls K C) (ha:PySem.W.findIn K (.ref C) "__class__"=some (some (.builtin "object.__class__")))
   (hn:PySem.W.specialIn K (.builtin "object.__class__") "__get__"=some (some (.builtin "getset_descriptor.__get__"))) (htk:PySem.W.takesIn K (.builtin "object.__class__")=some true)
   (hm:PySem.W.mroIn K C (.type "object")=some true):zii K H (.ref a) (.ref C)
theorem zjm {x:V} {u t:Value} (I:Inv X pins σ H s) (rx:zbR x u) (ty:zii X.K H x t) (e:PySem.W.kitOne X.K t c=some b) (h:∀ tk,Q (.bool b) { s with toks:=tk }) :
  wpAny (model X.prog X.w) A (call (.builtin "isinstance") [u,c]) Q E s:=by
 cases ty with
 | non=>cases (show u=Value.none from rx);exact PySem.W.kia_one PySem.W.kitx_none I.kIn True.intro e (fun z=>nomatch z) h
 | bl y=>cases (show u=Value.bool y from rx);exact PySem.W.kia_one PySem.W.kitx_bool I.kIn True.intro e (fun z=>nomatch z) h
 | int i=>obtain ⟨t,q⟩:=(show ∃ t,u=Value.int i t from rx);cases q;exact PySem.W.kia_one PySem.W.kitx_int I.kIn True.intro e (fun z=>nomatch z) h
 | str y=>obtain ⟨t,q⟩:=(show ∃ t,u=Value.str y t from rx);cases q;exact PySem.W.kia_one PySem.W.kitx_str I.kIn True.intro e (fun z=>nomatch z) h
 | flt y=>obtain ⟨t,q⟩:=(show ∃ t,u=Value.float y t from rx);cases q;exact PySem.W.kia_one PySem.W.kitx_float I.kIn True.intro e (fun z=>nomatch z) h
 | @lst a xs ea =>
  cases (show u=Value.ref a from rx)
  obtain ⟨_,_,n,_,h1⟩:=(show zb9 X.prog X.w H s.heap a (.lst xs) from I.hok a _ ea)
  exact PySem.W.kia_one PySem.W.kitx_list I.kIn ⟨_,h1,rfl⟩ e (fun z=>nomatch z) h
 | @frz a ob xs ea =>
  cases (show u=Value.ref a from rx)
  obtain ⟨_,_,_,n,_,h1⟩:=(show zb9 X.prog X.w H s.heap a (.frz ob (.lst xs)) from I.hok a _ ea)
  exact PySem.W.kia_one PySem.W.kitx_list I.kIn ⟨_,h1,rfl⟩ e (fun z=>nomatch z) h
 | @tup a xs ea =>
  cases (show u=Value.ref a from rx)
  obtain ⟨_,_,_,p⟩:=(show zb9 X.prog X.w H s.heap a (.tup xs) from I.hok a _ ea)
  obtain ⟨o,h1,h2,_⟩:=p
  exact PySem.W.kia_one PySem.W.kitx_tuple I.kIn ⟨o,h1,h2⟩ e (fun z=>nomatch z) h
 | @dK a kvs ea =>
  cases (show u=Value.ref a from rx)
  obtain ⟨_,_,vs,_,p⟩:=(show zb9 X.prog X.w H s.heap a (.dK kvs) from I.hok a _ ea)
  obtain ⟨o,es,ep,h1,h2,_⟩:=p
  exact PySem.W.kia_one PySem.W.kitx_dict I.kIn ⟨o,h1,h2.1⟩ e (fun z=>nomatch z) h
 | @dT a kvs ea =>
  cases (show u=Value.ref a from rx)
  obtain ⟨_,_,xs,_,o,es,ep,h1,h2,_⟩:=(show zb9 X.prog X.w H s.heap a (.dT kvs) from I.hok a _ ea)
  exact PySem.W.kia_one PySem.W.kitx_dict I.kIn ⟨o,h1,h2.1⟩ e (fun z=>nomatch z) h
 | @ins a C dx fs ea cl ha hn htk hm =>
  cases (show u=Value.ref a from rx)
  obtain ⟨mA,O,_⟩:=zgb I.hok ea
  obtain ⟨od,J,_⟩:=O.look
  exact PySem.W.kia_one (PySem.W.kitx_own (cl.get _) cl.hd ha hn htk hm) I.kIn J e (fun z=>nomatch z) h
end
end L2
namespace L2
open PySem PySem.Spec PyProof.Rows
structure zdV (k:Nat) (A:Around):Prop where
 hd:A.handled=none
 dp:A.depth+3*k+5<recursionLimit
 un:A.units+16*k+200<cLine
theorem zdV.mono {j k:Nat} {A:Around} (r:zdV k A) (h:j≤k):zdV j A:=⟨r.hd,by have:=r.dp;(first|lia|omega),by have:=r.un;(first|lia|omega)⟩
theorem zdV.deeper {k:Nat} {A:Around} (r:zdV (k+1) A) (env:Env):zdV k (A.deeper env) :=
 ⟨r.hd,by have:=r.dp;show A.depth+1+3*k+5<_;(first|lia|omega),by have:=r.un;show A.units+3+16*k+200<_;(first|lia|omega)⟩
theorem zdV.in1 {k:Nat} {A:Around} (r:zdV (k+1) A):zdV k A.in1 :=
 ⟨r.hd,by have:=r.dp;show A.depth+3*k+5<_;(first|lia|omega),by have:=r.un;show A.units+1+16*k+200<_;(first|lia|omega)⟩
theorem zir {A:Around} {C:Addr} {us:List Value} {kw:List (Str×Value)}:(A.under (.builtin "type.__call__" ⟨.ref C::us,kw⟩)).depth=A.depth+1:=by
 first | rfl | simp [Around.under,Code.weight,Code.isCreation,Code.isGuard,Code.isCaller,Code.frames,Code.isFrame,guardIds]
theorem ziD {A:Around} {C:Addr} {us:List Value} {kw:List (Str×Value)}:(A.under (.builtin "type.__call__" ⟨.ref C::us,kw⟩)).units=A.units+1:=by
 first | rfl | simp [Around.under,Code.cUnits,Code.frames,Code.isFrame]
theorem zdV.make {k:Nat} {A:Around} (r:zdV (k+1) A) (C:Addr) (us:List Value) (kw:List (Str×Value)):zdV k (A.under (.builtin "type.__call__" ⟨.ref C::us,kw⟩)) :=
 ⟨r.hd,by have:=r.dp;rw [zir];(first|lia|omega),by have:=r.un;rw [ziD];(first|lia|omega)⟩
theorem zdV.depth {k:Nat} {A:Around} (r:zdV k A):A.depth<recursionLimit:=by have:=r.dp;(first|lia|omega)
theorem zdV.units0 {k:Nat} {A:Around} (r:zdV k A):A.units<cLine:=by have:=r.un;(first|lia|omega)
def zao:TA:=fun _ H Q=>Q [] H
def zac (ta:TE) (tr:TA):TA:=fun σ H Q=>ta σ H fun x H1=>tr σ H1 fun xs H2=>Q (x::xs) H2
section
variable {X:Cx} {e:Expr} {es:List Expr} {te:TE} {t:TA} {pos:Pos}
theorem zaf:PA X [] zao:=fun _ _ _ _ H Q I h=>Calls.spliced_nil ⟨[],H,I,.nil,h⟩
theorem zaa (ha:PE X e te) (hr:PA X es t) (hs:starEach (e::es) X.env=(false,eval e X.env)::starEach es X.env:=by rfl):PA X (e::es) (zac te t):=by
 intro pos pins s σ H Q I h
 rw [hs]
 show wpAny _ _ (spliced ((false,eval e X.env)::backTo pos (starEach es X.env))) _ _ s
 refine Calls.spliced_cons (thn (ha pins s σ H _ I h) fun u s1 hQ'=>?_)
 obtain ⟨x,H1,I1,r1,q1⟩:=hQ'
 exact thn (hr pos pins s1 σ H1 _ I1 q1) fun us s2 ⟨xs,H2,I2,r2,q2⟩=>⟨x::xs,H2,I2,.cons r1 r2,q2⟩
def zgu (t:TA):TE:=fun σ H Q=>t σ H fun xs H1=>xs.length≤sizeLine∧∀ p,H1 p=none→Q (.ref p) (upd H1 p (.tup xs))
def zfL (t:TA):TE:=fun σ H Q=>t σ H fun xs H1=>xs.length≤sizeLine∧∀ p,H1 p=none→Q (.ref p) (upd H1 p (.lst xs))
theorem zd5 {x1} (h:PA X es t):PE X (.Tuple es x1 pos) (zgu t):=by
 intro pins s σ H Q I hq
 refine wpAny_Tuple_spliced (thn (h pos pins s σ H _ I hq) fun us s1 ⟨xs,H1,I1,r,z,q⟩=>⟨by rw [← r.length];exact z,?_⟩)
 have hf:H1 s1.heap.objs.size=none:=I1.hok.fresh (Nat.le_refl _)
 refine ⟨.ref s1.heap.objs.size,upd H1 s1.heap.objs.size (.tup xs),I1.laid (t':=s1.toks) (fun b u e=>Heap.get?_push_of_some _ e) (Nat.le_refl _) ?_,rfl,q _ hf⟩
 exact ⟨z,us,r,⟨_,Heap.get?_push_size _ rfl,rfl,_,rfl⟩⟩
theorem zc7 (h:PA X es t):PE X (.List es pos) (zfL t):=by
 intro pins s σ H Q I hq
 refine wpAny_List_spliced (thn (h pos pins s σ H _ I hq) fun us s1 ⟨xs,H1,I1,r,z,q⟩=>⟨by rw [← r.length];exact z,?_⟩)
 have hf:H1 s1.heap.objs.size=none:=I1.hok.fresh (Nat.le_refl _)
 refine ⟨.ref s1.heap.objs.size,upd H1 s1.heap.objs.size (.lst xs),I1.laid (t':=s1.toks) (fun b u e=>Heap.get?_push_of_some _ e) (Nat.le_refl _) ?_,rfl,q _ hf⟩
 exact ⟨z,us,0,r,Heap.get?_push_size _ rfl⟩
end
abbrev Sp:=List V→Hp→VK→XK→Prop
abbrev CXT:=List Env→Hp→Shared→XK→Value→Shared→Prop
structure zjO (P:Program) (w:World) (K:PySem.W.Frag) (mg:Str→Option Value) (base:Heap) (A:Around) (outer:List Env) (s:Shared) (H:Hp):Prop where
 frames:A.frames=some outer
 mod:Mod K mg base
 bs:∀ b o,base.get? b=some o→s.heap.get? b=some o∧H b=none
 bsz:base.objs.size≤s.heap.objs.size
 funs:s.heap.FunFrames base outer
 frf:∀ b∈frs outer,H b=none
 hok:HOk P w H s.heap
 bare:AllBare s.gens
def CE (outer:List Env) (P:Program) (w:World) (H:Hp) (s:Shared) (Q:VK) (u:Value) (s':Shared):Prop :=
 ∃ v H',s'.os=s.os∧AllBare s'.gens∧Un (frs outer) [] H H' s.heap s'.heap∧HOk P w H' s'.heap∧zbR v u∧Q v H'
def CR (CX:CXT) (outer:List Env) (P:Program) (w:World) (H:Hp) (s:Shared) (Q:VK) (E:XK) (r:Result) (s':Shared):Prop :=
 match r with
 | .ok (.ret u)=>CE outer P w H s Q u s'
 | .ok _=>False
 | .error e=>CX outer H s E e s'
structure zcG (P:Program) (w:World) (K:PySem.W.Frag) (mg:Str→Option Value) (base:Heap) (CX:CXT) (k:Nat) (f:Addr) (fd:FuncData) (ps:List Str) (sp:Sp):Prop where
 len:∀ vs H Q E,sp vs H Q E→vs.length=ps.length
 run:∀ (A:Around) (outer:List Env) (s:Shared) (H:Hp) (args:Args) (us:List Value) (vs:List V) (Q:VK) (E:XK),zdV k A→zjO P w K mg base A outer s H→BindsTo s fd args (ps.zip us)→zbq vs us→sp vs H Q E →
  codeAny (model P w) A (.call (.ref f) args) (CR CX outer P w H s Q E) s
theorem zjO.make {P:Program} {w:World} {K:PySem.W.Frag} {mg:Str→Option Value} {base:Heap} {A:Around} {outer:List Env} {s:Shared} {H:Hp} (e:zjO P w K mg base A outer s H) (C:Addr) (us:List Value) (kw:List (Str×Value)) :
  zjO P w K mg base (A.under (.builtin "type.__call__" ⟨.ref C::us,kw⟩)) outer s H:=⟨by first | exact e.frames | (simpa [Around.under,Code.envs,Code.isFrame,pushEnvs] using e.frames),e.mod,e.bs,e.bsz,e.funs,e.frf,e.hok,e.bare⟩
theorem zjO.in1 {P:Program} {w:World} {K:PySem.W.Frag} {mg:Str→Option Value} {base:Heap} {A:Around} {outer:List Env} {s:Shared} {H:Hp} (e:zjO P w K mg base A outer s H) :
  zjO P w K mg base A.in1 outer s H:=⟨e.frames,e.mod,e.bs,e.bsz,e.funs,e.frf,e.hok,e.bare⟩
section
variable {X:Cx} {pins:List (Addr×Obj)} {σ:St} {H:Hp} {s s':Shared}
theorem Inv.env0 (I:Inv X pins σ H s):zjO X.prog X.w X.K X.mg X.base X.A X.stack s H :=
 ⟨I.ok.frames,I.ok.mod,I.bs,Nat.le_trans I.ok.bsz I.sz,I.stack,I.stkFree,I.hok,I.bare⟩
theorem Inv.after {Q:VK} {u:Value} (I:Inv X pins σ H s) (h:CE X.stack X.prog X.w H s Q u s'):EP X pins σ Q u s':=by
 obtain ⟨v,H',os,bare,un,hok,r,q⟩:=h
 obtain ⟨hh,g,d,t,os'⟩:=s'
 obtain rfl:os'=s.os:=os
 exact ⟨v,H',I.call (h':=hh) (g':=g) (d':=d) (t':=t) (ch:=[]) un hok bare (fun b z=>absurd z (by simp)),r,q⟩
end
def zaA (sp:Sp) (dvs:List V) (E:XK) (t:TA):TE:=fun σ H Q=>t σ H fun vs H1=>sp (vs++dvs) H1 Q E
def zdo (C:Addr) (m:Str) (sp:Sp) (dvs:List V) (E:XK) (ta:TE) (t:TA):TE:=fun σ H Q=>ta σ H fun x H1=>∃ a dx fs,x=.ref a∧H1 a=some (.ins C dx fs)∧fs.lookup m=none ∧
 t σ H1 fun vs H2=>sp (x::(vs++dvs)) H2 Q E
def zmV (C:Addr) (sp:Sp) (dvs:List V) (E:XK) (t:TA):TE:=fun σ H Q=>t σ H fun vs H1=>∀ x dx,H1 x=none→H1 dx=none→dx≠x →
 sp (.ref x::(vs++dvs)) (upd (upd H1 dx (.own x)) x (.ins C dx [])) (fun v H2=>v=.non∧Q (.ref x) H2) E
def zbe (K:PySem.W.Frag) (fd:FuncData) (ps:List Str) (ds:List Value):Prop :=
 ∀ (s:Shared) (us:List Value),K.In s.heap→(us++ds).length=ps.length→BindsTo s fd ⟨us,[]⟩ (ps.zip (us++ds))
theorem zbe.all {K:PySem.W.Frag} {fd:FuncData} {ps:List Str} (h:∀ us:List Value,us.length=ps.length→bindArgs fd ⟨us,[]⟩=pure (ps.zip us)):zbe K fd ps []:=fun s us _ hl=>by
 rw [List.append_nil] at hl ⊢
 exact .of_eq (h us hl)
def ze0 (CX:CXT) (X:Cx) (E:XK):Prop:=∀ (pins:List (Addr×Obj)) (σ:St) (H:Hp) (s:Shared) (e:Value) (s':Shared),Inv X pins σ H s→CX X.stack H s E e s'→X.xe e s'
section
variable {X:Cx} {CX:CXT} {k:Nat} {f C:Addr} {fd:FuncData} {ps:List Str} {sp:Sp} {dvs:List V} {ds:List Value} {E:XK} {x m:Str} {p pos apos:Pos} {e o:Expr} {es:List Expr} {ta:TE} {t:TA}
theorem zjg {pins:List (Addr×Obj)} {σ:St} {H:Hp} {s:Shared} {Q:VK} {us:List Value} {vs:List V} (F:zcG X.prog X.w X.K X.mg X.base CX k f fd ps sp) (hr:zdV k X.A) (hb:zbe X.K fd ps ds) (hd:zbq dvs ds) (hx:ze0 CX X E)
  (I:Inv X pins σ H s) (r:zbq vs us) (h:sp (vs++dvs) H Q E):wpAny (model X.prog X.w) X.A (call (.ref f) us) (EP X pins σ Q) X.xe s:=by
 have r2:zbq (vs++dvs) (us++ds):=r.append hd
 have hl:(us++ds).length=ps.length:=by rw [← r2.length];exact F.len _ _ _ _ h
 refine wpAny_call (codeAny_mono (F.run X.A X.stack s H ⟨us,[]⟩ (us++ds) (vs++dvs) Q E hr I.env0 (hb s us I.kIn hl) r2 h) fun r s' hq=>?_)
 cases r with
 | error e=>exact hx pins σ H s e s' I hq
 | ok fl =>
  cases fl with
  | ret u=>exact I.after hq
  | next=>exact False.elim hq
  | brk=>exact False.elim hq
  | cont=>exact False.elim hq
theorem zap (F:zcG X.prog X.w X.K X.mg X.base CX k f fd ps sp) (hr:zdV k X.A) (hg:Gl X x) (hm:X.mg x=some (.ref f)) (hk:PySem.W.keepIn X.K (.ref f)=true) (hb:zbe X.K fd ps ds) (hd:zbq dvs ds) (hx:ze0 CX X E)
  (ha:PA X (e::es) t) (hdb:(x == ("__debug__":Str))=false:=by decide) (he:starEach (e::es) X.env=(false,eval e X.env)::starEach es X.env:=by rfl) (hpl:(backTo pos (starEach es X.env)).any (·.1)=false:=by rfl) :
  PE X (.Call (.Name x p) (e::es) [] pos) (zaA sp dvs E t):=by
 intro pins s σ H Q I h
 refine wpAny_Call_Name_kw (zhP I hg hm ?_ hdb)
 refine PySem.W.callWith_K (h₀:=X.base) I.ok.mod.kin hk (thn (ha pos pins s σ H _ I h) fun us s1 ⟨vs,H1,I1,r,q⟩=>⟨I1.kIn,?_⟩) he hpl
 exact zjg F hr hb hd hx I1 r q
theorem zdI {pl:Sem Bool} (he:PE X o ta) (c:Cls X.K C) (hm:zfr X.K C m f) (F:zcG X.prog X.w X.K X.mg X.base CX k f fd ps sp) (hr:zdV k X.A) (hb:zbe X.K fd ps ds) (hd:zbq dvs ds) (hx:ze0 CX X E) (ha:PA X (e::es) t)
  (hst:starEach (e::es) X.env=(false,eval e X.env)::starEach es X.env:=by rfl) (hpl:(backTo pos (starEach es X.env)).any (·.1)=false:=by rfl)
  (ht:eval (.Call (.Attribute o m apos) (e::es) [] pos) X.env=(do
   let ov ← eval o X.env
   standAt apos.atName
   let (f,first) ← holding [ov] (getMethod ov m pl)
   callWith pos f first (backTo pos (starEach (e::es) X.env)) (backToKw pos (keywordEach [] X.env))):=by rfl) :
  PE X (.Call (.Attribute o m apos) (e::es) [] pos) (zdo C m sp dvs E ta t):=by
 intro pins s σ H Q I h
 refine PySem.W.methodCall_KW (pl:=pl) (thn (he pins s σ H _ I h) fun u s1 hQ'=>?_) ht
 obtain ⟨x,H1,I1,rx,a,dx,fs,ex,ea,l,q⟩:=hQ'
 subst ex
 obtain rfl:u=Value.ref a:=rx
 refine zfA I1 ea c hm l ?_
 refine PySem.W.callWith_K (first:=[.ref a]) (h₀:=X.base) I.ok.mod.kin hm.kp (thn (ha pos pins s1 σ H1 _ I1 q) fun us s2 ⟨vs,H2,I2,r,q2⟩=>⟨I2.kIn,?_⟩) hst hpl
 exact zjg (us:=.ref a::us) (vs:=.ref a::vs) F hr hb hd hx I2 (.cons rfl r) q2
theorem zie {pl:Sem Bool} (he:PE X o ta) (c:Cls X.K C) (hm:zfr X.K C m f) (F:zcG X.prog X.w X.K X.mg X.base CX k f fd ps sp) (hr:zdV k X.A) (hb:zbe X.K fd ps ds) (hd:zbq dvs ds) (hx:ze0 CX X E)
  (ht:eval (.Call (.Attribute o m apos) [] [] pos) X.env=(do
   let ov ← eval o X.env
   standAt apos.atName
   let (f,first) ← holding [ov] (getMethod ov m pl)
   callWith pos f first (backTo pos (starEach [] X.env)) (backToKw pos (keywordEach [] X.env))):=by rfl) :
  PE X (.Call (.Attribute o m apos) [] [] pos) (zdo C m sp dvs E ta zao):=by
 intro pins s σ H Q I h
 refine PySem.W.methodCall_KW (pl:=pl) (thn (he pins s σ H _ I h) fun u s1 hQ'=>?_) ht
 obtain ⟨x,H1,I1,rx,a,dx,fs,ex,ea,l,q⟩:=hQ'
 subst ex
 obtain rfl:u=Value.ref a:=rx
 refine zfA I1 ea c hm l ?_
 exact PySem.W.callWith_K0 (first:=[.ref a]) I1.kIn hm.kp (zjg (us:=[.ref a]) (vs:=[.ref a]) F hr hb hd hx I1 (.cons rfl .nil) q)
structure Mk (K:PySem.W.Frag) (C f:Addr):Prop where
 makes:PySem.W.makesIn K C=true
 init:PySem.W.findIn K (.ref C) "__init__"=some (some (.ref f))
 fn:PySem.W.isFn K (.ref f)=true
 kp:PySem.W.keepIn K (.ref C)=true
theorem zkc {pins:List (Addr×Obj)} {σ:St} {H:Hp} {s:Shared} {Q:VK} {us:List Value} {vs:List V} (M:Mk X.K C f) (F:zcG X.prog X.w X.K X.mg X.base CX k f fd ps sp) (hr:zdV (k+1) X.A) (hb:zbe X.K fd ps ds) (hd:zbq dvs ds)
  (hx:ze0 CX X E) (I:Inv X pins σ H s) (r:zbq vs us)
  (h:∀ x dx,H x=none→H dx=none→dx≠x→sp (.ref x::(vs++dvs)) (upd (upd H dx (.own x)) x (.ins C dx [])) (fun v H2=>v=.non∧Q (.ref x) H2) E) :
  wpAny (model X.prog X.w) X.A (call (.ref C) us) (EP X pins σ Q) X.xe s:=by
 have hq:=h (s.heap.objs.size+1) s.heap.objs.size (I.hok.fresh (Nat.le_succ _)) (I.hok.fresh (Nat.le_refl _)) (Nat.ne_of_lt (Nat.lt_succ_self _))
 have I2:=Inv.made (C:=C) I
 have r2:zbq (V.ref (s.heap.objs.size+1)::(vs++dvs)) (Value.ref (s.heap.objs.size+1)::(us++ds)):=.cons rfl (r.append hd)
 have hl:(Value.ref (s.heap.objs.size+1)::us++ds).length=ps.length:=by
  have e:=r2.length
  rw [F.len _ _ _ _ hq] at e
  exact e.symm
 refine wpAny_call (zk7 (f:=f) I.kIn M.makes M.init (beq_iff_eq.mp M.fn) (codeAny_mono (F.run _ X.stack _ _ ⟨Value.ref (s.heap.objs.size+1)::us,[]⟩ (Value.ref (s.heap.objs.size+1)::(us++ds)) _ _ E (hr.make C us [])
  (I2.env0.make C us []) (hb _ (Value.ref (s.heap.objs.size+1)::us) I2.kIn hl) r2 hq) fun r s' hq'=>?_))
 cases r with
 | error e=>exact hx pins σ _ _ e s' I2 hq'
 | ok fl =>
  cases fl with
  | ret u =>
   obtain ⟨v,H',I3,rv,ev,q3⟩:=I2.after hq'
   subst ev
   exact ⟨rv,⟨V.ref (s.heap.objs.size+1),H',I3,rfl,q3⟩⟩
  | next=>exact False.elim hq'
  | brk=>exact False.elim hq'
  | cont=>exact False.elim hq'
theorem zmj (M:Mk X.K C f) (F:zcG X.prog X.w X.K X.mg X.base CX k f fd ps sp) (hr:zdV (k+1) X.A) (hg:Gl X x) (hm:X.mg x=some (.ref C)) (hb:zbe X.K fd ps ds) (hd:zbq dvs ds) (hx:ze0 CX X E)
  (ha:PA X (e::es) t) (hdb:(x == ("__debug__":Str))=false:=by decide) (he:starEach (e::es) X.env=(false,eval e X.env)::starEach es X.env:=by rfl) (hpl:(backTo pos (starEach es X.env)).any (·.1)=false:=by rfl) :
  PE X (.Call (.Name x p) (e::es) [] pos) (zmV C sp dvs E t):=by
 intro pins s σ H Q I h
 refine wpAny_Call_Name_kw (zhP I hg hm ?_ hdb)
 refine PySem.W.callWith_K (h₀:=X.base) I.ok.mod.kin M.kp (thn (ha pos pins s σ H _ I h) fun us s1 ⟨vs,H1,I1,r,q⟩=>⟨I1.kIn,?_⟩) he hpl
 exact zkc M F hr hb hd hx I1 r q
end
section
variable {X:Cx} {CX:CXT} {k:Nat} {f C:Addr} {fd:FuncData} {ps ks:List Str} {sp:Sp} {E:XK} {x m:Str} {p pos apos kpos:Pos} {e o:Expr} {es:List Expr} {kws:List Keyword} {te ta:TE} {t tk:TA} {nm:Option Str}
variable {g:List Value→List Value→List Value} {gV:List V→List V→List V}
end
structure zaB (N P:List Str) (sc:Scope):Prop where
 kind:sc.kind=.function
 co:sc.isCoroutine=false
 gen:sc.isGenerator=false
 nd:N.Nodup
 pre:N.take P.length=P
 par:∀ x∈P,sc.names.lookup x=some .local∨sc.names.lookup x=some .cell
 nofree:∀ y∈sc.names,y.2≠.free
theorem zgH {kindOf:Str→Option NameKind} {x:Str}:∀ {binds:List (Str×Value)} {m:Str→Option Value},(∀ v,(x,v)∉binds)→bindL kindOf binds m x=m x
 | [],_,_=>rfl
 | (n,v)::r,m,h=>by
  unfold bindL
  rw [zgH fun w hw=>h w (List.mem_cons_of_mem _ hw)]
  split
  ·have:x≠n:=by rintro rfl;exact h v List.mem_cons_self
   simp [this]
  ·rfl
theorem zgG {kindOf:Str→Option NameKind} {x:Str}:∀ {binds:List (Str×Value)} {m:Str→Option Value},(∀ v,(x,v)∉binds)→bindC kindOf binds m x=m x
 | [],_,_=>rfl
 | (n,v)::r,m,h=>by
  unfold bindC
  rw [zgG fun w hw=>h w (List.mem_cons_of_mem _ hw)]
  split
  ·rfl
  ·have:x≠n:=by rintro rfl;exact h v List.mem_cons_self
   simp [this]
theorem zgJ {kindOf:Str→Option NameKind} {x:Str} {v:Value}:∀ {P:List Str} {vs:List Value} {i:Nat} {m:Str→Option Value},P.Nodup→P[i]?=some x→vs[i]?=some v→kindOf x=some .local →
  bindL kindOf (P.zip vs) m x=some v
 | [],_,_,_,_,h,_,_=>by simp at h
 | _::_,[],_,_,_,_,h,_=>by simp at h
 | p::P,w::vs,0,m,nd,h1,h2,hk=>by
  simp at h1 h2;subst h1;subst h2
  show bindL kindOf ((p,w)::P.zip vs) m p=_
  unfold bindL
  rw [zgH fun v hv=>(List.nodup_cons.mp nd).1 (List.of_mem_zip hv).1,if_pos hk]
  simp
 | p::P,w::vs,i+1,m,nd,h1,h2,hk=>by
  show bindL kindOf ((p,w)::P.zip vs) m x=_
  unfold bindL
  exact zgJ (i:=i) (List.nodup_cons.mp nd).2 (by simpa using h1) (by simpa using h2) hk
theorem zgM {kindOf:Str→Option NameKind} {x:Str} {v:Value}:∀ {P:List Str} {vs:List Value} {i:Nat} {m:Str→Option Value},P.Nodup→P[i]?=some x→vs[i]?=some v→kindOf x≠some .local →
  bindC kindOf (P.zip vs) m x=some v
 | [],_,_,_,_,h,_,_=>by simp at h
 | _::_,[],_,_,_,_,h,_=>by simp at h
 | p::P,w::vs,0,m,nd,h1,h2,hk=>by
  simp at h1 h2;subst h1;subst h2
  show bindC kindOf ((p,w)::P.zip vs) m p=_
  unfold bindC
  rw [zgG fun v hv=>(List.nodup_cons.mp nd).1 (List.of_mem_zip hv).1,if_neg hk]
  simp
 | p::P,w::vs,i+1,m,nd,h1,h2,hk=>by
  show bindC kindOf ((p,w)::P.zip vs) m x=_
  unfold bindC
  exact zgM (i:=i) (List.nodup_cons.mp nd).2 (by simpa using h1) (by simpa using h2) hk
def zbb (N:List Str) (vs:List V):St:=vs.map some++List.replicate (N.length - vs.length) none
def zmi (CX:CXT) (P:Program) (w:World) (K:PySem.W.Frag) (mg:Str→Option Value) (base:Heap) (N:List Str) (qual:Str) (scope:Scope) (f:Addr) (cd:Value) (A:Around) (outer:List Env) (s:Shared) (H:Hp) (E:XK):Cx where
 prog:=P
 w:=w
 K:=K
 mg:=mg
 base:=base
 A:=A.deeper (envOfC qual scope s.heap.objs.size f cd)
 N:=N
 s₀:=s
 H₀:=H
 env:=envOfC qual scope s.heap.objs.size f cd
 outer:=outer
 stack:=envOfC qual scope s.heap.objs.size f cd::outer
 ex:=[]
 calm:=true
 fn:=fun _=>true
 pn:=[]
 xe:=fun e s'=>wpAny (model P w) (A.deeper (envOfC qual scope s.heap.objs.size f cd)) (leaving (envOfC qual scope s.heap.objs.size f cd) e) (fun _ s''=>CX outer H s E e s'') (fun e' s''=>CX outer H s E e' s'') s'
theorem zeO {sc:Scope} {n:Nat} {x:Str} (h:sc.names.lookup x=some .cell):∃ c,(cellsFrom n sc.names []).lookup x=some c:=by
 have q:=PySem.W.cellsFrom_some sc.names n [] (.inl h)
 exact Option.isSome_iff_exists.mp q
theorem ziK {CX:CXT} {P:Program} {w:World} {K:PySem.W.Frag} {mg:Str→Option Value} {base:Heap} {N ps:List Str} {qual:Str} {scope:Scope} {f:Addr} {cd:Value} {A:Around} {outer:List Env} {s s1:Shared} {H:Hp} {E:XK} {us:List Value} {vs:List V}
  (S:zaB N ps scope) (hd:A.handled=none) (e0:zjO P w K mg base A outer s H) (hl:vs.length=ps.length) (r:zbq vs us)
  (x:InCallC s s.heap.objs.size (bindL (envOfC qual scope s.heap.objs.size f cd).kindOf (ps.zip us) fun _=>none) (cellsFrom (s.heap.objs.size+1) scope.names []) (bindC (envOfC qual scope s.heap.objs.size f cd).kindOf (ps.zip us) fun _=>none) s1) :
  Inv (zmi CX P w K mg base N qual scope f cd A outer s H E) [] (zbb N vs) H s1:=by
 have hpl:ps.length≤N.length:=by have:=congrArg List.length S.pre;rw [List.length_take] at this;(first|lia|omega)
 obtain ⟨h1,tk,rfl,hk⟩:=x.done
 have noA:∀ b:Addr,b∉(zmi CX P w K mg base N qual scope f cd A outer s H E).ex:=fun b z=>absurd (show b∈([]:List Addr) from z) (by simp)
 refine ⟨⟨e0.mod,S.kind,rfl,rfl,Nat.le_refl _,fun y z c h1 h2=>?_,fun y hy=>?_,fun y c _ h=>?_,fun _=>hd,Around.frames_deeper e0.frames,.inr ⟨rfl,rfl⟩,fun b z=>absurd z (noA b),e0.bs,e0.bsz,fun b _ _=>noA b,fun b z=>absurd z (noA b),e0.funs,e0.frf⟩,
  rfl,e0.bare,Un.kept hk,⟨_,x.toInCall.ns,fun i y v h1 h2 h3=>?_⟩,fun y c h=>⟨_,x.cell y c h⟩,e0.hok.fresh (Nat.le_refl _),fun y c h=>?_,fun p hp=>absurd (show p∈([]:List (Addr×Obj)) from hp) (by simp),e0.hok.kept hk,?_⟩
 ·exact name_of_addr x.apart (PySem.mem_of_lookup h1) (PySem.mem_of_lookup h2)
 ·have hy:scope.names.lookup y=some .cell∨scope.names.lookup y=some .free:=hy
  rcases hy with hy | hy
  ·exact zeO hy
  ·exact absurd rfl (S.nofree _ (PySem.mem_of_lookup hy))
 ·exact Nat.le_of_lt (x.above y c (PySem.mem_of_lookup h))
 ·have hi:i<vs.length:=by
   unfold zbb at h2
   by_cases hi:i<vs.length
   ·exact hi
   ·rw [List.getElem?_append_right (by simpa using hi)] at h2
    rw [List.getElem?_replicate] at h2
    split at h2 <;> cases h2
  have ha:vs[i]?=some v:=by
   unfold zbb at h2
   rw [List.getElem?_append_left (by simpa using hi),List.getElem?_map] at h2
   cases e:vs[i]? with
   | none=>rw [e] at h2;cases h2
   | some a=>rw [e] at h2;cases h2;rfl
  obtain ⟨u,hu,rv⟩:=r.get ha
  have hp:ps[i]?=some y:=by
   rw [← S.pre,List.getElem?_take_of_lt (by (first|lia|omega))];exact h1
  have ndP:ps.Nodup:=by rw [← S.pre];exact S.nd.sublist (List.take_sublist _ _)
  refine ⟨u,rv,?_⟩
  rcases S.par y (List.mem_of_getElem? hp) with k | k
  ·exact .inl ⟨k,zgJ ndP hp hu k⟩
  ·obtain ⟨c,e⟩:=zeO (n:=s.heap.objs.size+1) k
   refine .inr ⟨.inl k,c,e,?_⟩
   have q:=x.cell y c e
   rw [zgM ndP hp hu (by show scope.names.lookup y≠_;rw [k];decide)] at q
   exact q
 ·exact e0.hok.fresh (Nat.le_of_lt (x.above y c (PySem.mem_of_lookup h)))
 ·unfold zbb
  show _=N.length
  rw [List.length_append,List.length_map,List.length_replicate]
  (first|lia|omega)
theorem znB {CX:CXT} {P:Program} {w:World} {K:PySem.W.Frag} {mg:Str→Option Value} {base:Heap} {k:Nat} {f:Addr} {name qual:Str} {params:Arguments} {body:List Stmt} {scope:Scope} {dV kV doc pm cdv ct oc:Value} {an od:Option Addr}
  {osl:Array (Option Value)} {N ps:List Str} {sp:Sp} (lk:K.lookup f=some ⟨oc,od,.func (PySem.W.fnOf name qual params body scope dV kV doc pm an cdv ct),osl⟩) (hcd:PySem.W.codeIn K cdv qual=true) (S:zaB N ps scope)
  (len:∀ vs H Q E,sp vs H Q E→vs.length=ps.length)
  (hbody:∀ (A:Around) (outer:List Env) (s:Shared) (H:Hp) (vs:List V) (Q:VK) (E:XK),zdV k (A.deeper (envOfC qual scope s.heap.objs.size f cdv))→sp vs H Q E →
   ∃ t,PSs (zmi CX P w K mg base N qual scope f cdv A outer s H E) body t∧t { nx:=fun _ H'=>Q .non H',rt:=Q } (zbb N vs) H) :
  zcG P w K mg base CX (k+1) f (PySem.W.fnOf name qual params body scope dV kV doc pm an cdv ct) ps sp:=by
 refine ⟨len,fun A outer s H args us vs Q E hr e0 hb r hsp=>?_⟩
 have hl:=len _ _ _ _ hsp
 have KX:K.In s.heap:=e0.mod.kin.keeps fun b o e=>(e0.bs b o e).1
 have lim:s.heap.NoLimit:=e0.mod.nolimit.keeps fun b o e=>(e0.bs b o e).1
 have hkind:∀ y∈ps.zip us,scope.names.lookup y.1=some .local∨(scope.names.lookup y.1=some .cell∧((cellsFrom (s.heap.objs.size+1) scope.names []).lookup y.1).isSome=true):=fun ⟨n,v⟩ hy=>by
  rcases S.par n (List.of_mem_zip hy).1 with q | q
  ·exact .inl q
  ·exact .inr ⟨q,PySem.W.cellsFrom_some _ _ _ (.inl q)⟩
 refine codeAny_call_function hr.depth (KX _ _ lk) rfl S.co S.gen rfl (PySem.W.codeRec_of KX hcd) (hb _ _ _ _ ?_)
 refine wpAny_newFunctionEnv_cells S.kind hkind fun env he s1 x=>?_
 subst he
 refine ⟨lim.keeps x.toInCall.keep,codeAny_func ?_⟩
 obtain ⟨t,ht,hq⟩:=hbody A outer s H vs Q E (hr.deeper _) hsp
 have I:Inv (zmi CX P w K mg base N qual scope f cdv A outer s H E) [] (zbb N vs) H s1:=ziK S hr.hd e0 hl r x
 refine wpAny_mono (ht [] s1 (zbb N vs) H _ I hq) (fun fl s' hs=>?_) fun e s' hs=>hs
 have fin:∀ {σ':St} {H':Hp} {v:V} {u:Value},Inv (zmi CX P w K mg base N qual scope f cdv A outer s H E) [] σ' H' s'→zbR v u→Q v H'→CE outer P w H s Q u s' :=
  fun {σ' H' v u} J rv q=>⟨v,H',J.os,J.bare,J.base,J.hok,rv,q⟩
 cases fl with
 | ret u =>
  obtain ⟨v,σ',H',J,rv,q⟩:=hs
  exact fin J rv q
 | next =>
  obtain ⟨σ',H',J,q⟩:=hs
  exact fin (v:=V.non) (u:=Value.none) J rfl q
 | brk =>
  obtain ⟨_,_,_,q⟩:=hs
  exact False.elim q
 | cont =>
  obtain ⟨_,_,_,q⟩:=hs
  exact False.elim q
end L2
namespace L2
open PySem PySem.Spec PyProof.Rows
section
variable {X:Cx} {x:Str} {p pos:Pos} {e:Expr} {es:List Expr} {t:TA} {id T:String} {r:List V→Hp→VK→Prop}
def tCB (r:List V→Hp→VK→Prop) (t:TA):TE:=fun σ H Q=>t σ H fun vs H1=>r vs H1 Q
theorem zax (hc:zfp X (.builtin id) r) (hg:Gl X x) (hm:X.mg x=none) (hv:bootBuiltins x=some (.builtin id)) (ha:PA X (e::es) t) (hn:x≠"__name__":=by decide) (hdb:(x == ("__debug__":Str))=false:=by decide)
  (he:starEach (e::es) X.env=(false,eval e X.env)::starEach es X.env:=by rfl) (hpl:(backTo pos (starEach es X.env)).any (·.1)=false:=by rfl):PE X (.Call (.Name x p) (e::es) [] pos) (tCB r t):=by
 intro pins s σ H Q I h
 refine wpAny_Call_Name_kw (zeZ I hg hm hv ?_ hn hdb)
 exact PyProof.Rows.callWith_builtin1 (thn (ha pos pins s σ H _ I h) fun us s1 ⟨vs,H1,I1,r1,q1⟩=>hc pins s1 σ H1 vs us Q I1 r1 q1) he hpl
theorem zdU (hc:zfp X (.type T) r) (hg:Gl X x) (hm:X.mg x=none) (hv:bootBuiltins x=some (.type T)) (ha:PA X (e::es) t) (hn:x≠"__name__":=by decide) (hdb:(x == ("__debug__":Str))=false:=by decide)
  (he:starEach (e::es) X.env=(false,eval e X.env)::starEach es X.env:=by rfl) (hpl:(backTo pos (starEach es X.env)).any (·.1)=false:=by rfl):PE X (.Call (.Name x p) (e::es) [] pos) (tCB r t):=by
 intro pins s σ H Q I h
 refine wpAny_Call_Name_kw (zeZ I hg hm hv ?_ hn hdb)
 exact PyProof.Rows.callWith_type1 (thn (ha pos pins s σ H _ I h) fun us s1 ⟨vs,H1,I1,r1,q1⟩=>hc pins s1 σ H1 vs us Q I1 r1 q1) he hpl
end
end L2
namespace HT
open PySem PyProof.Rows
section
open PySem.SeqAt
open PySem.AutoSeq1 (wpAny_loadPart')
open PySem.MeetsSeq PySem.MeetsSeq2 PySem.MeetsSeq3
end
section
variable {prog:Program} {w:World} {A:Around} {E:Value→Shared→Prop} {s:Shared}
def sIx (n d:Nat):Option Int→Nat
 | none=>d
 | some v=>if v<0 then (v+(n:Int)).toNat else min v.toNat n
theorem zhZ (n d:Nat):sIx n d none=d:=rfl
theorem zjx (n d k:Nat):sIx n d (some (k:Int))=min k n:=by
 show (if (k:Int)<0 then ((k:Int)+(n:Int)).toNat else min (k:Int).toNat n)=min k n
 rw [if_neg (by (first|lia|omega)),Int.toNat_natCast]
end
end HT
namespace L2
open PySem PySem.Spec PyProof.Rows
abbrev TO:=St→Hp→(Option Int→Hp→Prop)→Prop
def PO (X:Cx) (e:Option Expr) (t:TO):Prop :=
 ∀ (pins:List (Addr×Obj)) (s:Shared) (σ:St) (H:Hp) (Q:Option Int→Hp→Prop),Inv X pins σ H s→t σ H Q →
  wpAny (model X.prog X.w) X.A (evalPart e X.env) (fun u s'=>∃ o H',Inv X pins σ H' s'∧IsPart u o∧Q o H') X.xe s
def zeQ:TO:=fun _ H Q=>Q none H
def zi7 (t:TE):TO:=fun σ H Q=>t σ H fun x H1=>∃ i,x=.int i∧Q (some i) H1
section
variable {X:Cx} {e:Expr} {te:TE} {lo hi:Option Expr} {tl th:TO} {pos p2:Pos}
theorem zhM:PO X none zeQ:=by
 intro pins s σ H Q I h
 rw [evalPart_none]
 exact wpAny_pure ⟨none,H,I,.none,h⟩
theorem zhn (h:PE X e te):PO X (some e) (zi7 te):=by
 intro pins s σ H Q I hw
 rw [evalPart_some]
 refine thn (h pins s σ H _ I hw) fun u s1 hQ'=>?_
 obtain ⟨x,H1,I1,r1,q1⟩:=hQ'
 obtain ⟨i,rfl,q⟩:=q1
 obtain ⟨t,rfl⟩:=r1
 exact ⟨some i,H1,I1,.int i t,q⟩
def SlR (X:Cx) (r:V→Option Int→Option Int→Hp→VK→Prop):Prop :=
 ∀ (pins:List (Addr×Obj)) (s:Shared) (σ:St) (H:Hp) (x:V) (v vl vu:Value) (lo hi:Option Int) (sl:Addr) (Q:VK),Inv X pins σ H s→zbR x v→s.heap.IsSliceOf sl vl vu .none→IsPart vl lo→IsPart vu hi→r x lo hi H Q →
  ∃ T id,typeLookup (.type T) "__getitem__"=pure (some (.builtin id))∧s.TypeIs v T∧wpAny (model X.prog X.w) X.A (getItem v (.ref sl)) (EP X pins σ Q) X.xe s
def tSl (r:V→Option Int→Option Int→Hp→VK→Prop) (te:TE) (tl th:TO):TE:=fun σ H Q=>te σ H fun x H1=>tl σ H1 fun l H2=>th σ H2 fun u H3=>r x l u H3 Q
theorem zf7 {r:V→Option Int→Option Int→Hp→VK→Prop} (hr:SlR X r) (he:PE X e te) (hl:PO X lo tl) (hu:PO X hi th):PE X (.Subscript e (.Slice lo hi none p2) pos) (tSl r te tl th):=by
 intro pins s σ H Q I h
 refine Subscript_ (thn (he pins s σ H _ I h) fun v s1 hQ'=>?_)
 obtain ⟨x,H1,I1,r1,q1⟩:=hQ'
 refine wpAny_Slice (thn (hl pins s1 σ H1 _ I1 q1) fun vl s2 ⟨l,H2,I2,pl,q2⟩=>thn (hu pins s2 σ H2 _ I2 q2) fun vu s3 hQ'=>?_)
 obtain ⟨u,H3,I3,pu,q3⟩:=hQ'
 rw [evalPart_none]
 refine wpAny_pure ?_
 have I4:Inv X pins σ H3 { s3 with heap:=s3.heap.push { cls:=.type "slice",data:=.fields #[vl,vu,.none] } }:=I3.kept (t':=s3.toks) fun b ob q=>Heap.get?_push_of_some _ q
 obtain ⟨T,id,hT,ht,hg⟩:=hr pins { s3 with heap:=s3.heap.push { cls:=.type "slice",data:=.fields #[vl,vu,.none] } } σ H3 x v vl vu l u s3.heap.objs.size Q I4 r1 (Heap.IsSliceOf.new ..) pl pu q3
 show wpAny (model X.prog X.w) X.A (subscriptTail e (.Slice lo hi none p2) v (.ref s3.heap.objs.size)) (EP X pins σ Q) X.xe { s3 with heap:=s3.heap.push { cls:=.type "slice",data:=.fields #[vl,vu,.none] } }
 exact tail_any (ops:=[.ref s3.heap.objs.size,v]) ht hT hg (by with_unfolding_all rfl)
def zjd (xs:List V) (lo hi:Option Int):List V:=(xs.drop (HT.sIx xs.length 0 lo)).take (HT.sIx xs.length xs.length hi - HT.sIx xs.length 0 lo)
theorem zhN (xs:List V) (lo hi:Option Int):(zjd xs lo hi).length≤xs.length:=by
 unfold zjd
 rw [List.length_take,List.length_drop]
 (first|lia|omega)
end
end L2
namespace L2
open PySem PySem.Spec PyProof.Rows
def ixN (n:Nat) (i:Int):Option Nat:=if 0≤i then (if i<n then some i.toNat else none) else if -(n:Int)≤i then some (i+n).toNat else none
def atI {α:Type} (xs:List α) (i:Int):Option α:=(ixN xs.length i).bind fun j=>xs[j]?
theorem zjW {n:Nat} {i:Int} {j:Nat} (h:ixN n i=some j):seqIndex? i n=some j∧j<n∧-(n:Int)≤i∧i<n:=by
 unfold ixN at h
 by_cases h0:0≤i
 ·rw [if_pos h0] at h
  by_cases h1:i<n
  ·rw [if_pos h1] at h
   have e:i.toNat=j:=Option.some.inj h
   exact ⟨by rw [seqIndex_of h0 h1,e],by (first|lia|omega),by (first|lia|omega),h1⟩
  ·rw [if_neg h1] at h;cases h
 ·rw [if_neg h0] at h
  by_cases h1:-(n:Int)≤i
  ·rw [if_pos h1] at h
   have e:(i+n).toNat=j:=Option.some.inj h
   exact ⟨by rw [seqIndex_neg (by (first|lia|omega)) h1,e],by (first|lia|omega),h1,by (first|lia|omega)⟩
  ·rw [if_neg h1] at h;cases h
theorem ziO {α:Type} {xs:List α} {i:Int} {v:α} (h:atI xs i=some v):∃ j,seqIndex? i xs.length=some j∧xs[j]?=some v∧j<xs.length∧-(xs.length:Int)≤i∧i<xs.length:=by
 unfold atI at h
 cases e:ixN xs.length i with
 | none=>rw [e] at h;cases h
 | some j =>
  rw [e] at h
  obtain ⟨h1,h2,h3,h4⟩:=zjW e
  exact ⟨j,h1,h,h2,h3,h4⟩
theorem zbz {α:Type} {xs:List α} {j:Nat} {v:α} (h:xs[j]?=some v):atI xs (j:Int)=some v:=by
 have hj:j<xs.length:=(List.getElem?_eq_some_iff.mp h).1
 have e:ixN xs.length (j:Int)=some j:=by
  unfold ixN
  rw [if_pos (by (first|lia|omega)),if_pos (by (first|lia|omega))];simp
 unfold atI;rw [e];exact h
theorem zkt {α:Type} (xs:List α) (v:α):atI (xs++[v]) (-1)=some v:=by
 have hl:(xs++[v]).length=xs.length+1:=by simp
 have e:ixN (xs++[v]).length (-1)=some xs.length:=by
  unfold ixN
  rw [hl,if_neg (by decide),if_pos (by (first|lia|omega))]
  congr 1
  (first|lia|omega)
 unfold atI
 rw [e]
 show (xs++[v])[xs.length]?=some v
 simp
def zmK (b:Expr):Prop:=∀ o i,subscripted b false o i=operate [o,i] (getItem o i)
def IxR (X:Cx) (r:R2):Prop :=
 ∀ (value slice:Expr) (pins:List (Addr×Obj)) (s:Shared) (σ:St) (H:Hp) (x y:V) (v u:Value) (Q:VK),Inv X pins σ H s→zbR x v→zbR y u→r x y H Q →
  subscripted slice false v u=operate [v,u] (getItem v u)→wpAny (model X.prog X.w) X.A (subscriptTail value slice v u) (EP X pins σ Q) X.xe s
def MtR (X:Cx) (id:String) (r:V→List V→Hp→VK→Prop):Prop :=
 ∀ (pins:List (Addr×Obj)) (s:Shared) (σ:St) (H:Hp) (x:V) (xs:List V) (v:Value) (us:List Value) (Q:VK),Inv X pins σ H s→zbR x v→zbq xs us→r x xs H Q →
  wpAny (model X.prog X.w) X.A (call (.builtin id) (v::us)) (EP X pins σ Q) X.xe s
section
variable {X:Cx} {a b:Expr} {ta tb:TE} {pos:Pos}
theorem zaw {r:R2} (hr:IxR X r) (ha:PE X a ta) (hb:PE X b tb) (hs:zmK b):PE X (.Subscript a b pos) (tOp r ta tb):=by
 intro pins s σ H Q I h
 exact Subscript_ (binT ha hb I h fun v u s2 x y H2 I2 rx ry q=>hr a b pins s2 σ H2 x y v u Q I2 rx ry q (hs _ _))
def za2 (K:PySem.W.Frag):R2:=fun x y H Q=>∃ p xs i v,x=.ref p∧y=.int i∧SqL K H p xs∧atI xs i=some v∧Q v H
def zdJ (K:PySem.W.Frag):R2:=fun x y H Q=>∃ p xs i v,x=.ref p∧y=.int i∧SqT K H p xs∧atI xs i=some v∧Q v H
theorem zan:IxR X (za2 X.K):=by
 intro value slice pins s σ H x y v u Q I rx ry h hs
 obtain ⟨p,xs,i,z,rfl,rfl,hq,he,q⟩:=h
 cases rx
 obtain ⟨t,rfl⟩:=ry
 obtain ⟨its,r,pl,hz⟩:=I.list hq
 obtain ⟨j,h1,h2,h3,h4,h5⟩:=ziO he
 obtain ⟨w,ew,rw'⟩:=r.get h2
 have hl:=r.length
 have hn:=zgB
 have fin:EP X pins σ Q w s:=⟨z,H,I,rw',q⟩
 by_cases h0:0≤i
 ·have hj:i.toNat=j:=by
   rw [seqIndex_of h0 h5] at h1
   exact Option.some.inj h1
  exact item_listR pl.isList h0 (by (first|lia|omega)) (by rw [hj];simpa using ew) fin hs
 ·have hj:(i+(its.toArray.size:Int)).toNat=j:=by
   rw [seqIndex_neg (by (first|lia|omega)) h4] at h1
   rw [List.size_toArray,← hl]
   exact Option.some.inj h1
  exact subscriptTail_builtinR (x:=w) pl.isList.typeIs slot_list_getitem.lookup
   (wpAny_getItem_list_neg (Q:=fun r s'=>r=w∧EP X pins σ Q r s') pl.isList (by (first|lia|omega)) (by rw [List.size_toArray] <;> (first|lia|omega)) (by (first|lia|omega)) (by rw [hj];simpa using ew) ⟨rfl,fin⟩) hs
theorem zco:IxR X (zdJ X.K):=by
 intro value slice pins s σ H x y v u Q I rx ry h hs
 obtain ⟨p,xs,i,z,rfl,rfl,hq,he,q⟩:=h
 cases rx
 obtain ⟨t,rfl⟩:=ry
 obtain ⟨its,r,pl,hz⟩:=I.tuple hq
 obtain ⟨j,h1,h2,h3,h4,h5⟩:=ziO he
 obtain ⟨w,ew,rw'⟩:=r.get h2
 have hl:=r.length
 have hn:=zgB
 have fin:EP X pins σ Q w s:=⟨z,H,I,rw',q⟩
 exact subscriptTail_builtinR (x:=w) pl.typeIs slot_tuple_getitem.lookup
  (getItem_tuple (j:=j) (Q:=fun r s'=>r=w∧EP X pins σ Q r s') pl (by (first|lia|omega)) (by (first|lia|omega)) (by rw [List.size_toArray,← hl];exact h1) (by simpa using ew) ⟨rfl,fin⟩) hs
theorem ziz (its:List Value) (n j:Nat) (u:Value):Obj.mapSeq (·.setIfInBounds j u) { cls:=.type "list",data:=.seq its.toArray n }={ cls:=.type "list",data:=.seq (its.set j u).toArray n }:=by
 simp [Obj.mapSeq]
theorem Inv.lst {pins:List (Addr×Obj)} {σ:St} {H:Hp} {s:Shared} {p:Addr} {xs:List V} (I:Inv X pins σ H s) (h:H p=some (.lst xs)) :
  ∃ (its:List Value) (n:Nat),zbq xs its∧s.heap.get? p=some { cls:=.type "list",data:=.seq its.toArray n }∧xs.length≤sizeLine:=by
 obtain ⟨z,its,n,r,e⟩:=I.hok p _ h
 exact ⟨its,n,r,e,z⟩
theorem Inv.lstUpd {pins:List (Addr×Obj)} {σ:St} {H:Hp} {s:Shared} {p:Addr} {xs ys:List V} {its its':List Value} {n n':Nat} {f:Obj→Obj} (I:Inv X pins σ H s) (h:H p=some (.lst xs))
  (ho:s.heap.get? p=some { cls:=.type "list",data:=.seq its.toArray n }) (hf:f { cls:=.type "list",data:=.seq its.toArray n }={ cls:=.type "list",data:=.seq its'.toArray n' }) (r:zbq ys its') (hz:ys.length≤sizeLine) (t:Nat) :
  Inv X pins σ (upd H p (.lst ys)) { s with heap:=s.heap.update p f,toks:=t }:=by
 have e:(s.heap.update p f).get? p=some { cls:=.type "list",data:=.seq its'.toArray n' }:=by
  rw [Heap.get?_update_self f ho (by rw [hf] <;> rfl),hf]
 refine I.write (x:=p) (e:=p) (by rw [h];trivial) (.inl rfl) (fun b u hb q=>(Heap.get?_update_other _ _ (Ne.symm hb)).trans q) ⟨_,e⟩ ?_
 exact ⟨hz,its',n',r,e⟩
def zdz:V→V→V→Hp→(Hp→Prop)→Prop:=fun o i v H Q=>∃ p xs k j,o=.ref p∧i=.int k∧H p=some (.lst xs)∧ixN xs.length k=some j∧Q (upd H p (.lst (xs.set j v)))
theorem zcE:PSet X zdz:=by
 intro pins s σ H o i v ov iv u Q I ro ri rv h
 obtain ⟨p,xs,k,j,rfl,rfl,hp,hj,q⟩:=h
 cases ro
 obtain ⟨t,rfl⟩:=ri
 obtain ⟨its,n,r,ho,hz⟩:=I.lst hp
 obtain ⟨h1,h2,h3,h4⟩:=zjW hj
 have hl:=r.length
 have hn:=zgB
 have I':Inv X pins σ (upd H p (.lst (xs.set j v))) { s with heap:=s.heap.update p (Obj.mapSeq (·.setIfInBounds j u)) } :=
  I.lstUpd hp ho (ziz its n j u) (r.set rv j) (by rw [List.length_set];exact hz) s.toks
 by_cases h0:0≤k
 ·have hk:k.toNat=j:=by
   rw [seqIndex_of h0 h4] at h1
   exact Option.some.inj h1
  exact PySem.W.ki_setAt ho h0 (by (first|lia|omega)) (by rw [List.size_toArray,← hl];exact h4) (by rw [hk];exact ⟨_,I',q⟩)
 ·have hk:(k+(its.toArray.size:Int)).toNat=j:=by
   rw [seqIndex_neg (by (first|lia|omega)) h3] at h1
   rw [List.size_toArray,← hl]
   exact Option.some.inj h1
  exact PySem.W.ki_setBack ho (by (first|lia|omega)) (by rw [List.size_toArray,← hl];exact h3) (by (first|lia|omega)) (by rw [hk];exact ⟨_,I',q⟩)
theorem zgO (lo hi:Option Int) (n:Nat):(sliceBounds lo hi none n).1=((HT.sIx n 0 lo:Nat):Int)∧(sliceBounds lo hi none n).2.1=((HT.sIx n n hi:Nat):Int)∧(sliceBounds lo hi none n).2.2=1:=by
 refine ⟨?_,?_,rfl⟩
 ·cases lo with
  | none=>simp [sliceBounds,HT.sIx]
  | some i =>
   simp only [sliceBounds,HT.sIx,Option.getD_none,show (1:Int) > 0 by decide,if_true]
   by_cases h:i<0
   ·simp only [h,if_true] <;> (first|lia|omega)
   ·simp only [h,if_false] <;> (first|lia|omega)
 ·cases hi with
  | none=>simp [sliceBounds,HT.sIx]
  | some i =>
   simp only [sliceBounds,HT.sIx,Option.getD_none,show (1:Int) > 0 by decide,if_true]
   by_cases h:i<0
   ·simp only [h,if_true] <;> (first|lia|omega)
   ·simp only [h,if_false] <;> (first|lia|omega)
theorem zgt (its:List Value) (lo hi:Option Int):slicePick its.toArray lo hi none=((its.drop (HT.sIx its.length 0 lo)).take (HT.sIx its.length its.length hi - HT.sIx its.length 0 lo)).toArray:=by
 obtain ⟨h1,h2,h3⟩:=zgO lo hi its.toArray.size
 unfold slicePick
 rw [h1,h2,h3]
 simp only [sliceRange_one,pick_run,List.size_toArray] <;> rfl
def znH (K:PySem.W.Frag):V→Option Int→Option Int→Hp→VK→Prop:=fun x lo hi H Q=>∃ a xs,x=.ref a∧SqL K H a xs∧∀ p,H p=none→Q (.ref p) (upd H p (.lst (zjd xs lo hi)))
theorem zhk:SlR X (znH X.K):=by
 intro pins s σ H x v vl vu lo hi sl Q I rx hs pl pu h
 obtain ⟨a,xs,rfl,hx,q⟩:=h
 cases rx
 obtain ⟨its,r,ht,hz⟩:=I.list hx
 have hlen:=r.length
 refine ⟨"list",_,slot_list_getitem.lookup,ht.isList.typeIs,?_⟩
 refine wpAny_getItem_list_slice ht.isList hs pl pu .none (by simp) ?_ (by rw [List.size_toArray] <;> (first|lia|omega))
 rw [zgt,← hlen]
 refine ⟨.ref s.heap.objs.size,_,I.laid (t':=s.toks) (o:=.lst (zjd xs lo hi)) (fun b ob q=>Heap.get?_push_of_some _ q) (Nat.le_refl _) ?_,rfl,q _ (I.hok.fresh (Nat.le_refl _))⟩
 exact ⟨Nat.le_trans (zhN xs lo hi) hz,_,0,(r.drop (HT.sIx xs.length 0 lo)).take (HT.sIx xs.length xs.length hi - HT.sIx xs.length 0 lo),Heap.get?_push_size _ rfl⟩
theorem zar:zfp X (.builtin "len") (fun xs H Q=>∃ p ys,xs=[.ref p]∧(SqL X.K H p ys∨SqT X.K H p ys)∧Q (.int ys.length) H):=by
 intro pins s σ H xs us Q I r h
 obtain ⟨p,ys,rfl,hq,q⟩:=h
 obtain ⟨u,rfl,rx⟩:=zjP r
 cases rx
 have hn:=zgB
 rcases hq with hq | hq
 ·obtain ⟨its,r',pl,hz⟩:=I.list hq
  have hlen:=r'.length
  exact Calls.call_len_list pl.isList (by simp only [List.size_toArray] <;> (first|lia|omega)) ⟨.int ys.length,H,I.tok _,⟨s.toks+1,by rw [List.size_toArray,hlen]⟩,q⟩
 ·obtain ⟨its,r',pl,hz⟩:=I.tuple hq
  have hlen:=r'.length
  exact len_tuple pl (by simp only [List.size_toArray] <;> (first|lia|omega)) ⟨.int ys.length,H,I.tok _,⟨s.toks+1,by rw [List.size_toArray,hlen]⟩,q⟩
theorem zdd:zfp X (.type "list") (fun xs H Q=>∃ p ys,xs=[.ref p]∧(SqL X.K H p ys∨SqT X.K H p ys)∧∀ l,H l=none→Q (.ref l) (upd H l (.lst ys))):=by
 intro pins s σ H xs us Q I r h
 obtain ⟨p,ys,rfl,hq,q⟩:=h
 obtain ⟨u,rfl,rx⟩:=zjP r
 cases rx
 have fin:∀ (its:List Value),zbq ys its→ys.length≤sizeLine→∀ (h':Heap) (c':Nat),(∀ b o',s.heap.get? b=some o'→h'.get? b=some o') →
   h'.get? s.heap.objs.size=some { cls:=.type "list",dict:=none,data:=.seq its.toArray c',slots:=#[] }→EP X pins σ Q (.ref s.heap.objs.size) { s with heap:=h' }:=fun its r' hz h' c' kp e =>
  ⟨.ref s.heap.objs.size,_,I.laid (t':=s.toks) kp (Nat.le_refl _) (show zb9 X.prog X.w _ h' _ (.lst ys) from ⟨hz,its,c',r',e⟩),rfl,q _ (I.hok.fresh (Nat.le_refl _))⟩
 rcases hq with hq | hq
 ·obtain ⟨its,r',pl,hz⟩:=I.list hq
  have hlen:=r'.length
  obtain ⟨o,ho,hc,n,hd⟩:=pl.isList
  exact call_list_seq p (.inl rfl) ho hc hd (fun h' c' kp e=>fin its r' hz h' c' kp e) (by simp only [List.size_toArray] <;> (first|lia|omega))
 ·obtain ⟨its,r',pl,hz⟩:=I.tuple hq
  have hlen:=r'.length
  obtain ⟨o,ho,hc,n,hd⟩:=pl
  exact call_list_seq p (.inr rfl) ho hc hd (fun h' c' kp e=>fin its r' hz h' c' kp e) (by simp only [List.size_toArray] <;> (first|lia|omega))
def tyV (K:PySem.W.Frag) (T:String) (x:V) (H:Hp):Prop:=match x with
 | .str _=>T="str"
 | .int _=>T="int"
 | .ref p=>(T="list"∧∃ xs,SqL K H p xs)∨(T="tuple"∧∃ o,K.lookup p=some o∧o.cls=.type "tuple"∧o.dict=none) ∨
   (T="dict"∧((∃ kvs,H p=some (.dK kvs))∨∃ kvs,H p=some (.dT kvs)))∨(T="set"∧∃ S n,H p=some (.set S n))
 | _=>False
theorem zoc {pins:List (Addr×Obj)} {σ:St} {H:Hp} {s:Shared} {T:String} {x:V} {v:Value} (I:Inv X pins σ H s) (r:zbR x v) (ty:tyV X.K T x H) :
  s.TypeIs v T∧∀ a,v=.ref a→∃ ob,s.heap.get? a=some ob∧ob.dict=none:=by
 cases x with
 | str z =>
  obtain ⟨t,rfl⟩:=r
  cases (show T="str" from ty)
  exact ⟨typeIs_str s z t,fun _ e=>nomatch e⟩
 | int i =>
  obtain ⟨t,rfl⟩:=r
  cases (show T="int" from ty)
  exact ⟨typeIs_int s i t,fun _ e=>nomatch e⟩
 | ref p =>
  cases r
  rcases ty with ⟨rfl,xs,hq⟩ | ⟨rfl,o,hk,hc,hd⟩ | ⟨rfl,hk⟩ | ⟨rfl,S,n,hk⟩
  ·obtain ⟨its,_,pl,_⟩:=I.list hq
   refine ⟨pl.isList.typeIs,fun a e=>?_⟩
   cases e
   obtain ⟨o,n,e,c,hd,_⟩:=pl
   exact ⟨o,e,hd⟩
  ·refine ⟨⟨o,I.kIn p o hk,hc⟩,fun a e=>?_⟩
   cases e
   exact ⟨o,I.kIn _ o hk,hd⟩
  ·have z:∃ o,s.heap.get? p=some o∧o.ExactDict:=by
    rcases hk with ⟨kvs,hk⟩ | ⟨kvs,hk⟩
    ·obtain ⟨_,_,_,_,o,_,_,e,ex,_⟩:=I.hok p _ hk
     exact ⟨o,e,ex⟩
    ·obtain ⟨_,_,_,_,o,_,_,e,ex,_⟩:=I.hok p _ hk
     exact ⟨o,e,ex⟩
   obtain ⟨o,e,ex⟩:=z
   refine ⟨⟨o,e,ex.1⟩,fun a e2=>?_⟩
   cases e2
   exact ⟨o,e,ex.2.1⟩
  ·obtain ⟨o,_,_,_,e,ex,_⟩:=I.hok p _ hk
   refine ⟨⟨o,e,ex.1⟩,fun a e2=>?_⟩
   cases e2
   exact ⟨o,e,ex.2.1⟩
 | _=>exact False.elim ty
def tBM (K:PySem.W.Frag) (T:String) (r:V→List V→Hp→VK→Prop) (to:TE) (t:TA):TE:=fun σ H Q=>to σ H fun x H1=>tyV K T x H1∧t σ H1 fun xs H2=>r x xs H2 Q
variable {o e:Expr} {es:List Expr} {to:TE} {t:TA} {name:Str} {apos cpos:Pos} {T id:String} {r:V→List V→Hp→VK→Prop}
theorem znz (pa:PlainAttrs T) (slot:Slot T name id) (hty:typeOf (.builtin id)=pure (.type "method_descriptor")) (hm:MtR X id r) (ho:PE X o to) (ha:PA X (e::es) t)
  (hbase:attributeBase o name X.env (eval o X.env)=eval o X.env:=by rfl)
  (hfew:((backTo cpos (starEach (e::es) X.env)).all (fun x=>!x.1)&&(backToKw cpos (keywordEach [] X.env)).all (fun x=>x.1.isSome)
   && decide ((e::es).length+([]:List Keyword).length+(if ([]:List Keyword).isEmpty then 0 else 1)<30))=true:=by rfl)
  (hline:(apos.endLine == cpos.line)=true:=by rfl) (hs:starEach (e::es) X.env=(false,eval e X.env)::starEach es X.env:=by rfl) (hplain:(backTo cpos (starEach es X.env)).any (·.1)=false:=by rfl) :
  PE X (.Call (.Attribute o name apos) (e::es) [] cpos) (tBM X.K T r to t):=by
 intro pins s σ H Q I h
 refine wpAny_Call_method_late hbase hfew hline rfl (thn (ho pins s σ H _ I h) fun v s1 hQ'=>?_)
 obtain ⟨x,H1,I1,r1,ty,q1⟩:=hQ'
 obtain ⟨h1,h2⟩:=zoc I1 r1 ty
 refine ⟨T,id,pa,slot,hty,h1,h2,?_⟩
 have hA:=ha cpos pins s1 σ H1 _ I1 q1
 rw [hs] at hA ⊢
 refine Calls.callWith_builtin (by show (false || (backTo cpos (starEach es X.env)).any (·.1))=false;rw [hplain] <;> rfl) (Calls.evalArgs_plain ?_)
 exact thn hA fun us s2 ⟨vs,H2,I2,r2,q2⟩=>hm pins s2 σ H2 x vs v us Q I2 r1 r2 q2
end
end L2
namespace L2
open PySem PySem.Spec PyProof.Rows
def MtM (X:Cx) (id:String) (r:V→List V→Hp→VK→Prop):Prop :=
 ∀ (pins:List (Addr×Obj)) (s:Shared) (σ:St) (H:Hp) (x:V) (xs:List V) (v:Value) (us:List Value) (Q:VK),Inv X pins σ H s→zbR x v→zbq xs us→r x xs H Q →
  wpAny (model X.prog X.w) X.A (call (.builtin id) (v::us)) (EP X pins σ Q) X.xe s
theorem zbq.one:∀ {x:V} {us:List Value},zbq [x] us→∃ u,us=[u]∧zbR x u
 | _,_,.cons r .nil=>⟨_,rfl,r⟩
section
variable {X:Cx} {pins:List (Addr×Obj)} {σ:St} {H:Hp} {s:Shared} {l b:Addr} {xs ys zs:List V}
theorem Inv.lset {its its':List Value} {n:Nat} {f:Array Value→Array Value} {t':Nat} (I:Inv X pins σ H s) (hH:H l=some (.lst xs))
  (e:s.heap.get? l=some { cls:=.type "list",data:=.seq its.toArray n }) (hf:f its.toArray=its'.toArray) (hv:zbq ys its') (hz:ys.length≤sizeLine) :
  Inv X pins σ (upd H l (.lst ys)) { s with heap:=s.heap.update l (Obj.mapSeq f),toks:=t' }:=by
 have q:=PySem.IsL.update e f
 rw [hf] at q
 refine I.write (x:=l) (e:=l) (by rw [hH];exact trivial) (.inl rfl) (fun b' u hb hu=>(Heap.get?_update_other s.heap (Obj.mapSeq f) (Ne.symm hb)).trans hu) ⟨_,q⟩ ?_
 exact ⟨hz,its',_,hv,q⟩
theorem Inv.lnew {its:List Value} {t':Nat} (I:Inv X pins σ H s) (hv:zbq ys its) (hz:ys.length≤sizeLine) :
  Inv X pins σ (upd H s.heap.objs.size (.lst ys)) { s with heap:=s.heap.push { cls:=.type "list",data:=.seq its.toArray },toks:=t' } :=
 I.laid (fun _ _ q=>Heap.get?_push_of_some _ q) (Nat.le_refl _) ⟨hz,its,0,hv,Heap.get?_push_size _ rfl⟩
theorem Inv.fresh (I:Inv X pins σ H s):H s.heap.objs.size=none:=I.hok.fresh (Nat.le_refl _)
theorem Inv.lstM (I:Inv X pins σ H s) (hH:H l=some (.lst xs)):xs.length≤sizeLine∧∃ (its:List Value) (n:Nat),zbq xs its∧xs.length=its.length∧s.heap.get? l=some { cls:=.type "list",data:=.seq its.toArray n }:=by
 obtain ⟨z,its,n,r,e⟩:=I.hok l _ hH
 exact ⟨z,its,n,r,r.length,e⟩
end
section
variable {X:Cx}
def zci:V→List V→Hp→VK→Prop:=fun x vs H Q=>∃ l xs y,x=.ref l∧vs=[y]∧H l=some (.lst xs)∧xs.length<sizeLine∧Q .non (upd H l (.lst (xs++[y])))
theorem ze2:MtM X "list.append" zci:=by
 intro pins s σ H x vs v us Q I rx rv h
 obtain ⟨l,xs,y,rfl,rfl,hH,hz,q⟩:=h
 cases rx
 obtain ⟨u,rfl,ru⟩:=rv.one
 obtain ⟨z,its,n,r,hl,e⟩:=I.lstM hH
 refine call_meets F.slot_list_append ⟨_,e,rfl⟩ F.entry_list_append (F.args_list_append_2 _ _) (PySem.list_append l its.toArray n u (by rw [List.size_toArray];(first|lia|omega))) ⟨e,?_⟩
 refine ⟨.non,_,I.lset (its':=its++[u]) hH e (by simp) (r.append (.cons ru .nil)) ?_,rfl,q⟩
 rw [List.length_append,List.length_singleton]
 (first|lia|omega)
def zj8:R2:=fun x y H Q=>∃ l b xs zs,x=.ref l∧y=.ref b∧H l=some (.lst xs)∧H b=some (.lst zs)∧xs.length+zs.length≤sizeLine∧∀ p,H p=none→Q (.ref p) (upd H p (.lst (xs++zs)))
theorem zft:OpR X (binaryOp .Add) zj8:=by
 intro pins s σ H x y v u Q I rx ry h
 obtain ⟨l,b,xs,zs,rfl,rfl,hH,hB,hz,q⟩:=h
 cases rx
 cases ry
 obtain ⟨z,its,n,r,hl,e⟩:=I.lstM hH
 obtain ⟨z2,its2,n2,r2,hl2,e2⟩:=I.lstM hB
 refine PySem.P.add_list e e2 ?_ (by rw [List.size_toArray,List.size_toArray];(first|lia|omega))
 have ea:its.toArray++its2.toArray=(its++its2).toArray:=by simp
 rw [ea]
 exact ⟨.ref _,_,I.lnew (t':=s.toks) (r.append r2) (by rw [List.length_append];(first|lia|omega)),rfl,q _ I.fresh⟩
end
section
variable {prog:Program} {w:World} {A:Around} {E:Value→Shared→Prop} {s:Shared}
end
section
variable {X:Cx}
end
end L2
namespace Att
open PySem PySem.W PySem.Calls PyProof.Rows
theorem ze6 {P:Params} {h:Heap}:∀ (ns:List Int) (vs:List Value),WellAll P h vs (ns.map WData.int)→IntsAre vs ns:=by
 intro ns
 induction ns with
 | nil =>
  intro vs w
  rw [List.map_nil] at w
  cases w
  exact .nil
 | cons n ns ih =>
  intro vs w
  rw [List.map_cons] at w
  cases w with
  | cons a b =>
   cases a
   exact .cons _ _ (ih _ b)
theorem zjh {l:OpenLaw} {n:Nat} (hn:l.most=some n) {P:Params} {h:Heap} {args:List WData} {vals:List Value}
  (hpre:l.row.toRowW.claim.pre args=true) (hwl:WellAll P h vals args) :
  ∃ a vs ns,vals=[Value.ref a]∧args=[WData.list (ns.map WData.int)]∧h.get? a=some { cls:=.type "list",data:=.seq vs.toArray }∧IntsAre vs ns∧ns.length≤n:=by
 have hsh:WShape.hasAll [] args [.list .int]=true:=(pre_splitW hpre).1
 have hc:l.pre.holds [] { args:=args }=true:=(pre_splitW hpre).2
 obtain ⟨d,r,rfl,h1,h2⟩:=hasAllW_cons hsh
 obtain rfl:=hasAllW_nil h2
 obtain ⟨xs,rfl,h3⟩:=hasW_list h1
 obtain ⟨ns,rfl⟩:=items_int h3
 have hlen:ns.length≤n:=by
  unfold OpenLaw.pre at hc
  have h4:(WTm.not (.lt (.lit (.int (n:Int))) (.len (.arg 0)))).holds [] { args:=[.list (ns.map .int)] }=true:=by
   have h4:=(holds_andW hc).1
   rw [hn] at h4
   exact h4
  have h5:=condW_of h4 (w_not (w_lt w_lit (w_len_list (w_arg rfl))))
  rw [List.length_map] at h5
  refine Nat.le_of_not_lt fun q=>?_
  have q':(n:Int)<((ns.length:Nat):Int):=by (first|lia|omega)
  first
   | (rw [decide_eq_true q'] at h5;exact absurd h5 (by decide))
   | (simp at h5;(first|lia|omega))
 cases hwl with
 | cons w1 w2 =>
  cases w2
  cases w1 with
  | list ho hall=>exact ⟨_,_,ns,rfl,rfl,ho,ze6 ns _ hall,hlen⟩
theorem zjz (l:OpenLaw) (args:List WData):l.row.toRowW.claim.post args (.bool true) args=true :=
 postW_of (r:=l.row.toRowW) (X:=(true == true))
  (show WShape.has [] (.bool true) .bool=true by first | rfl | decide | simp [WShape.has,WShape.arms,WShape.armsAll])
  (show (WTm.eq .res (.lit (.bool true))).value [] { args:=args,res:=some (.bool true),after:=args }=some (.bool (true == true)) from w_eq_bool (w_res rfl) w_lit) rfl
section
variable {prog:Program} {w:World} {A:Around} {E:Value→Shared→Prop} {s:Shared} {K:Frag}
end
end Att
namespace L2
open PySem PySem.Spec PyProof.Rows
theorem zhh:∀ {vs:List Value} {ns:List Int},IntsAre vs ns→zbq (ns.map V.int) vs
 | _,_,.nil=>.nil
 | _,_,.cons n t h=>.cons ⟨t,rfl⟩ (zhh h)
end L2
namespace L2
open PySem PySem.Spec PyProof.Rows
end L2
namespace L2
open PySem PySem.Spec PyProof.Rows
def zdA (s:Stmt):Arguments:=match s with
 | .FunctionDef _ a _ _ _ _ _ _ _ _=>a
 | _=>{ posonlyargs:=[],args:=[],vararg:=none,kwonlyargs:=[],kw_defaults:=[],kwarg:=none,defaults:=[] }
def zcO (s:Stmt):List Stmt:=match s with
 | .FunctionDef _ _ b _ _ _ _ _ _ _=>b
 | _=>[]
def zag (s:Stmt):Scope:=match s with
 | .FunctionDef _ _ _ _ _ _ sc _ _ _=>sc
 | _=>{ kind:=.function,names:=[],isGenerator:=false,isCoroutine:=false }
abbrev CX0:CXT:=fun _ _ _ _ _ _=>False
abbrev E0:XK:=fun _ _ _=>False
theorem zaW {X:Cx}:ze0 CX0 X E0:=fun _ _ _ _ _ _ _ h=>h.elim
structure Fun (K:PySem.W.Frag) (x qual:Str) (st:Stmt) (f:Addr) (fd:FuncData):Prop where
 ex:∃ (oc:Value) (od:Option Addr) (kV doc pm:Value) (an:Option Addr) (cdv ct:Value) (osl:Array (Option Value)),
  fd=PySem.W.fnOf x qual (zdA st) (zcO st) (zag st) .none kV doc pm an cdv ct∧K.lookup f=some ⟨oc,od,.func fd,osl⟩∧PySem.W.codeIn K cdv qual=true
 kp:PySem.W.keepIn K (.ref f)=true
section
variable {P:Program} {w:World} {K:PySem.W.Frag} {mg:Str→Option Value} {base:Heap}
theorem Fun.ok {x qual:Str} {st:Stmt} {f:Addr} {fd:FuncData} {N ps:List Str} {k:Nat} {sp:Sp} (F:Fun K x qual st f fd) (S:zaB N ps (zag st)) (len:∀ vs H Q E,sp vs H Q E→vs.length=ps.length)
  (hbody:∀ (cdv:Value) (A:Around) (outer:List Env) (s:Shared) (H:Hp) (vs:List V) (Q:VK) (E:XK),zdV k (A.deeper (envOfC qual (zag st) s.heap.objs.size f cdv))→sp vs H Q E →
   ∃ t,PSs (zmi CX0 P w K mg base N qual (zag st) f cdv A outer s H E).nox (zcO st) t∧t { nx:=fun _ H'=>Q .non H',rt:=Q } (zbb N vs) H):zcG P w K mg base CX0 (k+1) f fd ps sp:=by
 obtain ⟨oc,od,kV,doc,pm,an,cdv,ct,osl,rfl,lk,hcd⟩:=F.ex
 refine znB lk hcd S len fun A outer s H vs Q E hr hsp=>?_
 obtain ⟨t,h,q⟩:=hbody cdv A outer s H vs Q E hr hsp
 exact ⟨t,h.nox,q⟩
theorem Fun.binds {x qual:Str} {st:Stmt} {f:Addr} {fd:FuncData} {ps:List Str} (F:Fun K x qual st f fd)
  (h:∀ (kV doc pm:Value) (an:Option Addr) (cdv ct:Value) (us:List Value),us.length=ps.length→bindArgs (PySem.W.fnOf x qual (zdA st) (zcO st) (zag st) .none kV doc pm an cdv ct) ⟨us,[]⟩=pure (ps.zip us)):zbe K fd ps []:=by
 obtain ⟨oc,od,kV,doc,pm,an,cdv,ct,osl,rfl,lk,hcd⟩:=F.ex
 exact .all (h kV doc pm an cdv ct)
theorem za3 {x qual:Str} {st:Stmt} {f:Addr} {oc:Value} {od an:Option Addr} {osl:Array (Option Value)} {kV doc pm cdv ct:Value} (l:K.lookup f=some ⟨oc,od,.func (PySem.W.fnOf x qual (zdA st) (zcO st) (zag st) .none kV doc pm an cdv ct),osl⟩)
  (c:PySem.W.codeIn K cdv qual=true) (k:PySem.W.keepIn K (.ref f)=true):Fun K x qual st f (PySem.W.fnOf x qual (zdA st) (zcO st) (zag st) .none kV doc pm an cdv ct):=⟨⟨oc,od,kV,doc,pm,an,cdv,ct,osl,rfl,l,c⟩,k⟩
end
theorem zbm {n:Nat} (h:n≤1000):n<sizeLine:=Nat.lt_of_le_of_lt h (by decide)
section
variable {X:Cx}
theorem pv (i:Nat) {x:Str} {pos:Pos} (hN:X.N[i]?=some x:=by rfl) (hv:Vis X.env.scope x:=by first | exact Or.inl rfl | exact Or.inr (Or.inl rfl) | exact Or.inr (Or.inr rfl)) (hd:(x == ("__debug__":Str))=false:=by decide)
  (hcd:(x == ("__classdict__":Str))=false:=by decide):PE X (.Name x pos) (zab i):=zoa hN hv hd hcd
end
theorem iteT {A B:Prop} (h:A):if true=true then A else B:=by
 rw [if_pos rfl]
 exact h
theorem zek {c A B:Prop} [Decidable c] (h1:c→A) (h2:¬ c→B):if c then A else B:=by
 by_cases h:c
 ·rw [if_pos h]
  exact h1 h
 ·rw [if_neg h]
  exact h2 h
def zaR (H H':Hp):Prop:=∀ b o,H b=some o→H' b=some o
theorem zaR.refl (H:Hp):zaR H H:=fun _ _ h=>h
theorem zaR.trans {H H1 H2:Hp} (a:zaR H H1) (b:zaR H1 H2):zaR H H2:=fun c o h=>b c o (a c o h)
theorem zaR.free {H H':Hp} (e:zaR H H') {l:Addr} (h:H' l=Option.none):H l=Option.none:=by
 cases q:H l with
 | none=>rfl
 | some o =>
  rw [e l o q] at h
  cases h
theorem zaR.seq {K:PySem.W.Frag} {H H':Hp} {a:Addr} {xs:List V} (e:zaR H H') (h:SqL K H a xs):SqL K H' a xs:=by
 rcases h with (h | ⟨o,h⟩) | h
 ·exact .inl (.inl (e _ _ h))
 ·exact .inl (.inr ⟨o,e _ _ h⟩)
 ·exact .inr h
end L2
namespace L2
open PySem PySem.Spec PyProof.Rows
section
variable {X:Cx}
theorem zh2:OpR X (binaryOp .FloorDiv) (rI (fun _ j=>0<j∧j.natAbs.log2<9000) fun i j=>.int (i / j)):=opI fun i j _ _ _ _ _ hc q=>by
 have h1:(0:Int)<j:=hc.1
 exact floordiv_int (by (first|lia|omega)) (by rw [Int.fdiv_eq_ediv_of_nonneg i (by (first|lia|omega))];exact q) (.inl (PyProof.noPylong_of_log2 hc.2))
theorem zdt:OpR X (binaryOp .FloorDiv) (rI (fun _ j=>j≠0∧j.natAbs.log2<9000) fun i j=>.int (i.fdiv j)):=opI fun _ _ _ _ _ _ _ hc q=>floordiv_int hc.1 q (.inl (PyProof.noPylong_of_log2 hc.2))
theorem zhB:OpR X (binaryOp .Mod) (rI (fun _ j=>j≠0) fun i j=>.int (i.fmod j)):=zl3
theorem za4:OpR X (binaryOp .Mult) (rI IntMulOk fun i j=>.int (i*j)):=opI fun _ _ _ _ _ _ _ hc q=>mul_int q hc
theorem zol {i j:Int} (h1:-(2 ^ 64)<j) (h2:j<2 ^ 64):IntMulOk i j:=.of_right (intBits_le_64 h1 h2)
theorem mulL {i j:Int} (h1:-(2 ^ 64)<i) (h2:i<2 ^ 64):IntMulOk i j:=.of_left (intBits_le_64 h1 h2)
theorem zht {i j:Int} (m n:Nat) (h1:i.natAbs<2 ^ m) (h2:j.natAbs<2 ^ n) (h:m+n≤134217728:=by decide):IntMulOk i j:=.of_le (intBits_le_iff.mpr h1) (intBits_le_iff.mpr h2) h
theorem zg3 {j:Int} (m:Nat) (h0:j≠0) (h:j.natAbs<2 ^ m) (hm:m≤9000:=by decide):j.natAbs.log2<9000 :=
 Nat.lt_of_lt_of_le ((Nat.log2_lt (by (first|lia|omega))).mpr h) hm
theorem zkr:bootBuiltins "int"=some (.type "int"):=by decide +kernel
theorem ziI:bootBuiltins "bool"=some (.type "bool"):=by decide +kernel
theorem zcS:bootBuiltins "list"=some (.type "list"):=by decide +kernel
theorem zhb (K:PySem.W.Frag):PySem.W.kitOne K (.type "int") (.type "bool")=some false:=by first | rfl | kernel_rfl
def znM (a:Addr) (c:Value) (h:Heap):Prop:=∃ oe vs,h.get? a=some oe∧oe.cls=c∧oe.data=.fields vs
def excO (a:Addr) (c:Value):HO:=.ext (znM a c)
structure znR (K:PySem.W.Frag) (c:Value):Prop where
 kit:∀ a:Addr,PySem.W.KitX K (.ref a) c (znM a c)
inductive TyX (K:PySem.W.Frag) (H:Hp):V→Value→Prop where
 | of {x:V} {t:Value} (h:zii K H x t):TyX K H x t
 | exc {a:Addr} {c:Value} (h:H a=some (excO a c)) (k:znR K c):TyX K H (.ref a) c
def clsV:V→Option Value
 | .ty n=>some (.type n)
 | .ref c=>some (.ref c)
 | _=>none
def zj3 (K:PySem.W.Frag):List V→Hp→VK→Prop:=fun xs H Q=>∃ x c t cv b,xs=[x,c]∧clsV c=some cv∧TyX K H x t∧PySem.W.kitOne K t cv=some b∧Q (.bl b) H
theorem zhI {K:PySem.W.Frag} {H:Hp} {Q:VK} {i:Int} (q:Q (.bl true) H):zj3 K [.int i,.ty "int"] H Q:=⟨_,_,_,_,true,rfl,rfl,.of (.int i),rfl,q⟩
theorem zgT {K:PySem.W.Frag} {H:Hp} {Q:VK} {i:Int} (q:Q (.bl false) H):zj3 K [.int i,.ty "bool"] H Q:=⟨_,_,_,_,false,rfl,rfl,.of (.int i),zhb K,q⟩
theorem zk4 {c:V} {u cv:Value} (r:zbR c u) (h:clsV c=some cv):u=cv:=by
 cases c with
 | ty n=>cases r;exact Option.some.inj h
 | ref a=>cases r;exact Option.some.inj h
 | _=>cases h
theorem zcV:zfp X (.builtin "isinstance") (zj3 X.K):=by
 intro pins s σ H xs us Q I r h
 obtain ⟨x,c,t,cv,b,rfl,hc,ty,e,q⟩:=h
 obtain ⟨u,w',rfl,rx,rw'⟩:=zob r
 obtain rfl:=zk4 rw' hc
 cases ty with
 | of ty=>exact zjm I rx ty e fun tk=>⟨.bl b,H,I.tok tk,rfl,q⟩
 | @exc a c h k =>
  cases (show u=Value.ref a from rx)
  obtain ⟨p,_,_⟩:=(show zb9 X.prog X.w H s.heap a (excO a t) from I.hok a _ h)
  exact PySem.W.kia_one (k.kit a) I.kIn p e (fun z=>nomatch z) fun tk=>⟨.bl b,H,I.tok tk,rfl,q⟩
def ziG (K:PySem.W.Frag):R2:=fun x y H Q=>∃ (a b:Addr) (ns ms:List Int),x=.ref a∧y=.ref b∧SqT K H a (ns.map V.int)∧SqT K H b (ms.map V.int)∧Q (.bl (!decide (ns=ms))) H
theorem zhw:∀ {ns:List Int} {us:List Value},zbq (ns.map V.int) us→∀ {j:Nat} (h:j<us.length),∃ (h':j<ns.length) (t:Tok),us[j]=.int ns[j] t
 | [],_,.nil,j,h=>absurd h (Nat.not_lt_zero _)
 | n::ns,_,.cons r t,0,h=>by
  obtain ⟨t',rfl⟩:=r
  exact ⟨Nat.succ_pos _,t',rfl⟩
 | n::ns,_,.cons r t,j+1,h=>by
  obtain ⟨h',t',e⟩:=zhw t (j:=j) (Nat.lt_of_succ_lt_succ h)
  exact ⟨Nat.succ_lt_succ h',t',e⟩
theorem zem {l:List Int} {j:Nat} (h:j<l.length):l.getD j 0=l[j]:=by
 rw [List.getD_eq_getElem?_getD,List.getElem?_eq_getElem h]
 rfl
theorem zle {ns ms:List Int}:((List.range (min ns.length ms.length)).all (fun j=>ns.getD j 0 == ms.getD j 0)&&ns.length == ms.length)=decide (ns=ms):=by
 by_cases h:ns=ms
 ·subst h
  rw [decide_eq_true rfl,Bool.and_eq_true]
  refine ⟨List.all_eq_true.mpr fun j _=>beq_self_eq_true _,beq_self_eq_true _⟩
 ·rw [decide_eq_false h]
  refine Bool.eq_false_iff.mpr fun z=>h ?_
  obtain ⟨z1,z2⟩:=(Bool.and_eq_true _ _).mp z
  have hl:ns.length=ms.length:=beq_iff_eq.mp z2
  refine List.ext_getElem hl fun j h1 h2=>?_
  have q:=List.all_eq_true.mp z1 j (List.mem_range.mpr (by (first|lia|omega)))
  have q':ns.getD j 0=ms.getD j 0:=beq_iff_eq.mp q
  rw [zem h1,zem h2] at q'
  exact q'
theorem zjv {A:Around} {s:Shared} {ns ms:List Int} {us ws:List Value} (r1:zbq (ns.map V.int) us) (r2:zbq (ms.map V.int) ws) :
  ∀ j (h1:j<us.toArray.size) (h2:j<ws.toArray.size),SeqAt.EqAt A s us.toArray[j] ws.toArray[j] (ns.getD j 0 == ms.getD j 0):=by
 intro j h1 h2
 rw [List.size_toArray] at h1 h2
 obtain ⟨k1,t1,e1⟩:=zhw r1 h1
 obtain ⟨k2,t2,e2⟩:=zhw r2 h2
 rw [List.getElem_toArray,List.getElem_toArray,e1,e2,zem k1,zem k2]
 exact SeqAt.EqAt.int_int _ _ _ _
theorem zgV (hu:X.A.units<cLine):OpR X (compareOp .NotEq) (ziG X.K):=by
 intro pins s σ H x y v u Q I rx ry h
 obtain ⟨a,b,ns,ms,rfl,rfl,ha,hb,q⟩:=h
 cases rx
 cases ry
 obtain ⟨us,r1,p1,_⟩:=I.tuple ha
 obtain ⟨ws,r2,p2,_⟩:=I.tuple hb
 have l1:=r1.length
 have l2:=r2.length
 rw [List.length_map] at l1 l2
 refine SeqAt.RcNeAt.tuples p1 p2 hu (e:=fun j=>ns.getD j 0 == ms.getD j 0) (zjv r1 r2) X.prog X.w X.xe _ ⟨.bl _,H,I,rfl,?_⟩
 rw [List.size_toArray,List.size_toArray,← l1,← l2,zle]
 exact q
def tTru (K:PySem.W.Frag) (ta:TE):TT:=fun σ H Q=>ta σ H fun x H'=>∃ k,znW K x H' k∧Q k H'
def zge (t:TS):TS:=fun D σ H=>∃ R:St→Hp→Prop,t { D with nx:=R } σ H∧∀ σ' H',R σ' H'→D.nx σ' H'
theorem zcT {st:Stmt} {t:TS} (h:PS X st t):PS X st (zge t):=by
 intro pins s σ H D I hw
 obtain ⟨R,hw,hR⟩:=hw
 refine thn (h pins s σ H _ I hw) fun f s' q=>?_
 cases f with
 | next=>obtain ⟨σ',H',I',q⟩:=q;exact ⟨σ',H',I',hR _ _ q⟩
 | brk=>exact q
 | cont=>exact q
 | ret u=>exact q
end
theorem zah {H:Hp} {p:Addr} (h:H p=none) (o:HO):zaR H (upd H p o):=fun b u q=>by rw [zak (zaG q h)];exact q
theorem zaR.add {H0 H:Hp} {p:Addr} {o:HO} (s:zaR H0 H) (h:H p=none):zaR H0 (upd H p o):=s.trans (zah h o)
theorem zaR.put {H0 H:Hp} {p:Addr} {o:HO} (s:zaR H0 H) (h:H0 p=none):zaR H0 (upd H p o):=fun b u q=>by rw [zak (zaG q h)];exact s _ _ q
theorem zk3 {K:PySem.W.Frag} {i:Int} {H:Hp} {k:Bool}:znW K (.int i) H k=(k=(i != 0)):=rfl
theorem zl8 {K:PySem.W.Frag} {i:Bool} {H:Hp} {k:Bool}:znW K (.bl i) H k=(k=i):=rfl
theorem zkU (a b:Int):scal (.int a) (.int b)=true:=rfl
theorem zlO (a b:Bool):scal (.bl a) (.bl b)=true:=rfl
def zko (J:It) (g:TG) (tb:TS):TS:=fun D σ H=>∃ W:Nat→Nat→St→Hp→Prop,(∃ m,W 0 m σ H)∧∀ i m σ H,W i m σ H →
 (J.stop i H∧D.nx σ H)∨(J.go i H∧∃ N:St→Hp→Prop,(∀ σ' H',N σ' H'→∃ m',m'<m∧W (i+1) m' σ' H')∧∀ x H',J.yld i H x H'→g x σ H' fun σ2 H2=>tb { D with nx:=N,ct:=N,bk:=D.nx } σ2 H2)
theorem zl0 {wi:TI} {g:TG} {tb:TS} {D:zcb} {σ:St} {H:Hp}:zj5 wi g tb D σ H=wi σ H fun J H1=>zko J g tb D σ H1:=rfl
theorem zea {lo:Int} {n:Nat} {g:TG} {tb:TS} {D:zcb} {σ:St} {H:Hp} (Pv:Nat→St→Hp→Prop) (h0:Pv 0 σ H)
  (hs:∀ i σ H,i<n→Pv i σ H→g (.int (lo+i)) σ H fun σ2 H2=>tb { D with nx:=Pv (i+1),ct:=Pv (i+1),bk:=D.nx } σ2 H2) (hd:∀ σ H,Pv n σ H→D.nx σ H):zko (Itr lo n) g tb D σ H:=zjf Pv h0 hs hd
theorem ze9 {K:PySem.W.Frag} {a:Addr} {xs:List V} {g:TG} {tb:TS} {D:zcb} {σ:St} {H:Hp} (Pv:Nat→St→Hp→Prop) (h0:Pv 0 σ H) (hl:∀ i σ H,i≤xs.length→Pv i σ H→SqL K H a xs)
  (hs:∀ i x σ H,xs[i]?=some x→Pv i σ H→g x σ H fun σ2 H2=>tb { D with nx:=Pv (i+1),ct:=Pv (i+1),bk:=D.nx } σ2 H2) (hd:∀ σ H,Pv xs.length σ H→D.nx σ H):zko (Itl K a) g tb D σ H:=zkL Pv h0 hl hs hd
end L2
namespace L2
open PySem PySem.Spec PyProof.Rows
section
variable {P:Program} {w:World}
end
section
variable {P:Program} {w:World} {K:PySem.W.Frag} {mg:Str→Option Value} {base:Heap} {N:List Str} {qual:Str} {scope:Scope} {f:Addr} {cd:Value} {A:Around} {outer:List Env} {s₀:Shared} {H₀:Hp} {E:XK}
end
section
variable {P:Program} {w:World} {K:PySem.W.Frag} {mg:Str→Option Value} {base:Heap} {N:List Str} {qual:Str} {scope:Scope} {f:Addr} {cd:Value} {A:Around} {outer:List Env} {s₀:Shared} {H₀:Hp} {E:XK}
end
section
variable {X:Cx} {CX:CXT} {k:Nat} {f:Addr} {fd:FuncData} {ps:List Str} {sp:Sp} {dvs:List V} {ds:List Value} {E:St→XK} {x:Str} {p pos:Pos} {e:Expr} {es:List Expr} {t:TA}
end
theorem Inv.track {X:Cx} {pins:List (Addr×Obj)} {σ:St} {H:Hp} {s:Shared} {a:Addr} {o:HO} (I:Inv X pins σ H s) (hn:H a=none) (h0:X.s₀.heap.get? a=none) (hL:a≠X.env.locals) (hc:∀ x c,X.env.cells.lookup x=some c→c≠a)
  (hp:∀ p∈X.pn++pins,p.1≠a) (new:zb9 X.prog X.w (upd H a o) s.heap a o):Inv X pins σ (upd H a o) s:=by
 refine ⟨I.ok,I.os,I.bare,⟨I.base.keep,I.base.slot,fun b u q n hx=>?_,I.base.there,fun b xs q=>?_,fun b u xs q=>?_,fun b ps q=>?_⟩,I.loc,I.cell,?_,fun x c e=>?_,fun p q=>?_,fun b u e=>?_,I.len⟩
 ·have nb:b≠a:=fun z=>by rw [z,h0] at q;cases q
  rw [zak nb]
  exact I.base.free b u q n hx
 ·have q2:=I.base.tups b xs q
  rw [zak (zaG q2 hn)]
  exact q2
 ·have q2:=I.base.frzs b u xs q
  rw [zak (zaG q2 hn)]
  exact q2
 ·obtain ⟨m,q2⟩:=I.base.tbls b ps q
  exact ⟨m,by rw [zak (zaG q2 hn)];exact q2⟩
 ·rw [zak hL.symm]
  exact I.free
 ·rw [zak (hc x c e)]
  exact I.freeC x c e
 ·obtain ⟨e,n,r⟩:=I.pin p q
  exact ⟨e,by rw [zak (hp p q)];exact n,r⟩
 ·by_cases hb:b=a
  ·subst hb
   rw [zae] at e
   cases e
   exact new
  ·rw [zak hb] at e
   exact (I.hok b u e).stay (fun c v _ q=>q) (fun c q=>by rw [zak (zaG q hn)];exact q) fun c xs q=>by rw [zak (zaG q hn)];exact q
section
open Builtin Builtin.ObjectAttr Builtin.Getset_descriptor PySem.W
variable {K:PySem.W.Frag} {prog:Program} {w:World} {A:Around} {E:Value→Shared→Prop} {h:Heap} {g:Array GenState} {d:Drawn} {t:Nat} {os:OsState} {a C:Addr} {o:Obj}
end
end L2
namespace L2
open PySem PySem.Spec PyProof.Rows
theorem zjK {env:Env} {x:Str} {c:Addr} (h:env.cells.lookup x=some c):cellOf env x=pure c:=by
 unfold cellOf
 rw [h]
theorem zeh {env:Env}:∀ (l:List (Str×NameKind)) (cs:List (Str×Addr)),(∀ y∈l,y.2=.free→∃ c,env.cells.lookup y.1=some c)→(∀ x c,cs.lookup x=some c→env.cells.lookup x=some c) →
  ∃ cl,(forIn l cs fun (y:Str×NameKind) r=>(if (y.2 == .free)=true then do let c ← cellOf env y.1;pure (ForInStep.yield ((y.1,c)::r)) else pure (ForInStep.yield r):Sem (ForInStep (List (Str×Addr)))))=pure cl ∧
   (∀ x c,cl.lookup x=some c→env.cells.lookup x=some c)∧(∀ y∈l,y.2=.free→∃ c,cl.lookup y.1=some c)∧∀ x,(∃ c,cs.lookup x=some c)→∃ c,cl.lookup x=some c
 | [],cs,_,hc=>⟨cs,by simp,hc,by simp,fun _ h=>h⟩
 | y::l,cs,hf,hc=>by
  have hf':∀ z∈l,z.2=.free→∃ c,env.cells.lookup z.1=some c:=fun z hz=>hf z (List.mem_cons_of_mem _ hz)
  by_cases hy:y.2=.free
  ·obtain ⟨c,e⟩:=hf y List.mem_cons_self hy
   have hc':∀ x d,List.lookup x ((y.1,c)::cs)=some d→env.cells.lookup x=some d:=fun x d q=>by
    rw [List.lookup_cons] at q
    split at q
    ·rename_i b
     cases q
     rw [beq_iff_eq.mp b,e]
    ·exact hc x d q
   obtain ⟨cl,e1,e2,e3,e4⟩:=zeh l ((y.1,c)::cs) hf' hc'
   refine ⟨cl,?_,e2,fun z hz q=>?_,fun x ⟨d,q⟩=>e4 x ?_⟩
   ·rw [List.forIn_cons,if_pos (by rw [hy];rfl),zjK e]
    simpa using e1
   ·rcases List.mem_cons.mp hz with r | r
    ·exact e4 z.1 ⟨c,by rw [r,List.lookup_cons];simp⟩
    ·exact e3 z r q
   ·rw [List.lookup_cons]
    split
    ·exact ⟨_,rfl⟩
    ·exact ⟨d,q⟩
  ·obtain ⟨cl,e1,e2,e3,e4⟩:=zeh l cs hf' hc
   refine ⟨cl,?_,e2,fun z hz q=>?_,e4⟩
   ·rw [List.forIn_cons,if_neg (by simpa using hy)]
    simpa using e1
   ·rcases List.mem_cons.mp hz with r | r
    ·rw [r] at q;exact absurd q hy
    ·exact e3 z r q
theorem zfB {scope:Scope} {env:Env} (h:∀ y∈scope.names,y.2=.free→∃ c,env.cells.lookup y.1=some c) :
  ∃ cl,closureFor scope env=pure cl∧(∀ x c,cl.lookup x=some c→env.cells.lookup x=some c)∧∀ y∈scope.names,y.2=.free→∃ c,cl.lookup y.1=some c:=by
 obtain ⟨cl,e1,e2,e3,_⟩:=zeh scope.names [] h (by simp)
 refine ⟨cl,?_,e2,e3⟩
 unfold closureFor
 simp only [bind_pure]
 exact e1
theorem zez {P:Program} {w:World} {A:Around} {R:Result→Shared→Prop} {s:Shared} {elt target iter:Expr} {ifs:List Expr} {scope:Scope} {pos:Pos} {it acc:Value} {env:Env} {Z:Value→Shared→Prop} (J:Nat→Shared→Prop)
  (hZ:Z=notedBy (model P w) A env fun e s'=>R (.error e) s')
  (turn:∀ n s,J n s→wpAny (model P w) A (pyNext it) (fun r s1=>match r with
   | none=>R (.ok .next) s1
   | some v=>wpAny (model P w) A (letOwnedTupleGo target it v) (fun _ s2=>wpAny (model P w) A (assign target env v) (fun _ s3 =>
     wpAny (model P w) A (forIn ifs true fun c r=>if r=true then do let ok ← isTrue c env (eval c env);pure (ForInStep.yield ok) else pure (ForInStep.yield r)) (fun ok s4 =>
      if ok=true then wpAny (model P w) A (eval elt env) (fun x s5=>wpAny (model P w) A (call (.builtin "list.append") [acc,x]) (fun _ s6=>∃ m,m<n∧J m s6) Z s5) Z s4
      else ∃ m,m<n∧J m s4) Z s3) Z s2) Z s1) Z s)
  (n:Nat) (h:J n s):codeAny (model P w) A (.compLoop (.ListComp elt [⟨target,iter,ifs,0⟩] scope pos) 0 it acc env) R s:=by
 subst hZ
 refine codeAny_loop rfl J (fun n s hJ=>?_) n h
 show wpAny _ _ (Sem.onRaise (compTurn (.ListComp elt [⟨target,iter,ifs,0⟩] scope pos) 0 it acc env) fun x=>do noteFrame x env;theTreesLotGoes x) _ _ s
 refine wpAny_noted ?_
 rw [compTurn_list]
 refine wpAny_bind (wpAny_standAt (wpAny_bind (thn (turn n s hJ) fun r s1 h1=>?_)))
 cases r with
 | none=>exact wpAny_pure h1
 | some v =>
  refine wpAny_bind (thn h1 fun _ s2 h2=>wpAny_bind (thn h2 fun _ s3 h3=>wpAny_bind (thn h3 fun ok s4 h4=>?_)))
  cases ok with
  | false=>exact wpAny_pure ⟨rfl,h4⟩
  | true=>exact wpAny_bind (wpAny_bind (thn h4 fun x s5 h5=>wpAny_bind (thn h5 fun _ s6 h6=>wpAny_pure (wpAny_pure ⟨rfl,h6⟩))))
def PTs (X:Cx) (ifs:List Expr) (t:TT):Prop:=∀ (pins:List (Addr×Obj)) (s:Shared) (σ:St) (H:Hp) (Q:Bool→Hp→Prop),Inv X pins σ H s→t σ H Q →
 wpAny (model X.prog X.w) X.A (forIn ifs true fun c r=>if r=true then do let ok ← isTrue c X.env (eval c X.env);pure (ForInStep.yield ok) else pure (ForInStep.yield r)) (TP X pins σ Q) X.xe s
def zaq:TT:=fun _ H Q=>Q true H
theorem za0 {X:Cx}:PTs X [] zaq:=fun _ _ _ H _ I h=>wpAny_tests_nil ⟨H,I,h⟩
theorem zmg {X:Cx} {c:Expr} {t:TT} (h:PT X c t):PTs X [c] t:=fun pins s σ H Q I q=>wpAny_tests_one (h pins s σ H Q I q)
def zk5 (cap:List (Option Nat)) (σ:St):St:=cap.map fun o=>o.bind fun j=>(σ[j]?).join
def za5 (wi:TI) (g:TG) (tt:TT) (te:TE) (cap:List (Option Nat)):TE:=fun σ H Q=>wi σ H fun J H1=>∀ D,H1 D=none→∃ W:Nat→Nat→St→Hp→Prop,(∃ m,W 0 m (zk5 cap σ) (upd H1 D (.lst [])))∧∀ i m σc Hc,W i m σc Hc →
 (J.stop i Hc∧Q (.ref D) Hc)∨(J.go i Hc∧∃ N:St→Hp→Prop,(∀ σ' H',N σ' H'→∃ m',m'<m∧W (i+1) m' σ' H')∧∀ x H',J.yld i Hc x H'→g x σc H' fun σ2 H2=>tt σ2 H2 fun b H3=>if b=true then te σ2 H3 fun y H4=>zci (.ref D) [y] H4 fun _ H5=>N σ2 H5 else N σ2 H3)
def Cx.blk (X:Cx) (Nc:List Str) (scope:Scope) (cl:List (Str×Addr)) (s:Shared) (H:Hp) (fp:List Addr):Cx:={ X with
 N:=Nc,s₀:=s,H₀:=H,env:=compEnvC scope cl s.heap.objs.size X.env,outer:=X.stack,stack:=X.stack,ex:=fp,fn:=fun _=>false,pn:=[],xe:=fun _ _=>False }
structure ziv (sc:Scope) (N Nc:List Str) (cap:List (Option Nat)) (scope:Scope):Prop where
 kind:scope.kind=.function
 nocell:∀ y∈scope.names,y.2≠.cell
 free:∀ y∈scope.names,y.2=.free→sc.names.lookup y.1=some .cell∨sc.names.lookup y.1=some .free
 once:∀ y∈scope.names,scope.names.lookup y.1=some y.2
 nd:Nc.Nodup
 len:cap.length=Nc.length
 cap:∀ (i:Nat) (y:Str) (j:Nat),Nc[i]?=some y→cap[i]?=some (some j)→N[j]?=some y∧scope.names.lookup y=some .free
def zlB (sc:Scope) (N Nc:List Str) (cap:List (Option Nat)) (scope:Scope):Bool :=
 scope.kind == .function&&scope.names.all (fun y=>y.2 != .cell&&scope.names.lookup y.1 == some y.2&&(y.2 != .free || sc.names.lookup y.1 == some .cell || sc.names.lookup y.1 == some .free))&&decide Nc.Nodup&&cap.length == Nc.length
  && (Nc.zip cap).all fun p=>p.2.all fun j=>N[j]? == some p.1&&scope.names.lookup p.1 == some .free
theorem ziv.of {sc:Scope} {N Nc:List Str} {cap:List (Option Nat)} {scope:Scope} (h:zlB sc N Nc cap scope=true):ziv sc N Nc cap scope:=by
 unfold zlB at h
 simp only [Bool.and_eq_true,beq_iff_eq,List.all_eq_true,bne_iff_ne,ne_eq,Bool.or_eq_true,decide_eq_true_eq] at h
 obtain ⟨⟨⟨⟨h1,h2⟩,h3⟩,h4⟩,h5⟩:=h
 refine ⟨h1,fun y hy=>(h2 y hy).1.1,fun y hy hf=>?_,fun y hy=>(h2 y hy).1.2,h3,h4,fun i y j e1 e2=>?_⟩
 ·rcases (h2 y hy).2 with (q | q) | q
  ·exact absurd hf q
  ·exact .inl q
  ·exact .inr q
 ·have m:(y,some j)∈Nc.zip cap:=by
   refine List.mem_of_getElem? (i:=i) ?_
   rw [List.getElem?_zip_eq_some]
   exact ⟨e1,e2⟩
  have z:=h5 _ m
  simpa using z
theorem zbD {env:Env} {x:Str}:∀ {names:List (Str×NameKind)} {k:NameKind},((names.map fun (n,k)=>if (k == NameKind.free&&env.scope.kind == .function&&env.kindOf n == some .cell) then (n,NameKind.cell) else (n,k)).lookup x=some k)→k≠.cell∧names.lookup x=some k∨(k=.cell∧(names.lookup x=some .cell∨names.lookup x=some .free))
 | [],_,h=>by simp at h
 | (n,q)::r,k,h=>by
  have ih:=@zbD env x r k
  rw [List.map_cons] at h
  dsimp only at h
  by_cases hx:(x == n)=true
  ·by_cases hc:(q == NameKind.free&&env.scope.kind == .function&&env.kindOf n == some .cell)=true
   ·rw [if_pos hc,List.lookup_cons,hx] at h
    cases h
    rw [Bool.and_eq_true,Bool.and_eq_true] at hc
    refine .inr ⟨rfl,.inr ?_⟩
    rw [List.lookup_cons,hx]
    exact congrArg some (beq_iff_eq.mp hc.1.1)
   ·rw [if_neg hc,List.lookup_cons,hx] at h
    cases h
    rw [List.lookup_cons,hx]
    by_cases z:q=.cell
    ·exact .inr ⟨z,.inl (congrArg some z)⟩
    ·exact .inl ⟨z,rfl⟩
  ·have hx':(x == n)=false:=by simpa using hx
   rw [List.lookup_cons,hx']
   refine ih ?_
   by_cases hc:(q == NameKind.free&&env.scope.kind == .function&&env.kindOf n == some .cell)=true
   ·rw [if_pos hc,List.lookup_cons,hx'] at h
    exact h
   ·rw [if_neg hc,List.lookup_cons,hx'] at h
    exact h
section
variable {X:Cx} {pins:List (Addr×Obj)} {σ:St} {H:Hp} {s:Shared}
theorem zl2 {Nc:List Str} {cap:List (Option Nat)} {scope:Scope} {cl:List (Str×Addr)} {fp:List Addr} {h1:Heap} {tk:Nat} {m1:Str→Option Value} (I:Inv X pins σ H s) (B:ziv X.env.scope X.N Nc cap scope)
  (hsub:∀ x c,cl.lookup x=some c→X.env.cells.lookup x=some c) (hfr:∀ y∈scope.names,y.2=.free→∃ c,cl.lookup y.1=some c) (hf:∀ b∈fp,zeH X pins H b) (hin:∀ b∈fp,b<s.heap.objs.size)
  (hk:∀ b o,s.heap.get? b=some o→h1.get? b=some o) (hn:h1.Ns s.heap.objs.size m1):Inv (X.blk Nc scope cl s H fp) [] (zk5 cap σ) H { s with heap:=h1,toks:=tk }:=by
 have ok:=I.ok
 have bsz:X.base.objs.size≤s.heap.objs.size:=Nat.le_trans ok.bsz I.sz
 refine ⟨⟨ok.mod,B.kind,ok.glob,ok.blt,Nat.le_refl _,fun x y c h1 h2=>ok.inj x y c (hsub x c h1) (hsub y c h2),fun x hx=>?_,(by intro x c z;cases z),ok.hd,ok.frames,.inl rfl,fun b hb=>⟨Nat.ne_of_lt (hin b hb),fun x c e=>(hf b hb).2.2.2.2.1 x c (hsub x c e)⟩,
  I.bs,bsz,fun b o e hb=>?_,fun b hb z=>?_,I.stack,I.stkFree⟩,rfl,I.bare,Un.kept hk,⟨m1,hn,fun i y v e1 e2 e3=>?_⟩,fun x c e=>?_,I.hok.fresh (Nat.le_refl _),fun x c e=>I.freeC x c (hsub x c e),(by intro p hp;cases hp),I.hok.kept hk,?_⟩
 ·have look:∀ k,(relabel scope X.env).names.lookup x=some k→k=.cell∨k=.free→∃ c,cl.lookup x=some c:=fun k q hk=>by
   rcases zbD q with ⟨n1,n2⟩ | ⟨_,n2 | n2⟩
   ·rcases hk with r | r
    ·exact absurd r n1
    ·exact hfr (x,k) (PySem.mem_of_lookup n2) r
   ·exact absurd rfl (B.nocell _ (PySem.mem_of_lookup n2))
   ·exact hfr (x,.free) (PySem.mem_of_lookup n2) rfl
  rcases hx with q | q
  ·exact look _ q (.inl rfl)
  ·exact look _ q (.inr rfl)
 ·rcases (hf b hb).2.2.2.1 with q | q
  ·exact ok.noex b o e q
  ·exact absurd (Nat.lt_of_lt_of_le (Heap.lt_size e) (Nat.le_trans ok.bsz q)) (Nat.lt_irrefl _)
 ·rcases List.mem_cons.mp (I.stkSub b z) with q | q
  ·exact (hf b hb).2.1 q
  ·exact (hf b hb).2.2.1 q
 ·have e2':(cap[i]?).map (fun o=>o.bind fun j=>(σ[j]?).join)=some (some v):=by rw [← List.getElem?_map];exact e2
  obtain ⟨o,ho,eo⟩:=Option.map_eq_some_iff.mp e2'
  obtain ⟨j,rfl,ej⟩:=Option.bind_eq_some_iff.mp eo
  have ej':σ[j]?=some (some v):=by
   cases q:σ[j]? with
   | none=>rw [q] at ej;cases ej
   | some z=>rw [q] at ej;cases ej;rfl
  obtain ⟨c1,c2⟩:=B.cap i y j e1 ho
  have vis:=B.free (y,.free) (PySem.mem_of_lookup c2) rfl
  obtain ⟨m,_,hl⟩:=I.loc
  obtain ⟨u,r,lk⟩:=hl j y v c1 ej' (.inr vis)
  obtain ⟨c',ec⟩:=hfr (y,.free) (PySem.mem_of_lookup c2) rfl
  have ec2:=hsub _ _ ec
  rcases lk with ⟨kl,_⟩ | ⟨_,c,e,z⟩
  ·have kl':X.env.scope.names.lookup y=some .local:=kl
   rcases vis with q | q
   ·have q':X.env.scope.names.lookup y=some .cell:=q
    rw [kl'] at q';cases q'
   ·have q':X.env.scope.names.lookup y=some .free:=q
    rw [kl'] at q';cases q'
  ·have ecc:X.env.cells.lookup y=some c':=ec2
   rw [e] at ecc
   cases ecc
   refine ⟨u,r,.inr ⟨?_,_,ec,?_⟩⟩
   ·rcases e3 with q | q | q
    ·rcases zbD q with ⟨_,n2⟩ | ⟨n1,_⟩
     ·rw [c2] at n2;cases n2
     ·cases n1
    ·exact .inl q
    ·exact .inr q
   ·obtain ⟨o,ho,hd⟩:=z
    exact ⟨o,hk _ _ ho,hd⟩
 ·obtain ⟨v,o,ho,hd⟩:=I.cell x c (hsub x c e)
  exact ⟨v,o,hk _ _ ho,hd⟩
 ·show (zk5 cap σ).length=Nc.length
  rw [zk5,List.length_map,B.len]
theorem ziQ {Nc:List Str} {scope:Scope} {cl:List (Str×Addr)} {fp:List Addr} {σc:St} {Hc:Hp} {s':Shared} {h':Heap} (I:Inv X pins σ H s) (hf:∀ b∈fp,zeH X pins H b) (J:Inv (X.blk Nc scope cl s H fp) [] σc Hc s')
  (hs:Heap.SameBut s.heap.objs.size s'.heap h'):Inv X pins σ Hc { s' with heap:=h' }:=by
 have ne:∀ b o,s.heap.get? b=some o→b≠s.heap.objs.size:=fun b o e=>Nat.ne_of_lt (Heap.lt_size e)
 have u:=J.base
 refine I.call' (ch:=fp) J.os ⟨fun b o e n hb hx=>(hs.2 b (ne b o e)).trans (u.keep b o e n hb hx),fun b o e n hb hx=>?_,u.free,fun b o e hx=>?_,u.tups,u.frzs,u.tbls⟩ (fun b ob e=>?_) J.bare fun b hb=>⟨(hf b hb).2.2.2.1,(hf b hb).2.1,(hf b hb).2.2.2.2.1,(hf b hb).2.2.2.2.2⟩
 ·obtain ⟨sl,q⟩:=u.slot b o e n hb hx
  exact ⟨sl,(hs.2 b (ne b o e)).trans q⟩
 ·obtain ⟨o',q⟩:=u.there b o e hx
  exact ⟨o',(hs.2 b (ne b o e)).trans q⟩
 ·have hC:Hc s.heap.objs.size=none:=J.free
  refine (J.hok b ob e).stay (fun c w' hc q=>(hs.2 c ?_).trans q) (fun _ q=>q) fun _ _ q=>q
  rintro rfl
  rcases hc with z | hc
  ·rw [← z,hC] at e;cases e
  ·rw [hC] at hc;cases hc
end
theorem Inv.turns {X:Cx} {pins:List (Addr×Obj)} {σ:St} {H:Hp} {s:Shared} {h':Heap} {t':Nat} {ch:List Addr} (I:Inv X pins σ H s) (k:∀ b o,b∉ch→s.heap.get? b=some o→h'.get? b=some o) (hf:∀ b∈ch,zeH X pins H b):Inv X pins σ H { s with heap:=h',toks:=t' }:=by
 refine I.call (g':=s.gens) (d':=s.drawn) (ch:=ch) ⟨fun b o e _ _ hx=>k b o hx e,fun b o e _ _ hx=>⟨o.slots,k b o hx e⟩,fun _ _ _ n _=>n,fun b o e hx=>⟨o,k b o hx e⟩,fun _ _ q=>q,fun _ _ _ q=>q,fun _ ps q=>⟨#[],by rw [q];simp⟩⟩ (fun b u e=>?_) I.bare
  fun b hb=>⟨(hf b hb).2.2.2.1,(hf b hb).2.1,(hf b hb).2.2.2.2.1,(hf b hb).2.2.2.2.2⟩
 refine (I.hok b u e).stay (fun c v hc q=>k c v (fun z=>?_) q) (fun _ q=>q) fun _ _ q=>q
 have n:=(hf c z).1
 rcases hc with r | r
 ·rw [r,e] at n;cases n
 ·rw [r] at n;cases n
theorem zhc {X:Cx} {pins:List (Addr×Obj)} {s:Shared} {σ:St} {H:Hp} {Q:VK} {sc:Scope} {N Nc:List Str} {cap:List (Option Nat)} {elt tg iter:Expr} {ifs:List Expr} {scope:Scope} {pos pos':Pos} {wi:TI} {g:TG} {tt:TT} {te:TE} {use:Option (Value→Sem Unit)} {QQ:Value→Shared→Prop}
  (hc:X.calm=true) (hsc:X.env.scope=sc) (hN:X.N=N) (B:ziv sc N Nc cap scope) (hi:PI X tg iter wi)
  (hg:∀ cl s H fp,PG (X.blk Nc scope cl s H fp) tg g) (ht:∀ cl s H fp,PTs (X.blk Nc scope cl s H fp) ifs tt) (he:∀ cl s H fp,PE (X.blk Nc scope cl s H fp) elt te)
  (hs:∀ x,foldedSetIterable iter X.env x=pure x) (I:Inv X pins σ H s) (h:za5 wi g tt te cap σ H Q)
  (fin:∀ (s3:Shared) (H3:Hp) (cl:List (Str×Addr)) (fp:List Addr) (D:Addr) (σc:St) (Hc:Hp) (s6:Shared),Inv X pins σ H3 s3→(∀ b∈fp,zeH X pins H3 b)→Inv (X.blk Nc scope cl s3 H3 fp) [] σc Hc s6→Q (.ref D) Hc→compPost (model X.prog X.w) X.A X.xe use QQ (.ref D) s3.heap.objs.size (.ok .next) s6) :
  wpAny (model X.prog X.w) X.A (comprehension (.ListComp elt [⟨tg,iter,ifs,0⟩] scope pos) scope X.env pos' (newList []) false (eval iter X.env) use) QQ X.xe s:=by
 subst hsc hN
 obtain ⟨cl,hclos,hsub,hfr⟩:=zfB (scope:=scope) (env:=X.env) fun y hy hf=>I.ok.has y.1 (B.free y hy hf)
 refine wpAny_comprehension_free (use:=use) rfl hs hclos B.kind (fun y hy hl=>by rw [B.once y hy,hl]) (thn (hi pins s σ H _ I h) fun v s1 h1=>thn h1 fun itv s2 h2=>?_)
 obtain ⟨it,fp,tn,J,H2,rfl,I2,T,st2,f2,hw⟩:=h2
 refine wpAny_newObj_type ?_
 have hfree:H2 s2.heap.objs.size=none:=I2.hok.fresh (Nat.le_refl _)
 have I3:=I2.laid (t':=s2.toks) (o:=.lst []) (fun b u e=>Heap.get?_push_of_some { cls:=.type "list",dict:=none,data:=.seq ([]:List Value).toArray } e) (Nat.le_refl _) ⟨by decide,[],0,.nil,Heap.get?_push_size _ rfl⟩
 obtain ⟨W,⟨m0,w0⟩,turn⟩:=hw _ hfree
 have keep23:∀ b o,s2.heap.get? b=some o→(s2.heap.push { cls:=.type "list",dict:=none,data:=.seq ([]:List Value).toArray }).get? b=some o:=fun b o e=>Heap.get?_push_of_some _ e
 have hin:∀ b∈fp,b<s2.heap.objs.size:=fun b hb=>let ⟨o,e,_⟩:=T.obj 0 _ st2 b hb;Heap.lt_size e
 have f3:∀ b∈fp,zeH X pins (upd H2 s2.heap.objs.size (.lst [])) b:=fun b hb=>⟨by rw [zak (Nat.ne_of_lt (hin b hb))];exact (f2 b hb).1,(f2 b hb).2⟩
 have st3:=T.keep 0 _ _ st2 fun b _ o e=>keep23 b o e
 have hin3:∀ b∈fp,b<(s2.heap.push { cls:=.type "list",dict:=none,data:=.seq ([]:List Value).toArray }).objs.size:=fun b hb=>let ⟨o,e,_⟩:=T.obj 0 _ st3 b hb;Heap.lt_size e
 clear keep23 hin
 generalize s2.heap.push { cls:=.type "list",dict:=none,data:=.seq ([]:List Value).toArray }=h3 at I3 st3 hin3 ⊢
 generalize upd H2 s2.heap.objs.size (.lst [])=H3 at I3 f3 w0
 generalize s2.heap.objs.size=D at hfree w0 turn ⊢
 refine wpAny_newFunctionEnv B.nocell (by intro y hy;cases hy) (fun h1 hns hsb=>?_) B.kind
 have keep:∀ b o,h3.get? b=some o→h1.get? b=some o:=fun b o e=>(hsb.2 b (Nat.ne_of_lt (Heap.lt_size e))).trans (Heap.get?_push_of_some _ e)
 have I4:=zl2 (tk:=s2.toks+([]:List (Str×Value)).length) I3 B hsub hfr f3 hin3 keep hns
 have st4:=T.keep 0 _ _ st3 fun b _ o e=>keep b o e
 have stat:∀ {H':Hp},(∀ b∈fp,H' b=none)→∀ b∈fp,zeH (X.blk Nc scope cl { s2 with heap:=h3,toks:=s2.toks } H3 fp) [] H' b:=fun hn b hb =>
  ⟨hn b hb,Nat.ne_of_lt (hin3 b hb),fun z=>by
   rcases List.mem_cons.mp (I3.stkSub b z) with q | q
   ·exact (f3 b hb).2.1 q
   ·exact (f3 b hb).2.2.1 q,.inl hb,fun x c e=>(f3 b hb).2.2.2.2.1 x c (hsub x c e),by intro p hp;cases hp⟩
 have hcb:(X.blk Nc scope cl { s2 with heap:=h3,toks:=s2.toks } H3 fp).calm=true:=hc
 have loop:codeAny (model X.prog X.w) X.A (.compLoop (.ListComp elt [⟨tg,iter,ifs,0⟩] scope pos) 0 (.ref it) (.ref D) (compEnvC scope cl h3.objs.size X.env)) (compPost (model X.prog X.w) X.A X.xe use QQ (.ref D) h3.objs.size) { s2 with heap:=h1,toks:=s2.toks+([]:List (Str×Value)).length }:=by
  refine zez (fun n s'=>∃ i σ' H',Inv (X.blk Nc scope cl { s2 with heap:=h3,toks:=s2.toks } H3 fp) [] σ' H' s'∧tn i s'.heap∧(∀ b∈fp,H' b=none)∧W i n σ' H') rfl ?_ m0 ⟨0,_,H3,I4,st4,fun b hb=>(f3 b hb).1,w0⟩
  rintro n s5 ⟨i,σ5,H5,I5,st5,fr5,w5⟩
  rcases turn i n σ5 H5 w5 with ⟨stop,qn⟩ | ⟨go,N',hN',step⟩
  ·refine thn (T.done (X.blk Nc scope cl { s2 with heap:=h3,toks:=s2.toks } H3 fp) rfl rfl rfl hcb i [] s5 σ5 H5 _ I5 (stat fr5) st5 stop) fun r s6 hQ'=>?_
   obtain ⟨hr,I6⟩:=hQ'
   subst hr
   exact fin { s2 with heap:=h3,toks:=s2.toks } H3 cl fp D σ5 H5 s6 I3 f3 I6 qn
  ·refine thn (T.item (X.blk Nc scope cl { s2 with heap:=h3,toks:=s2.toks } H3 fp) rfl rfl rfl hcb i [] s5 σ5 H5 _ I5 (stat fr5) st5 go) fun r s6 hQ'=>?_
   obtain ⟨u,hr,h6⟩:=hQ'
   subst hr
   refine thn h6 fun _ s7 hQ'=>?_
   obtain ⟨x,H7,I7,r7,y7,st7,fr7⟩:=hQ'
   have I7':=I7.pinned (stat fr7) (T.obj _ _ st7)
   refine wpAny_mono (hg cl _ H3 fp _ s7 σ5 H7 x u _ I7' r7 (step x H7 y7)) (fun _ s8 hQ'=>?_) fun _ _ z=>z.elim
   obtain ⟨σ8,H8,I8,q8⟩:=hQ'
   have again:∀ {H9:Hp} {s9:Shared} {m:Nat},Inv (X.blk Nc scope cl { s2 with heap:=h3,toks:=s2.toks } H3 fp) ([]++zfw fp s7.heap) σ8 H9 s9→m<n→W (i+1) m σ8 H9→∃ m,m<n∧∃ i σ' H',Inv (X.blk Nc scope cl { s2 with heap:=h3,toks:=s2.toks } H3 fp) [] σ' H' s9∧tn i s9.heap∧(∀ b∈fp,H' b=none)∧W i m σ' H':=fun {H9 s9 m} I9 hm w9=>by
    refine ⟨m,hm,i+1,σ8,H9,I9.unpinned,T.keep _ _ _ st7 fun b hb o e=>(I9.pin (b,o) (List.mem_append_right _ (List.mem_append_right _ (zcs hb e)))).1,fun b hb=>?_,w9⟩
    obtain ⟨o,e,d⟩:=T.obj _ _ st7 b hb
    exact (I9.pin (b,o) (List.mem_append_right _ (List.mem_append_right _ (zcs hb e)))).2.1
   refine wpAny_mono (ht cl _ H3 fp _ s8 σ8 H8 _ I8 q8) (fun b s9 hQ'=>?_) fun _ _ z=>z.elim
   obtain ⟨H9,I9,q9⟩:=hQ'
   cases b with
   | false =>
    rw [if_neg (by decide)] at q9
    obtain ⟨m',hm,w9⟩:=hN' _ _ q9
    exact again I9 hm w9
   | true =>
    rw [if_pos rfl] at q9
    refine wpAny_mono (he cl _ H3 fp _ s9 σ8 H9 _ I9 q9) (fun u s10 hQ'=>?_) fun _ _ z=>z.elim
    obtain ⟨y,H10,I10,r10,q10⟩:=hQ'
    refine wpAny_mono (ze2 (X:=X.blk Nc scope cl { s2 with heap:=h3,toks:=s2.toks } H3 fp) _ s10 σ8 H10 (.ref D) [y] (.ref D) [u] _ I10 rfl (.cons r10 .nil) q10) (fun _ s11 hQ'=>?_) fun _ _ z=>z.elim
    obtain ⟨_,H11,I11,_,q11⟩:=hQ'
    obtain ⟨m',hm,w11⟩:=hN' _ _ q11
    exact again I11 hm w11
 exact codeAny_compStart_list loop (T.self _ 0 _ _ _ st4 loop)
theorem zbx {X:Cx} {sc:Scope} {N Nc:List Str} {cap:List (Option Nat)} {elt tg iter:Expr} {ifs:List Expr} {scope:Scope} {pos:Pos} {wi:TI} {g:TG} {tt:TT} {te:TE} (hc:X.calm=true) (hsc:X.env.scope=sc) (hN:X.N=N) (B:ziv sc N Nc cap scope) (hi:PI X tg iter wi)
  (hg:∀ cl s H fp,PG (X.blk Nc scope cl s H fp) tg g) (ht:∀ cl s H fp,PTs (X.blk Nc scope cl s H fp) ifs tt) (he:∀ cl s H fp,PE (X.blk Nc scope cl s H fp) elt te)
  (hs:∀ x,foldedSetIterable iter X.env x=pure x:=by intro _;rfl):PE X (.ListComp elt [⟨tg,iter,ifs,0⟩] scope pos) (za5 wi g tt te cap):=by
 intro pins s σ H Q I h
 rw [eval_ListComp]
 refine zhc hc hsc hN B hi hg ht he hs I h fun s3 H3 cl fp D σc Hc s6 I3 f3 I6 q=>?_
 obtain ⟨m,hn,_⟩:=id I6.loc
 exact ⟨m,hn,fun h' hs'=>⟨.ref D,Hc,ziQ I3 f3 I6 hs',rfl,q⟩⟩
theorem zcq {X:Cx} {i:Nat} {y:Str} {py spos:Pos} {sc:Scope} {N Nc:List Str} {cap:List (Option Nat)} {elt tg iter:Expr} {ifs:List Expr} {scope:Scope} {pos:Pos} {wi:TI} {g:TG} {tt:TT} {te:TE} (hnd:X.N.Nodup) (hix:X.N[i]?=some y) (hl:X.env.scope.names.lookup y=some .local)
  (hc:X.calm=true) (hsc:X.env.scope=sc) (hN:X.N=N) (B:ziv sc N Nc cap scope) (hi:PI X tg iter wi)
  (hg:∀ cl s H fp,PG (X.blk Nc scope cl s H fp) tg g) (ht:∀ cl s H fp,PTs (X.blk Nc scope cl s H fp) ifs tt) (he:∀ cl s H fp,PE (X.blk Nc scope cl s H fp) elt te)
  (hsw:swapsWith (.ListComp elt [⟨tg,iter,ifs,0⟩] scope pos) (some (.Name y py)) spos.line X.env=pure true:=by rfl)
  (hs:∀ x,foldedSetIterable iter X.env x=pure x:=by intro _;rfl):PS X (.Assign [.Name y py] (.ListComp elt [⟨tg,iter,ifs,0⟩] scope pos) spos) (zaU (za5 wi g tt te cap) (zai i)):=by
 intro pins s σ H D0 I h
 rw [exec_Assign_Name_used _ _ _ _ hsw]
 refine wpAny_bind (wpAny_standAt (wpAny_bind (wpAny_bind (thn (zhc (use:=some (assign (.Name y py) X.env)) (QQ:=fun _ s'=>SP X pins D0 .next s') hc hsc hN B hi hg ht he hs I h fun s3 H3 cl fp D σc Hc s6 I3 f3 I6 q=>?_) fun _ s' hq=>wpAny_pure (wpAny_pure hq)))))
 have I6x:Inv X pins σ Hc s6:=ziQ I3 f3 I6 (Heap.SameBut.refl ..)
 obtain ⟨m,hn,_⟩:=id I6.loc
 have hC:Hc s3.heap.objs.size=none:=I6.free
 have fpC:=I3.fpOk (b:=s3.heap.objs.size) (Nat.le_refl _) hC
 refine wpAny_assign_Name (zeV I6x hnd hix (.inl hl) (v:=.ref D) rfl (fun s7 I7 ch=>?_) (.inr hl))
 obtain ⟨a,same,ha⟩:=ch
 have nC:s3.heap.objs.size≠a:=by
  rcases ha with r | r
  ·rw [r];exact fpC.2.1
  ·exact (fpC.2.2.2.2.1 _ _ r).symm
 refine ⟨m,hn.sameBut same nC,fun h' hs'=>⟨_,_,I7.turns (t':=s7.toks) (ch:=[s3.heap.objs.size]) (fun b o hb e=>(hs'.2 b (by simpa using hb)).trans e) fun b hb=>?_,q⟩⟩
 have e:b=s3.heap.objs.size:=by simpa using hb
 rw [e]
 exact fpC
theorem ziU {K:PySem.W.Frag} {a:Addr} {xs:List V} {g:TG} {tt:TT} {te:TE} {σ:St} {H:Hp} {D:Addr} {Q:VK} (Pv:Nat→List V→St→Hp→Prop) (h0:Pv 0 [] σ (upd H D (.lst []))) (hl:∀ i ys σ H,i≤xs.length→Pv i ys σ H→SqL K H a xs)
  (hs:∀ i x ys σ H,xs[i]?=some x→H D=some (.lst ys)→Pv i ys σ H→g x σ H fun σ2 H2=>tt σ2 H2 fun b H3=>if b=true then te σ2 H3 fun y H4=>zci (.ref D) [y] H4 fun _ H5=>∃ ys,H5 D=some (.lst ys)∧Pv (i+1) ys σ2 H5 else ∃ ys,H3 D=some (.lst ys)∧Pv (i+1) ys σ2 H3)
  (hd:∀ ys σ H,H D=some (.lst ys)→Pv xs.length ys σ H→Q (.ref D) H) :
  ∃ W:Nat→Nat→St→Hp→Prop,(∃ m,W 0 m σ (upd H D (.lst [])))∧∀ i m σc Hc,W i m σc Hc →
   ((Itl K a).stop i Hc∧Q (.ref D) Hc)∨((Itl K a).go i Hc∧∃ N:St→Hp→Prop,(∀ σ' H',N σ' H'→∃ m',m'<m∧W (i+1) m' σ' H')∧∀ x H',(Itl K a).yld i Hc x H'→g x σc H' fun σ2 H2=>tt σ2 H2 fun b H3=>if b=true then te σ2 H3 fun y H4=>zci (.ref D) [y] H4 fun _ H5=>N σ2 H5 else N σ2 H3):=by
 refine ⟨fun i m σ H=>m=xs.length - i∧i≤xs.length∧∃ ys,H D=some (.lst ys)∧Pv i ys σ H,⟨_,rfl,Nat.zero_le _,[],zae,h0⟩,?_⟩
 rintro i m σ H ⟨rfl,hi,ys,hD,pv⟩
 have q:=hl i ys σ H hi pv
 by_cases hlt:i<xs.length
 ·refine .inr ⟨⟨xs,xs[i],q,by simp [hlt]⟩,fun σ H=>∃ ys,H D=some (.lst ys)∧Pv (i+1) ys σ H,fun σ' H' p'=>⟨_,by (first|lia|omega),rfl,hlt,p'⟩,fun x H' yl=>?_⟩
  obtain ⟨e,yl⟩:=yl
  subst e
  exact hs i x ys σ _ (yl xs q) hD pv
 ·have e:i=xs.length:=by (first|lia|omega)
  subst e
  exact .inl ⟨⟨xs,q,Nat.le_refl _⟩,hd ys σ H hD pv⟩
theorem ziB {lo:Int} {n:Nat} {g:TG} {tt:TT} {te:TE} {σ:St} {H:Hp} {D:Addr} {Q:VK} (Pv:Nat→List V→St→Hp→Prop) (h0:Pv 0 [] σ (upd H D (.lst [])))
  (hs:∀ i ys σ H,i<n→H D=some (.lst ys)→Pv i ys σ H→g (.int (lo+i)) σ H fun σ2 H2=>tt σ2 H2 fun b H3=>if b=true then te σ2 H3 fun y H4=>zci (.ref D) [y] H4 fun _ H5=>∃ ys,H5 D=some (.lst ys)∧Pv (i+1) ys σ2 H5 else ∃ ys,H3 D=some (.lst ys)∧Pv (i+1) ys σ2 H3)
  (hd:∀ ys σ H,H D=some (.lst ys)→Pv n ys σ H→Q (.ref D) H) :
  ∃ W:Nat→Nat→St→Hp→Prop,(∃ m,W 0 m σ (upd H D (.lst [])))∧∀ i m σc Hc,W i m σc Hc →
   ((Itr lo n).stop i Hc∧Q (.ref D) Hc)∨((Itr lo n).go i Hc∧∃ N:St→Hp→Prop,(∀ σ' H',N σ' H'→∃ m',m'<m∧W (i+1) m' σ' H')∧∀ x H',(Itr lo n).yld i Hc x H'→g x σc H' fun σ2 H2=>tt σ2 H2 fun b H3=>if b=true then te σ2 H3 fun y H4=>zci (.ref D) [y] H4 fun _ H5=>N σ2 H5 else N σ2 H3):=by
 refine ⟨fun i m σ H=>m=n - i∧i≤n∧∃ ys,H D=some (.lst ys)∧Pv i ys σ H,⟨_,rfl,Nat.zero_le _,[],zae,h0⟩,?_⟩
 rintro i m σ H ⟨rfl,hi,ys,hD,pv⟩
 by_cases hlt:i<n
 ·refine .inr ⟨hlt,fun σ H=>∃ ys,H D=some (.lst ys)∧Pv (i+1) ys σ H,fun σ' H' p'=>⟨_,by (first|lia|omega),rfl,hlt,p'⟩,fun x H' yl=>?_⟩
  obtain ⟨e,yl⟩:=yl
  subst e yl
  exact hs i ys σ _ hlt hD pv
 ·have e:i=n:=by (first|lia|omega)
  subst e
  exact .inl ⟨Nat.le_refl _,hd ys σ H hD pv⟩
end L2
namespace L2
open PySem PySem.Spec PyProof.Rows
theorem zjs (bs:List Bool):(List.range bs.length).all (fun i=>bs.getD i false)=bs.all id:=by
 rw [Bool.eq_iff_iff,List.all_eq_true,List.all_eq_true]
 constructor
 ·intro h x hx
  obtain ⟨i,hi,e⟩:=List.getElem_of_mem hx
  have:=h i (List.mem_range.mpr hi)
  rw [List.getD_eq_getElem?_getD,List.getElem?_eq_getElem hi] at this
  rw [← e]
  exact this
 ·intro h i hi
  have hi:=List.mem_range.mp hi
  rw [List.getD_eq_getElem?_getD,List.getElem?_eq_getElem hi]
  exact h _ (List.getElem_mem hi)
def zlT (K:PySem.W.Frag):List V→Hp→VK→Prop:=fun xs H Q=>∃ (p:Addr) (bs:List Bool),xs=[.ref p]∧SqL K H p (bs.map V.bl)∧Q (.bl (bs.all id)) H
def rSum (K:PySem.W.Frag):List V→Hp→VK→Prop:=fun xs H Q=>∃ (p:Addr) (ns:List Int),xs=[.ref p]∧SqL K H p (ns.map V.int)∧Q (.int ns.sum) H
theorem zn1 {bs:List Bool} {its:List Value} {i:Nat} {v:Value} (r:zbq (bs.map V.bl) its) (e:its.toArray[i]?=some v):v=.bool (bs.getD i false):=by
 have l:=r.length
 rw [List.length_map] at l
 have e':its[i]?=some v:=by simpa using e
 have hi:i<bs.length:=by rw [l];exact (List.getElem?_eq_some_iff.mp e').1
 obtain ⟨u,hu,ru⟩:=r.get (i:=i) (x:=.bl bs[i]) (by rw [List.getElem?_map,List.getElem?_eq_getElem hi];rfl)
 rw [e'] at hu
 cases hu
 cases ru
 rw [List.getD_eq_getElem?_getD,List.getElem?_eq_getElem hi]
 rfl
theorem zkq {P:Program} {w:World} {A:Around} {bs:List Bool} {its:List Value} (r:zbq (bs.map V.bl) its):TruthOf P w A (fun i v=>its.toArray[i]?=some v) fun i=>bs.getD i false:=fun i v s Q E hP hQ=>by
 rw [zn1 r hP]
 exact wpAny_pure hQ
section
variable {X:Cx}
theorem zfV (hc:X.calm=true):zfp X (.builtin "all") (zlT X.K):=by
 intro pins s σ H xs us Q I r h
 obtain ⟨p,bs,rfl,hl,q⟩:=h
 obtain ⟨u,rfl,ru⟩:=r.one
 cases ru
 obtain ⟨its,rv,pl,_⟩:=I.list hl
 have l:=rv.length
 rw [List.length_map] at l
 obtain ⟨o,n,e,_⟩:=id pl
 have hne:p≠s.heap.objs.size:=Nat.ne_of_lt (Heap.lt_size e)
 refine call_all_walk (wpAny_pyIter_list pl.isList ?_)
 refine ⟨s.heap.objs.size,_,_,_,_,_,fun i=>bs.getD i false,rfl,Walks.list (A:=X.A.in1) (I.ok.hd hc) _ p hne its.toArray,⟨⟨_,Heap.get?_push_size _ rfl,rfl,rfl⟩,?_⟩,zkq rv,fun h' tk hk=>⟨.bl _,H,I.kept fun b u eb=>?_,rfl,?_⟩⟩
 ·exact pl.isList.at fun o e=>Heap.get?_push_of_some _ e
 ·exact hk b u (fun z=>Nat.ne_of_lt (Heap.lt_size eb) (by simpa using z)) (Heap.get?_push_of_some _ eb)
 ·rw [List.size_toArray,← l,zjs]
  exact q
theorem zhS {ns:List Int} {its:List Value} {i:Nat} {v:Value} (r:zbq (ns.map V.int) its) (e:its.toArray[i]?=some v):∃ t,v=.int (ns.getD i 0) t:=by
 have l:=r.length
 rw [List.length_map] at l
 have e':its[i]?=some v:=by simpa using e
 have hi:i<ns.length:=by rw [l];exact (List.getElem?_eq_some_iff.mp e').1
 obtain ⟨u,hu,ru⟩:=r.get (i:=i) (x:=.int ns[i]) (by rw [List.getElem?_map,List.getElem?_eq_getElem hi];rfl)
 rw [e'] at hu
 cases hu
 obtain ⟨t,rfl⟩:=ru
 refine ⟨t,?_⟩
 rw [List.getD_eq_getElem?_getD,List.getElem?_eq_getElem hi]
 rfl
theorem zfI (ns:List Int):∀ k,k≤ns.length→preSum (fun i=>ns.getD i 0) k=(ns.take k).sum
 | 0,_=>by simp [preSum]
 | k+1,h=>by
  rw [preSum,zfI ns k (by (first|lia|omega)),List.take_add_one,List.getElem?_eq_getElem (by (first|lia|omega)),List.sum_append,List.getD_eq_getElem?_getD,List.getElem?_eq_getElem (by (first|lia|omega))]
  simp
theorem zki (hc:X.calm=true):zfp X (.builtin "sum") (rSum X.K):=by
 intro pins s σ H xs us Q I r h
 obtain ⟨p,ns,rfl,hl,q⟩:=h
 obtain ⟨u,rfl,ru⟩:=r.one
 cases ru
 obtain ⟨its,rv,pl,_⟩:=I.list hl
 have l:=rv.length
 rw [List.length_map] at l
 obtain ⟨o,n,e,_⟩:=id pl
 have hlt:=Heap.lt_size e
 have hne:p≠s.heap.objs.size:=Nat.ne_of_lt hlt
 refine call_sum_walkG (wpAny_pyIter_list pl.isList ?_)
 refine ⟨s.heap.objs.size,_,_,_,_,_,fun i=>ns.getD i 0,rfl,Walks.list (A:=X.A.in1) (I.ok.hd hc) _ p hne its.toArray,⟨⟨_,Heap.get?_push_size _ rfl,rfl,rfl⟩,?_⟩,fun b hb=>?_,fun i v hv=>zhS rv hv,fun h' tk t' hk=>⟨.int _,H,I.kept fun b u eb=>?_,⟨t',rfl⟩,?_⟩⟩
 ·exact pl.isList.at fun o e=>Heap.get?_push_of_some _ e
 ·rw [Heap.size_push]
  rcases List.mem_cons.mp hb with z | z
  ·rw [z];exact Nat.lt_succ_self _
  ·have z':b=p:=by simpa using z
   rw [z'];exact Nat.lt_succ_of_lt hlt
 ·exact hk b u (fun z=>Nat.ne_of_lt (Heap.lt_size eb) (by simpa using z)) (Heap.get?_push_of_some _ eb)
 ·rw [List.size_toArray,← l,zfI _ _ (Nat.le_refl _),List.take_length]
  exact q
end
end L2
namespace L2
open PySem PySem.Spec PyProof.Rows
theorem zdX {o:Obj} {vs:Array Value} (h:o.data=.fields vs):∀ v,o.data≠.cell v:=fun v z=>by rw [h] at z;cases z
end L2
namespace L2
open PySem PySem.Spec PyProof.Rows
section
variable {X:Cx}
end
def zeU (J:It) (g:TG) (tt:TT) (te:TE) (D:Addr) (Q:VK) (σ:St) (H:Hp):Prop:=∃ W:Nat→Nat→St→Hp→Prop,(∃ m,W 0 m σ H)∧∀ i m σc Hc,W i m σc Hc →
 (J.stop i Hc∧Q (.ref D) Hc)∨(J.go i Hc∧∃ N:St→Hp→Prop,(∀ σ' H',N σ' H'→∃ m',m'<m∧W (i+1) m' σ' H')∧∀ x H',J.yld i Hc x H'→g x σc H' fun σ2 H2=>tt σ2 H2 fun b H3=>if b=true then te σ2 H3 fun y H4=>zci (.ref D) [y] H4 fun _ H5=>N σ2 H5 else N σ2 H3)
theorem zkk {wi:TI} {g:TG} {tt:TT} {te:TE} {cap:List (Option Nat)} {σ:St} {H:Hp} {Q:VK}:za5 wi g tt te cap σ H Q=wi σ H fun J H1=>∀ D,H1 D=none→zeU J g tt te D Q (zk5 cap σ) (upd H1 D (.lst [])):=rfl
theorem zbs {K:PySem.W.Frag} {a:Addr} {xs:List V} {g:TG} {tt:TT} {te:TE} {σ:St} {H:Hp} {D:Addr} {Q:VK} (Pv:Nat→List V→St→Hp→Prop) (h0:Pv 0 [] σ (upd H D (.lst []))) (hl:∀ i ys σ H,i≤xs.length→Pv i ys σ H→SqL K H a xs)
  (hs:∀ i x ys σ H,xs[i]?=some x→H D=some (.lst ys)→Pv i ys σ H→g x σ H fun σ2 H2=>tt σ2 H2 fun b H3=>if b=true then te σ2 H3 fun y H4=>zci (.ref D) [y] H4 fun _ H5=>∃ ys,H5 D=some (.lst ys)∧Pv (i+1) ys σ2 H5 else ∃ ys,H3 D=some (.lst ys)∧Pv (i+1) ys σ2 H3)
  (hd:∀ ys σ H,H D=some (.lst ys)→Pv xs.length ys σ H→Q (.ref D) H):zeU (Itl K a) g tt te D Q σ (upd H D (.lst [])):=ziU Pv h0 hl hs hd
theorem za8 {lo:Int} {n:Nat} {g:TG} {tt:TT} {te:TE} {σ:St} {H:Hp} {D:Addr} {Q:VK} (Pv:Nat→List V→St→Hp→Prop) (h0:Pv 0 [] σ (upd H D (.lst [])))
  (hs:∀ i ys σ H,i<n→H D=some (.lst ys)→Pv i ys σ H→g (.int (lo+i)) σ H fun σ2 H2=>tt σ2 H2 fun b H3=>if b=true then te σ2 H3 fun y H4=>zci (.ref D) [y] H4 fun _ H5=>∃ ys,H5 D=some (.lst ys)∧Pv (i+1) ys σ2 H5 else ∃ ys,H3 D=some (.lst ys)∧Pv (i+1) ys σ2 H3)
  (hd:∀ ys σ H,H D=some (.lst ys)→Pv n ys σ H→Q (.ref D) H):zeU (Itr lo n) g tt te D Q σ (upd H D (.lst [])):=ziB Pv h0 hs hd
end L2
namespace L2
open PySem PySem.Spec PyProof.Rows
section
variable {X:Cx}
def zga:V→List V→Hp→VK→Prop:=fun x vs H Q=>∃ l xs k y,x=.ref l∧vs=[.int k,y]∧H l=some (.lst xs)∧0≤k∧k≤(xs.length:Int)∧xs.length<1000000∧Q .non (upd H l (.lst (xs.take k.toNat++y::xs.drop k.toNat)))
theorem zgF {xs:List V} {us:List Value} (r:zbq xs us):∀ n:Nat,zbq (xs.take n) (us.take n)∧zbq (xs.drop n) (us.drop n):=by
 induction r with
 | nil=>intro n;rw [List.take_nil,List.take_nil,List.drop_nil,List.drop_nil];exact ⟨.nil,.nil⟩
 | cons h t ih =>
  intro n
  cases n with
  | zero=>exact ⟨.nil,.cons h t⟩
  | succ n=>exact ⟨.cons h (ih n).1,(ih n).2⟩
theorem ziM:MtM X "list.insert" zga:=by
 intro pins s σ H x vs v us Q I rx rv h
 obtain ⟨l,xs,k,y,rfl,rfl,hH,k0,k1,hz,q⟩:=h
 cases rx
 obtain ⟨u,w,rfl,ru,rw'⟩:=zob rv
 obtain ⟨tk,rfl⟩:=ru
 obtain ⟨z,its,n,r,hl,e⟩:=I.lstM hH
 have lr:=r.length
 have fit:¬(!Builtin.List.listFitsIndex k)=true:=by
  have:Builtin.List.listFitsIndex k=true:=by
   unfold Builtin.List.listFitsIndex
   simp only [Bool.and_eq_true,decide_eq_true_eq]
   (first|lia|omega)
  rw [this]
  decide
 refine call_meets F.slot_list_insert ⟨_,e,rfl⟩ F.entry_list_insert (F.args_list_insert_3 _ _ _) (AutoSeq1.list_insert_list_int_val_1 l its.toArray n k tk w fit (by rw [List.size_toArray];(first|lia|omega))) ⟨e,?_⟩
 refine ⟨.non,_,I.lset (its':=its.take k.toNat++w::its.drop k.toNat) hH e ?_ ((zgF r _).1.append (.cons rw' (zgF r _).2)) ?_,rfl,q⟩
 ·have e1:(if k<0 then (k+(its.toArray.size:Int)).toNat else min k.toNat its.toArray.size)=k.toNat:=by
   rw [if_neg (by (first|lia|omega)),List.size_toArray,← lr]
   (first|lia|omega)
  simp only [e1]
  apply Array.toList_inj.mp
  simp
  exact List.take_of_length_le (by rw [List.length_drop];exact Nat.le_refl _)
 ·rw [List.length_append,List.length_cons,List.length_take,List.length_drop]
  have:(1000000:Nat)≤sizeLine:=by decide
  (first|lia|omega)
def zkn (K:PySem.W.Frag):List V→Hp→VK→Prop:=fun xs H Q=>∃ (p:Addr) (ns:List Int),xs=[.ref p]∧SqL K H p (ns.map V.int)∧0<ns.length∧∀ m,m∈ns→(∀ a∈ns,m≤a)→Q (.int m) H
theorem zl5 {ns:List Int} {i:Nat} (h:i<ns.length):ns.getD i 0∈ns:=by
 rw [zem h]
 exact List.getElem_mem h
theorem zmA {ns:List Int} {a:Int} (h:a∈ns):∃ i,i<ns.length∧a=ns.getD i 0:=by
 obtain ⟨i,hi,e⟩:=List.getElem_of_mem h
 exact ⟨i,hi,by rw [zem hi,e]⟩
theorem zgZ (hc:X.calm=true):zfp X (.builtin "min") (zkn X.K):=by
 intro pins s σ H xs us Q I r h
 obtain ⟨p,ns,rfl,hl,hn,q⟩:=h
 obtain ⟨u,rfl,ru⟩:=r.one
 cases ru
 obtain ⟨its,rv,pl,_⟩:=I.list hl
 have l:=rv.length
 rw [List.length_map] at l
 obtain ⟨o,n,e,_⟩:=id pl
 have hlt:=Heap.lt_size e
 have hne:p≠s.heap.objs.size:=Nat.ne_of_lt hlt
 refine call_min_walk (wpAny_pyIter_list pl.isList ?_)
 refine ⟨s.heap.objs.size,_,_,_,_,_,_,rfl,Walks.list (A:=X.A.in1) (I.ok.hd hc) _ p hne its.toArray,⟨⟨_,Heap.get?_push_size _ rfl,rfl,rfl⟩,?_⟩,fun b hb=>?_,by rw [List.size_toArray];(first|lia|omega),CmpOf.ints_lt (fun i=>ns.getD i 0) (fun i v hv=>zhS rv hv),fun v h' tk hv hk=>?_⟩
 ·exact pl.isList.at fun o e=>Heap.get?_push_of_some _ e
 ·rw [Heap.size_push]
  rcases List.mem_cons.mp hb with z | z
  ·rw [z];exact Nat.lt_succ_self _
  ·have z':b=p:=by simpa using z
   rw [z'];exact Nat.lt_succ_of_lt hlt
 ·obtain ⟨t,rfl⟩:=zhS rv hv
  obtain ⟨b1,b2⟩:=argBest_lt (fun i=>ns.getD i 0) (its.toArray.size - 1)
  rw [List.size_toArray] at b1 b2
  refine ⟨.int _,H,I.kept fun b u eb=>hk b u (fun z=>Nat.ne_of_lt (Heap.lt_size eb) (by simpa using z)) (Heap.get?_push_of_some _ eb),⟨t,rfl⟩,q _ (zl5 (by rw [List.size_toArray];(first|lia|omega))) fun a ha=>?_⟩
  obtain ⟨j,hj,rfl⟩:=zmA ha
  exact b2 j (by (first|lia|omega))
end
end L2
namespace L2
open PySem PySem.Spec PyProof.Rows
theorem zkx:bootBuiltins "enumerate"=some (.type "enumerate"):=by decide +kernel
def Ite (K:PySem.W.Frag) (p:Addr):It where
 go:=fun i H=>∃ xs a,SqL K H p xs∧xs[i]?=some a
 yld:=fun i H x H'=>∃ t a,x=.ref t∧H t=none∧H'=upd H t (.tup [.int (i:Int),a])∧∀ xs,SqL K H p xs→xs[i]?=some a
 stop:=fun i H=>∃ xs,SqL K H p xs∧i=xs.length
def tnE (e it p:Addr) (i:Nat) (h:Heap):Prop:=(∃ old,IsEnum h e it i old)∧h.IsListIter it p i
theorem zgU {e it p:Addr} {i:Nat} {h:Heap} (st:tnE e it p i h):∀ b∈[e,it],∃ o,h.get? b=some o∧∀ v,o.data≠.cell v:=fun b hb=>by
 obtain ⟨⟨old,a1⟩,⟨o2,a2,_,d2⟩⟩:=st
 simp only [List.mem_cons,List.not_mem_nil,or_false] at hb
 rcases hb with rfl | rfl
 ·exact ⟨_,a1,zdX rfl⟩
 ·exact ⟨_,a2,zdX d2⟩
theorem zju {P:Program} {w:World} {K:PySem.W.Frag} {elts:List Expr} {k:Nat} {pos:Pos} {e it p:Addr} (d1:e≠it) (d2:p≠e) (d3:p≠it):Turn P w K (.Tuple elts k pos) (Ite K p) [e,it] e (tnE e it p) where
 mem:=by simp
 obj:=fun i h st=>zgU st
 keep:=fun i h h' st kk=>by
  obtain ⟨⟨old,a1⟩,a2⟩:=st
  exact ⟨⟨old,kk e (by simp) _ a1⟩,a2.at fun o x=>kk it (by simp) o x⟩
 item:=by
  intro X hP hw hK hc i pins s σ H E I hf st hg
  subst hP hw hK
  obtain ⟨xs,a,hx,ea⟩:=hg
  obtain ⟨its,r1,pl1,z1⟩:=I.list hx
  obtain ⟨ua,eua,rua⟩:=r1.get ea
  have there:=zgU st
  obtain ⟨s1,s2⟩:=st
  have W:=WalksT.enumerate (prog:=X.prog) (w:=X.w) (A:=X.A) (I.ok.hd hc) e it p d1 d2 d3 its.toArray
  have hi:i<its.toArray.size:=by
   have h1:=(List.getElem?_eq_some_iff.mp eua).1
   rw [List.size_toArray]
   exact h1
  refine W.item i s _ _ hi ⟨s1,s2,pl1.isList⟩ fun T vals h' tk hp hT hTup mid kk=>⟨_,rfl,?_⟩
  obtain ⟨t,u,e1,rfl⟩:=hp
  have e1':u=ua:=by
   have:its[i]?=some u:=by simpa using e1
   rw [eua] at this;cases this;rfl
  subst e1'
  refine W.go elts k pos i T { s with heap:=h',toks:=tk } _ _ mid fun h2 st2 kk2=>?_
  obtain ⟨t1,t2,_⟩:=st2
  have I1:Inv X pins σ H { s with heap:=h2,toks:=tk }:=I.turns (ch:=[e,it]) (fun b o hb q=>kk2 b o hb (kk b o hb q)) fun b hb=>hf b hb
  have nT:H T=none:=I.hok.fresh hT
  have I2:=I1.track (a:=T) (o:=.tup [.int (i:Int),a]) nT (Heap.get?_none_of_le (Nat.le_trans I.sz hT)) (Nat.ne_of_gt (Nat.lt_of_lt_of_le I.lt hT)) (fun x c q=>by
   obtain ⟨v,z⟩:=I.cell x c q
   exact Nat.ne_of_lt (Nat.lt_of_lt_of_le z.lt hT)) (fun y hy=>Nat.ne_of_lt (Nat.lt_of_lt_of_le (Heap.lt_size (I.pin y hy).1) hT)) (by
   refine ⟨by show 2≤sizeLine;decide,[.int i t,u],.cons ⟨t,rfl⟩ (.cons rua .nil),?_⟩
   obtain ⟨o,ho,hcl,hd⟩:=hTup
   exact ⟨o,kk2 T o (W.apart i T h' mid) ho,hcl,hd⟩)
  refine ⟨.ref T,_,I2,rfl,⟨T,a,rfl,nT,rfl,fun xs' h'=>?_⟩,⟨t1,t2⟩,fun b hb=>?_⟩
  ·rw [I.list_inj h' hx];exact ea
  ·obtain ⟨o,q,_⟩:=there b hb
   rw [zak (Nat.ne_of_lt (Nat.lt_of_lt_of_le (Heap.lt_size q) hT))]
   exact (hf b hb).1
 done:=by
  intro X hP hw hK hc i pins s σ H E I hf st hg
  subst hP hw hK
  obtain ⟨xs,hx,rfl⟩:=hg
  obtain ⟨its,r1,pl1,z1⟩:=I.list hx
  obtain ⟨s1,s2⟩:=st
  have W:=WalksT.enumerate (prog:=X.prog) (w:=X.w) (A:=X.A) (I.ok.hd hc) e it p d1 d2 d3 its.toArray
  refine W.done s _ _ ?_ fun h' tk kk=>⟨rfl,I.turns (ch:=[e,it]) (fun b o hb q=>kk b o hb q) fun b hb=>hf b hb⟩
  rw [List.size_toArray,← r1.length]
  exact ⟨s1,s2,pl1.isList⟩
 self:=fun A i s Q E st h=>by
  obtain ⟨⟨old,a1⟩,_⟩:=st
  exact wpAny_pyIter_enum a1 h
def zk6 (K:PySem.W.Frag) (ta:TA):TI:=fun σ H R=>ta σ H fun vs H1=>∃ p,vs=[.ref p]∧(∃ xs,SqL K H1 p xs)∧R (Ite K p) H1
theorem zi4 {X:Cx} {a:Expr} {elts:List Expr} {k:Nat} {tp p pos:Pos} {ta:TA} (hg:Gl X "enumerate") (hm:X.mg "enumerate"=none) (ha:PA X [a] ta) (hs:starEach [a] X.env=[(false,eval a X.env)]:=by rfl) :
  PI X (.Tuple elts k tp) (.Call (.Name "enumerate" p) [a] [] pos) (zk6 X.K ta):=by
 intro pins s σ H R I h
 refine Call_ (zeZ I hg hm zkx (PyProof.Rows.callWith_type1 (thn (ha pos pins s σ H _ I h) fun us s1 hQ'=>?_) (by rw [hs];rfl) rfl))
 obtain ⟨vs,H1,I1,r1,q1⟩:=hQ'
 obtain ⟨p1,rfl,⟨xs,hx⟩,q⟩:=q1
 obtain ⟨u,rfl,ru⟩:=r1.one
 cases ru
 obtain ⟨its,_,pl1,_⟩:=I1.list hx
 have a1:p1<s1.heap.objs.size:=by obtain ⟨_,e,_⟩:=pl1.isList;exact Heap.lt_size e
 refine call_enumerate_list pl1.isList fun h' he hi hsz hk=>?_
 refine wpAny_pyIter_enum he ?_
 refine ⟨_,_,_,_,H1,rfl,I1.kept (t':=s1.toks) hk,zju (Nat.succ_ne_self _) (Nat.ne_of_lt (Nat.lt_succ_of_lt a1)) (Nat.ne_of_lt a1),⟨⟨_,he⟩,hi⟩,fun b hb=>?_,q⟩
 have hb':s1.heap.objs.size≤b:=by
  simp only [List.mem_cons,List.not_mem_nil,or_false] at hb
  rcases hb with h | h <;> rw [h] <;> first | exact Nat.le_refl _ | exact Nat.le_add_right _ _
 exact I1.fpOk hb' (I1.hok.fresh hb')
theorem zhi {K:PySem.W.Frag} {p:Addr} {xs:List V} {g:TG} {tb:TS} {D:zcb} {σ:St} {H:Hp} (Pv:Nat→St→Hp→Prop) (h0:Pv 0 σ H) (hl:∀ i σ H,i≤xs.length→Pv i σ H→SqL K H p xs)
  (hs:∀ i x t σ H,xs[i]?=some x→Pv i σ H→H t=none→g (.ref t) σ (upd H t (.tup [.int (i:Int),x])) fun σ2 H2=>tb { D with nx:=Pv (i+1),ct:=Pv (i+1),bk:=D.nx } σ2 H2) (hd:∀ σ H,Pv xs.length σ H→D.nx σ H):zko (Ite K p) g tb D σ H:=by
 refine ⟨fun i m σ H=>m=xs.length - i∧i≤xs.length∧Pv i σ H,⟨_,rfl,Nat.zero_le _,h0⟩,?_⟩
 rintro i m σ H ⟨rfl,hi,pv⟩
 have hx:=hl i σ H hi pv
 by_cases hlt:i<xs.length
 ·refine .inr ⟨⟨xs,xs[i],hx,by simp [hlt]⟩,Pv (i+1),fun σ' H' p'=>⟨_,by (first|lia|omega),rfl,hlt,p'⟩,fun x H' yl=>?_⟩
  obtain ⟨t,a,rfl,ht,rfl,e1⟩:=yl
  exact hs i a t σ H (e1 xs hx) pv ht
 ·have e:i=xs.length:=by (first|lia|omega)
  subst e
  exact .inl ⟨⟨xs,hx,rfl⟩,hd σ H pv⟩
end L2
namespace L2
open PySem PySem.Spec PyProof.Rows
def zlY (ta:TA):TE:=fun σ H Q=>ta σ H fun vs H1=>∃ j:Int,vs=[.int j]∧-(2 ^ 62)≤j∧j<2 ^ 62∧∀ p,H1 p=none→Q (.ref p) (upd H1 p (.rng 0 j))
def zgv:List V→Hp→VK→Prop:=fun xs H Q=>∃ (p:Addr) (i j:Int),xs=[.ref p]∧H p=some (.rng i j)∧(-(2 ^ 62)≤i∧i<2 ^ 62∧-(2 ^ 62)≤j∧j<2 ^ 62)∧j - i≤1000∧∀ l,H l=none→Q (.ref l) (upd H l (.lst ((List.range (j - i).toNat).map fun k:Nat=>V.int (i+(k:Int)))))
section
variable {X:Cx}
theorem zkS {pins:List (Addr×Obj)} {σ:St} {H:Hp} {s:Shared} {lo hi:Int} {t u v:Tok} {tk:Nat} {Q:VK} (I:Inv X pins σ H s) (q:∀ p,H p=none→Q (.ref p) (upd H p (.rng lo hi))) :
  EP X pins σ Q (.ref s.heap.objs.size) { s with heap:=s.heap.push { cls:=.type "range",data:=.fields #[.int lo t,.int hi u,.int 1 v] },toks:=tk } :=
 ⟨.ref s.heap.objs.size,_,I.laid (a:=s.heap.objs.size) (o:=.rng lo hi) (t':=tk) (fun _ _ q=>Heap.get?_push_of_some _ q) (Nat.le_refl _) (show zb9 X.prog X.w _ _ _ (.rng lo hi) from ⟨t,u,v,Heap.get?_push_size _ rfl⟩),rfl,q _ (I.hok.fresh (Nat.le_refl _))⟩
theorem zlP {a:Expr} {ta:TA} {p pos:Pos} (hg:Gl X "range") (hm:X.mg "range"=none) (ha:PA X [a] ta) (hs:starEach [a] X.env=[(false,eval a X.env)]:=by rfl):PE X (.Call (.Name "range" p) [a] [] pos) (zlY ta):=by
 intro pins s σ H Q I h
 refine Call_ (zeZ I hg hm boot_range (PyProof.Rows.callWith_type1 (thn (ha pos pins s σ H _ I h) fun us s1 hQ'=>?_) hs rfl))
 obtain ⟨vs,H1,I1,r1,q1⟩:=hQ'
 obtain ⟨j,e,q1,q2,q⟩:=q1
 subst e
 cases r1 with
 | cons r rr =>
  cases rr
  obtain ⟨t,rfl⟩:=r
  exact call_range_1 (zkS I1 q)
theorem ziL:∀ {xs:List V} {us:List Value},xs.length=us.length→(∀ (j:Nat) x u,xs[j]?=some x→us[j]?=some u→zbR x u)→zbq xs us
 | [],[],_,_=>.nil
 | [],_::_,h,_=>by simp at h
 | _::_,[],h,_=>by simp at h
 | x::xs,u::us,h,r=>.cons (r 0 x u rfl rfl) (ziL (by simpa using h) fun j y v e1 e2=>r (j+1) y v e1 e2)
theorem zio {lo:Int} {acc:Array Value} {n:Nat} (h:ItemsOf (fun i v=>∃ t,v=.int (lo+i*1) t) acc n):zbq ((List.range n).map fun k:Nat=>V.int (lo+(k:Int))) acc.toList:=by
 refine ziL (by rw [List.length_map,List.length_range,Array.length_toList,h.1]) fun j x u e1 e2=>?_
 rw [List.getElem?_map,Option.map_eq_some_iff] at e1
 obtain ⟨k,hk,rfl⟩:=e1
 obtain ⟨l1,l2⟩:=List.getElem?_eq_some_iff.mp hk
 rw [List.getElem_range] at l2
 subst l2
 obtain ⟨t,rfl⟩:=h.2 j u (by rw [← Array.getElem?_toList];exact e2)
 exact ⟨t,by rw [Int.mul_one]⟩
theorem zgn (hc:X.calm=true):zfp X (.type "list") zgv:=by
 intro pins s σ H xs us Q I r h
 obtain ⟨p,i,j,rfl,hp,⟨h1,h2,h3,h4⟩,hl,q⟩:=h
 obtain ⟨u,rfl,rx⟩:=zjP r
 cases rx
 obtain ⟨t,u,v,e⟩:=(show zb9 X.prog X.w H s.heap p (.rng i j) from I.hok p _ hp)
 refine call_list_range (n:=(j - i).toNat) (I.ok.hd hc) e (small_one h1 h2 h3 h4) (by rw [rangeSize_one];split <;> (first|lia|omega)) (by (first|lia|omega)) fun h' tk acc c' kp e' it=>?_
 exact ⟨.ref s.heap.objs.size,_,I.laid (t':=tk) kp (Nat.le_refl _) (show zb9 X.prog X.w _ h' _ (.lst _) from ⟨by simp [sizeLine_eq];(first|lia|omega),acc.toList,c',zio it,e'⟩),rfl,q _ (I.hok.fresh (Nat.le_refl _))⟩
end
end L2
namespace L2
open PySem PySem.Spec PyProof.Rows
theorem zgR (K:PySem.W.Frag):PySem.W.kitOne K (.type "bool") (.type "int")=some true:=by first | rfl | kernel_rfl
theorem zlh {K:PySem.W.Frag} {H:Hp} {Q:VK} {x:V} {t c:String} {b:Bool} (h:zii K H x (.type t)) (e:PySem.W.kitOne K (.type t) (.type c)=some b) (q:Q (.bl b) H):zj3 K [x,.ty c] H Q:=⟨_,_,_,_,b,rfl,rfl,.of h,e,q⟩
end L2
namespace L2
open PySem PySem.Spec PyProof.Rows
def zds (scope sc:Scope):Scope :=
 { scope with names:=scope.names.map fun (n,k)=>if (k == .free&&sc.kind == .function&&sc.names.lookup n == some .cell) then (n,.cell) else (n,k) }
theorem znP {X:Cx} {Nc:List Str} {scope:Scope} {cl:List (Str×Addr)} {s:Shared} {H:Hp} {fp:List Addr}:(X.blk Nc scope cl s H fp).env.scope=zds scope X.env.scope:=rfl
theorem zfd:∀ (names:List (Str×NameKind)) (n:Addr) (a cl:List (Str×Addr)),cellsFrom n names (a++cl)=cellsFrom n names a++cl
 | [],n,a,cl=>by unfold cellsFrom;rfl
 | (x,k)::r,n,a,cl=>by
  unfold cellsFrom
  split
  ·exact zfd r (n+1) ((x,n)::a) cl
  ·exact zfd r n a cl
theorem zfe:∀ (names:List (Str×NameKind)) (n:Addr) (a:List (Str×Addr)) (x:Str) (c:Addr),(x,c)∈cellsFrom n names a→(x,c)∈a∨(x,NameKind.cell)∈names
 | [],n,a,x,c,h=>by unfold cellsFrom at h;exact .inl h
 | (y,k)::r,n,a,x,c,h=>by
  unfold cellsFrom at h
  split at h
  ·rename_i hk
   rcases zfe r (n+1) ((y,n)::a) x c h with q | q
   ·rcases List.mem_cons.mp q with e | q
    ·cases e
     refine .inr ?_
     have:k=NameKind.cell:=by simpa using hk
     rw [this]
     exact List.mem_cons_self
    ·exact .inl q
   ·exact .inr (List.mem_cons_of_mem _ q)
  ·rcases zfe r n a x c h with q | q
   ·exact .inl q
   ·exact .inr (List.mem_cons_of_mem _ q)
theorem zgI {M:Model} {A:Around} {E:Value→Shared→Prop} {s:Shared} {scope:Scope} {globals:Addr} {cl:List (Str×Addr)} {qual:Str} {outer:Env} {Q:Env→Shared→Prop}
  (hQ:Q (newEnv scope s.heap.objs.size globals (cellsFrom (s.heap.objs.size+1) scope.names []++cl) qual none .none (some outer) builtinsNs) { s with heap:=pushCells (s.heap.push { cls:=.type "dict",data:=.dict #[] }) scope.names }) :
  wpAny M A (newFunctionEnv scope globals cl [] qual none .none (some outer)) Q E s:=by
 simp only [newFunctionEnv,Option.isSome_some,if_true]
 refine wpAny_bind (wpAny_alloc ?_)
 refine wpAny_bind (wpAny_layCells _ (fun name kind cells=>by cases hkc:kind == NameKind.cell <;> simp [hkc]) _ _ _ _ ?_)
 rw [show ({ s with heap:=s.heap.push { cls:=.type "dict",data:=.dict #[] } }:Shared).heap.objs.size=s.heap.objs.size+1 from Heap.size_push ..]
 have e:=zfd scope.names (s.heap.objs.size+1) [] cl
 rw [List.nil_append] at e
 rw [e]
 refine wpAny_bind ?_
 rw [List.forIn_nil]
 exact wpAny_pure (wpAny_pure hQ)
def Cx.blkC (X:Cx) (Nc:List Str) (scope:Scope) (cl:List (Str×Addr)) (s:Shared) (H:Hp) (fp:List Addr):Cx:={ X with
 N:=Nc,s₀:=s,H₀:=H,env:=compEnvC scope (cellsFrom (s.heap.objs.size+1) scope.names []++cl) s.heap.objs.size X.env,outer:=X.stack,stack:=X.stack,ex:=fp,fn:=fun x=>scope.names.lookup x == some .cell,pn:=[],xe:=fun _ _=>False }
theorem zhA {X:Cx} {Nc:List Str} {scope:Scope} {cl:List (Str×Addr)} {s:Shared} {H:Hp} {fp:List Addr}:(X.blkC Nc scope cl s H fp).env.scope=zds scope X.env.scope:=rfl
structure zfE (sc:Scope) (N Nc:List Str) (cap:List (Option Nat)) (scope:Scope):Prop where
 kind:scope.kind=.function
 free:∀ y∈scope.names,y.2=.free→sc.names.lookup y.1=some .cell∨sc.names.lookup y.1=some .free
 once:∀ y∈scope.names,scope.names.lookup y.1=some y.2
 nd:Nc.Nodup
 len:cap.length=Nc.length
 cap:∀ (i:Nat) (y:Str) (j:Nat),Nc[i]?=some y→cap[i]?=some (some j)→N[j]?=some y∧scope.names.lookup y=some .free
def zjn (sc:Scope) (N Nc:List Str) (cap:List (Option Nat)) (scope:Scope):Bool :=
 scope.kind == .function&&scope.names.all (fun y=>scope.names.lookup y.1 == some y.2&&(y.2 != .free || sc.names.lookup y.1 == some .cell || sc.names.lookup y.1 == some .free))&&decide Nc.Nodup&&cap.length == Nc.length
  && (Nc.zip cap).all fun p=>p.2.all fun j=>N[j]? == some p.1&&scope.names.lookup p.1 == some .free
theorem zfE.of {sc:Scope} {N Nc:List Str} {cap:List (Option Nat)} {scope:Scope} (h:zjn sc N Nc cap scope=true):zfE sc N Nc cap scope:=by
 unfold zjn at h
 simp only [Bool.and_eq_true,beq_iff_eq,List.all_eq_true,bne_iff_ne,ne_eq,Bool.or_eq_true,decide_eq_true_eq] at h
 obtain ⟨⟨⟨⟨h1,h2⟩,h3⟩,h4⟩,h5⟩:=h
 refine ⟨h1,fun y hy hf=>?_,fun y hy=>(h2 y hy).1,h3,h4,fun i y j e1 e2=>?_⟩
 ·rcases (h2 y hy).2 with (q | q) | q
  ·exact absurd hf q
  ·exact .inl q
  ·exact .inr q
 ·have m:(y,some j)∈Nc.zip cap:=by
   refine List.mem_of_getElem? (i:=i) ?_
   rw [List.getElem?_zip_eq_some]
   exact ⟨e1,e2⟩
  have z:=h5 _ m
  simpa using z
section
variable {X:Cx} {pins:List (Addr×Obj)} {σ:St} {H:Hp} {s:Shared}
structure zlI (scope:Scope) (cl:List (Str×Addr)) (L:Addr) (h1:Heap):Prop where
 look:∀ x c,(cellsFrom (L+1) scope.names []++cl).lookup x=some c→(L<c∧h1.IsCell c none∧scope.names.lookup x=some .cell∧(cellsFrom (L+1) scope.names []).lookup x=some c)∨(cl.lookup x=some c∧(cellsFrom (L+1) scope.names []).lookup x=none)
 new:∀ x,scope.names.lookup x=some .cell→∃ c,(cellsFrom (L+1) scope.names []++cl).lookup x=some c
 old:∀ x c,scope.names.lookup x=some .free→cl.lookup x=some c→(cellsFrom (L+1) scope.names []++cl).lookup x=some c
 inj:∀ x y c,(cellsFrom (L+1) scope.names []).lookup x=some c→(cellsFrom (L+1) scope.names []).lookup y=some c→x=y
theorem zkW {scope:Scope} {cl:List (Str×Addr)} {h:Heap} (once:∀ y∈scope.names,scope.names.lookup y.1=some y.2):zlI scope cl h.objs.size (pushCells (h.push { cls:=.type "dict",data:=.dict #[] }) scope.names):=by
 have ok:=cellsFrom_ok scope.names (h.push { cls:=.type "dict",data:=.dict #[] }) (h.objs.size+1) [] ⟨fun _ _ hm=>(nomatch hm),List.Pairwise.nil⟩ (by rw [Heap.size_push];exact Nat.le_refl _)
 rw [Heap.size_push] at ok
 have kinds:∀ x c,(cellsFrom (h.objs.size+1) scope.names []).lookup x=some c→scope.names.lookup x=some .cell:=fun x c e=>by
  rcases zfe _ _ _ _ _ (PySem.mem_of_lookup e) with q | q
  ·cases q
  ·exact once _ q
 refine ⟨fun x c e=>?_,fun x e=>?_,fun x c e1 e2=>?_,fun x y c e1 e2=>name_of_addr ok.apart (PySem.mem_of_lookup e1) (PySem.mem_of_lookup e2)⟩
 ·rw [List.lookup_append] at e
  cases q:(cellsFrom (h.objs.size+1) scope.names []).lookup x with
  | none=>rw [q] at e;exact .inr ⟨e,rfl⟩
  | some d =>
   rw [q] at e
   cases e
   obtain ⟨o1,o2⟩:=ok.empty x c (PySem.mem_of_lookup q)
   exact .inl ⟨o2,o1,kinds x c q,rfl⟩
 ·obtain ⟨c,q⟩:=zeO (n:=h.objs.size+1) e
  exact ⟨c,by rw [List.lookup_append,q];rfl⟩
 ·rw [List.lookup_append]
  cases q:(cellsFrom (h.objs.size+1) scope.names []).lookup x with
  | none=>exact e2
  | some d =>
   have:=kinds x d q
   rw [e1] at this
   cases this
theorem zke {Nc:List Str} {cap:List (Option Nat)} {scope:Scope} {cl:List (Str×Addr)} {fp:List Addr} {h1:Heap} {tk:Nat} {m1:Str→Option Value} (I:Inv X pins σ H s) (B:zfE X.env.scope X.N Nc cap scope)
  (hsub:∀ x c,cl.lookup x=some c→X.env.cells.lookup x=some c) (hfr:∀ y∈scope.names,y.2=.free→∃ c,cl.lookup y.1=some c) (hf:∀ b∈fp,zeH X pins H b) (hin:∀ b∈fp,b<s.heap.objs.size)
  (hk:∀ b o,s.heap.get? b=some o→h1.get? b=some o) (hn:h1.Ns s.heap.objs.size m1) (C:zlI scope cl s.heap.objs.size h1):Inv (X.blkC Nc scope cl s H fp) [] (zk5 cap σ) H { s with heap:=h1,toks:=tk }:=by
 have ok:=I.ok
 have bsz:X.base.objs.size≤s.heap.objs.size:=Nat.le_trans ok.bsz I.sz
 have oldlt:∀ x c,cl.lookup x=some c→c<s.heap.objs.size:=fun x c e=>by
  obtain ⟨v,q⟩:=I.cell x c (hsub x c e)
  exact q.lt
 refine ⟨⟨ok.mod,B.kind,ok.glob,ok.blt,Nat.le_refl _,fun x y c h1 h2=>?_,fun x hx=>?_,fun x c z e=>?_,ok.hd,ok.frames,.inl rfl,fun b hb=>⟨Nat.ne_of_lt (hin b hb),fun x c e=>?_⟩,
  I.bs,bsz,fun b o e hb=>?_,fun b hb z=>?_,I.stack,I.stkFree⟩,rfl,I.bare,Un.kept hk,⟨m1,hn,fun i y v e1 e2 e3=>?_⟩,fun x c e=>?_,I.hok.fresh (Nat.le_refl _),fun x c e=>?_,(by intro p hp;cases hp),I.hok.kept hk,?_⟩
 ·rcases C.look x c h1 with ⟨a1,_,_,a4⟩ | ⟨a,_⟩ <;> rcases C.look y c h2 with ⟨b1,_,_,b4⟩ | ⟨b,_⟩
  ·exact C.inj x y c a4 b4
  ·exact absurd (Nat.lt_trans a1 (oldlt y c b)) (Nat.lt_irrefl _)
  ·exact absurd (Nat.lt_trans b1 (oldlt x c a)) (Nat.lt_irrefl _)
  ·exact ok.inj x y c (hsub x c a) (hsub y c b)
 ·have fr:∀ x,scope.names.lookup x=some .free→∃ c,(cellsFrom (s.heap.objs.size+1) scope.names []++cl).lookup x=some c:=fun x q=>by
   obtain ⟨c,e⟩:=hfr (x,.free) (PySem.mem_of_lookup q) rfl
   exact ⟨c,C.old x c q e⟩
  have look:∀ k,(relabel scope X.env).names.lookup x=some k→k=.cell∨k=.free→∃ c,(cellsFrom (s.heap.objs.size+1) scope.names []++cl).lookup x=some c:=fun k q hk=>by
   rcases zbD q with ⟨n1,n2⟩ | ⟨_,n2 | n2⟩
   ·rcases hk with r | r
    ·exact absurd r n1
    ·rw [r] at n2
     exact fr x n2
   ·exact C.new x n2
   ·exact fr x n2
  rcases hx with q | q
  ·exact look _ q (.inl rfl)
  ·exact look _ q (.inr rfl)
 ·obtain ⟨c3,q3⟩:=zeO (n:=s.heap.objs.size+1) (show scope.names.lookup x=some .cell from beq_iff_eq.mp z)
  rcases C.look x c e with ⟨a1,_⟩ | ⟨_,b⟩
  ·exact Nat.le_of_lt a1
  ·rw [q3] at b
   cases b
 ·rcases C.look x c e with ⟨a1,_⟩ | ⟨a,_⟩
  ·exact Nat.ne_of_gt (Nat.lt_trans (hin b hb) a1)
  ·exact (hf b hb).2.2.2.2.1 x c (hsub x c a)
 ·rcases (hf b hb).2.2.2.1 with q | q
  ·exact ok.noex b o e q
  ·exact absurd (Nat.lt_of_lt_of_le (Heap.lt_size e) (Nat.le_trans ok.bsz q)) (Nat.lt_irrefl _)
 ·rcases List.mem_cons.mp (I.stkSub b z) with q | q
  ·exact (hf b hb).2.1 q
  ·exact (hf b hb).2.2.1 q
 ·have e2':(cap[i]?).map (fun o=>o.bind fun j=>(σ[j]?).join)=some (some v):=by rw [← List.getElem?_map];exact e2
  obtain ⟨o,ho,eo⟩:=Option.map_eq_some_iff.mp e2'
  obtain ⟨j,rfl,ej⟩:=Option.bind_eq_some_iff.mp eo
  have ej':σ[j]?=some (some v):=by
   cases q:σ[j]? with
   | none=>rw [q] at ej;cases ej
   | some z=>rw [q] at ej;cases ej;rfl
  obtain ⟨c1,c2⟩:=B.cap i y j e1 ho
  have vis:=B.free (y,.free) (PySem.mem_of_lookup c2) rfl
  obtain ⟨m,_,hl⟩:=I.loc
  obtain ⟨u,r,lk⟩:=hl j y v c1 ej' (.inr vis)
  obtain ⟨c',ec⟩:=hfr (y,.free) (PySem.mem_of_lookup c2) rfl
  have ec2:=hsub _ _ ec
  rcases lk with ⟨kl,_⟩ | ⟨_,c,e,z⟩
  ·have kl':X.env.scope.names.lookup y=some .local:=kl
   rcases vis with q | q
   ·have q':X.env.scope.names.lookup y=some .cell:=q
    rw [kl'] at q';cases q'
   ·have q':X.env.scope.names.lookup y=some .free:=q
    rw [kl'] at q';cases q'
  ·have ecc:X.env.cells.lookup y=some c':=ec2
   rw [e] at ecc
   cases ecc
   refine ⟨u,r,.inr ⟨?_,_,C.old y _ c2 ec,?_⟩⟩
   ·rcases e3 with q | q | q
    ·rcases zbD q with ⟨_,n2⟩ | ⟨n1,_⟩
     ·rw [c2] at n2;cases n2
     ·cases n1
    ·exact .inl q
    ·exact .inr q
   ·obtain ⟨o,ho,hd⟩:=z
    exact ⟨o,hk _ _ ho,hd⟩
 ·rcases C.look x c e with ⟨_,a2,_⟩ | ⟨a,_⟩
  ·exact ⟨none,a2⟩
  ·obtain ⟨v,o,ho,hd⟩:=I.cell x c (hsub x c a)
   exact ⟨v,o,hk _ _ ho,hd⟩
 ·rcases C.look x c e with ⟨a1,_⟩ | ⟨a,_⟩
  ·exact I.hok.fresh (Nat.le_of_lt a1)
  ·exact I.freeC x c (hsub x c a)
 ·show (zk5 cap σ).length=Nc.length
  rw [zk5,List.length_map,B.len]
theorem zh1 {Nc:List Str} {scope:Scope} {cl:List (Str×Addr)} {fp:List Addr} {σc:St} {Hc:Hp} {s':Shared} {h':Heap} (I:Inv X pins σ H s) (hf:∀ b∈fp,zeH X pins H b) (J:Inv (X.blkC Nc scope cl s H fp) [] σc Hc s')
  (hs:Heap.SameBut s.heap.objs.size s'.heap h'):Inv X pins σ Hc { s' with heap:=h' }:=by
 have ne:∀ b o,s.heap.get? b=some o→b≠s.heap.objs.size:=fun b o e=>Nat.ne_of_lt (Heap.lt_size e)
 have u:=J.base
 refine I.call' (ch:=fp) J.os ⟨fun b o e n hb hx=>(hs.2 b (ne b o e)).trans (u.keep b o e n hb hx),fun b o e n hb hx=>?_,u.free,fun b o e hx=>?_,u.tups,u.frzs,u.tbls⟩ (fun b ob e=>?_) J.bare fun b hb=>⟨(hf b hb).2.2.2.1,(hf b hb).2.1,(hf b hb).2.2.2.2.1,(hf b hb).2.2.2.2.2⟩
 ·obtain ⟨sl,q⟩:=u.slot b o e n hb hx
  exact ⟨sl,(hs.2 b (ne b o e)).trans q⟩
 ·obtain ⟨o',q⟩:=u.there b o e hx
  exact ⟨o',(hs.2 b (ne b o e)).trans q⟩
 ·have hC:Hc s.heap.objs.size=none:=J.free
  refine (J.hok b ob e).stay (fun c w' hc q=>(hs.2 c ?_).trans q) (fun _ q=>q) fun _ _ q=>q
  rintro rfl
  rcases hc with z | hc
  ·rw [← z,hC] at e;cases e
  ·rw [hC] at hc;cases hc
end
theorem zfF {X:Cx} {pins:List (Addr×Obj)} {s:Shared} {σ:St} {H:Hp} {Q:VK} {sc:Scope} {N Nc:List Str} {cap:List (Option Nat)} {elt tg iter:Expr} {ifs:List Expr} {scope:Scope} {pos pos':Pos} {wi:TI} {g:TG} {tt:TT} {te:TE} {use:Option (Value→Sem Unit)} {QQ:Value→Shared→Prop}
  (hc:X.calm=true) (hsc:X.env.scope=sc) (hN:X.N=N) (B:zfE sc N Nc cap scope) (hi:PI X tg iter wi)
  (hg:∀ cl s H fp,PG (X.blkC Nc scope cl s H fp) tg g) (ht:∀ cl s H fp,PTs (X.blkC Nc scope cl s H fp) ifs tt) (he:∀ cl s H fp,PE (X.blkC Nc scope cl s H fp) elt te)
  (hs:∀ x,foldedSetIterable iter X.env x=pure x) (I:Inv X pins σ H s) (h:za5 wi g tt te cap σ H Q)
  (fin:∀ (s3:Shared) (H3:Hp) (cl:List (Str×Addr)) (fp:List Addr) (D:Addr) (σc:St) (Hc:Hp) (s6:Shared),Inv X pins σ H3 s3→(∀ b∈fp,zeH X pins H3 b)→Inv (X.blkC Nc scope cl s3 H3 fp) [] σc Hc s6→Q (.ref D) Hc→compPost (model X.prog X.w) X.A X.xe use QQ (.ref D) s3.heap.objs.size (.ok .next) s6) :
  wpAny (model X.prog X.w) X.A (comprehension (.ListComp elt [⟨tg,iter,ifs,0⟩] scope pos) scope X.env pos' (newList []) false (eval iter X.env) use) QQ X.xe s:=by
 subst hsc hN
 obtain ⟨cl,hclos,hsub,hfr⟩:=zfB (scope:=scope) (env:=X.env) fun y hy hf=>I.ok.has y.1 (B.free y hy hf)
 refine wpAny_comprehension_free (use:=use) rfl hs hclos B.kind (fun y hy hl=>by rw [B.once y hy,hl]) (thn (hi pins s σ H _ I h) fun v s1 h1=>thn h1 fun itv s2 h2=>?_)
 obtain ⟨it,fp,tn,J,H2,rfl,I2,T,st2,f2,hw⟩:=h2
 refine wpAny_newObj_type ?_
 have hfree:H2 s2.heap.objs.size=none:=I2.hok.fresh (Nat.le_refl _)
 have I3:=I2.laid (t':=s2.toks) (o:=.lst []) (fun b u e=>Heap.get?_push_of_some { cls:=.type "list",dict:=none,data:=.seq ([]:List Value).toArray } e) (Nat.le_refl _) ⟨by decide,[],0,.nil,Heap.get?_push_size _ rfl⟩
 obtain ⟨W,⟨m0,w0⟩,turn⟩:=hw _ hfree
 have keep23:∀ b o,s2.heap.get? b=some o→(s2.heap.push { cls:=.type "list",dict:=none,data:=.seq ([]:List Value).toArray }).get? b=some o:=fun b o e=>Heap.get?_push_of_some _ e
 have hin:∀ b∈fp,b<s2.heap.objs.size:=fun b hb=>let ⟨o,e,_⟩:=T.obj 0 _ st2 b hb;Heap.lt_size e
 have f3:∀ b∈fp,zeH X pins (upd H2 s2.heap.objs.size (.lst [])) b:=fun b hb=>⟨by rw [zak (Nat.ne_of_lt (hin b hb))];exact (f2 b hb).1,(f2 b hb).2⟩
 have st3:=T.keep 0 _ _ st2 fun b _ o e=>keep23 b o e
 have hin3:∀ b∈fp,b<(s2.heap.push { cls:=.type "list",dict:=none,data:=.seq ([]:List Value).toArray }).objs.size:=fun b hb=>let ⟨o,e,_⟩:=T.obj 0 _ st3 b hb;Heap.lt_size e
 clear keep23 hin
 generalize s2.heap.push { cls:=.type "list",dict:=none,data:=.seq ([]:List Value).toArray }=h3 at I3 st3 hin3 ⊢
 generalize upd H2 s2.heap.objs.size (.lst [])=H3 at I3 f3 w0
 generalize s2.heap.objs.size=D at hfree w0 turn ⊢
 refine zgI ?_
 have Cc:=zkW (scope:=scope) (cl:=cl) (h:=h3) B.once
 have keep:∀ b o,h3.get? b=some o→(pushCells (h3.push { cls:=.type "dict",data:=.dict #[] }) scope.names).get? b=some o:=fun b o e=>pushCells_keeps _ _ b o (Heap.get?_push_of_some _ e)
 have hns:(pushCells (h3.push { cls:=.type "dict",data:=.dict #[] }) scope.names).Ns h3.objs.size fun _=>none:=(Heap.Ns.new h3 (.type "dict")).keeps (pushCells_keeps _ _)
 dsimp only
 generalize pushCells (h3.push { cls:=.type "dict",data:=.dict #[] }) scope.names=h1 at Cc keep hns ⊢
 have I4:=zke (tk:=s2.toks) I3 B hsub hfr f3 hin3 keep hns Cc
 have st4:=T.keep 0 _ _ st3 fun b _ o e=>keep b o e
 have stat:∀ {H':Hp},(∀ b∈fp,H' b=none)→∀ b∈fp,zeH (X.blkC Nc scope cl { s2 with heap:=h3,toks:=s2.toks } H3 fp) [] H' b:=fun hn b hb =>
  ⟨hn b hb,Nat.ne_of_lt (hin3 b hb),fun z=>by
   rcases List.mem_cons.mp (I3.stkSub b z) with q | q
   ·exact (f3 b hb).2.1 q
   ·exact (f3 b hb).2.2.1 q,.inl hb,fun x c e=>by
   rcases Cc.look x c e with ⟨a1,_⟩ | ⟨a,_⟩
   ·exact Nat.ne_of_gt (Nat.lt_trans (hin3 b hb) a1)
   ·exact (f3 b hb).2.2.2.2.1 x c (hsub x c a),by intro p hp;cases hp⟩
 have hcb:(X.blkC Nc scope cl { s2 with heap:=h3,toks:=s2.toks } H3 fp).calm=true:=hc
 have loop:codeAny (model X.prog X.w) X.A (.compLoop (.ListComp elt [⟨tg,iter,ifs,0⟩] scope pos) 0 (.ref it) (.ref D) (compEnvC scope (cellsFrom (h3.objs.size+1) scope.names []++cl) h3.objs.size X.env)) (compPost (model X.prog X.w) X.A X.xe use QQ (.ref D) h3.objs.size) { s2 with heap:=h1,toks:=s2.toks }:=by
  refine zez (fun n s'=>∃ i σ' H',Inv (X.blkC Nc scope cl { s2 with heap:=h3,toks:=s2.toks } H3 fp) [] σ' H' s'∧tn i s'.heap∧(∀ b∈fp,H' b=none)∧W i n σ' H') rfl ?_ m0 ⟨0,_,H3,I4,st4,fun b hb=>(f3 b hb).1,w0⟩
  rintro n s5 ⟨i,σ5,H5,I5,st5,fr5,w5⟩
  rcases turn i n σ5 H5 w5 with ⟨stop,qn⟩ | ⟨go,N',hN',step⟩
  ·refine thn (T.done (X.blkC Nc scope cl { s2 with heap:=h3,toks:=s2.toks } H3 fp) rfl rfl rfl hcb i [] s5 σ5 H5 _ I5 (stat fr5) st5 stop) fun r s6 hQ'=>?_
   obtain ⟨hr,I6⟩:=hQ'
   subst hr
   exact fin { s2 with heap:=h3,toks:=s2.toks } H3 cl fp D σ5 H5 s6 I3 f3 I6 qn
  ·refine thn (T.item (X.blkC Nc scope cl { s2 with heap:=h3,toks:=s2.toks } H3 fp) rfl rfl rfl hcb i [] s5 σ5 H5 _ I5 (stat fr5) st5 go) fun r s6 hQ'=>?_
   obtain ⟨u,hr,h6⟩:=hQ'
   subst hr
   refine thn h6 fun _ s7 hQ'=>?_
   obtain ⟨x,H7,I7,r7,y7,st7,fr7⟩:=hQ'
   have I7':=I7.pinned (stat fr7) (T.obj _ _ st7)
   refine wpAny_mono (hg cl _ H3 fp _ s7 σ5 H7 x u _ I7' r7 (step x H7 y7)) (fun _ s8 hQ'=>?_) fun _ _ z=>z.elim
   obtain ⟨σ8,H8,I8,q8⟩:=hQ'
   have again:∀ {H9:Hp} {s9:Shared} {m:Nat},Inv (X.blkC Nc scope cl { s2 with heap:=h3,toks:=s2.toks } H3 fp) ([]++zfw fp s7.heap) σ8 H9 s9→m<n→W (i+1) m σ8 H9→∃ m,m<n∧∃ i σ' H',Inv (X.blkC Nc scope cl { s2 with heap:=h3,toks:=s2.toks } H3 fp) [] σ' H' s9∧tn i s9.heap∧(∀ b∈fp,H' b=none)∧W i m σ' H':=fun {H9 s9 m} I9 hm w9=>by
    refine ⟨m,hm,i+1,σ8,H9,I9.unpinned,T.keep _ _ _ st7 fun b hb o e=>(I9.pin (b,o) (List.mem_append_right _ (List.mem_append_right _ (zcs hb e)))).1,fun b hb=>?_,w9⟩
    obtain ⟨o,e,d⟩:=T.obj _ _ st7 b hb
    exact (I9.pin (b,o) (List.mem_append_right _ (List.mem_append_right _ (zcs hb e)))).2.1
   refine wpAny_mono (ht cl _ H3 fp _ s8 σ8 H8 _ I8 q8) (fun b s9 hQ'=>?_) fun _ _ z=>z.elim
   obtain ⟨H9,I9,q9⟩:=hQ'
   cases b with
   | false =>
    rw [if_neg (by decide)] at q9
    obtain ⟨m',hm,w9⟩:=hN' _ _ q9
    exact again I9 hm w9
   | true =>
    rw [if_pos rfl] at q9
    refine wpAny_mono (he cl _ H3 fp _ s9 σ8 H9 _ I9 q9) (fun u s10 hQ'=>?_) fun _ _ z=>z.elim
    obtain ⟨y,H10,I10,r10,q10⟩:=hQ'
    refine wpAny_mono (ze2 (X:=X.blkC Nc scope cl { s2 with heap:=h3,toks:=s2.toks } H3 fp) _ s10 σ8 H10 (.ref D) [y] (.ref D) [u] _ I10 rfl (.cons r10 .nil) q10) (fun _ s11 hQ'=>?_) fun _ _ z=>z.elim
    obtain ⟨_,H11,I11,_,q11⟩:=hQ'
    obtain ⟨m',hm,w11⟩:=hN' _ _ q11
    exact again I11 hm w11
 exact codeAny_compStart_list loop (T.self _ 0 _ _ _ st4 loop)
theorem zhY {X:Cx} {sc:Scope} {N Nc:List Str} {cap:List (Option Nat)} {elt tg iter:Expr} {ifs:List Expr} {scope:Scope} {pos:Pos} {wi:TI} {g:TG} {tt:TT} {te:TE} (hc:X.calm=true) (hsc:X.env.scope=sc) (hN:X.N=N) (B:zfE sc N Nc cap scope) (hi:PI X tg iter wi)
  (hg:∀ cl s H fp,PG (X.blkC Nc scope cl s H fp) tg g) (ht:∀ cl s H fp,PTs (X.blkC Nc scope cl s H fp) ifs tt) (he:∀ cl s H fp,PE (X.blkC Nc scope cl s H fp) elt te)
  (hs:∀ x,foldedSetIterable iter X.env x=pure x:=by intro _;rfl):PE X (.ListComp elt [⟨tg,iter,ifs,0⟩] scope pos) (za5 wi g tt te cap):=by
 intro pins s σ H Q I h
 rw [eval_ListComp]
 refine zfF hc hsc hN B hi hg ht he hs I h fun s3 H3 cl fp D σc Hc s6 I3 f3 I6 q=>?_
 obtain ⟨m,hn,_⟩:=id I6.loc
 exact ⟨m,hn,fun h' hs'=>⟨.ref D,Hc,zh1 I3 f3 I6 hs',rfl,q⟩⟩
theorem zhj {X:Cx} {i:Nat} {y:Str} {py spos:Pos} {sc:Scope} {N Nc:List Str} {cap:List (Option Nat)} {elt tg iter:Expr} {ifs:List Expr} {scope:Scope} {pos:Pos} {wi:TI} {g:TG} {tt:TT} {te:TE} (hnd:X.N.Nodup) (hix:X.N[i]?=some y) (hl:X.env.scope.names.lookup y=some .local)
  (hc:X.calm=true) (hsc:X.env.scope=sc) (hN:X.N=N) (B:zfE sc N Nc cap scope) (hi:PI X tg iter wi)
  (hg:∀ cl s H fp,PG (X.blkC Nc scope cl s H fp) tg g) (ht:∀ cl s H fp,PTs (X.blkC Nc scope cl s H fp) ifs tt) (he:∀ cl s H fp,PE (X.blkC Nc scope cl s H fp) elt te)
  (hsw:swapsWith (.ListComp elt [⟨tg,iter,ifs,0⟩] scope pos) (some (.Name y py)) spos.line X.env=pure true:=by rfl)
  (hs:∀ x,foldedSetIterable iter X.env x=pure x:=by intro _;rfl):PS X (.Assign [.Name y py] (.ListComp elt [⟨tg,iter,ifs,0⟩] scope pos) spos) (zaU (za5 wi g tt te cap) (zai i)):=by
 intro pins s σ H D0 I h
 rw [exec_Assign_Name_used _ _ _ _ hsw]
 refine wpAny_bind (wpAny_standAt (wpAny_bind (wpAny_bind (thn (zfF (use:=some (assign (.Name y py) X.env)) (QQ:=fun _ s'=>SP X pins D0 .next s') hc hsc hN B hi hg ht he hs I h fun s3 H3 cl fp D σc Hc s6 I3 f3 I6 q=>?_) fun _ s' hq=>wpAny_pure (wpAny_pure hq)))))
 have I6x:Inv X pins σ Hc s6:=zh1 I3 f3 I6 (Heap.SameBut.refl ..)
 obtain ⟨m,hn,_⟩:=id I6.loc
 have hC:Hc s3.heap.objs.size=none:=I6.free
 have fpC:=I3.fpOk (b:=s3.heap.objs.size) (Nat.le_refl _) hC
 refine wpAny_assign_Name (zeV I6x hnd hix (.inl hl) (v:=.ref D) rfl (fun s7 I7 ch=>?_) (.inr hl))
 obtain ⟨a,same,ha⟩:=ch
 have nC:s3.heap.objs.size≠a:=by
  rcases ha with r | r
  ·rw [r];exact fpC.2.1
  ·exact (fpC.2.2.2.2.1 _ _ r).symm
 refine ⟨m,hn.sameBut same nC,fun h' hs'=>⟨_,_,I7.turns (t':=s7.toks) (ch:=[s3.heap.objs.size]) (fun b o hb e=>(hs'.2 b (by simpa using hb)).trans e) fun b hb=>?_,q⟩⟩
 have e:b=s3.heap.objs.size:=by simpa using hb
 rw [e]
 exact fpC
end L2
namespace L2
open PySem
theorem zmO {v:V} {σ:List (Option V)} {H:Hp} {Q:VK}:zab 0 (some v::σ) H Q=Q v H:=by simp [zab]
theorem zmX {x0:Option V} {v:V} {σ:List (Option V)} {H:Hp} {Q:VK}:zab 1 (x0::some v::σ) H Q=Q v H:=by simp [zab]
theorem zlU {x0 x1:Option V} {v:V} {σ:List (Option V)} {H:Hp} {Q:VK}:zab 2 (x0::x1::some v::σ) H Q=Q v H:=by simp [zab]
theorem zl1 {x0 x1 x2:Option V} {v:V} {σ:List (Option V)} {H:Hp} {Q:VK}:zab 3 (x0::x1::x2::some v::σ) H Q=Q v H:=by simp [zab]
theorem zmd {x0 x1 x2 x3:Option V} {v:V} {σ:List (Option V)} {H:Hp} {Q:VK}:zab 4 (x0::x1::x2::x3::some v::σ) H Q=Q v H:=by simp [zab]
theorem zlV {x0 x1 x2 x3 x4:Option V} {v:V} {σ:List (Option V)} {H:Hp} {Q:VK}:zab 5 (x0::x1::x2::x3::x4::some v::σ) H Q=Q v H:=by simp [zab]
theorem zmc {x0 x1 x2 x3 x4 x5:Option V} {v:V} {σ:List (Option V)} {H:Hp} {Q:VK}:zab 6 (x0::x1::x2::x3::x4::x5::some v::σ) H Q=Q v H:=by simp [zab]
theorem zlZ {x0 x1 x2 x3 x4 x5 x6:Option V} {v:V} {σ:List (Option V)} {H:Hp} {Q:VK}:zab 7 (x0::x1::x2::x3::x4::x5::x6::some v::σ) H Q=Q v H:=by simp [zab]
theorem zmb {x0 x1 x2 x3 x4 x5 x6 x7:Option V} {v:V} {σ:List (Option V)} {H:Hp} {Q:VK}:zab 8 (x0::x1::x2::x3::x4::x5::x6::x7::some v::σ) H Q=Q v H:=by simp [zab]
theorem zkM {x0 x1 x2 x3 x4 x5 x6 x7 x8 x9:Option V} {v:V} {σ:List (Option V)} {H:Hp} {Q:VK}:zab 10 (x0::x1::x2::x3::x4::x5::x6::x7::x8::x9::some v::σ) H Q=Q v H:=by simp [zab]
theorem zk2 {x0 x1 x2 x3 x4 x5 x6 x7 x8 x9 x10:Option V} {v:V} {σ:List (Option V)} {H:Hp} {Q:VK}:zab 11 (x0::x1::x2::x3::x4::x5::x6::x7::x8::x9::x10::some v::σ) H Q=Q v H:=by simp [zab]
theorem zkj {x0 x1 x2 x3 x4 x5 x6 x7 x8 x9 x10 x11:Option V} {v:V} {σ:List (Option V)} {H:Hp} {Q:VK}:zab 12 (x0::x1::x2::x3::x4::x5::x6::x7::x8::x9::x10::x11::some v::σ) H Q=Q v H:=by simp [zab]
theorem zkA {x0 x1 x2 x3 x4 x5 x6 x7 x8 x9 x10 x11 x12:Option V} {v:V} {σ:List (Option V)} {H:Hp} {Q:VK}:zab 13 (x0::x1::x2::x3::x4::x5::x6::x7::x8::x9::x10::x11::x12::some v::σ) H Q=Q v H:=by simp [zab]
theorem zla {x0 x1 x2 x3 x4 x5 x6 x7 x8 x9 x10 x11 x12 x13:Option V} {v:V} {σ:List (Option V)} {H:Hp} {Q:VK}:zab 14 (x0::x1::x2::x3::x4::x5::x6::x7::x8::x9::x10::x11::x12::x13::some v::σ) H Q=Q v H:=by simp [zab]
theorem zku {x0:Option V} {v:V} {σ:List (Option V)} {H:Hp} {Q:St→Hp→Prop}:zai 0 v (x0::σ) H Q=Q (some v::σ) H:=rfl
theorem zkX {x0 x1:Option V} {v:V} {σ:List (Option V)} {H:Hp} {Q:St→Hp→Prop}:zai 1 v (x0::x1::σ) H Q=Q (x0::some v::σ) H:=rfl
theorem zkz {x0 x1 x2:Option V} {v:V} {σ:List (Option V)} {H:Hp} {Q:St→Hp→Prop}:zai 2 v (x0::x1::x2::σ) H Q=Q (x0::x1::some v::σ) H:=rfl
theorem zlb {x0 x1 x2 x3:Option V} {v:V} {σ:List (Option V)} {H:Hp} {Q:St→Hp→Prop}:zai 3 v (x0::x1::x2::x3::σ) H Q=Q (x0::x1::x2::some v::σ) H:=rfl
theorem zkG {x0 x1 x2 x3 x4:Option V} {v:V} {σ:List (Option V)} {H:Hp} {Q:St→Hp→Prop}:zai 4 v (x0::x1::x2::x3::x4::σ) H Q=Q (x0::x1::x2::x3::some v::σ) H:=rfl
theorem zkY {x0 x1 x2 x3 x4 x5:Option V} {v:V} {σ:List (Option V)} {H:Hp} {Q:St→Hp→Prop}:zai 5 v (x0::x1::x2::x3::x4::x5::σ) H Q=Q (x0::x1::x2::x3::x4::some v::σ) H:=rfl
theorem zkh {x0 x1 x2 x3 x4 x5 x6:Option V} {v:V} {σ:List (Option V)} {H:Hp} {Q:St→Hp→Prop}:zai 6 v (x0::x1::x2::x3::x4::x5::x6::σ) H Q=Q (x0::x1::x2::x3::x4::x5::some v::σ) H:=rfl
theorem zkQ {x0 x1 x2 x3 x4 x5 x6 x7:Option V} {v:V} {σ:List (Option V)} {H:Hp} {Q:St→Hp→Prop}:zai 7 v (x0::x1::x2::x3::x4::x5::x6::x7::σ) H Q=Q (x0::x1::x2::x3::x4::x5::x6::some v::σ) H:=rfl
theorem zkH {x0 x1 x2 x3 x4 x5 x6 x7 x8:Option V} {v:V} {σ:List (Option V)} {H:Hp} {Q:St→Hp→Prop}:zai 8 v (x0::x1::x2::x3::x4::x5::x6::x7::x8::σ) H Q=Q (x0::x1::x2::x3::x4::x5::x6::x7::some v::σ) H:=rfl
theorem zkN {x0 x1 x2 x3 x4 x5 x6 x7 x8 x9:Option V} {v:V} {σ:List (Option V)} {H:Hp} {Q:St→Hp→Prop}:zai 9 v (x0::x1::x2::x3::x4::x5::x6::x7::x8::x9::σ) H Q=Q (x0::x1::x2::x3::x4::x5::x6::x7::x8::some v::σ) H:=rfl
theorem zjM {x0 x1 x2 x3 x4 x5 x6 x7 x8 x9 x10:Option V} {v:V} {σ:List (Option V)} {H:Hp} {Q:St→Hp→Prop}:zai 10 v (x0::x1::x2::x3::x4::x5::x6::x7::x8::x9::x10::σ) H Q=Q (x0::x1::x2::x3::x4::x5::x6::x7::x8::x9::some v::σ) H:=rfl
theorem ziT {x0 x1 x2 x3 x4 x5 x6 x7 x8 x9 x10 x11:Option V} {v:V} {σ:List (Option V)} {H:Hp} {Q:St→Hp→Prop}:zai 11 v (x0::x1::x2::x3::x4::x5::x6::x7::x8::x9::x10::x11::σ) H Q=Q (x0::x1::x2::x3::x4::x5::x6::x7::x8::x9::x10::some v::σ) H:=rfl
theorem zi9 {x0 x1 x2 x3 x4 x5 x6 x7 x8 x9 x10 x11 x12:Option V} {v:V} {σ:List (Option V)} {H:Hp} {Q:St→Hp→Prop}:zai 12 v (x0::x1::x2::x3::x4::x5::x6::x7::x8::x9::x10::x11::x12::σ) H Q=Q (x0::x1::x2::x3::x4::x5::x6::x7::x8::x9::x10::x11::some v::σ) H:=rfl
theorem zjt {x0 x1 x2 x3 x4 x5 x6 x7 x8 x9 x10 x11 x12 x13:Option V} {v:V} {σ:List (Option V)} {H:Hp} {Q:St→Hp→Prop}:zai 13 v (x0::x1::x2::x3::x4::x5::x6::x7::x8::x9::x10::x11::x12::x13::σ) H Q=Q (x0::x1::x2::x3::x4::x5::x6::x7::x8::x9::x10::x11::x12::some v::σ) H:=rfl
theorem zjE {x0 x1 x2 x3 x4 x5 x6 x7 x8 x9 x10 x11 x12 x13 x14:Option V} {v:V} {σ:List (Option V)} {H:Hp} {Q:St→Hp→Prop}:zai 14 v (x0::x1::x2::x3::x4::x5::x6::x7::x8::x9::x10::x11::x12::x13::x14::σ) H Q=Q (x0::x1::x2::x3::x4::x5::x6::x7::x8::x9::x10::x11::x12::x13::some v::σ) H:=rfl
theorem zj0 {x0 x1 x2 x3 x4 x5 x6 x7 x8 x9 x10 x11 x12 x13 x14 x15:Option V} {v:V} {σ:List (Option V)} {H:Hp} {Q:St→Hp→Prop}:zai 15 v (x0::x1::x2::x3::x4::x5::x6::x7::x8::x9::x10::x11::x12::x13::x14::x15::σ) H Q=Q (x0::x1::x2::x3::x4::x5::x6::x7::x8::x9::x10::x11::x12::x13::x14::some v::σ) H:=rfl
theorem rI_c {C:Int→Int→Prop} {g:Int→Int→V} {a b:Int} {H:Hp} {Q:VK}:rI C g (.int a) (.int b) H Q=(C a b∧Q (g a b) H):=by simp [rI]
theorem rI0_c {g:Int→Int→V} {a b:Int} {H:Hp} {Q:VK}:rI0 g (.int a) (.int b) H Q=Q (g a b) H:=by simp [rI0]
theorem zns {K:PySem.W.Frag} {p:Addr} {i:Int} {H:Hp} {Q:VK}:za2 K (.ref p) (.int i) H Q=∃ xs,SqL K H p xs∧∃ v,atI xs i=some v∧Q v H:=by simp [za2]
theorem znL {K:PySem.W.Frag} {p:Addr} {i:Int} {H:Hp} {Q:VK}:zdJ K (.ref p) (.int i) H Q=∃ xs,SqT K H p xs∧∃ v,atI xs i=some v∧Q v H:=by simp [zdJ]
theorem ex_bl {c:Bool} {Q:Bool→Prop}:(∃ k,V.bl c=V.bl k∧Q k)=Q c:=by simp
theorem znU {c:Int} {Q:Int→Prop}:(∃ k,V.int c=V.int k∧Q k)=Q c:=by simp
theorem zn3 {c:Addr} {Q:Addr→Prop}:(∃ k,V.ref c=V.ref k∧Q k)=Q c:=by simp
theorem znS {c:Int} {Q:Int→Prop}:(∃ k,[V.int c]=[V.int k]∧Q k)=Q c:=by simp
theorem zn6 {c:Addr} {Q:Addr→Prop}:(∃ k,[V.ref c]=[V.ref k]∧Q k)=Q c:=by simp
end L2
namespace Att
open PySem PySem.W PySem.Calls PyProof.Rows
theorem zeT {x:Int}:∀ {ns:List Int},x∈ns→WData.weight (.int x)≤WData.weightAll (ns.map WData.int)
 | [],h=>absurd h (List.not_mem_nil)
 | y::ns,h=>by
  rw [List.map_cons,WData.weightAll]
  rcases List.mem_cons.mp h with e | e
  ·rw [← e]
   (first|lia|omega)
  ·have:=zeT e
   (first|lia|omega)
theorem zmw {ns:List Int} (h:WData.layableAll [WData.list (ns.map WData.int)]=true):∀ x∈ns,x.natAbs<2 ^ 2 ^ 20:=by
 intro x hx
 have h1:(WData.list (ns.map WData.int)).layable=true:=(layW_cons h).1
 have h2:WData.weight (.list (ns.map WData.int))≤2 ^ 20:=by
  unfold WData.layable at h1
  rw [Bool.and_eq_true] at h1
  exact of_decide_eq_true h1.2
 rw [WData.weight] at h2
 have h3:=Nat.le_trans (zeT hx) h2
 rw [WData.weight] at h3
 by_cases h0:x=0
 ·subst h0
  exact Nat.two_pow_pos _
 ·rw [if_neg (by simpa using h0)] at h3
  have hn:x.natAbs≠0:=fun e=>h0 (Int.natAbs_eq_zero.mp e)
  exact (Nat.log2_lt hn).mp h3
theorem attach_callL {l:OpenLaw} {n:Nat} {q:Program} {loose:List Str} {XP:(Str→Option Value)→Heap→Prop} {YP:World→Heap→Prop} {d:DefRec}
  (hn:l.most=some n) (hdf:d.params.defaults=[])
  (call:∀ (w:World) (s₀ s₁:Shared) (mg mb:Str→Option Value) (fa:Addr) (o:Obj) (pm cd doc:Value) (a:Addr) (vs:List Value) (ns:List Int),(∀ x∈ns,x.natAbs<2 ^ 2 ^ 20) →
   Ground q loose [] XP w s₀ mg mb s₁.heap→YP w s₁.heap →
   s₁.heap.get? fa=some o→o.data=.func (docDef d.name d.params d.body d.scope pm cd doc)→s₁.heap.CodeRec cd d.name→mg d.name=some (.ref fa) →
   s₁.heap.get? a=some { cls:=.type "list",data:=.seq vs.toArray }→IntsAre vs ns→ns.length≤n→s₁.gens=#[] →
   codeAny (model l.prog w) callerA (.call (.ref fa) ⟨[.ref a],[]⟩) (fun r s'=>r=.ok (.ret (.bool true))∧OldK s₁.heap s'.heap∧s'.os=s₁.os∧AllBare s'.gens) s₁) :
  WalkO q loose XP YP l.row.toRowW d [] (fun f vs=>PySem.call f vs):=by
 intro w s₀ s₁ mg mb G Y fa o pm cd doc dV kV ho hd hcd hD hmg hg args vals as hpre hlay hrd hwl hlo
 obtain rfl:dV=.none:=Dflts.none hD hdf
 obtain rfl:kV=.none:=Dflts.noKw hD
 obtain ⟨a,vs,ns,rfl,rfl,hobj,hints,hlen⟩:=zjh hn hpre hwl
 refine enter_call (codeAny_mono (call w s₀ s₁ mg mb fa o pm cd doc a vs ns (zmw hlay) G Y ho (fd_plain hd) hcd hmg hobj hints hlen hg) fun r s' hq=>?_)
 obtain ⟨rfl,h2,h3,h4⟩:=hq
 exact ⟨.inl ⟨.bool true,.bool true,[],rfl,fun _=>rfl,.bool true,zjz l _,fun _=>⟨List.Pairwise.nil,fun _ hm=>(nomatch hm)⟩⟩,h2,h3,h4⟩
end Att
namespace L2
open PySem PySem.Spec PyProof.Rows
end L2
namespace L2
open PySem PySem.Spec PyProof.Rows
section
variable {α β:Type}
end
section
variable {K:PySem.W.Frag} {prog:Program} {w:World} {A:Around} {E:Value→Shared→Prop} {h:Heap} {g:Array GenState} {d:Drawn} {t:Nat} {os:OsState} {C fI:Addr} {us:List Value}
end
def excN (x:Addr) (C:Addr):HO:=.ext fun h=>∃ o t0,h.get? x=some o∧o.cls=.ref C∧o.dict=none∧o.data=.fields #[.ref t0,.none,.none,.none,.bool false,.none]
def excD (x:Addr) (C dx:Addr):HO:=.ext fun h=>∃ o t0,h.get? x=some o∧o.cls=.ref C∧o.dict=some dx∧o.data=.fields #[.ref t0,.none,.none,.none,.bool false,.none]
section
variable {X:Cx} {pins:List (Addr×Obj)} {σ:St} {H:Hp} {s:Shared}
end
section
open Builtin Builtin.ObjectAttr
variable {K:PySem.W.Frag} {prog:Program} {w:World} {A:Around} {E:Value→Shared→Prop} {h:Heap} {g:Array GenState} {d:Drawn} {t:Nat} {os:OsState} {C fI x:Addr} {v:Value} {name:Str} {o:Obj}
end
section
variable {X:Cx} {x:Str} {D:Addr} {np apos pos pos':Pos} {e o value:Expr} {es:List Expr} {t:TA} {to tv:TE} {f:Str}
end
section
variable {X:Cx} {CX:CXT} {k:Nat} {f C:Addr} {fd:FuncData} {ps:List Str} {sp:Sp} {E:XK} {x:Str} {p pos:Pos} {e:Expr} {es:List Expr} {t:TA}
end
section
variable {P:Program} {w:World} {K:PySem.W.Frag} {mg:Str→Option Value} {base:Heap} {N:List Str} {qual:Str} {scope:Scope} {f:Addr} {cd:Value} {A:Around} {outer:List Env} {s₀:Shared} {H₀:Hp} {E:XK}
end
section
variable {P:Program} {w:World} {K:PySem.W.Frag} {mg:Str→Option Value} {base:Heap} {N:List Str} {qual:Str} {scope:Scope} {f:Addr} {cd:Value} {A:Around} {outer:List Env} {s₀:Shared} {H₀:Hp} {E:XK}
end
section
variable {P:Program} {w:World} {K:PySem.W.Frag} {mg:Str→Option Value} {base:Heap} {N:List Str} {qual:Str} {scope:Scope} {f:Addr} {cd:Value} {A:Around} {outer:List Env} {s₀:Shared} {H₀:Hp} {E:XK}
end
section
variable {K:PySem.W.Frag} {prog:Program} {w:World} {A:Around} {E:Value→Shared→Prop} {s:Shared} {env:Env} {C fI:Addr}
end
def zi2 (C:Addr) (nm:Str):Sp:=fun vs H Q _=>∃ y v,vs=[.ref y,v]∧H y=some (excN y C)∧∀ dx,H dx=none→dx≠y→Q .non (upd (upd H y (excD y C dx)) dx (.xd [(nm,v)]))
section
open Builtin Builtin.ObjectAttr PySem.W
variable {K:PySem.W.Frag} {prog:Program} {w:World} {A:Around} {E:Value→Shared→Prop} {h:Heap} {g:Array GenState} {d:Drawn} {t:Nat} {os:OsState} {a C dx:Addr}
end
section
variable {X:Cx} {e:Expr} {f:Str} {pos:Pos} {ta:TE}
end
def zdp:Stmt→List Stmt
 | .ClassDef _ _ _ b _ _ _ _ _ _ _=>b
 | _=>[]
end L2
namespace L2
open PySem PySem.Spec PyProof.Rows
def zkf (P:Program) (w:World) (K:PySem.W.Frag) (mg:Str→Option Value) (base:Heap) (N:List Str) (qual:Str) (scope:Scope) (f:Addr) (cd:Value) (cl:List (Str×Addr)) (A:Around) (outer:List Env) (s:Shared) (H:Hp):Cx where
 prog:=P
 w:=w
 K:=K
 mg:=mg
 base:=base
 A:=A.deeper (PySem.W.envX qual scope s.heap.objs.size f cd cl)
 N:=N
 s₀:=s
 H₀:=H
 env:=PySem.W.envX qual scope s.heap.objs.size f cd cl
 outer:=outer
 stack:=PySem.W.envX qual scope s.heap.objs.size f cd cl::outer
 ex:=[]
 calm:=true
 fn:=fun y=>(cl.lookup y).isNone
 pn:=[]
 xe:=fun _ _=>False
structure zn2 (H:Hp) (h:Heap) (sc:Scope) (cl:List (Str×Addr)) (Ns:List Str) (vs:List V):Prop where
 len:vs.length=Ns.length
 at':∀ (i:Nat) (y:Str),Ns[i]?=some y→∃ c uy vy,cl.lookup y=some c∧sc.names.lookup y=some .free∧h.IsCell c (some uy)∧vs[i]?=some vy∧zbR vy uy
 has:∀ y,sc.names.lookup y=some .free→∃ c,cl.lookup y=some c
 cel:∀ y c,cl.lookup y=some c→H c=none∧∃ v,h.IsCell c v
 inj:∀ y z c,cl.lookup y=some c→cl.lookup z=some c→y=z
theorem zkJ {P:Program} {w:World} {K:PySem.W.Frag} {mg:Str→Option Value} {base:Heap} {A:Around} {outer:List Env} {s:Shared} {H:Hp} {q c':Addr} {nm qual x:Str} {params:Arguments} {body:Expr} {scope:Scope} {cl:List (Str×Addr)}
  {pm ctv u:Value} {v:V} {Ns:List Str} {vs:List V} {Q:VK} {t:TE} (e0:zjO P w K mg base A outer s H) (hroom:A.depth<recursionLimit) (hh:A.handled=none)
  (ho:s.heap.get? q=some (PySem.W.kla_obj nm qual params body scope cl pm c' ctv)) (hcd:s.heap.CodeRec (.ref c') qual)
  (hbind:bindArgs (PySem.W.kla_fn nm qual params body scope cl pm (.ref c') ctv) ⟨[u],[]⟩=pure [(x,u)]) (hloc:scope.names.lookup x=some .local) (hk:scope.kind=.function) (hco:scope.isCoroutine=false) (hgen:scope.isGenerator=false)
  (hcell:∀ y∈scope.names,y.2≠.cell) (T:zn2 H s.heap scope cl Ns vs) (rv:zbR v u) (hb:PE (zkf P w K mg base (x::Ns) qual scope q (.ref c') cl A outer s H) body t) (h:t (some v::vs.map some) H Q) :
  codeAny (model P w) A (.call (.ref q) ⟨[u],[]⟩) (fun r s'=>match r with | .ok (.ret u')=>CE outer P w H s Q u' s' | _=>False) s:=by
 have lim:s.heap.NoLimit:=e0.mod.nolimit.keeps fun b o e=>(e0.bs b o e).1
 refine PySem.W.kla_callFunE hroom ho rfl hco hgen rfl hcd ?_
 rw [hbind]
 refine wpAny_pure (wpAny_newFunctionEnv hcell (fun y hy=>?_) (fun h₁ hns hsb=>⟨lim.fresh _ hsb,?_⟩) hk)
 ·rw [List.mem_singleton.mp hy];exact hloc
 have hk₁:∀ b o,s.heap.get? b=some o→h₁.get? b=some o:=fun b o e=>hsb.extBut b o (Nat.ne_of_lt (Heap.lt_size e)) (Heap.get?_push_of_some _ e)
 have I:Inv (zkf P w K mg base (x::Ns) qual scope q (.ref c') cl A outer s H) [] (some v::vs.map some) H { s with heap:=h₁,toks:=s.toks+1 }:=by
  have noA:∀ b:Addr,b∉(zkf P w K mg base (x::Ns) qual scope q (.ref c') cl A outer s H).ex:=fun b z=>absurd (show b∈([]:List Addr) from z) (by simp)
  refine ⟨⟨e0.mod,hk,rfl,rfl,Nat.le_refl _,T.inj,fun y hy=>?_,fun y c hf e=>?_,fun _=>hh,Around.frames_deeper e0.frames,.inr ⟨rfl,rfl⟩,fun b z=>absurd z (noA b),e0.bs,e0.bsz,fun b _ _=>noA b,fun b z=>absurd z (noA b),e0.funs,e0.frf⟩,
   rfl,e0.bare,Un.kept hk₁,⟨_,hns,fun i y v' h1 h2 h3=>?_⟩,fun y c e=>?_,e0.hok.fresh (Nat.le_refl _),fun y c e=>(T.cel y c e).1,fun p hp=>absurd (show p∈([]:List (Addr×Obj)) from hp) (by simp),e0.hok.kept hk₁,?_⟩
  ·have hy:scope.names.lookup y=some .cell∨scope.names.lookup y=some .free:=hy
   rcases hy with hy | hy
   ·exact absurd rfl (hcell _ (PySem.mem_of_lookup hy))
   ·exact T.has y hy
  ·have hf:(cl.lookup y).isNone=true:=hf
   have e:cl.lookup y=some c:=e
   rw [e] at hf
   cases hf
  ·cases i with
   | zero =>
    have h1:some x=some y:=h1
    have h2:some (some v)=some (some v'):=h2
    cases h1
    cases h2
    refine ⟨u,rv,.inl ⟨hloc,?_⟩⟩
    simp
   | succ i =>
    have h1:Ns[i]?=some y:=h1
    obtain ⟨c,uy,vy,e1,e2,e3,e4,e5⟩:=T.at' i y h1
    have h2:(vs.map some)[i]?=some (some v'):=h2
    rw [List.getElem?_map,e4] at h2
    cases h2
    obtain ⟨oc,z1,z2⟩:=e3
    exact ⟨uy,e5,.inr ⟨.inr e2,c,e1,⟨oc,hk₁ _ _ z1,z2⟩⟩⟩
  ·obtain ⟨v',oc,z1,z2⟩:=(T.cel y c e).2
   exact ⟨v',oc,hk₁ _ _ z1,z2⟩
  ·show (some v::vs.map some).length=(x::Ns).length
   rw [List.length_cons,List.length_map,List.length_cons,T.len]
 refine PySem.W.kla_codeExpr (wpAny_mono (hb [] _ _ H _ I h) (fun u' s' hs=>?_) fun _ _ z=>z.elim)
 obtain ⟨v',H',J,rv',q'⟩:=hs
 exact ⟨v',H',J.os,J.bare,J.base,J.hok,rv',q'⟩
def Bar (P:Addr) (H H':Hp):Prop:=∀ b o,b≠P→H b=some o→H' b=some o
def zbQ (H:Hp) (P:Addr) (pos:Pos) (qual:Str):Prop:=H P=some (.tbl #[]) ∨
 ∃ (c':Addr) (oc:Obj) (vs:Array Value) (t:Nat),c'≠P∧H P=some (.tbl #[rawInt pos.line,rawInt pos.col,.ref c'])∧H c'=some (.frz oc (.own c'))∧oc.data=.fields vs∧vs[1]?=some (.str qual t)
section
variable {X:Cx} {pins:List (Addr×Obj)} {σ:St} {H:Hp} {s:Shared} {c P:Addr} {pos:Pos} {qual:Str} {params:Arguments} {body:Expr} {scope:Scope} {clos:List (Str×Addr)} {Q:Value→Shared→Prop} {E:Value→Shared→Prop}
theorem zmM {ps ps':Array Value} {h h':Heap} {Pg:Program} {w:World} {c':Addr} {oc:Obj} (ok:HOk Pg w H h) (hP:H P=some (.tbl ps)) (hc:H c'=none) (hx:∀ b o,b≠P→h.get? b=some o→h'.get? b=some o)
  (e1:h'.get? P=some { cls:=.none,data:=.fields ps' }) (e2:h'.get? c'=some oc):HOk Pg w (upd (upd H P (.tbl ps')) c' (.frz oc (.own c'))) h':=by
 have ncP:c'≠P:=fun z=>by rw [z,hP] at hc;cases hc
 intro b u e
 by_cases q:b=c'
 ·subst q
  rw [zae] at e
  cases e
  exact ⟨e2,oc,e2⟩
 ·rw [zak q] at e
  by_cases q2:b=P
  ·subst q2
   rw [zae] at e
   cases e
   exact e1
  ·rw [zak q2] at e
   refine (ok b u e).stay (fun d v hd r=>hx d v (fun z=>?_) r) (fun d r=>?_) fun d xs r=>?_
   ·rcases hd with rfl | hd
    ·exact q2 z
    ·rw [z,hP] at hd;cases hd
   ·rw [zak (fun z=>by rw [z,hc] at r;cases r),zak (fun z=>by rw [z,hP] at r;cases r)];exact r
   ·rw [zak (fun z=>by rw [z,hc] at r;cases r),zak (fun z=>by rw [z,hP] at r;cases r)];exact r
theorem znZ {ps more:Array Value} {fs ex:List Addr} {h h':Heap} {c':Addr} {oc:Obj} (hP:H P=some (.tbl ps)) (hc:H c'=none) (hf:h.objs.size≤c') (hx:∀ b o,b≠P→h.get? b=some o→h'.get? b=some o) (hPt:∃ o,h'.get? P=some o) :
  Un fs ex H (upd (upd H P (.tbl (ps++more))) c' (.frz oc (.own c'))) h h':=by
 have nP:∀ b,H b=none→b≠P:=fun b n z=>by rw [z,hP] at n;cases n
 have nc:∀ b u,H b=some u→b≠c':=fun b u e z=>by rw [z,hc] at e;cases e
 refine ⟨fun b o q n _ _=>hx b o (nP b n) q,fun b o q n _ _=>⟨o.slots,hx b o (nP b n) q⟩,fun b o q n _=>?_,fun b o q _=>?_,fun b xs q=>?_,fun b o u q=>?_,fun b ps' q=>?_⟩
 ·rw [zak (Nat.ne_of_lt (Nat.lt_of_lt_of_le (Heap.lt_size q) hf)),zak (nP b n)];exact n
 ·by_cases z:b=P
  ·rw [z];exact hPt
  ·exact ⟨o,hx b o z q⟩
 ·rw [zak (nc b _ q),zak (fun z=>by rw [z,hP] at q;cases q)];exact q
 ·rw [zak (nc b _ q),zak (fun z=>by rw [z,hP] at q;cases q)];exact q
 ·rw [zak (nc b _ q)]
  by_cases z:b=P
  ·subst z
   rw [hP] at q
   cases q
   exact ⟨more,zae⟩
  ·rw [zak z]
   exact ⟨#[],by rw [q];simp⟩
theorem zkP (I:Inv X pins σ H s) (hcode:X.env.code=.ref c) (C:PySem.W.CodeHd X.base c P) (hB:X.base.BuiltinsAt X.mg P) (hL:zbQ H P pos qual) (hcl:closureFor scope X.env=pure clos) (hdef:defaultsOf params X.env=([],[]))
  (hq:X.env.qual++"<lambda>"=qual)
  (h:∀ (q c':Addr) (pm ctv:Value) (H':Hp) (s':Shared) (oc:Obj) (vs:Array Value) (t:Nat),Inv X pins σ H' s'→Bar P H H'→zbQ H' P pos qual→s'.heap.get? q=some (PySem.W.kla_obj "<lambda>" qual params body scope clos pm c' ctv) →
   H' c'=some (.frz oc (.own c'))→oc.data=.fields vs→vs[1]?=some (.str qual t)→zeH X pins H' q→Q (.ref q) s') :
  wpAny (model X.prog X.w) X.A (eval (.Lambda params body scope pos) X.env) Q E s:=by
 have hg:s.heap.Ns mainGlobals X.mg:=I.ok.mod.glob.keeps I.bk
 have C':=C.keeps I.bk
 obtain ⟨bm,ob,b1,b2,b3,b4,b5,b6⟩:=hB
 have hgP:∀ ps,H P=some (.tbl ps)→mainGlobals≠P:=fun ps hP z=>by
  have e:=I.hok P _ hP
  obtain ⟨o,es,ep,e',d,_⟩:=hg
  rw [z] at e'
  have e:s.heap.get? P=some { cls:=.none,data:=.fields ps }:=e
  rw [e'] at e
  cases e
  cases d
 refine PySem.W.kla_eval hdef ?_
 rw [hq]
 rcases hL with hP | ⟨c',oc,vs,t,ne,hP,hc,hd,hv⟩
 ·refine PySem.W.kla_makeFunction (mg:=X.mg) (ps:=#[]) hcl I.ok.glob hg hcode C' (I.hok P _ hP) trivial rfl (hgP _ hP) ⟨bm,ob,b1,b2,b3,b4,I.bk _ _ b5,b6⟩ fun c' ctv h' tk hx hge hlt hrec htb=>?_
  obtain ⟨c₂,oc,vs,t,e2,hoc,hd,hv⟩:=hrec
  cases e2
  have hcn:H c'=none:=I.hok.fresh hge
  have hx':∀ b o,b≠P→s.heap.get? b=some o→(h'.push (PySem.W.kla_obj "<lambda>" qual params body scope clos ((X.mg "__name__").getD .none) c' ctv)).get? b=some o:=fun b o q e=>Heap.get?_push_of_some _ (hx b o q e)
  have e1:(h'.push (PySem.W.kla_obj "<lambda>" qual params body scope clos ((X.mg "__name__").getD .none) c' ctv)).get? P=some { cls:=.none,data:=.fields (#[]++#[rawInt pos.line,rawInt pos.col,.ref c']) }:=Heap.get?_push_of_some _ htb
  have e2:(h'.push (PySem.W.kla_obj "<lambda>" qual params body scope clos ((X.mg "__name__").getD .none) c' ctv)).get? c'=some oc:=Heap.get?_push_of_some _ hoc
  have ncP:c'≠P:=fun z=>by rw [z,hP] at hcn;cases hcn
  have J:=I.un (t':=tk) (znZ (more:=#[rawInt pos.line,rawInt pos.col,.ref c']) (oc:=oc) hP hcn hge hx' ⟨_,e1⟩) (zmM I.hok hP hcn hx' e1 e2)
  have hsz:s.heap.objs.size≤h'.objs.size:=Nat.le_trans hge (Nat.le_of_lt hlt)
  have nq:H h'.objs.size=none:=I.hok.fresh hsz
  refine h h'.objs.size c' _ ctv _ _ oc vs t J (fun b o nb e=>?_) (.inr ⟨c',oc,vs,t,ncP,?_,zae,hd,hv⟩) (Heap.get?_push_size _ rfl) zae hd hv (I.fpOk hsz ?_)
  ·rw [zak (fun z=>by rw [z,hcn] at e;cases e),zak nb];exact e
  ·rw [zak (Ne.symm ncP),zae];rfl
  ·rw [zak (Nat.ne_of_gt hlt),zak (fun z=>by rw [z,hP] at nq;cases nq)];exact nq
 ·have hf:codeAmong pos (#[rawInt pos.line,rawInt pos.col,Value.ref c']:Array Value).toList=some (.ref c'):=by simp [codeAmong,rawInt]
  refine PySem.W.kla_makeFunctionHit (mg:=X.mg) (ps:=#[rawInt pos.line,rawInt pos.col,.ref c']) hcl I.ok.glob hg hcode C' (I.hok P _ hP) trivial hf ⟨bm,ob,b1,b2,b3,b4,I.bk _ _ b5,b6⟩ fun ctv h' tk hk hsz=>?_
  have J:=I.kept (t':=tk) (h':=h'.push (PySem.W.kla_obj "<lambda>" qual params body scope clos ((X.mg "__name__").getD .none) c' ctv)) fun b u e=>Heap.get?_push_of_some _ (hk b u e)
  exact h h'.objs.size c' _ ctv H _ oc vs t J (fun _ _ _ e=>e) (.inr ⟨c',oc,vs,t,ne,hP,hc,hd,hv⟩) (Heap.get?_push_size _ rfl) hc hd hv (I.fpOk hsz (I.hok.fresh hsz))
end
end L2
namespace L2
open PySem PySem.Spec PyProof.Rows
section
variable {X:Cx} {pins:List (Addr×Obj)} {σ:St} {H:Hp} {l q S I:Addr} {ns:List Int} {R:Result→Shared→Prop}
theorem Inv.with2 {s:Shared} {o₁ o₂:Obj} (J:Inv X pins σ H s) (h1:s.heap.get? S=some o₁) (f1:zeH X pins H S) (d1:∀ v,o₁.data≠.cell v) (h2:s.heap.get? I=some o₂) (f2:zeH X pins H I) (d2:∀ v,o₂.data≠.cell v) :
  Inv X (pins++[(S,o₁),(I,o₂)]) σ H s:=J.pins_of fun p hp=>by
 rcases List.mem_append.mp hp with hp | hp
 ·exact J.pin p (List.mem_append_right _ hp)
 ·rcases List.mem_cons.mp hp with rfl | hp
  ·exact ⟨h1,f1.1,f1.2.1,f1.2.2.1,d1⟩
  ·rw [List.mem_singleton.mp hp]
   exact ⟨h2,f2.1,f2.2.1,f2.2.2.1,d2⟩
theorem zjw (kf:Nat→Int) (hh:X.A.handled=none) (hl:SqL X.K H l (ns.map V.int)) (hlI:l≠I) (hSI:S≠I) (fS:zeH X pins H S) (fI:zeH X pins H I)
  (turn:∀ (i:Nat) (n:Int) (v:Value),ns[i]?=some n→zbR (.int n) v→∀ (pl:List (Addr×Obj)) (s:Shared),Inv X (pins++pl) σ H s →
   wpAny (model X.prog X.w) X.A.in1 (call (.ref q) [v]) (EP X (pins++pl) σ (fun v' H2=>v'=.int (kf i)∧H2=H)) (fun _ _=>False) s)
  (hR:∀ i n v s,ns[i]?=some n→zbR (.int n) v→(∀ j,j<ns.length→kf i≤kf j)→Inv X pins σ H s→R (.ok (.ret v)) s) :
  ∀ (r j i:Nat) (s:Shared) (n:Int) (vb:Value) (tb:Tok) (c:Nat),ns.length - (j+1)=r→j+1≤ns.length→Inv X pins σ H s→s.heap.get? S=some (seqObj "list" #[vb,.int (kf i) tb] c)→s.heap.IsListIter I l (j+1) →
   ns[i]?=some n→zbR (.int n) vb→i≤j→(∀ j',j'≤j→kf i≤kf j')→codeAny (model X.prog X.w) X.A (.builtin "min.loop" ⟨[.ref I,.ref q,.ref S],[]⟩) R s:=by
 have hname:(toString "min"++toString ".loop":String)="min.loop":=by decide
 have upS:∀ {s:Shared} {f:Obj→Obj} {t:Nat},Inv X pins σ H s→Inv X pins σ H { s with heap:=s.heap.update S f,toks:=t }:=fun {s f t} J =>
  J.turns (ch:=[S]) (fun b o hb e=>by rw [Heap.get?_update_ne _ _ _ _ (fun z=>hb (by rw [z];exact List.mem_singleton.mpr rfl))];exact e) fun b hb=>by rw [List.mem_singleton.mp hb];exact fS
 intro r
 induction r with
 | zero =>
  intro j i s n vb tb c hr hj J hS hit hn rb hij hbest
  obtain ⟨its,rv,pl,hz⟩:=J.list hl
  have hsz:its.toArray.size=ns.length:=by rw [List.size_toArray,← rv.length,List.length_map]
  have W:=Walks.list (prog:=X.prog) (w:=X.w) (A:=X.A.in1) hh I l hlI its.toArray
  have hin:j+1=ns.length:=by (first|lia|omega)
  refine codeAny_builtin PySem.F.entry_min_loop ?_
  rw [Around.under_plainId PySem.F.plain_min_loop _]
  show wpAny _ X.A.in1 (seqItems? (.ref S) >>= _) _ _ _
  refine wpAny_bind (wpAny_seqItems hS rfl ?_)
  show wpAny _ X.A.in1 (tryCatch (pyNext (.ref I)) _ >>= _) _ _ _
  refine wpAny_bind (wpAny_tryCatch (W.done _ _ _ ⟨by rw [hsz,← hin];exact hit,pl.isList⟩ fun h' tk' hk'=>?_))
  have J1:=J.turns (t':=tk') hk' fun b hb=>by rw [List.mem_singleton.mp hb];exact fI
  have hS':=hk' S _ (by simpa using hSI) hS
  show wpAny _ X.A.in1 (updateSeq S (fun _=>#[]) >>= _) _ _ _
  refine wpAny_bind ?_
  refine wpAny_updateSeq hS' rfl (wpAny_bind (wpAny_letGo (wpAny_pure ?_)))
  exact hR i n vb _ hn rb (fun j' hj'=>hbest j' (by (first|lia|omega))) (upS J1)
 | succ r ih =>
  intro j i s n vb tb c hr hj J hS hit hn rb hij hbest
  obtain ⟨its,rv,pl,hz⟩:=J.list hl
  have hsz:its.toArray.size=ns.length:=by rw [List.size_toArray,← rv.length,List.length_map]
  have W:=Walks.list (prog:=X.prog) (w:=X.w) (A:=X.A.in1) hh I l hlI its.toArray
  have hlt:j+1<ns.length:=by (first|lia|omega)
  refine codeAny_builtin PySem.F.entry_min_loop ?_
  rw [Around.under_plainId PySem.F.plain_min_loop _]
  show wpAny _ X.A.in1 (seqItems? (.ref S) >>= _) _ _ _
  refine wpAny_bind (wpAny_seqItems hS rfl ?_)
  show wpAny _ X.A.in1 (tryCatch (pyNext (.ref I)) _ >>= _) _ _ _
  refine wpAny_bind (wpAny_tryCatch (W.item (j+1) _ _ _ (by rw [hsz];exact hlt) ⟨hit,pl.isList⟩ fun v h' tk' hP hst' hk'=>?_))
  have hv:its[j+1]?=some v:=by simpa using hP
  obtain ⟨n',hn',rv'⟩:∃ n',ns[j+1]?=some n'∧zbR (.int n') v:=by
   obtain ⟨n',e⟩:∃ n',ns[j+1]?=some n':=⟨_,List.getElem?_eq_getElem hlt⟩
   obtain ⟨u,hu,ru⟩:=rv.get (x:=.int n') (by rw [List.getElem?_map,e];rfl)
   rw [hv] at hu
   cases hu
   exact ⟨n',e,ru⟩
  obtain ⟨oI',hoI',hoc,hod⟩:=id hst'.1
  have J1:=J.turns (t':=tk') hk' fun b hb=>by rw [List.mem_singleton.mp hb];exact fI
  have hS':=hk' S _ (by simpa using hSI) hS
  show wpAny _ X.A.in1 (tryCatch (holding [v] (call (.ref q) [v])) _ >>= _) _ _ _
  refine wpAny_bind (wpAny_tryCatch (wpAny_holding (wpAny_mono (turn (j+1) n' v hn' rv' _ _ (J1.with2 hS' fS (fun _ z=>by cases z) hoI' fI (fun _ z=>by rw [hod] at z;cases z))) (fun x s'' he=>?_) fun _ _ hF=>hF.elim)))
  obtain ⟨v',H2,J2,rx,rfl,rfl⟩:=he
  obtain ⟨t2,rfl⟩:=(show ∃ t,x=Value.int (kf (j+1)) t from rx)
  have nS2:=(J2.pin (S,seqObj "list" #[vb,.int (kf i) tb] c) (List.mem_append_right _ (List.mem_append_right _ (.head _)))).1
  have nI2:=(J2.pin (I,oI') (List.mem_append_right _ (List.mem_append_right _ (.tail _ (.head _))))).1
  have J3:Inv X pins σ H2 s'':=J2.unpinned
  have hit2:s''.heap.IsListIter I l (j+1+1):=⟨oI',nI2,hoc,hod⟩
  show wpAny _ X.A.in1 (tryCatch (holding [v,.int (kf (j+1)) t2] (richCompare .Lt (.int (kf (j+1)) t2) (.int (kf i) tb) >>= _)) _ >>= _) _ _ _
  refine wpAny_bind (wpAny_tryCatch (wpAny_holding (wpAny_bind (CmpOf.ints_lt (prog:=X.prog) (w:=X.w) (A:=X.A.in1) (P:=fun i v=>∃ t,v=.int (kf i) t) kf (fun i v h=>h) (j+1) i _ _ _ _ _ ⟨t2,rfl⟩ ⟨tb,rfl⟩ ?_))))
  refine wpAny_bind (wpAny_holding (wpAny_truthy_bool ?_))
  refine wpAny_bind (wpAny_letGo (wpAny_pure ?_))
  by_cases hb':kf (j+1)<kf i
  ·have s1:=Heap.SameBut.update s''.heap S (Obj.mapSeq fun _=>#[v,.int (kf (j+1)) t2])
   obtain ⟨c2,hc2⟩:∃ c2,(s''.heap.update S (Obj.mapSeq fun _=>#[v,.int (kf (j+1)) t2])).get? S=some (seqObj "list" #[v,.int (kf (j+1)) t2] c2):=⟨_,get?_update_seq nS2 fun _=>#[v,.int (kf (j+1)) t2]⟩
   simp only [hb',decide_true,if_true]
   refine wpAny_bind ?_
   refine wpAny_updateSeq nS2 rfl (wpAny_bind (wpAny_letGo ?_))
   rw [hname]
   refine wpAny_pure ⟨plainId_quiet PySem.F.plain_min_loop _,ih (j+1) (j+1) _ n' v t2 c2 (by (first|lia|omega)) hlt (upS J3) hc2 ⟨oI',(s1.2 I hSI.symm).trans nI2,hoc,hod⟩ hn' rv' (Nat.le_refl _) fun j' hj'=>?_⟩
   by_cases e:j'=j+1
   ·rw [e];exact Int.le_refl _
   ·have:=hbest j' (by (first|lia|omega))
    (first|lia|omega)
  ·simp only [hb',decide_false,Bool.false_eq_true,if_false]
   refine wpAny_bind (wpAny_letGo ?_)
   rw [hname]
   refine wpAny_pure ⟨plainId_quiet PySem.F.plain_min_loop _,ih (j+1) i _ n vb tb c (by (first|lia|omega)) hlt J3 nS2 hit2 hn rb (by (first|lia|omega)) fun j' hj'=>?_⟩
   by_cases e:j'=j+1
   ·subst e
    (first|lia|omega)
   ·exact hbest j' (by (first|lia|omega))
theorem zjR {s:Shared} {Q:Value→Shared→Prop} {E:Value→Shared→Prop} (kf:Nat→Int) (hh:X.A.handled=none) (J:Inv X pins σ H s) (hl:SqL X.K H l (ns.map V.int)) (hne:0<ns.length)
  (turn:∀ (i:Nat) (n:Int) (v:Value),ns[i]?=some n→zbR (.int n) v→∀ (pl:List (Addr×Obj)) (s:Shared),Inv X (pins++pl) σ H s →
   wpAny (model X.prog X.w) X.A.in1 (call (.ref q) [v]) (EP X (pins++pl) σ (fun v' H2=>v'=.int (kf i)∧H2=H)) (fun _ _=>False) s)
  (hQ:∀ i n v s,ns[i]?=some n→zbR (.int n) v→(∀ j,j<ns.length→kf i≤kf j)→Inv X pins σ H s→Q v s) :
  wpAny (model X.prog X.w) X.A (call (.builtin "min") [.ref l] [(Str.ofString "key",.ref q)]) Q E s:=by
 have hname:(toString "min"++toString ".loop":String)="min.loop":=by decide
 obtain ⟨its,rv,pl,hz⟩:=J.list hl
 have hls:=pl.isList
 obtain ⟨ol,hol,_⟩:=id hls
 have hll:l<s.heap.objs.size:=Heap.lt_size hol
 refine kmk_tree PySem.F.kind_min PySem.F.plain_min PySem.F.entry_min (kmk_min_key _ _) ?_
 show wpAny _ X.A.in1 (Builtin.Builtins.bindParams "min" ["key","default"] 0 ⟨[],[(Str.ofString "key",.ref q)]⟩ >>= _) _ _ s
 refine wpAny_bind (wpAny_of_eq (show Builtin.Builtins.bindParams "min" ["key","default"] 0 ⟨[],[(Str.ofString "key",.ref q)]⟩=pure [some (.ref q),none] from rfl) ?_)
 refine wpAny_bind (wpAny_pure ?_)
 refine wpAny_bind (wpAny_pyIter_list hls ?_)
 refine wpAny_bind (wpAny_newList ?_ (Nat.zero_le _))
 rw [hname]
 have hS:(s.heap.push { cls:=.type "list_iterator",data:=.fields #[.ref l,.int 0 0] }).objs.size=s.heap.objs.size+1:=size_push' ..
 have hlI:l≠s.heap.objs.size:=Nat.ne_of_lt hll
 have hSI:(s.heap.push { cls:=.type "list_iterator",data:=.fields #[.ref l,.int 0 0] }).objs.size≠s.heap.objs.size:=by rw [hS];exact Nat.ne_of_gt (Nat.lt_succ_self _)
 refine wpAny_pure ⟨plainId_quiet PySem.F.plain_min_loop _,?_⟩
 have gI:((s.heap.push { cls:=.type "list_iterator",data:=.fields #[.ref l,.int 0 0] }).push (seqObj "list" #[] 0)).get? s.heap.objs.size=some { cls:=.type "list_iterator",data:=.fields #[.ref l,.int 0 0] } :=
  Heap.get?_push_of_some _ (Heap.get?_push_size _ rfl)
 have gS:((s.heap.push { cls:=.type "list_iterator",data:=.fields #[.ref l,.int 0 0] }).push (seqObj "list" #[] 0)).get? (s.heap.push { cls:=.type "list_iterator",data:=.fields #[.ref l,.int 0 0] }).objs.size=some (seqObj "list" #[] 0):=Heap.get?_push_size _ rfl
 have J0:Inv X pins σ H { s with heap:=(s.heap.push { cls:=.type "list_iterator",data:=.fields #[.ref l,.int 0 0] }).push (seqObj "list" #[] 0) } :=
  J.kept (t':=s.toks) fun b x e=>Heap.get?_push_of_some _ (Heap.get?_push_of_some _ e)
 have fI:zeH X pins H s.heap.objs.size:=J.fpOk (Nat.le_refl _) (J.hok.fresh (Nat.le_refl _))
 have fS:zeH X pins H (s.heap.push { cls:=.type "list_iterator",data:=.fields #[.ref l,.int 0 0] }).objs.size:=J.fpOk (by rw [hS];exact Nat.le_succ _) (J.hok.fresh (by rw [hS];exact Nat.le_succ _))
 have hsz:its.toArray.size=ns.length:=by rw [List.size_toArray,← rv.length,List.length_map]
 have W:=Walks.list (prog:=X.prog) (w:=X.w) (A:=X.A.in1) hh s.heap.objs.size l hlI its.toArray
 obtain ⟨its0,rv0,pl0,_⟩:=J0.list hl
 have W0:=Walks.list (prog:=X.prog) (w:=X.w) (A:=X.A.in1) hh s.heap.objs.size l hlI its0.toArray
 have hsz0:its0.toArray.size=ns.length:=by rw [List.size_toArray,← rv0.length,List.length_map]
 refine codeAny_builtin PySem.F.entry_min_loop ?_
 rw [Around.under_plainId PySem.F.plain_min_loop _]
 show wpAny _ X.A.in1 (seqItems? (.ref _) >>= _) _ _ _
 refine wpAny_bind (wpAny_seqItems gS rfl ?_)
 show wpAny _ X.A.in1 (tryCatch (pyNext (.ref s.heap.objs.size)) _ >>= _) _ _ _
 refine wpAny_bind (wpAny_tryCatch (W0.item 0 _ _ _ (by rw [hsz0];exact hne) ⟨⟨_,gI,rfl,rfl⟩,pl0.isList⟩ fun v h' tk' hP hst' hk'=>?_))
 have hv:its0[0]?=some v:=by simpa using hP
 obtain ⟨n',hn',rv'⟩:∃ n',ns[0]?=some n'∧zbR (.int n') v:=by
  obtain ⟨n',e⟩:∃ n',ns[0]?=some n':=⟨_,List.getElem?_eq_getElem hne⟩
  obtain ⟨u,hu,ru⟩:=rv0.get (x:=.int n') (by rw [List.getElem?_map,e];rfl)
  rw [hv] at hu
  cases hu
  exact ⟨n',e,ru⟩
 obtain ⟨oI',hoI',hoc,hod⟩:=id hst'.1
 have J1:=J0.turns (t':=tk') hk' fun b hb=>by rw [List.mem_singleton.mp hb];exact fI
 have hS':=hk' _ _ (by simpa using hSI) gS
 show wpAny _ X.A.in1 (tryCatch (holding [v] (call (.ref q) [v])) _ >>= _) _ _ _
 refine wpAny_bind (wpAny_tryCatch (wpAny_holding (wpAny_mono (turn 0 n' v hn' rv' _ _ (J1.with2 hS' fS (fun _ z=>by cases z) hoI' fI (fun _ z=>by rw [hod] at z;cases z))) (fun x s'' he=>?_) fun _ _ hF=>hF.elim)))
 obtain ⟨v',H2,J2,rx,rfl,rfl⟩:=he
 obtain ⟨t2,rfl⟩:=(show ∃ t,x=Value.int (kf 0) t from rx)
 have nS2:=(J2.pin (_,seqObj "list" #[] 0) (List.mem_append_right _ (List.mem_append_right _ (.head _)))).1
 have nI2:=(J2.pin (s.heap.objs.size,oI') (List.mem_append_right _ (List.mem_append_right _ (.tail _ (.head _))))).1
 have J3:Inv X pins σ H2 s'':=J2.unpinned
 have s1:=Heap.SameBut.update s''.heap (s.heap.push { cls:=.type "list_iterator",data:=.fields #[.ref l,.int 0 0] }).objs.size (Obj.mapSeq fun _=>#[v,.int (kf 0) t2])
 obtain ⟨c2,hc2⟩:∃ c2,(s''.heap.update (s.heap.push { cls:=.type "list_iterator",data:=.fields #[.ref l,.int 0 0] }).objs.size (Obj.mapSeq fun _=>#[v,.int (kf 0) t2])).get? (s.heap.push { cls:=.type "list_iterator",data:=.fields #[.ref l,.int 0 0] }).objs.size=some (seqObj "list" #[v,.int (kf 0) t2] c2):=⟨_,get?_update_seq nS2 fun _=>#[v,.int (kf 0) t2]⟩
 show wpAny _ X.A.in1 (updateSeq (s.heap.push { cls:=.type "list_iterator",data:=.fields #[.ref l,.int 0 0] }).objs.size (fun _=>#[v,.int (kf 0) t2]) >>= _) _ _ _
 refine wpAny_bind ?_
 refine wpAny_updateSeq nS2 rfl ?_
 rw [hname]
 have J4:Inv X pins σ H2 { s'' with heap:=s''.heap.update (s.heap.push { cls:=.type "list_iterator",data:=.fields #[.ref l,.int 0 0] }).objs.size (Obj.mapSeq fun _=>#[v,.int (kf 0) t2]) } :=
  J3.turns (t':=s''.toks) (ch:=[(s.heap.push { cls:=.type "list_iterator",data:=.fields #[.ref l,.int 0 0] }).objs.size]) (fun b o hb e=>by rw [Heap.get?_update_ne _ _ _ _ (fun z=>hb (by rw [z];exact List.mem_singleton.mpr rfl))];exact e) fun b hb=>by rw [List.mem_singleton.mp hb];exact fS
 exact wpAny_pure ⟨plainId_quiet PySem.F.plain_min_loop _,zjw kf hh hl hlI hSI fS fI turn hQ _ 0 0 _ n' v t2 c2 rfl hne J4 hc2 ⟨oI',(s1.2 _ hSI.symm).trans nI2,hoc,hod⟩ hn' rv' (Nat.le_refl _) fun j' hj'=>by rw [Nat.le_zero.mp hj'];exact Int.le_refl _⟩
end
end L2
namespace L2
open PySem PySem.Spec PyProof.Rows
structure znd (X:Cx) (sc:Scope) (cl:List (Str×Addr)) (Ns:List Str) (js:List Nat):Prop where
 len:js.length=Ns.length
 at':∀ (i:Nat) (y:Str),Ns[i]?=some y→∃ j c,js[i]?=some j∧X.N[j]?=some y∧X.env.scope.names.lookup y=some .cell∧cl.lookup y=some c∧sc.names.lookup y=some .free
 has:∀ y,sc.names.lookup y=some .free→∃ c,cl.lookup y=some c
 sub:∀ y c,cl.lookup y=some c→X.env.cells.lookup y=some c
def zf1 (K:PySem.W.Frag) (P:Addr) (pos:Pos) (qual:Str) (js:List Nat) (ta:TA) (tb:TE):TE:=fun σ H Q=>ta σ H fun vs H1=>∃ (l:Addr) (ns:List Int) (ws:List V),vs=[.ref l]∧SqL K H1 l (ns.map V.int)∧0<ns.length ∧
 js.map (fun j=>σ[j]?)=ws.map (fun w=>some (some w))∧zbQ H1 P pos qual∧∀ H2,Bar P H1 H2→zbQ H2 P pos qual→∃ kf:Int→Int,
  (∀ n∈ns,tb (some (.int n)::ws.map some) H2 fun v H3=>v=.int (kf n)∧H3=H2)∧∀ n∈ns,(∀ m∈ns,kf n≤kf m)→Q (.int n) H2
theorem zbQ.tbl {H:Hp} {P:Addr} {pos:Pos} {qual:Str} (h:zbQ H P pos qual):∃ ps,H P=some (.tbl ps):=by
 rcases h with h | ⟨_,_,_,_,_,h,_⟩ <;> exact ⟨_,h⟩
theorem SqL.bar {K:PySem.W.Frag} {H H':Hp} {P l:Addr} {xs:List V} (b:Bar P H H') {ps:Array Value} (hP:H P=some (.tbl ps)) (h:SqL K H l xs):SqL K H' l xs:=by
 rcases h with (h | ⟨o,h⟩) | h
 ·exact .inl (.inl (b _ _ (fun z=>by rw [z,hP] at h;cases h) h))
 ·exact .inl (.inr ⟨o,b _ _ (fun z=>by rw [z,hP] at h;cases h) h⟩)
 ·exact .inr h
section
variable {X:Cx} {e body:Expr} {t:TA} {tb:TE} {pos p kp lpos:Pos} {c P:Addr} {params:Arguments} {scope:Scope} {clos:List (Str×Addr)} {qual x:Str} {Ns:List Str} {js:List Nat} {k:Nat}
theorem znd.taken {pins:List (Addr×Obj)} {σ:St} {H:Hp} {s:Shared} {ws:List V} (C:znd X scope clos Ns js) (I:Inv X pins σ H s) (hw:js.map (fun j=>σ[j]?)=ws.map (fun w=>some (some w))):zn2 H s.heap scope clos Ns ws:=by
 have hl:ws.length=js.length:=by
  have:=congrArg List.length hw
  rw [List.length_map,List.length_map] at this
  exact this.symm
 refine ⟨hl.trans C.len,fun i y hi=>?_,C.has,fun y d hd=>⟨I.freeC y d (C.sub y d hd),I.cell y d (C.sub y d hd)⟩,fun y z d h1 h2=>I.ok.inj y z d (C.sub y d h1) (C.sub z d h2)⟩
 obtain ⟨j,d,e1,e2,e3,e4,e5⟩:=C.at' i y hi
 have g:=congrArg (fun l=>l[i]?) hw
 simp only [List.getElem?_map,e1,Option.map_some] at g
 cases hwi:ws[i]? with
 | none=>rw [hwi] at g;cases g
 | some vy =>
  rw [hwi] at g
  have g:some (σ[j]?)=some (some (some vy)):=g
  have g':σ[j]?=some (some vy):=Option.some.inj g
  obtain ⟨m,_,hlk⟩:=I.loc
  obtain ⟨u,ru,lk⟩:=hlk j y vy e2 g' (.inr (.inl e3))
  rcases lk with ⟨k1,_⟩ | ⟨_,d',f1,f2⟩
  ·have k1:X.env.scope.names.lookup y=some .local:=k1
   rw [e3] at k1
   cases k1
  ·have:=C.sub y d e4
   rw [this] at f1
   cases f1
   exact ⟨d,u,vy,e4,e5,f2,rfl,ru⟩
theorem zjj (hr:zdV (k+1) X.A) (hg:Gl X "min") (hm:X.mg "min"=none) (ha:PA X [e] t) (hcode:X.env.code=.ref c) (C:PySem.W.CodeHd X.base c P) (hB:X.base.BuiltinsAt X.mg P) (hcl:closureFor scope X.env=pure clos)
  (hdef:defaultsOf params X.env=([],[])) (hq:X.env.qual++"<lambda>"=qual) (hcap:znd X scope clos Ns js)
  (hbind:∀ (pm cd ctv u:Value),bindArgs (PySem.W.kla_fn "<lambda>" qual params body scope clos pm cd ctv) ⟨[u],[]⟩=pure [(x,u)]) (hloc:scope.names.lookup x=some .local) (hk:scope.kind=.function) (hco:scope.isCoroutine=false) (hgen:scope.isGenerator=false)
  (hcell:∀ y∈scope.names,y.2≠.cell) (hb:∀ (f:Addr) (cd:Value) (A:Around) (outer:List Env) (s:Shared) (H:Hp),PE (zkf X.prog X.w X.K X.mg X.base (x::Ns) qual scope f cd clos A outer s H) body tb)
  (he:backTo pos (starEach [e] X.env)=(false,eval e X.env)::backTo pos (starEach [] X.env):=by rfl) (hpl:(backTo pos (starEach [e] X.env)).any (·.1)=false:=by rfl) :
  PE X (.Call (.Name "min" p) [e] [⟨some "key",.Lambda params body scope lpos,kp⟩] pos) (zf1 X.K P lpos qual js t tb):=by
 intro pins s σ H Q I h
 refine wpAny_Call_Name_kw (zeZ I hg hm PyProof.Rows.boot_min ?_ (by decide) (by decide))
 refine PyProof.Rows.callWith_kw (thn (ha pos pins s σ H _ I h) fun us s1 hQ'=>?_) he hpl
 obtain ⟨vs,H1,I1,r1,q1⟩:=hQ'
 obtain ⟨l,ns,ws,rfl,hl,hne,hw,hL,q⟩:=q1
 obtain ⟨u,rfl,rx⟩:=zjP r1
 cases rx
 obtain ⟨ps,hP⟩:=hL.tbl
 refine PyProof.Rows.kws_cons (zkP I1 hcode C hB hL hcl hdef hq fun qa c' pm ctv H2 s2 oc ovs ot I2 bar hL2 hqa hc' hd hv fq=>?_)
 refine PyProof.Rows.kws_nil ?_
 obtain ⟨kf,hkf,hQ⟩:=q H2 bar hL2
 have I3:Inv X (pins++[(qa,PySem.W.kla_obj "<lambda>" qual params body scope clos pm c' ctv)]) σ H2 s2:=I2.pins_of fun p hp=>by
  rcases List.mem_append.mp hp with hp | hp
  ·exact I2.pin p (List.mem_append_right _ hp)
  ·rw [List.mem_singleton.mp hp]
   exact ⟨hqa,fq.1,fq.2.1,fq.2.2.1,fun v z=>by cases z⟩
 refine zjR (pins:=pins++[(qa,PySem.W.kla_obj "<lambda>" qual params body scope clos pm c' ctv)]) (ns:=ns) (fun i=>kf (ns.getD i 0)) hr.hd I3 (hl.bar bar hP) hne (fun i n v hn rv pl s3 J=>?_) fun i n v s3 hn rv hbest J=>?_
 ·have hnm:n∈ns:=List.mem_of_getElem? hn
  have gd:ns.getD i 0=n:=by rw [List.getD_eq_getElem?_getD,hn];rfl
  have hqa3:=(J.pin (qa,PySem.W.kla_obj "<lambda>" qual params body scope clos pm c' ctv) (List.mem_append_right _ (List.mem_append_left _ (List.mem_append_right _ (.head _))))).1
  have hc3:s3.heap.get? c'=some oc:=(J.hok c' _ hc').1
  refine wpAny_call (codeAny_mono (zkJ (t:=tb) (Ns:=Ns) (vs:=ws) (x:=x) (v:=.int n) J.env0.in1 hr.in1.depth hr.hd hqa3 ⟨c',oc,ovs,ot,rfl,hc3,hd,hv⟩ (hbind _ _ _ _) hloc hk hco hgen hcell (hcap.taken J hw) rv (hb _ _ _ _ _ _) (hkf n hnm)) fun r s' hq=>?_)
  cases r with
  | error e=>exact hq.elim
  | ok fl =>
   cases fl with
   | ret u =>
    have hq:CE X.stack X.prog X.w H2 s3 _ u s':=hq
    have:=J.after hq
    dsimp only
    rw [gd]
    exact this
   | next=>exact hq.elim
   | brk=>exact hq.elim
   | cont=>exact hq.elim
 ·have hnm:n∈ns:=List.mem_of_getElem? hn
  have gd:ns.getD i 0=n:=by rw [List.getD_eq_getElem?_getD,hn];rfl
  refine ⟨.int n,H2,J.unpinned,rv,hQ n hnm fun m hm'=>?_⟩
  obtain ⟨j,hj,ej⟩:=List.getElem_of_mem hm'
  have:=hbest j hj
  rw [gd] at this
  have gj:ns.getD j 0=m:=by rw [List.getD_eq_getElem?_getD,List.getElem?_eq_getElem hj,ej];rfl
  rw [gj] at this
  exact this
end
end L2
namespace L2
open PySem PySem.Spec PyProof.Rows
def zbB (P:Addr) (K:PySem.W.Frag):PySem.W.Frag:=K.filter fun x=>x.1 != P
theorem zaT {P b:Addr} (h:b≠P):∀ {K:PySem.W.Frag},(zbB P K).lookup b=K.lookup b
 | []=>rfl
 | (a,o)::K=>by
  unfold zbB
  by_cases q:a=P
  ·rw [List.filter_cons_of_neg (by simpa using q)]
   show (zbB P K).lookup b=_
   rw [zaT h,List.lookup_cons,show (b == a)=false from beq_eq_false_iff_ne.mpr (by rw [q];exact h)]
  ·rw [List.filter_cons_of_pos (by simpa using q),List.lookup_cons,List.lookup_cons]
   show (match b == a with | true=>some o | false=>(zbB P K).lookup b)=_
   rw [zaT h]
   cases b == a <;> rfl
theorem zaL {P:Addr}:∀ {K:PySem.W.Frag},(zbB P K).lookup P=none
 | []=>rfl
 | (a,o)::K=>by
  unfold zbB
  by_cases q:a=P
  ·rw [List.filter_cons_of_neg (by simpa using q)]
   exact zaL (K:=K)
  ·rw [List.filter_cons_of_pos (by simpa using q),List.lookup_cons,show (P == a)=false from beq_eq_false_iff_ne.mpr (Ne.symm q)]
   exact zaL (K:=K)
theorem zlN {P:Addr} {K:PySem.W.Frag} {h:Heap} (KX:K.In h):(zbB P K).In h:=fun b o e=>by
 by_cases q:b=P
 ·rw [q,zaL] at e;cases e
 ·rw [zaT q] at e;exact KX b o e
theorem zjX {Pg:Program} {w:World} {K:PySem.W.Frag} {mg mb:Str→Option Value} {CX:CXT} {k:Nat} {fa a c P:Addr} {fd:FuncData} {x:Str} {sp:Sp} {s₁:Shared} {vs:List Value} {ns:List Int}
  (KX:K.In s₁.heap) (hPK:K.lookup P=none) (hPt:s₁.heap.get? P=some (PySem.W.tabObj #[])) (hC:PySem.W.CodeHd s₁.heap c P) (hB:s₁.heap.BuiltinsAt mg P)
  (hns:s₁.heap.Ns mainGlobals mg) (hb:s₁.heap.Ns builtinsNs mb) (hbb:∀ x:Str,x≠"__name__"→mb x=bootBuiltins x) (hlim:s₁.heap.NoLimit) (hg:s₁.gens=#[])
  (ha:s₁.heap.get? a=some { cls:=.type "list",data:=.seq vs.toArray }) (hi:IntsAre vs ns) (hl:ns.length≤sizeLine) (hr:zdV k callerA)
  (F:∀ base:Heap,K.In base→base.Ns mainGlobals mg→PySem.W.CodeHd base c P→base.BuiltinsAt mg P→zcG Pg w K mg base CX k fa fd [x] sp) (hbind:∀ (s:Shared) (u:Value),BindsTo s fd ⟨[u],[]⟩ [(x,u)])
  (hsp:∀ H:Hp,H P=some (.tbl #[])→SqL K H a (ns.map V.int)→sp [.ref a] H (fun v _=>v=.bl true) fun _ _ _=>False)
  (hCX:∀ H e s',CX [] H s₁ (fun _ _ _=>False) e s'→False) :
  codeAny (model Pg w) callerA (.call (.ref fa) ⟨[.ref a],[]⟩) (fun r s'=>r=.ok (.ret (.bool true))∧OldK s₁.heap s'.heap∧s'.os=s₁.os∧AllBare s'.gens) s₁:=by
 have rv:=zhh hi
 have lenV:=hi.length
 have naP:a≠P:=fun z=>by rw [z,hPt] at ha;cases ha
 have core:∀ H:Hp,H P=some (.tbl #[])→SqL K H a (ns.map V.int)→HOk Pg w H s₁.heap→(∀ b,H b≠none→b=P∨(b=a∧H a=some (.frz { cls:=.type "list",data:=.seq vs.toArray } (.lst (ns.map V.int)))))→(H a≠none→K.lookup a=none) →
   codeAny (model Pg w) callerA (.call (.ref fa) ⟨[.ref a],[]⟩) (fun r s'=>r=.ok (.ret (.bool true))∧OldK s₁.heap s'.heap∧s'.os=s₁.os∧AllBare s'.gens) s₁:=by
  intro H hHP hS hok hA hK
  have base_of:∀ {b:Addr} {o:Obj},s₁.heap.get? b=some o→H b=none→(zjI s₁.heap H).get? b=some o:=fun e n=>zkR e n
  have free:∀ {b:Addr} {o:Obj},s₁.heap.get? b=some o→b≠P→(∀ its n,o.data≠.seq its n)→H b=none:=fun {b o} e nP d=>by
   cases q:H b with
   | none=>rfl
   | some u =>
    rcases hA b (by rw [q];simp) with z | ⟨z,_⟩
    ·exact absurd z nP
    ·subst z
     rw [ha] at e;cases e
     exact absurd rfl (d _ _)
  have noP:∀ {b:Addr} {o:Obj},s₁.heap.get? b=some o→(∀ ps,o.data≠.fields ps)→b≠P:=fun {b o} e d z=>by
   subst z
   rw [hPt] at e;cases e
   exact d _ rfl
  have nsK:∀ {b:Addr} {m:Str→Option Value},s₁.heap.Ns b m→(zjI s₁.heap H).Ns b m:=fun {b m} ⟨o,es,ep,e,d,r⟩ =>
   ⟨o,es,ep,base_of e (free e (noP e fun ps z=>by rw [d] at z;cases z) fun its n z=>by rw [d] at z;cases z),d,r⟩
  have hKb:K.In (zjI s₁.heap H):=fun b o e=>base_of (KX b o e) (by
   cases q:H b with
   | none=>rfl
   | some u =>
    rcases hA b (by rw [q];simp) with z | ⟨z,_⟩
    ·rw [z,hPK] at e;cases e
    ·subst z
     rw [hK (by rw [q];simp)] at e;cases e)
  have hM:Mod K mg (zjI s₁.heap H):=⟨hKb,nsK hns,⟨mb,nsK hb,hbb⟩,let ⟨mc,h1,h2⟩:=hlim;⟨mc,nsK h1,h2⟩⟩
  have hC':PySem.W.CodeHd (zjI s₁.heap H) c P:=by
   obtain ⟨o,ovs,file,tf,flags,tg,inF,text,tt,e1,e2,e3,r⟩:=hC
   exact ⟨o,ovs,file,tf,flags,tg,inF,text,tt,base_of e1 (free e1 r.2.2.2.2.2.2 fun its n z=>by rw [e3] at z;cases z),e2,e3,r⟩
  have hB':(zjI s₁.heap H).BuiltinsAt mg P:=by
   obtain ⟨bm,ob,b1,b2,b3,b4,b5,b6,b7,b8⟩:=hB
   exact ⟨bm,ob,b1,b2,b3,b4,base_of b5 (free b5 b4 fun its n z=>by rw [b8] at z;cases z),b6,b7,b8⟩
  have e0:zjO Pg w K mg (zjI s₁.heap H) callerA [] s₁ H:=⟨rfl,hM,fun b o e=>zl9 e,Nat.le_of_eq (zjH _ _),trivial,fun b hb=>absurd (show b∈([]:List Addr) from hb) (by simp),hok,.of_eq hg⟩
  refine codeAny_mono ((F _ hKb (nsK hns) hC' hB').run callerA [] s₁ H ⟨[.ref a],[]⟩ [.ref a] [.ref a] _ _ hr e0 (hbind s₁ (.ref a)) (.cons rfl .nil) (hsp H hHP hS)) fun r s' h=>?_
  cases r with
  | error e=>exact (hCX H e s' h).elim
  | ok fl =>
   cases fl with
   | next=>exact False.elim h
   | brk=>exact False.elim h
   | cont=>exact False.elim h
   | ret u =>
    obtain ⟨v,H',os,bare,un,hok',r',q⟩:=h
    have q':v=.bl true:=q
    subst q'
    obtain rfl:u=Value.bool true:=r'
    refine ⟨rfl,⟨fun b o e=>?_,fun b o e=>un.there b o e (by simp)⟩,os,bare⟩
    by_cases zP:b=P
    ·subst zP
     rw [hPt] at e
     cases e
     obtain ⟨more,hm⟩:=un.tbls b _ hHP
     have ht':s'.heap.get? b=some { cls:=.none,data:=.fields (#[]++more) }:=hok' b _ hm
     exact .inr (.inl ⟨(hC.tab hPt).isCodeTable,rfl,#[],more,rfl,ht'⟩)
    ·refine .inl ?_
     cases q:H b with
     | none=>exact un.keep b o e q (by intro z;exact absurd (show b∈([]:List Addr) from z) (by simp)) (by simp)
     | some u =>
      rcases hA b (by rw [q];simp) with z | ⟨z,z1⟩
      ·exact absurd z zP
      ·subst z
       have z2:=un.frzs b _ _ z1
       obtain ⟨e1,_⟩:=hok b _ z1
       obtain ⟨e2,_⟩:=hok' b _ z2
       rw [e] at e1;cases e1
       exact e2
 have okP:∀ {H:Hp},H P=some (.tbl #[])→zb9 Pg w H s₁.heap P (.tbl #[]):=fun _=>hPt
 cases hk:K.lookup a with
 | some o =>
  have e:=KX a o hk
  rw [ha] at e
  cases e
  refine core (fun b=>if b=P then some (.tbl #[]) else none) (if_pos rfl) (.inr ⟨_,vs.toArray,_,hk,rfl,rfl,rfl,by rw [List.size_toArray,lenV];exact hl,by simpa using rv⟩) (fun b u z=>?_) (fun b z=>?_) fun z=>absurd (if_neg naP) z
  ·by_cases q:b=P
   ·subst q
    have z':=(if_pos rfl).symm.trans z
    cases z'
    exact hPt
   ·have z':=(if_neg q).symm.trans z
    cases z'
  ·by_cases q:b=P
   ·exact .inl q
   ·exact absurd (if_neg q) z
 | none =>
  have hfr:(if a=P then some (HO.tbl #[]) else if a=a then some (HO.frz { cls:=.type "list",data:=.seq vs.toArray } (.lst (ns.map V.int))) else none)=some (.frz { cls:=.type "list",data:=.seq vs.toArray } (.lst (ns.map V.int))):=by rw [if_neg naP,if_pos rfl]
  refine core (fun b=>if b=P then some (.tbl #[]) else if b=a then some (.frz { cls:=.type "list",data:=.seq vs.toArray } (.lst (ns.map V.int))) else none) (if_pos rfl) (.inl (.inr ⟨{ cls:=.type "list",data:=.seq vs.toArray },hfr⟩)) (fun b u z=>?_) (fun b z=>?_) fun _=>hk
  ·by_cases q:b=P
   ·subst q
    have z':=(if_pos rfl).symm.trans z
    cases z'
    exact hPt
   ·by_cases hb:b=a
    ·subst hb
     have z':=hfr.symm.trans z
     cases z'
     exact ⟨ha,by rw [List.length_map];exact hl,vs,_,rv,ha⟩
    ·have z0:(if b=P then some (HO.tbl #[]) else if b=a then some (HO.frz { cls:=.type "list",data:=.seq vs.toArray } (.lst (ns.map V.int))) else none)=some u:=z
     rw [if_neg q,if_neg hb] at z0
     cases z0
  ·by_cases q:b=P
   ·exact .inl q
   ·by_cases hb:b=a
    ·exact .inr ⟨hb,hfr⟩
    ·have z0:(if b=P then some (HO.tbl #[]) else if b=a then some (HO.frz { cls:=.type "list",data:=.seq vs.toArray } (.lst (ns.map V.int))) else none)≠none:=z
     rw [if_neg q,if_neg hb] at z0
     exact absurd rfl z0
theorem zlf {l:PySem.W.OpenLaw} {n k:Nat} {q:Program} {loose:List Str} {XP:(Str→Option Value)→Heap→Prop} {YP:World→Heap→Prop} {d:DefRec} {K:Params→PySem.W.Frag} {sp:World→Sp} {x:Str} {c P:Addr}
  (hn:l.most=some n) (hn2:n≤sizeLine) (hdf:d.params.defaults=[]) (hr:zdV k callerA)
  (hY:∀ (w:World) (h:Heap),YP w h→(K w.params).In h)
  (hPt:∀ w:World,(K w.params).lookup P=some (PySem.W.tabObj #[])) (hC:∀ (w:World) (h:Heap),(K w.params).In h→PySem.W.CodeHd h c P)
  (F:∀ (w:World) (mg:Str→Option Value) (fa:Addr) (h:Heap),(K w.params).In h→h.Ns mainGlobals mg→mg d.name=some (.ref fa) →
   ∃ fd:FuncData,(∀ (s:Shared) (u:Value),BindsTo s fd ⟨[u],[]⟩ [(x,u)]) ∧
    ∀ base:Heap,(zbB P (K w.params)).In base→base.Ns mainGlobals mg→PySem.W.CodeHd base c P→base.BuiltinsAt mg P→zcG l.prog w (zbB P (K w.params)) mg base CX0 k fa fd [x] (sp w))
  (hsp:∀ (w:World) (H:Hp) (a:Addr) (ns:List Int),(∀ x∈ns,x.natAbs<2 ^ 2 ^ 20)→ns.length≤n→H P=some (.tbl #[])→SqL (zbB P (K w.params)) H a (ns.map V.int)→sp w [.ref a] H (fun v _=>v=.bl true) fun _ _ _=>False) :
  PySem.W.WalkO q loose XP YP l.row.toRowW d [] (fun f vs=>PySem.call f vs):=by
 refine Att.attach_callL hn hdf fun w s₀ s₁ mg mb fa o pm cd doc a vs ns hb0 G Y ho hd hcd hmg hobj hints hlen hg=>?_
 have KX:=hY w _ Y
 obtain ⟨fd,hb,hF⟩:=F w mg fa _ KX G.T.g hmg
 have hP:=KX _ _ (hPt w)
 obtain ⟨bm,ob,b1,b2,b3,b4,b5,b6⟩:=G.T.bmain
 have hBt:s₁.heap.BuiltinsAt mg P:=by
  refine ⟨bm,ob,b1,b2,fun z=>?_,fun z=>?_,b3,b4,b5,b6⟩
  ·obtain ⟨o',es,ep,e,d',_⟩:=G.T.g
   rw [z,e] at b3;cases b3;rw [d'] at b6;cases b6
  ·rw [z,hP] at b3;cases b3;cases b4
 exact zjX (zlN KX) zaL hP (hC w _ KX) hBt G.T.g G.T.b G.T.builtins G.T.nolimit hg hobj hints (Nat.le_trans hlen hn2) hr hF hb (fun H hP' hS=>hsp w H a ns hb0 hlen hP' hS) fun H e s' z=>z
section
open PySem.W
variable {P:Addr} {K:Frag}
theorem zmv (hP:K.lookup P=some (tabObj #[])) (a:Addr) (x:Str):nsIn (zbB P K) a x=nsIn K a x:=by
 unfold nsIn
 by_cases q:a=P
 ·rw [q,zaL,hP]
 ·rw [zaT q]
theorem zkZ (hP:K.lookup P=some (tabObj #[])) (x:Str) (v:Value):ownIn (zbB P K) x v=ownIn K x v:=by
 unfold ownIn
 cases v with
 | ref a =>
  by_cases q:a=P
  ·simp only [q,zaL,hP]
  ·simp only [zaT q,zmv hP]
 | _=>rfl
theorem zfy (hP:K.lookup P=some (tabObj #[])) (x:Str):∀ l:List Value,alongIn (zbB P K) x l=alongIn K x l
 | []=>rfl
 | c::r=>by simp only [alongIn,zkZ hP,zfy hP x r]
theorem zb3 (hP:K.lookup P=some (tabObj #[])) (t:Value) (x:Str):findIn (zbB P K) t x=findIn K t x:=by
 unfold findIn
 cases t with
 | ref a =>
  by_cases q:a=P
  ·simp only [q,zaL,hP]
  ·simp only [zaT q,zfy hP]
 | _=>rfl
theorem zgk (hP:K.lookup P=some (tabObj #[])) (C:Addr):clsIn (zbB P K) C=clsIn K C:=by
 unfold clsIn
 by_cases q:C=P
 ·rw [q,zaL,hP]
 ·rw [zaT q]
theorem zdR {a:Addr} (q:a≠P):typeIn (zbB P K) (.ref a)=typeIn K (.ref a):=by
 unfold typeIn
 simp only [zaT q]
theorem zd1 (hP:K.lookup P=some (tabObj #[])) (a:Addr):keepIn (zbB P K) (.ref a)=keepIn K (.ref a):=by
 unfold keepIn
 by_cases q:a=P
 ·simp only [q,zaL,hP]
 ·simp only [zaT q,specialIn,zdR q,zb3 hP]
theorem zhf (hP:K.lookup P=some (tabObj #[])) (cd:Value) (x:Str) (h:codeIn K cd x=true):codeIn (zbB P K) cd x=true:=by
 unfold codeIn at h ⊢
 cases cd with
 | ref c =>
  by_cases q:c=P
  ·simp only [q,hP] at h
   cases h
  ·simp only [zaT q]
   exact h
 | _=>exact h
theorem zat (hP:K.lookup P=some (tabObj #[])) {x qual:Str} {st:Stmt} {f:Addr} {fd:FuncData} (F:Fun K x qual st f fd):Fun (zbB P K) x qual st f fd:=by
 obtain ⟨⟨oc,od,kV,doc,pm,an,cdv,ct,osl,e,l,c⟩,k⟩:=F
 have q:f≠P:=fun z=>by rw [z,hP] at l;cases l
 exact ⟨⟨oc,od,kV,doc,pm,an,cdv,ct,osl,e,(zaT q).trans l,zhf hP _ _ c⟩,(zd1 hP f).trans k⟩
theorem Cls.drop (hP:K.lookup P=some (tabObj #[])) {C:Addr} (c:Cls K C):Cls (zbB P K) C:=by
 obtain ⟨h1,h2,h3,h4⟩:=c
 refine ⟨?_,?_,?_,(zb3 hP _ _).trans h4⟩
 ·unfold plainGet at h1 ⊢
  rw [zb3 hP,zb3 hP]
  exact h1
 ·unfold hasDictIn at h2 ⊢
  rw [zgk hP]
  exact h2
 ·unfold plainOver at h3 ⊢
  rw [zgk hP]
  exact h3
theorem ziZ (hP:K.lookup P=some (tabObj #[])) {f:Addr} (h:isFn K (.ref f)=true):f≠P:=fun z=>by
 have e:typeIn K (.ref f)=some .none:=by
  show (K.lookup f).map (·.cls)=_
  rw [z,hP]
  rfl
 unfold isFn at h
 rw [e] at h
 exact absurd h (by decide)
theorem zfr.drop (hP:K.lookup P=some (tabObj #[])) {C f:Addr} {m:Str} (c:zfr K C m f):zfr (zbB P K) C m f:=by
 obtain ⟨h1,h2,h3⟩:=c
 have ne:=ziZ hP h2
 refine ⟨(zb3 hP _ _).trans h1,?_,(zd1 hP f).trans h3⟩
 unfold isFn at h2 ⊢
 rw [zdR ne]
 exact h2
theorem Mk.drop (hP:K.lookup P=some (tabObj #[])) {C f:Addr} (c:Mk K C f):Mk (zbB P K) C f:=by
 obtain ⟨h1,h2,h3,h4⟩:=c
 have ne:=ziZ hP h3
 refine ⟨?_,(zb3 hP _ _).trans h2,?_,(zd1 hP C).trans h4⟩
 ·unfold makesIn at h1 ⊢
  by_cases q:C=P
  ·rw [q,hP] at h1
   cases h1
  ·simp only [zaT q,specialIn,instIn,zdR q,zb3 hP]
   have sb:∀ t b,subIn (zbB P K) t b=subIn K t b:=fun t b=>by
    unfold subIn
    cases t with
    | ref D=>simp only [mroIn,zgk hP]
    | _=>rfl
   simp only [sb]
   exact h1
 ·unfold isFn at h3 ⊢
  rw [zdR ne]
  exact h3
theorem zbS.drop (hP:K.lookup P=some (tabObj #[])) {C:Addr} {f:Str} (h:zbS K C f):zbS (zbB P K) C f:=(zb3 hP _ _).trans h
structure zka (K:Frag) (x qual:Str) (st:Stmt) (f:Addr) (fd:FuncData) (c:Addr):Prop where
 ex:∃ (oc:Value) (od:Option Addr) (kV doc pm:Value) (an:Option Addr) (ct:Value) (osl:Array (Option Value)),
  fd=fnOf x qual (zdA st) (zcO st) (zag st) .none kV doc pm an (.ref c) ct∧K.lookup f=some ⟨oc,od,.func fd,osl⟩∧codeIn K (.ref c) qual=true
 kp:keepIn K (.ref f)=true
theorem zlQ {x qual:Str} {st:Stmt} {f c:Addr} {oc:Value} {od an:Option Addr} {osl:Array (Option Value)} {kV doc pm ct:Value} (l:K.lookup f=some ⟨oc,od,.func (fnOf x qual (zdA st) (zcO st) (zag st) .none kV doc pm an (.ref c) ct),osl⟩)
  (cc:codeIn K (.ref c) qual=true) (k:keepIn K (.ref f)=true):zka K x qual st f (fnOf x qual (zdA st) (zcO st) (zag st) .none kV doc pm an (.ref c) ct) c:=⟨⟨oc,od,kV,doc,pm,an,ct,osl,rfl,l,cc⟩,k⟩
theorem zka.fun {x qual:Str} {st:Stmt} {f c:Addr} {fd:FuncData} (F:zka K x qual st f fd c):Fun K x qual st f fd:=by
 obtain ⟨⟨oc,od,kV,doc,pm,an,ct,osl,e,l,cc⟩,k⟩:=F
 exact ⟨⟨oc,od,kV,doc,pm,an,.ref c,ct,osl,e,l,cc⟩,k⟩
theorem zka.drop (hP:K.lookup P=some (tabObj #[])) {x qual:Str} {st:Stmt} {f c:Addr} {fd:FuncData} (F:zka K x qual st f fd c):zka (zbB P K) x qual st f fd c:=by
 obtain ⟨⟨oc,od,kV,doc,pm,an,ct,osl,e,l,cc⟩,k⟩:=F
 have q:f≠P:=fun z=>by rw [z,hP] at l;cases l
 exact ⟨⟨oc,od,kV,doc,pm,an,ct,osl,e,(zaT q).trans l,zhf hP _ _ cc⟩,(zd1 hP f).trans k⟩
theorem zka.ok {Pg:Program} {w:World} {mg:Str→Option Value} {base:Heap} {x qual:Str} {st:Stmt} {f c:Addr} {fd:FuncData} {N ps:List Str} {k:Nat} {sp:Sp} (F:zka K x qual st f fd c) (S:zaB N ps (zag st)) (len:∀ vs H Q E,sp vs H Q E→vs.length=ps.length)
  (hbody:∀ (A:Around) (outer:List Env) (s:Shared) (H:Hp) (vs:List V) (Q:VK) (E:XK),zdV k (A.deeper (envOfC qual (zag st) s.heap.objs.size f (.ref c)))→sp vs H Q E →
   ∃ t,PSs (zmi CX0 Pg w K mg base N qual (zag st) f (.ref c) A outer s H E).nox (zcO st) t∧t { nx:=fun _ H'=>Q .non H',rt:=Q } (zbb N vs) H):zcG Pg w K mg base CX0 (k+1) f fd ps sp:=by
 obtain ⟨⟨oc,od,kV,doc,pm,an,ct,osl,rfl,lk,hcd⟩,_⟩:=F
 refine znB lk hcd S len fun A outer s H vs Q E hr hsp=>?_
 obtain ⟨t,h,q⟩:=hbody A outer s H vs Q E hr hsp
 exact ⟨t,h.nox,q⟩
end
end L2
namespace L2
open PySem PySem.Spec PyProof.Rows
def tAt (C:Addr) (ta:TE) (f:Str):TE:=fun σ H Q=>ta σ H fun x H1=>∃ p dx fs v,x=.ref p∧H1 p=some (.ins C dx fs)∧fs.lookup f=some v∧Q v H1
def sAt (C:Addr) (ta tv:TE) (f:Str):TS:=fun D σ H=>tv σ H fun y H1=>ta σ H1 fun x H2=>∃ p dx fs,x=.ref p∧H2 p=some (.ins C dx fs)∧fs.length<1000∧D.nx σ (upd H2 p (.ins C dx (zeL f y fs)))
section
variable {X:Cx} {o e value:Expr} {f:Str} {pos pos':Pos} {ta tv:TE} {C:Addr}
theorem zbC (c:Cls X.K C) (n:zbS X.K C f) (he:PE X e ta) (hb:attributeBase e f X.env (eval e X.env)=eval e X.env:=by rfl):PE X (.Attribute e f pos) (tAt C ta f):=by
 intro pins s σ H Q I h
 refine zmp hb (thn (he pins s σ H _ I h) fun u s1 hQ'=>?_)
 obtain ⟨x,H1,I1,rx,a,dx,fs,v,ex,ea,l,q⟩:=hQ'
 subst ex
 obtain rfl:u=Value.ref a:=rx
 exact zim I1 ea c n l fun u' s2 I2 ru=>⟨v,H1,I2,ru,q⟩
theorem zgX (c:Cls X.K C) (n:zbS X.K C f) (ha:PE X o ta) (hv:PE X value tv) (hs:swapsWith value (some (.Attribute o f pos')) pos.line X.env=pure false:=by rfl):PS X (.Assign [.Attribute o f pos'] value pos) (sAt C ta tv f):=by
 intro pins s σ H D I h
 refine plainObj_wpAny_Assign_Attribute (thn (hv pins s σ H _ I h) fun u s1 ⟨y,H1,I1,ry,q⟩=>thn (ha pins s1 σ H1 _ I1 q) fun ov s2 hQ'=>?_) hs
 obtain ⟨x,H2,I2,rx,a,dx,fs,ex,ea,l,q2⟩:=hQ'
 subst ex
 obtain rfl:ov=Value.ref a:=rx
 exact zit I2 ea c n l ry fun s3 I3=>⟨σ,_,I3,q2⟩
end
def zoi:Expr→Pos
 | .Call _ _ (⟨_,.Lambda _ _ _ p,_⟩::_) _=>p
 | _=>⟨0,0,0,0⟩
def znI:Stmt→Pos
 | .If _ (.Return (some e) _::_) _ _=>zoi e
 | _=>⟨0,0,0,0⟩
theorem znd.one {X:Cx} {sc:Scope} {x:Str} {c:Addr} {j:Nat} (hN:X.N[j]?=some x) (hk:X.env.scope.names.lookup x=some .cell) (hc:X.env.cells.lookup x=some c) (hf:sc.names.lookup x=some .free) (hall:∀ z∈sc.names,z.2=.free→z.1=x) :
  znd X sc [(x,c)] [x] [j]:=by
 have l1:([(x,c)]:List (Str×Addr)).lookup x=some c:=by simp [List.lookup]
 refine ⟨rfl,fun i y hi=>?_,fun y hy=>?_,fun y d hd=>?_⟩
 ·cases i with
  | zero =>
   have hi:some x=some y:=hi
   cases hi
   exact ⟨j,c,rfl,hN,hk,l1,hf⟩
  | succ i=>cases hi
 ·have:=hall _ (PySem.mem_of_lookup hy) rfl
  have e:y=x:=this
  rw [e]
  exact ⟨c,l1⟩
 ·rw [List.lookup_cons] at hd
  cases q:y == x with
  | true =>
   rw [q] at hd
   cases hd
   rw [beq_iff_eq.mp q]
   exact hc
  | false =>
   rw [q] at hd
   cases hd
theorem zbQ.same {H H':Hp} {P:Addr} {pos:Pos} {qual:Str} (h:zbQ H P pos qual) (s:∀ b o,H b=some o→H' b=some o):zbQ H' P pos qual:=by
 rcases h with h | ⟨c',oc,vs,t,e1,e2,e3,e4⟩
 ·exact .inl (s _ _ h)
 ·exact .inr ⟨c',oc,vs,t,e1,s _ _ e2,s _ _ e3,e4⟩
theorem zbQ.first {H:Hp} {P:Addr} {pos:Pos} {qual:Str} (h:H P=some (.tbl #[])):zbQ H P pos qual:=.inl h
theorem zbQ.neL {H:Hp} {P x:Addr} {pos:Pos} {qual:Str} {xs:List V} (h:zbQ H P pos qual) (e:H x=some (.lst xs)):x≠P:=fun z=>by
 obtain ⟨u,h⟩:=h.tbl
 rw [z,h] at e
 cases e
theorem zbQ.neI {H:Hp} {P x C dx:Addr} {pos:Pos} {qual:Str} {fs:List (Str×V)} (h:zbQ H P pos qual) (e:H x=some (.ins C dx fs)):x≠P:=fun z=>by
 obtain ⟨u,h⟩:=h.tbl
 rw [z,h] at e
 cases e
theorem zbQ.put {H H':Hp} {P:Addr} {pos:Pos} {qual:Str} (h:zbQ H P pos qual) (s:∀ b o,(∀ xs,o≠.lst xs)→(∀ C dx fs,o≠.ins C dx fs)→H b=some o→H' b=some o):zbQ H' P pos qual:=by
 rcases h with h | ⟨c',oc,vs,t,e1,e2,e3,e4⟩
 ·exact .inl (s _ _ (fun _ z=>nomatch z) (fun _ _ _ z=>nomatch z) h)
 ·exact .inr ⟨c',oc,vs,t,e1,s _ _ (fun _ z=>nomatch z) (fun _ _ _ z=>nomatch z) e2,s _ _ (fun _ z=>nomatch z) (fun _ _ _ z=>nomatch z) e3,e4⟩
theorem zmJ {K:PySem.W.Frag} {h:Heap} {c P:Addr} {od:Option Addr} {sl:Array (Option Value)} {v0 v1 v2 v3 v4 v5 v6 v8 v12 v13 v14 v15 v16 v17:Value} {fl tx:Int} {tg tt tf:Tok} {inF:Bool} {file:Str} (X:K.In h)
  (l:K.lookup c=some ⟨.type "code",od,.fields #[v0,v1,v2,v3,v4,v5,v6,.int fl tg,v8,.bool inF,.int tx tt,.ref P,v12,v13,v14,v15,v16,v17,.str file tf],sl⟩) (ne:c≠P):PySem.W.CodeHd h c P :=
 ⟨_,_,_,_,_,_,_,_,_,X _ _ l,rfl,rfl,rfl,rfl,rfl,rfl,rfl,rfl,ne⟩
end L2
set_option maxHeartbeats 4000000
local macro_rules
 | `(tactic| simp_all only [$xs,*])=>do
  let ds ← ("zmO zmX zlU zl1 zmd zlV zmc zlZ zmb zkM zk2 zkj zkA zla rI_c rI0_c zns znL ex_bl znU zn3 znS zn6 zku zkX zkz zlb zkG zkY zkh zkQ zkH zkN zjM ziT zi9 zjt zjE zj0 zkk zaq tSl zeQ zi7 znH zci zj8 ziG zl0 zc3 zbT zaM zbo zaU zne zfm znl tCB zac zao tC tOp zbd zda zbM zfL zgu zaA zga tBM zgf tAt zdo zmV zk6 zkn zhv zdz tUn rU zf1 tB tTru zlt rEq rSum tAnd tOr zgz tOrV zlY zgv zlT zfD tPar zmz".splitOn " ").toArray.mapM fun s=>`(Lean.Parser.Tactic.simpLemma| ↓ $(Lean.mkIdent s.toName):ident)
  let ps ← ("zk5 Option.bind_some Option.bind_none Option.join_some Option.map_some List.getElem?_cons_zero List.getElem?_cons_succ V.str.injEq V.ty.injEq zab rI rI0 za2 zdJ L2.zbb zk3 zl8 zkU zlO List.map_cons List.map_nil List.length_cons List.length_nil List.replicate List.cons_append List.nil_append List.append_nil Option.some.injEq exists_eq_left' exists_eq_left exists_and_left List.cons.injEq V.int.injEq V.ref.injEq V.bl.injEq and_true true_and List.set_cons_zero List.set_cons_succ Nat.reduceAdd Nat.reduceSub Int.reduceToNat Int.reducePow Int.reduceNeg Int.reduceMul Int.reduceAdd Int.reduceSub decide_eq_true_eq Bool.not_eq_true' decide_eq_false_iff_not exists_const and_assoc exists_eq exists_eq' if_true if_false Bool.false_eq_true Bool.true_eq_false reduceCtorEq not_true_eq_false not_false_eq_true sAt".splitOn " ").toArray.mapM fun s=>`(Lean.Parser.Tactic.simpLemma| $(Lean.mkIdent s.toName):ident)
  `(tactic| simp only [$xs,*,$ds,*,$ps,*])
namespace My
local macro_rules | `(tactic| omega)=>`(tactic| lia)
open PySem L2
def top (i:Nat):Stmt:=PySem.Challenge.pw_hideworth_k13_whole_tables_told_otherwis.main.body.getD i (.Pass ⟨0,0,0,0⟩)
abbrev ze5:Stmt:=top 5
abbrev zhD:Stmt:=top 6
abbrev zjV:Stmt:=top 7
abbrev zcg:Stmt:=top 8
abbrev zeG:Stmt:=top 9
abbrev zes:Stmt:=top 11
abbrev zeJ:Stmt:=top 20
abbrev zcR:Stmt:=top 21
abbrev zdl:Stmt:=top 22
abbrev zbE:Stmt:=(zdp (top 13)).getD 0 (.Pass ⟨0,0,0,0⟩)
abbrev zbl:Stmt:=(zdp (top 13)).getD 1 (.Pass ⟨0,0,0,0⟩)
abbrev zcf:Stmt:=(zdp (top 13)).getD 2 (.Pass ⟨0,0,0,0⟩)
abbrev zbu:Stmt:=(zdp (top 13)).getD 3 (.Pass ⟨0,0,0,0⟩)
abbrev zcy:Stmt:=(zdp (top 13)).getD 4 (.Pass ⟨0,0,0,0⟩)
abbrev zbY:Stmt:=(zdp (top 13)).getD 5 (.Pass ⟨0,0,0,0⟩)
abbrev zcI:Stmt:=(zdp (top 13)).getD 6 (.Pass ⟨0,0,0,0⟩)
abbrev zbg:Stmt:=(zdp (top 13)).getD 7 (.Pass ⟨0,0,0,0⟩)
abbrev zbK:Stmt:=top 14
abbrev zcp:Stmt:=top 15
abbrev zbF:Stmt:=top 16
abbrev zeM:Stmt:=top 17
abbrev zc2:Stmt:=top 23
abbrev zet:Stmt:=top 25
abbrev zcK:Stmt:=top 26
abbrev zdD:Stmt:=top 27
abbrev zdy:Stmt:=top 28
abbrev zcD:Stmt:=top 29
abbrev zc1:Stmt:=top 30
abbrev zc4:Stmt:=top 35
abbrev zdC:Stmt:=top 36
abbrev zeC:Stmt:=top 37
def ziW:Pos:=znI ((zcO zbl).getD 2 (.Pass ⟨0,0,0,0⟩))
set_option genInjectivity false in
set_option genSizeOf false in
structure Ad where
 f_divisor:Addr
 d_divisor:FuncData
 f_ratio:Addr
 d_ratio:FuncData
 f_plus:Addr
 d_plus:FuncData
 f_shared_divisor:Addr
 d_shared_divisor:FuncData
 f_lowest:Addr
 d_lowest:FuncData
 f_is_whole:Addr
 d_is_whole:FuncData
 f_is_row:Addr
 d_is_row:FuncData
 f_is_table:Addr
 d_is_table:FuncData
 f_look_table:Addr
 d_look_table:FuncData
 f_Board___init__:Addr
 d_Board___init__:FuncData
 f_Board_entering:Addr
 d_Board_entering:FuncData
 f_Board_steepest:Addr
 d_Board_steepest:FuncData
 f_Board_steepness:Addr
 d_Board_steepness:FuncData
 f_Board_leaving:Addr
 d_Board_leaving:FuncData
 f_Board_is_sooner:Addr
 d_Board_is_sooner:FuncData
 f_Board_swap:Addr
 d_Board_swap:FuncData
 f_Board_swapped_row:Addr
 d_Board_swapped_row:FuncData
 f_first_grid:Addr
 d_first_grid:FuncData
 f_row_weights:Addr
 d_row_weights:FuncData
 f_column_weights:Addr
 d_column_weights:FuncData
 f_solved:Addr
 d_solved:FuncData
 f_table_worth:Addr
 d_table_worth:FuncData
 f__law_mix:Addr
 d__law_mix:FuncData
 f__law_cell_at:Addr
 d__law_cell_at:FuncData
 f__law_left:Addr
 d__law_left:FuncData
 f__law_draw:Addr
 d__law_draw:FuncData
 f__law_table:Addr
 d__law_table:FuncData
 f__law_copy:Addr
 d__law_copy:FuncData
 f__law_lowest:Addr
 d__law_lowest:FuncData
 f__law_turn:Addr
 d__law_turn:FuncData
 f_law:Addr
 d_law:FuncData
 c_Board:Addr
 k_MOST:Tok
 p_lam:Addr
 cd_lam:Addr
structure Txt (K:PySem.W.Frag) (mg:Str→Option Value) (base:Heap) (a:Ad):Prop where
 F_divisor:Fun K "divisor" "divisor" ze5 a.f_divisor a.d_divisor
 b_divisor:zbe K a.d_divisor ["one","other"] []
 m_divisor:mg "divisor"=some (.ref a.f_divisor)
 F_ratio:Fun K "ratio" "ratio" zhD a.f_ratio a.d_ratio
 b_ratio:zbe K a.d_ratio ["top","bottom"] []
 m_ratio:mg "ratio"=some (.ref a.f_ratio)
 F_plus:Fun K "plus" "plus" zjV a.f_plus a.d_plus
 b_plus:zbe K a.d_plus ["one","other"] []
 m_plus:mg "plus"=some (.ref a.f_plus)
 F_shared_divisor:Fun K "shared_divisor" "shared_divisor" zcg a.f_shared_divisor a.d_shared_divisor
 b_shared_divisor:zbe K a.d_shared_divisor ["numbers"] []
 m_shared_divisor:mg "shared_divisor"=some (.ref a.f_shared_divisor)
 F_lowest:Fun K "lowest" "lowest" zeG a.f_lowest a.d_lowest
 b_lowest:zbe K a.d_lowest ["weights"] []
 m_lowest:mg "lowest"=some (.ref a.f_lowest)
 F_is_whole:Fun K "is_whole" "is_whole" zes a.f_is_whole a.d_is_whole
 b_is_whole:zbe K a.d_is_whole ["thing"] []
 m_is_whole:mg "is_whole"=some (.ref a.f_is_whole)
 F_is_row:Fun K "is_row" "is_row" zeJ a.f_is_row a.d_is_row
 b_is_row:zbe K a.d_is_row ["thing"] []
 m_is_row:mg "is_row"=some (.ref a.f_is_row)
 F_is_table:Fun K "is_table" "is_table" zcR a.f_is_table a.d_is_table
 b_is_table:zbe K a.d_is_table ["thing"] []
 m_is_table:mg "is_table"=some (.ref a.f_is_table)
 F_look_table:Fun K "look_table" "look_table" zdl a.f_look_table a.d_look_table
 b_look_table:zbe K a.d_look_table ["table"] []
 m_look_table:mg "look_table"=some (.ref a.f_look_table)
 F_Board___init__:Fun K "__init__" "Board.__init__" zbE a.f_Board___init__ a.d_Board___init__
 b_Board___init__:zbe K a.d_Board___init__ ["self","grid"] []
 F_Board_entering:zka K "entering" "Board.entering" zbl a.f_Board_entering a.d_Board_entering a.cd_lam
 b_Board_entering:zbe K a.d_Board_entering ["self"] []
 M_Board_entering:zfr K a.c_Board "entering" a.f_Board_entering
 F_Board_steepest:Fun K "steepest" "Board.steepest" zcf a.f_Board_steepest a.d_Board_steepest
 b_Board_steepest:zbe K a.d_Board_steepest ["self","columns"] []
 M_Board_steepest:zfr K a.c_Board "steepest" a.f_Board_steepest
 F_Board_steepness:Fun K "steepness" "Board.steepness" zbu a.f_Board_steepness a.d_Board_steepness
 b_Board_steepness:zbe K a.d_Board_steepness ["self","column"] []
 M_Board_steepness:zfr K a.c_Board "steepness" a.f_Board_steepness
 F_Board_leaving:Fun K "leaving" "Board.leaving" zcy a.f_Board_leaving a.d_Board_leaving
 b_Board_leaving:zbe K a.d_Board_leaving ["self","column"] []
 M_Board_leaving:zfr K a.c_Board "leaving" a.f_Board_leaving
 F_Board_is_sooner:Fun K "is_sooner" "Board.is_sooner" zbY a.f_Board_is_sooner a.d_Board_is_sooner
 b_Board_is_sooner:zbe K a.d_Board_is_sooner ["self","k","best","column"] []
 M_Board_is_sooner:zfr K a.c_Board "is_sooner" a.f_Board_is_sooner
 F_Board_swap:Fun K "swap" "Board.swap" zcI a.f_Board_swap a.d_Board_swap
 b_Board_swap:zbe K a.d_Board_swap ["self","row","column"] []
 M_Board_swap:zfr K a.c_Board "swap" a.f_Board_swap
 F_Board_swapped_row:Fun K "swapped_row" "Board.swapped_row" zbg a.f_Board_swapped_row a.d_Board_swapped_row
 b_Board_swapped_row:zbe K a.d_Board_swapped_row ["self","k","row","column"] []
 M_Board_swapped_row:zfr K a.c_Board "swapped_row" a.f_Board_swapped_row
 F_first_grid:Fun K "first_grid" "first_grid" zbK a.f_first_grid a.d_first_grid
 b_first_grid:zbe K a.d_first_grid ["table","lift"] []
 m_first_grid:mg "first_grid"=some (.ref a.f_first_grid)
 F_row_weights:Fun K "row_weights" "row_weights" zcp a.f_row_weights a.d_row_weights
 b_row_weights:zbe K a.d_row_weights ["board","many"] []
 m_row_weights:mg "row_weights"=some (.ref a.f_row_weights)
 F_column_weights:Fun K "column_weights" "column_weights" zbF a.f_column_weights a.d_column_weights
 b_column_weights:zbe K a.d_column_weights ["board","rows","many"] []
 m_column_weights:mg "column_weights"=some (.ref a.f_column_weights)
 F_solved:Fun K "solved" "solved" zeM a.f_solved a.d_solved
 b_solved:zbe K a.d_solved ["table"] []
 m_solved:mg "solved"=some (.ref a.f_solved)
 F_table_worth:Fun K "table_worth" "table_worth" zc2 a.f_table_worth a.d_table_worth
 b_table_worth:zbe K a.d_table_worth ["table"] []
 m_table_worth:mg "table_worth"=some (.ref a.f_table_worth)
 F__law_mix:Fun K "_law_mix" "_law_mix" zet a.f__law_mix a.d__law_mix
 b__law_mix:zbe K a.d__law_mix ["_law_number","_law_k"] []
 m__law_mix:mg "_law_mix"=some (.ref a.f__law_mix)
 F__law_cell_at:Fun K "_law_cell_at" "_law_cell_at" zcK a.f__law_cell_at a.d__law_cell_at
 b__law_cell_at:zbe K a.d__law_cell_at ["_law_script","_law_k"] []
 m__law_cell_at:mg "_law_cell_at"=some (.ref a.f__law_cell_at)
 F__law_left:Fun K "_law_left" "_law_left" zdD a.f__law_left a.d__law_left
 b__law_left:zbe K a.d__law_left ["_law_script","_law_k"] []
 m__law_left:mg "_law_left"=some (.ref a.f__law_left)
 F__law_draw:Fun K "_law_draw" "_law_draw" zdy a.f__law_draw a.d__law_draw
 b__law_draw:zbe K a.d__law_draw ["_law_left_here","_law_base"] []
 m__law_draw:mg "_law_draw"=some (.ref a.f__law_draw)
 F__law_table:Fun K "_law_table" "_law_table" zcD a.f__law_table a.d__law_table
 b__law_table:zbe K a.d__law_table ["_law_left_here"] []
 m__law_table:mg "_law_table"=some (.ref a.f__law_table)
 F__law_copy:Fun K "_law_copy" "_law_copy" zc1 a.f__law_copy a.d__law_copy
 b__law_copy:zbe K a.d__law_copy ["_law_table_here"] []
 m__law_copy:mg "_law_copy"=some (.ref a.f__law_copy)
 F__law_lowest:Fun K "_law_lowest" "_law_lowest" zc4 a.f__law_lowest a.d__law_lowest
 b__law_lowest:zbe K a.d__law_lowest ["_law_top","_law_bottom"] []
 m__law_lowest:mg "_law_lowest"=some (.ref a.f__law_lowest)
 F__law_turn:Fun K "_law_turn" "_law_turn" zdC a.f__law_turn a.d__law_turn
 b__law_turn:zbe K a.d__law_turn ["_law_left_here","_law_many"] []
 m__law_turn:mg "_law_turn"=some (.ref a.f__law_turn)
 F_law:Fun K "law" "law" zeC a.f_law a.d_law
 b_law:zbe K a.d_law ["_law_script"] []
 m_law:mg "law"=some (.ref a.f_law)
 cl_Board:Cls K a.c_Board
 K_Board:Mk K a.c_Board a.f_Board___init__
 na_Board_grid:zbS K a.c_Board "grid"
 na_Board_scale:zbS K a.c_Board "scale"
 na_Board_idle:zbS K a.c_Board "idle"
 na_Board_busy:zbS K a.c_Board "busy"
 na_Board_stuck:zbS K a.c_Board "stuck"
 hC:PySem.W.CodeHd base a.cd_lam a.p_lam
 hB:base.BuiltinsAt mg a.p_lam
 z_isinstance:mg "isinstance"=none
 z_int:mg "int"=none
 z_bool:mg "bool"=none
 z_list:mg "list"=none
 z_len:mg "len"=none
 z_all:mg "all"=none
 z_sum:mg "sum"=none
 z_min:mg "min"=none
 z_enumerate:mg "enumerate"=none
 z_range:mg "range"=none
 z_abs:mg "abs"=none
 m_Board:mg "Board"=some (.ref a.c_Board)
 m_MOST:mg "MOST"=some (.int 12 a.k_MOST)
def Bd (m:Nat) (x:Int):Prop:=x.natAbs<2 ^ m
theorem Bd.mono {m n:Nat} {x:Int} (h:Bd m x) (l:m≤n):Bd n x:=Nat.lt_of_lt_of_le h (Nat.pow_le_pow_right (by decide) l)
theorem Bd.mul {m n:Nat} {x y:Int} (hx:Bd m x) (hy:Bd n y):Bd (m+n) (x*y):=by
 unfold Bd at *
 rw [Int.natAbs_mul,Nat.pow_add]
 exact Nat.mul_lt_mul'' hx hy
theorem Bd.add {m:Nat} {x y:Int} (hx:Bd m x) (hy:Bd m y):Bd (m+1) (x+y):=by
 unfold Bd at *
 rw [Nat.pow_succ,Nat.mul_two]
 exact Nat.lt_of_le_of_lt (Int.natAbs_add_le x y) (Nat.add_lt_add hx hy)
theorem Bd.sub {m:Nat} {x y:Int} (hx:Bd m x) (hy:Bd m y):Bd (m+1) (x - y):=by
 unfold Bd at *
 rw [Nat.pow_succ,Nat.mul_two]
 exact Nat.lt_of_le_of_lt (Int.natAbs_sub_le x y) (Nat.add_lt_add hx hy)
theorem Bd.le {m:Nat} {x y:Int} (hy:Bd m y) (h:x.natAbs≤y.natAbs):Bd m x:=Nat.lt_of_le_of_lt h hy
def sg (t b:Int):Int:=if b<0 then -(Int.gcd t b:Int) else (Int.gcd t b:Int)
def zky (t b:Int):Int:=t.fdiv (sg t b)
def zhQ (t b:Int):Int:=b.fdiv (sg t b)
theorem zjL {t b:Int} (h:b≠0):Int.gcd t b≠0:=fun e=>h (Int.gcd_eq_zero_iff.mp e).2
theorem zgW {t b:Int} (h:b≠0):sg t b≠0:=by
 have:=zjL (t:=t) h
 unfold sg
 split <;> omega
theorem zlJ (t b:Int):(sg t b).natAbs=Int.gcd t b:=by
 unfold sg
 split <;> omega
theorem zl6 (t b:Int):sg t b∣t:=by
 unfold sg
 split
 ·exact Int.neg_dvd.mpr (Int.gcd_dvd_left ..)
 ·exact Int.gcd_dvd_left ..
theorem zmr (t b:Int):sg t b∣b:=by
 unfold sg
 split
 ·exact Int.neg_dvd.mpr (Int.gcd_dvd_right ..)
 ·exact Int.gcd_dvd_right ..
theorem zfs {x g:Int} (h:g∣x):x.fdiv g*g=x:=by
 rw [Int.fdiv_eq_ediv_of_dvd h]
 exact Int.ediv_mul_cancel h
theorem zfW (t b:Int):zky t b*sg t b=t:=zfs (zl6 t b)
theorem zeI (t b:Int):zhQ t b*sg t b=b:=zfs (zmr t b)
theorem znO {t b:Int} (h:b≠0):(sg t b).natAbs≤b.natAbs:=by
 rw [zlJ]
 exact Nat.le_of_dvd (by omega) (Int.natAbs_dvd_natAbs.mpr (Int.gcd_dvd_right t b))
theorem zfu {q g x:Int} (h:q*g=x) (hg:g≠0):q.natAbs≤x.natAbs:=by
 rw [← h,Int.natAbs_mul]
 exact Nat.le_mul_of_pos_right _ (by omega)
theorem zmS {t b:Int} (h:b≠0):(zky t b).natAbs≤t.natAbs:=zfu (zfW t b) (zgW h)
theorem zma {t b:Int} (h:b≠0):(zhQ t b).natAbs≤b.natAbs:=zfu (zeI t b) (zgW h)
theorem ziy {q g x:Int} (h:q*g=x) (s:(0<x∧0<g)∨(x<0∧g<0)):0<q:=by
 rcases s with ⟨a,c⟩ | ⟨a,c⟩
 ·exact Int.pos_of_mul_pos_left (by rw [h];exact a) c
 ·by_cases z:0<q
  ·exact z
  ·have h1:0≤(-q)*(-g):=Int.mul_nonneg (by omega) (by omega)
   rw [Int.neg_mul_neg,h] at h1
   omega
theorem zkD {t b:Int} (h:b≠0):0<zhQ t b:=by
 refine ziy (zeI t b) ?_
 have g:=zjL (t:=t) h
 unfold sg
 split <;> omega
theorem zmf {t b:Int} (h:b≠0):Int.gcd (zky t b) (zhQ t b)=1:=by
 have e:Int.gcd (zky t b*sg t b) (zhQ t b*sg t b)=Int.gcd (zky t b) (zhQ t b)*(sg t b).natAbs:=Int.gcd_mul_right ..
 rw [zfW,zeI,zlJ] at e
 exact Nat.eq_of_mul_eq_mul_right (Nat.pos_of_ne_zero (zjL h)) (by rw [Nat.one_mul];exact e.symm)
theorem zgx {t b:Int} (h:b≠0):(Rat.divInt t b).num=zky t b∧((Rat.divInt t b).den:Int)=zhQ t b:=by
 have p:=zkD (t:=t) h
 have g:=zmf (t:=t) h
 have e2:((zhQ t b).toNat:Int)=zhQ t b:=by omega
 have nz:(zhQ t b).toNat≠0:=by omega
 have red:(zky t b).natAbs.Coprime (zhQ t b).toNat:=by
  have e:(zhQ t b).toNat=(zhQ t b).natAbs:=by omega
  rw [e]
  exact g
 have e:Rat.divInt t b=⟨zky t b,(zhQ t b).toNat,nz,red⟩:=by
  rw [Rat.mk_eq_divInt,e2,Rat.divInt_eq_divInt_iff h (by omega)]
  have h1:=zfW t b
  have h2:=zeI t b
  generalize zky t b=x at h1 ⊢
  generalize zhQ t b=y at h2 ⊢
  rw [← h1,← h2]
  grind
 rw [e]
 exact ⟨rfl,e2⟩
abbrev fr (q:Rat):List L2.V:=[.int q.num,.int (q.den:Int)]
abbrev nf (q:Rat):List Int:=[q.num,(q.den:Int)]
theorem zdL (q:Rat):(q.den:Int)≠0:=by
 have:=q.den_nz
 omega
theorem zfN (q:Rat):0<(q.den:Int):=by
 have:=q.den_nz
 omega
theorem zj2 (p q:Rat):Rat.divInt (p.num*q.den+q.num*p.den) (p.den*q.den)=p+q:=by
 rw [← Rat.divInt_add_divInt _ _ (zdL p) (zdL q),Rat.num_divInt_den,Rat.num_divInt_den]
structure Bq (n:Nat) (q:Rat):Prop where
 top:Bd n q.num
 bot:Bd n (q.den:Int)
theorem Bq.mono {m n:Nat} {q:Rat} (h:Bq m q) (l:m≤n):Bq n q:=⟨h.top.mono l,h.bot.mono l⟩
theorem zgP {n:Nat} {t b:Int} (h:b≠0) (ht:Bd n t) (hb:Bd n b):Bq n (Rat.divInt t b):=by
 obtain ⟨e1,e2⟩:=zgx (t:=t) h
 exact ⟨by rw [e1];exact ht.le (zmS h),by rw [e2];exact hb.le (zma h)⟩
theorem Bq.add {n:Nat} {p q:Rat} (hp:Bq n p) (hq:Bq n q):Bq (n+n+1) (p+q):=by
 rw [← zj2]
 exact zgP (Int.mul_ne_zero (zdL p) (zdL q)) ((hp.top.mul hq.bot).add (hq.top.mul hp.bot)) ((hp.bot.mul hq.bot).mono (Nat.le_succ _))
theorem zkE {x y:Int} (hx:0≤x) (hy:0<y):Int.gcd y (x % y)=Int.gcd x y:=by
 obtain ⟨m,rfl⟩:=Int.eq_ofNat_of_zero_le hx
 obtain ⟨n,rfl⟩:=Int.eq_ofNat_of_zero_le (Int.le_of_lt hy)
 rw [← Int.natCast_emod]
 show Nat.gcd n (m % n)=Nat.gcd m n
 rw [Nat.gcd_comm n,← Nat.gcd_rec,Nat.gcd_comm]
theorem zgN {x y:Int} (hx:0≤x) (hy:0<y):Int.gcd y (x.fmod y)=Int.gcd x y:=by
 rw [Int.fmod_eq_emod_of_nonneg x (Int.le_of_lt hy)]
 exact zkE hx hy
theorem zli (i:Int):(if i<0 then -i else i)=(i.natAbs:Int):=by
 split <;> omega
theorem zfG (u:Int) (h:0≤u):((Int.gcd u 0:Nat):Int)=u:=by
 show ((Nat.gcd u.natAbs 0:Nat):Int)=u
 rw [Nat.gcd_zero_right]
 omega
theorem znv:zlx 10 18:=⟨by decide,by decide,by decide⟩
def zk8:Sp:=fun vs H Q _=>∃ a b:Int,vs=[.int a,.int b]∧Q (.int (Int.gcd a b:Nat)) H
abbrev Box:=Int×Int×Int
abbrev bx (b:Box):List V:=[.int b.1,.int b.2.1,.int b.2.2]
theorem zbO {α β:Type} {f:α→β} {l:List α} {i:Nat} {y:β} (h:(l.map f)[i]?=some y):∃ x,l[i]?=some x∧y=f x:=by
 rw [List.getElem?_map] at h
 obtain ⟨x,h1,h2⟩:=Option.map_eq_some_iff.mp h
 exact ⟨x,h1,h2.symm⟩
def Tps {α:Type} (f:α→List V) (H:Hp) (ts:List Addr) (bs:List α):Prop:=ts.length=bs.length∧∀ (i:Nat) t b,ts[i]?=some t→bs[i]?=some b→H t=some (.tup (f b))
theorem ziJ {α:Type} {l:List α} {i:Nat} {x:α} (e:l[i]?=some x):x∈l:=List.mem_of_getElem? e
def Off (p c:Addr) (H:Hp):Hp:=fun b=>if b=p∨b=c then none else H b
theorem zbL (p c:Addr) (H:Hp):zaR (Off p c H) H:=fun b o h=>by
 unfold Off at h
 split at h
 ·cases h
 ·exact h
theorem zcn {p c b:Addr} {H:Hp} (h1:b≠p) (h2:b≠c):Off p c H b=H b:=if_neg (fun z=>z.elim h1 h2)
theorem zjU {p c b:Addr} {H:Hp} {o:HO} (h:Off p c H b=some o):b≠p∧b≠c:=by
 unfold Off at h
 split at h
 ·cases h
 ·rename_i z
  exact ⟨fun e=>z (.inl e),fun e=>z (.inr e)⟩
theorem zn7 {p c:Addr} {H:Hp} {o:HO}:Off p c (upd H p o)=Off p c H:=by
 funext b
 unfold Off upd
 split
 ·rfl
 ·rename_i z
  rw [if_neg fun e=>z (.inl e)]
theorem zbA {p c b:Addr} {H:Hp} {o:HO} (h1:b≠p) (h2:b≠c):Off p c (upd H b o)=upd (Off p c H) b o:=by
 funext x
 unfold Off upd
 by_cases e:x=b
 ·subst e
  rw [if_neg fun z=>z.elim h1 h2,if_pos rfl,if_pos rfl]
 ·rw [if_neg e,if_neg e]
theorem zde {H:Hp} {p c b:Addr} (hb:H b=none):Off p c H b=none:=by
 unfold Off
 split
 ·rfl
 ·exact hb
theorem zic {H H':Hp} (p c:Addr) (s:zaR H H'):zaR (Off p c H) (Off p c H'):=fun b o h=>by
 have n:=zjU h
 rw [zcn n.1 n.2] at h ⊢
 exact s _ _ h
def zkI:Sp:=fun vs H Q _=>∃ t b:Int,vs=[.int t,.int b]∧b≠0∧Bd 6000 b∧∀ (r:Addr) (H':Hp),zaR H H'→H' r=some (.tup (fr (Rat.divInt t b)))→Q (.ref r) H'
theorem zlp {t b:Int} (h:b≠0) (hb:Bd 6000 b):(sg t b).natAbs.log2<9000:=zg3 6000 (zgW h) (hb.le (znO h))
structure Drw (H:Hp) (p:Addr) (c:Int):Prop where
 hp:∃ n f:Int,H p=some (.lst [.int n,.int f,.int c])∧n.natAbs<2 ^ 2 ^ 20∧(f=0∨f=1∧0≤n)
 c0:0≤c
theorem Drw.new {H:Hp} {p:Addr} {c:Int} (h:Drw H p c) {b:Addr} (hb:H b=none):b≠p:=by
 obtain ⟨n,f,hp,_⟩:=h.hp
 exact (zaG hp hb).symm
theorem Drw.upd {H:Hp} {p:Addr} {c:Int} (h:Drw H p c) {b:Addr} {o:HO} (h1:b≠p):Drw (L2.upd H b o) p c:=by
 obtain ⟨n,f,hp,e⟩:=h.hp
 exact ⟨⟨n,f,by rw [zak h1.symm];exact hp,e⟩,h.c0⟩
def zhE:Sp:=fun vs H Q _=>∃ n k:Int,vs=[.int n,.int k]∧n.natAbs<2 ^ 2 ^ 20∧0≤k∧k≤100000∧∀ r:Int,0≤r→r<2147483587→Q (.int r) H
def zih (K:PySem.W.Frag):Sp:=fun vs H Q _=>∃ (p:Addr) (x:Int),vs=[.ref p,.int 0]∧H p=some (.lst [.int x])∧Q (.int x) H
def zjF (K:PySem.W.Frag):Sp:=fun vs H Q _=>∃ (p:Addr) (x:Int),vs=[.ref p,.int 0]∧H p=some (.lst [.int x])∧x.natAbs<2 ^ 2 ^ 20∧∀ (l:Addr) (H':Hp),zaR H H'→H l=none→Drw H' l 0→Q (.ref l) H'
def zaX:Sp:=fun vs H Q _=>∃ (p:Addr) (c m:Int),vs=[.ref p,.int m]∧Drw H p c∧c<10000∧0<m∧m≤1000000000000000000000000000000∧∀ (r:Int) (H':Hp),0≤r→r<m→Off p p H'=Off p p H→Drw H' p (c+1)→Q (.int r) H'
theorem zfY {K:PySem.W.Frag}:PySem.W.kitOne K (.type "bool") (.type "bool")=some true:=rfl
theorem zeR {K:PySem.W.Frag} {H:Hp} {Q:VK} {r:Addr} {xs:List V} (h:H r=some (.lst xs)) (q:Q (.bl true) H):zj3 K [.ref r,.ty "list"] H Q:=⟨_,_,_,_,true,rfl,rfl,.of (.lst h),rfl,q⟩
def S:Nat→(Nat→Int)→Int
 | 0,_=>0
 | n+1,f=>S n f+f n
theorem zay {f g:Nat→Int}:∀ n,(∀ k,k<n→f k=g k)→S n f=S n g
 | 0,_=>rfl
 | n+1,h=>by show S n f+f n=S n g+g n;rw [zay n fun k hk=>h k (by omega),h n (by omega)]
theorem ze8 (α β:Int) (f g:Nat→Int):∀ n,S n (fun k=>α*f k+β*g k)=α*S n f+β*S n g
 | 0=>by simp [S]
 | n+1=>by
  show S n (fun k=>α*f k+β*g k)+_=α*(S n f+f n)+β*(S n g+g n)
  rw [ze8 α β f g n]
  grind
theorem zdG (α:Int) (f:Nat→Int) (n:Nat):S n (fun k=>α*f k)=α*S n f:=by
 have:=ze8 α 0 f f n
 rw [zay (g:=fun k=>α*f k) n (fun k _=>by grind)] at this
 grind
theorem zfg {f:Nat→Int}:∀ n,(∀ k,k<n→f k=0)→S n f=0
 | 0,_=>rfl
 | n+1,h=>by show S n f+f n=0;rw [zfg n fun k hk=>h k (by omega),h n (by omega)];rfl
theorem zg6 {f:Nat→Int} {r:Nat}:∀ n,r<n→(∀ k,k<n→k≠r→f k=0)→S n f=f r
 | 0,h,_=>absurd h (Nat.not_lt_zero r)
 | n+1,h,z=>by
  show S n f+f n=f r
  by_cases e:r=n
  ·subst e
   rw [zfg r fun k hk=>z k (by omega) (by omega)]
   omega
  ·rw [zg6 n (by omega) fun k hk=>z k (by omega),z n (by omega) (fun q=>e q.symm)]
   omega
theorem zdr {f:Nat→Int}:∀ n,(∀ k,k<n→0≤f k)→0≤S n f
 | 0,_=>Int.le_refl 0
 | n+1,h=>by
  have:=zdr n fun k hk=>h k (by omega)
  have:=h n (by omega)
  show 0≤S n f+f n
  omega
theorem zkd {f:Nat→Int} {n:Nat} (h:0<S n f):∃ k,k<n∧0<f k:=by
 refine Classical.byContradiction fun no=>?_
 have:0≤S n fun k=>(-1)*f k:=zdr n fun k hk=>by
  have:=not_exists.mp no k
  have:¬ 0<f k:=fun q=>this ⟨hk,q⟩
  omega
 rw [zdG] at this
 omega
def wdg (v:Nat→Int):(List Nat→Int)→List Nat→Int
 | _,[]=>0
 | w,a::T=>v a*w T - wdg v (fun R=>w (a::R)) T
theorem ziu (v:Nat→Int) (α β:Int):∀ (T:List Nat) (w u:List Nat→Int),wdg v (fun R=>α*w R+β*u R) T=α*wdg v w T+β*wdg v u T
 | [],_,_=>by simp [wdg]
 | a::T,w,u=>by
  show v a*(α*w T+β*u T) - wdg v (fun R=>α*w (a::R)+β*u (a::R)) T=α*(v a*w T - wdg v (fun R=>w (a::R)) T)+β*(v a*u T - wdg v (fun R=>u (a::R)) T)
  rw [ziu v α β T]
  grind
theorem zkV (α β:Int) (u v:Nat→Int):∀ (T:List Nat) (w:List Nat→Int),wdg (fun j=>α*u j+β*v j) w T=α*wdg u w T+β*wdg v w T
 | [],_=>by simp [wdg]
 | a::T,w=>by
  show (α*u a+β*v a)*w T - wdg (fun j=>α*u j+β*v j) (fun R=>w (a::R)) T=α*(u a*w T - wdg u (fun R=>w (a::R)) T)+β*(v a*w T - wdg v (fun R=>w (a::R)) T)
  rw [zkV α β u v T]
  grind
theorem zgK (v:Nat→Int):∀ (T:List Nat) (w:List Nat→Int),wdg v (wdg v w) T=0
 | [],_=>rfl
 | a::T,w=>by
  show v a*wdg v w T - wdg v (fun R=>v a*w R - wdg v (fun Q=>w (a::Q)) R) T=0
  have e:(fun R=>v a*w R - wdg v (fun Q=>w (a::Q)) R)=fun R=>v a*w R+(-1)*wdg v (fun Q=>w (a::Q)) R:=funext fun R=>by grind
  rw [e,ziu,zgK v T]
  grind
theorem zk1 (u v:Nat→Int) (T:List Nat) (w:List Nat→Int):wdg u (wdg v w) T=- wdg v (wdg u w) T:=by
 have h:=zgK (fun j=>1*u j+1*v j) T w
 have e:wdg (fun j=>1*u j+1*v j) w=fun R=>1*wdg u w R+1*wdg v w R:=funext fun R=>zkV 1 1 u v R w
 rw [e,zkV,ziu,ziu,zgK,zgK] at h
 grind
theorem zia (v:Nat→Int) (T:List Nat):wdg v (fun _=>0) T=0:=by
 have:=ziu v 0 0 T (fun _=>0) (fun _=>0)
 simpa using this
def W:Nat→(Nat→Nat→Int)→List Nat→Int
 | 0,_=>fun T=>if T=[] then 1 else 0
 | k+1,cs=>wdg (cs k) (W k cs)
def zbf (cs:Nat→Nat→Int) (r:Nat) (v:Nat→Int):Nat→Nat→Int:=fun k=>if k=r then v else cs k
theorem zaY {cs:Nat→Nat→Int} {r:Nat} {v:Nat→Int}:zbf cs r v r=v:=if_pos rfl
theorem zbj {cs:Nat→Nat→Int} {r k:Nat} {v:Nat→Int} (h:k≠r):zbf cs r v k=cs k:=if_neg h
theorem zdP {cs:Nat→Nat→Int} {r:Nat}:zbf cs r (cs r)=cs:=funext fun k=>by
 by_cases e:k=r
 ·rw [e,zaY]
 ·rw [zbj e]
theorem zdZ {cs:Nat→Nat→Int} {r l:Nat} {u v:Nat→Int} (h:r≠l):zbf (zbf cs r u) l v=zbf (zbf cs l v) r u:=funext fun k=>by
 by_cases e:k=r
 ·subst e
  rw [zbj h,zaY,zaY]
 ·by_cases e2:k=l
  ·subst e2
   rw [zaY,zbj e,zaY]
  ·rw [zbj e2,zbj e,zbj e,zbj e2]
theorem zgo {cs cs':Nat→Nat→Int}:∀ M,(∀ k,k<M→cs k=cs' k)→W M cs=W M cs'
 | 0,_=>rfl
 | M+1,h=>by show wdg (cs M) (W M cs)=wdg (cs' M) (W M cs');rw [h M (by omega),zgo M fun k hk=>h k (by omega)]
theorem zin (α β:Int) {cs:Nat→Nat→Int} {r:Nat} {u v:Nat→Int}:∀ M,r<M→W M (zbf cs r fun j=>α*u j+β*v j)=fun T=>α*W M (zbf cs r u) T+β*W M (zbf cs r v) T
 | 0,h=>absurd h (Nat.not_lt_zero r)
 | M+1,h=>funext fun T=>by
  show wdg (zbf cs r (fun j=>α*u j+β*v j) M) (W M (zbf cs r fun j=>α*u j+β*v j)) T=α*wdg (zbf cs r u M) (W M (zbf cs r u)) T+β*wdg (zbf cs r v M) (W M (zbf cs r v)) T
  by_cases e:r=M
  ·subst e
   have low:∀ x,W r (zbf cs r x)=W r cs:=fun x=>zgo r fun k hk=>zbj (by omega)
   rw [low,low,low,zaY,zaY,zaY,zkV]
  ·have ne:M≠r:=fun q=>e q.symm
   rw [zbj ne,zbj ne,zbj ne,zin α β M (by omega),ziu]
theorem W_nil {cs:Nat→Nat→Int} {r M:Nat} (h:r<M) (T:List Nat):W M (zbf cs r fun _=>0) T=0:=by
 have:=congrFun (zin 0 0 (cs:=cs) (u:=fun _=>0) (v:=fun _=>0) M h) T
 simpa using this
theorem zmH (α:Int) {cs:Nat→Nat→Int} {r:Nat} {u:Nat→Int} {M:Nat} (h:r<M) (T:List Nat):W M (zbf cs r fun j=>α*u j) T=α*W M (zbf cs r u) T:=by
 have:=congrFun (zin α 0 (cs:=cs) (u:=u) (v:=u) M h) T
 simpa using this
theorem W_S {cs:Nat→Nat→Int} {r M:Nat} (h:r<M) (a:Nat→Int) (x:Nat→Nat→Int) (T:List Nat):∀ N,W M (zbf cs r fun j=>S N fun k=>a k*x k j) T=S N fun k=>a k*W M (zbf cs r (x k)) T
 | 0=>W_nil h T
 | N+1=>by
  show W M (zbf cs r fun j=>(S N fun k=>a k*x k j)+a N*x N j) T=(S N fun k=>a k*W M (zbf cs r (x k)) T)+a N*W M (zbf cs r (x N)) T
  have:=congrFun (zin 1 (a N) (cs:=cs) (u:=fun j=>S N fun k=>a k*x k j) (v:=x N) M h) T
  rw [W_S h a x T N] at this
  simpa using this
theorem zln {cs:Nat→Nat→Int} {v:Nat→Int} {r:Nat} (e:cs r=v):∀ N,r<N→∀ T,wdg v (W N cs) T=0
 | 0,h,_=>absurd h (Nat.not_lt_zero r)
 | N+1,h,T=>by
  show wdg v (wdg (cs N) (W N cs)) T=0
  by_cases q:r=N
  ·subst q
   rw [e,zgK]
  ·rw [zk1,show wdg v (W N cs)=fun _=>0 from funext fun R=>zln e N (by omega) R,zia]
   rfl
theorem zmQ {cs:Nat→Nat→Int} {r l:Nat} (e:cs r=cs l) (h:r<l):∀ M,l<M→∀ T,W M cs T=0
 | 0,q,_=>absurd q (Nat.not_lt_zero l)
 | M+1,q,T=>by
  show wdg (cs M) (W M cs) T=0
  by_cases z:l=M
  ·subst z
   exact zln e l h T
  ·rw [show W M cs=fun _=>0 from funext fun R=>zmQ e h M (by omega) R,zia]
theorem zg9 {cs:Nat→Nat→Int} {r l M:Nat} (e:cs r=cs l) (h:r≠l) (h1:r<M) (h2:l<M) (T:List Nat):W M cs T=0:=by
 by_cases q:r<l
 ·exact zmQ e q M h2 T
 ·exact zmQ e.symm (by omega) M h1 T
theorem zn4 {cs:Nat→Nat→Int} {r l M:Nat} {u v:Nat→Int} (h:r≠l) (h1:r<M) (h2:l<M) (T:List Nat):W M (zbf (zbf cs r u) l v) T=- W M (zbf (zbf cs r v) l u) T:=by
 have z:∀ x:Nat→Int,W M (zbf (zbf cs r x) l x) T=0:=fun x=>zg9 (r:=r) (l:=l) (by rw [zbj h,zaY,zaY]) h h1 h2 T
 have L2:∀ y:Nat→Int,W M (zbf (zbf cs r y) l fun j=>1*u j+1*v j) T=W M (zbf (zbf cs r y) l u) T+W M (zbf (zbf cs r y) l v) T:=fun y=>by
  have:=congrFun (zin 1 1 (cs:=zbf cs r y) (r:=l) (u:=u) (v:=v) M h2) T
  simpa using this
 have L1:∀ y:Nat→Int,W M (zbf (zbf cs r fun j=>1*u j+1*v j) l y) T=W M (zbf (zbf cs r u) l y) T+W M (zbf (zbf cs r v) l y) T:=fun y=>by
  have:=congrFun (zin 1 1 (cs:=zbf cs l y) (r:=r) (u:=u) (v:=v) M h1) T
  rw [zdZ h,zdZ h,zdZ h]
  simpa using this
 have q:=z fun j=>1*u j+1*v j
 rw [L2,L1,L1,z,z] at q
 omega
def dn:Nat→List Nat
 | 0=>[]
 | n+1=>n::dn n
theorem zml:∀ (n a:Nat),a∈dn n→a<n
 | 0,_,h=>nomatch h
 | n+1,a,h=>by
  rcases List.mem_cons.mp h with rfl | h
  ·omega
  ·have:=zml n a h
   omega
theorem zdY:∀ n,(dn n).length=n
 | 0=>rfl
 | n+1=>by rw [dn,List.length_cons,zdY n]
theorem zjB {v:Nat→Int}:∀ (T:List Nat) (w:List Nat→Int),(∀ a∈T,v a=0)→wdg v w T=0
 | [],_,_=>rfl
 | a::T,w,h=>by
  show v a*w T - wdg v (fun R=>w (a::R)) T=0
  rw [zjB T _ fun b hb=>h b (List.mem_cons_of_mem _ hb),h a List.mem_cons_self]
  omega
theorem W_id {cs:Nat→Nat→Int}:∀ M,(∀ k j,k<M→j<M→cs k j=if j=k then 1 else 0)→W M cs (dn M)=1
 | 0,_=>rfl
 | M+1,h=>by
  show cs M M*W M cs (dn M) - wdg (cs M) (fun R=>W M cs (M::R)) (dn M)=1
  rw [zjB (dn M) _ fun a ha=>(h M a (by omega) (by have:=zml M a ha;omega)).trans (if_neg (by have:=zml M a ha;omega)),h M M (by omega) (by omega),if_pos rfl,W_id M fun k j h1 h2=>h k j (by omega) (by omega)]
  rfl
def fct:Nat→Nat
 | 0=>1
 | n+1=>(n+1)*fct n
theorem zlv {v:Nat→Int} {V B:Nat} (hv:∀ j,(v j).natAbs≤V):∀ (T:List Nat) (w:List Nat→Int),(∀ R:List Nat,R.length+1=T.length→(w R).natAbs≤B)→(wdg v w T).natAbs≤T.length*(V*B)
 | [],_,_=>Nat.zero_le _
 | a::T,w,h=>by
  show (v a*w T - wdg v (fun R=>w (a::R)) T).natAbs≤(T.length+1)*(V*B)
  have h1:(wdg v (fun R=>w (a::R)) T).natAbs≤T.length*(V*B):=zlv hv T _ fun R hR=>h (a::R) (by rw [List.length_cons,List.length_cons,hR])
  have h2:(v a*w T).natAbs≤V*B:=by
   rw [Int.natAbs_mul]
   exact Nat.mul_le_mul (hv a) (h T (by rw [List.length_cons]))
  have h3:=Int.natAbs_sub_le (v a*w T) (wdg v (fun R=>w (a::R)) T)
  rw [Nat.add_mul,Nat.one_mul]
  omega
theorem W_le {cs:Nat→Nat→Int} {V:Nat} (hv:∀ k j,(cs k j).natAbs≤V):∀ (M:Nat) (T:List Nat),T.length=M→(W M cs T).natAbs≤fct M*V ^ M
 | 0,T,h=>by
  show ((if T=[] then 1 else 0:Int)).natAbs≤1
  split <;> decide
 | M+1,T,h=>by
  have:=zlv (hv M) (B:=fct M*V ^ M) T (W M cs) fun R hR=>W_le hv M R (by omega)
  show (wdg (cs M) (W M cs) T).natAbs≤(M+1)*fct M*V ^ (M+1)
  rw [h] at this
  refine Nat.le_trans this (Nat.le_of_eq ?_)
  rw [Nat.pow_succ]
  grind
structure Sx where
 g:Nat→Nat→Int
 d:Int
 bs:Nat→Nat
 id:Nat→Nat
def zgl (f:Nat→Nat) (k x:Nat):Nat→Nat:=fun j=>if j=k then x else f j
theorem zb6 {f:Nat→Nat} {k x:Nat}:zgl f k x k=x:=if_pos rfl
theorem zcL {f:Nat→Nat} {k x j:Nat} (h:j≠k):zgl f k x j=f j:=if_neg h
def piv (t:Sx) (r c:Nat):Sx where
 g:=fun k j=>if k=r then (if j=c then t.d else t.g r j) else if j=c then - t.g k c else (t.g r c*t.g k j - t.g k c*t.g r j).fdiv t.d
 d:=t.g r c
 bs:=zgl t.bs r (t.id c)
 id:=zgl t.id c (t.bs r)
section
variable (m n:Nat) (vec:Nat→Nat→Int)
abbrev Dt (cs:Nat→Nat→Int):Int:=W (m+1) cs (dn (m+1))
structure Tok (t:Sx):Prop where
 pos:0<t.d
 lin:∀ c,c≤n→∀ j,t.d*vec (t.id c) j=S (m+1) fun k=>t.g k c*vec (t.bs k) j
 det:t.d=Dt m fun k=>vec (t.bs k)
end
section
variable {m n:Nat} {vec:Nat→Nat→Int}
theorem Tok.ent {t:Sx} (h:Tok m n vec t) {k c:Nat} (hk:k≤m) (hc:c≤n):t.g k c=Dt m (zbf (fun k=>vec (t.bs k)) k (vec (t.id c))):=by
 have e1:Dt m (zbf (fun k=>vec (t.bs k)) k fun j=>t.d*vec (t.id c) j)=t.d*Dt m (zbf (fun k=>vec (t.bs k)) k (vec (t.id c))):=zmH _ (by omega) _
 have e2:(fun j=>t.d*vec (t.id c) j)=fun j=>S (m+1) fun l=>t.g l c*vec (t.bs l) j:=funext (h.lin c hc)
 have e3:Dt m (zbf (fun k=>vec (t.bs k)) k fun j=>S (m+1) fun l=>t.g l c*vec (t.bs l) j)=S (m+1) fun l=>t.g l c*Dt m (zbf (fun k=>vec (t.bs k)) k (vec (t.bs l))) :=
  W_S (by omega) (fun l=>t.g l c) (fun l=>vec (t.bs l)) _ _
 rw [e2,e3,zg6 (m+1) (r:=k) (by omega) fun l hl ne=>?_] at e1
 ·have self:zbf (fun k=>vec (t.bs k)) k (vec (t.bs k))=fun k=>vec (t.bs k):=zdP (cs:=fun k=>vec (t.bs k))
  rw [self,← h.det,Int.mul_comm] at e1
  exact Int.eq_of_mul_eq_mul_left (Int.ne_of_gt h.pos) e1
 ·have:Dt m (zbf (fun k=>vec (t.bs k)) k (vec (t.bs l)))=0:=zg9 (r:=l) (l:=k) (by rw [zbj ne,zaY]) ne hl (by omega) _
  rw [this,Int.mul_zero]
theorem Tok.exact {t:Sx} (h:Tok m n vec t) {r c k j:Nat} (hr:r≤m) (hc:c≤n) (hk:k≤m) (hj:j≤n) (ne:k≠r) :
  t.d*Dt m (zbf (zbf (fun k=>vec (t.bs k)) r (vec (t.id c))) k (vec (t.id j)))=t.g r c*t.g k j - t.g k c*t.g r j:=by
 have e1:Dt m (zbf (zbf (fun k=>vec (t.bs k)) r (vec (t.id c))) k fun i=>t.d*vec (t.id j) i)=t.d*Dt m (zbf (zbf (fun k=>vec (t.bs k)) r (vec (t.id c))) k (vec (t.id j))):=zmH _ (by omega) _
 have e2:(fun i=>t.d*vec (t.id j) i)=fun i=>S (m+1) fun l=>t.g l j*vec (t.bs l) i:=funext (h.lin j hj)
 have e3:Dt m (zbf (zbf (fun k=>vec (t.bs k)) r (vec (t.id c))) k fun i=>S (m+1) fun l=>t.g l j*vec (t.bs l) i)=S (m+1) fun l=>t.g l j*Dt m (zbf (zbf (fun k=>vec (t.bs k)) r (vec (t.id c))) k (vec (t.bs l))) :=
  W_S (by omega) (fun l=>t.g l j) (fun l=>vec (t.bs l)) _ _
 rw [e2,e3] at e1
 have z:∀ l,l<m+1→l≠k→l≠r→Dt m (zbf (zbf (fun k=>vec (t.bs k)) r (vec (t.id c))) k (vec (t.bs l)))=0:=fun l hl n1 n2 =>
  zg9 (r:=l) (l:=k) (by rw [zbj n1,zbj n2,zaY]) n1 hl (by omega) _
 have zk:Dt m (zbf (zbf (fun k=>vec (t.bs k)) r (vec (t.id c))) k (vec (t.bs k)))=t.g r c:=by
  rw [zdZ (Ne.symm ne),show zbf (fun k=>vec (t.bs k)) k (vec (t.bs k))=fun k=>vec (t.bs k) from zdP (cs:=fun k=>vec (t.bs k)),← h.ent hr hc]
 have zr:Dt m (zbf (zbf (fun k=>vec (t.bs k)) r (vec (t.id c))) k (vec (t.bs r)))=- t.g k c:=by
  have:=zn4 (cs:=fun k=>vec (t.bs k)) (u:=vec (t.id c)) (v:=vec (t.bs r)) (M:=m+1) (Ne.symm ne) (by omega) (by omega) (dn (m+1))
  rw [show Dt m (zbf (zbf (fun k=>vec (t.bs k)) r (vec (t.id c))) k (vec (t.bs r)))=_ from this,show zbf (fun k=>vec (t.bs k)) r (vec (t.bs r))=fun k=>vec (t.bs k) from zdP (cs:=fun k=>vec (t.bs k))]
  exact congrArg (fun z:Int=>-z) (h.ent hk hc).symm
 have two:(S (m+1) fun l=>t.g l j*Dt m (zbf (zbf (fun k=>vec (t.bs k)) r (vec (t.id c))) k (vec (t.bs l))))=t.g k j*t.g r c+t.g r j*(- t.g k c):=by
  have sp:(S (m+1) fun l=>t.g l j*Dt m (zbf (zbf (fun k=>vec (t.bs k)) r (vec (t.id c))) k (vec (t.bs l))))=S (m+1) fun l=>1*(if l=k then t.g k j*t.g r c else 0)+1*(if l=r then t.g r j*(- t.g k c) else 0):=zay _ fun l hl=>by
   by_cases a:l=k
   ·subst a
    rw [if_pos rfl,if_neg ne,zk]
    omega
   ·by_cases b:l=r
    ·subst b
     rw [if_neg a,if_pos rfl,zr]
     omega
    ·rw [if_neg a,if_neg b,z l hl a b]
     omega
  rw [sp,ze8,zg6 (m+1) (r:=k) (by omega) fun l _ nl=>if_neg nl,zg6 (m+1) (r:=r) (by omega) fun l _ nl=>if_neg nl,if_pos rfl,if_pos rfl]
  omega
 rw [two] at e1
 rw [← e1]
 grind
theorem zkv {t:Sx} (h:Tok m n vec t) {r c k j:Nat} (hr:r≤m) (hc:c≤n) (hk:k≤m) (hj:j≤n) (n1:k≠r) (n2:j≠c):t.d*(piv t r c).g k j=t.g r c*t.g k j - t.g k c*t.g r j:=by
 show t.d*(if k=r then (if j=c then t.d else t.g r j) else if j=c then - t.g k c else (t.g r c*t.g k j - t.g k c*t.g r j).fdiv t.d)=_
 rw [if_neg n1,if_neg n2,← h.exact hr hc hk hj n1,Int.mul_fdiv_cancel_left _ (Int.ne_of_gt h.pos)]
theorem zks {t:Sx} {r c j:Nat} (n2:j≠c):(piv t r c).g r j=t.g r j:=by
 show (if r=r then (if j=c then t.d else t.g r j) else _)=_
 rw [if_pos rfl,if_neg n2]
theorem znG {t:Sx} {r c k:Nat} (n1:k≠r):(piv t r c).g k c=- t.g k c:=by
 show (if k=r then (if c=c then t.d else t.g r c) else if c=c then - t.g k c else _)=_
 rw [if_neg n1,if_pos rfl]
theorem zlK {t:Sx} {r c:Nat}:(piv t r c).g r c=t.d:=by
 show (if r=r then (if c=c then t.d else t.g r c) else _)=_
 rw [if_pos rfl,if_pos rfl]
theorem zkT {f:Nat→Int} {r:Nat}:∀ n,r<n→S n f=f r+S n fun k=>if k=r then 0 else f k:=fun n h=>by
 have e:S n f=S n fun k=>1*(if k=r then f r else 0)+1*(if k=r then 0 else f k):=zay n fun k _=>by
  by_cases q:k=r
  ·rw [if_pos q,if_pos q,q];omega
  ·rw [if_neg q,if_neg q];omega
 rw [e,ze8,zg6 n h fun k _ nk=>if_neg nk,if_pos rfl]
 omega
theorem Tok.piv {t:Sx} (h:Tok m n vec t) {r c:Nat} (hr:r≤m) (hc:c≤n) (hp:0<t.g r c):Tok m n vec (piv t r c):=by
 refine ⟨hp,fun j hj i=>?_,?_⟩
 ·have E:=h.lin
  have sum:∀ x:Nat,(S (m+1) fun k=>(My.piv t r c).g k x*vec ((My.piv t r c).bs k) i)=(My.piv t r c).g r x*vec (t.id c) i+S (m+1) fun k=>if k=r then 0 else (My.piv t r c).g k x*vec (t.bs k) i:=fun x=>by
   rw [zkT (m+1) (r:=r) (by omega)]
   refine congr (congrArg _ ?_) (zay _ fun k _=>?_)
   ·show _*vec (zgl t.bs r (t.id c) r) i=_
    rw [zb6]
   ·by_cases q:k=r
    ·rw [if_pos q,if_pos q]
    ·rw [if_neg q,if_neg q]
     show _*vec (zgl t.bs r (t.id c) k) i=_
     rw [zcL q]
  rw [sum]
  have ec:=E c hc i
  rw [zkT (m+1) (r:=r) (by omega)] at ec
  show t.g r c*vec (zgl t.id c (t.bs r) j) i=_
  by_cases q:j=c
  ·subst q
   rw [zb6,zlK]
   have:(S (m+1) fun k=>if k=r then 0 else (My.piv t r j).g k j*vec (t.bs k) i)=S (m+1) fun k=>(-1)*(if k=r then 0 else t.g k j*vec (t.bs k) i):=zay _ fun k _=>by
    by_cases q:k=r
    ·rw [if_pos q,if_pos q];rfl
    ·rw [if_neg q,if_neg q,znG q];grind
   rw [this,zdG]
   grind
  ·rw [zcL q,zks q]
   have ej:=E j hj i
   rw [zkT (m+1) (r:=r) (by omega)] at ej
   have k1:t.d*(S (m+1) fun k=>if k=r then 0 else (My.piv t r c).g k j*vec (t.bs k) i)=t.g r c*(S (m+1) fun k=>if k=r then 0 else t.g k j*vec (t.bs k) i)+(- t.g r j)*(S (m+1) fun k=>if k=r then 0 else t.g k c*vec (t.bs k) i):=by
    rw [← zdG,← ze8]
    refine zay _ fun k hk=>?_
    by_cases q2:k=r
    ·simp only [if_pos q2];omega
    ·simp only [if_neg q2]
     have:=zkv h hr hc (k:=k) (j:=j) (by omega) hj q2 q
     rw [← Int.mul_assoc,this]
     grind
   refine Int.eq_of_mul_eq_mul_left (Int.ne_of_gt h.pos) ?_
   rw [Int.mul_add,k1]
   grind
 ·show t.g r c=Dt m fun k=>vec (zgl t.bs r (t.id c) k)
  rw [h.ent hr hc]
  refine congrArg (fun cs=>Dt m cs) (funext fun k=>?_)
  by_cases q:k=r
  ·rw [q,zaY,zb6]
  ·rw [zbj q,zcL q]
section
variable (m n:Nat) (vec:Nat→Nat→Int)
structure Fea (t:Sx):Prop where
 tok:Tok m n vec t
 bm:t.bs m=n+m
 idn:t.id n=n+m+1
 bl:∀ k,k<m→t.bs k<n+m
 il:∀ c,c<n→t.id c<n+m
 cov:∀ q,q<n+m→(∃ k,k<m∧t.bs k=q)∨∃ c,c<n∧t.id c=q
 fea:∀ k,k<m→0≤t.g k n
structure Stp (t:Sx) (s:Bool) (r c:Nat):Prop where
 hr:r<m
 hc:c<n
 neg:t.g m c<0
 pos:0<t.g r c
 lv:∀ k,k<m→0<t.g k c→t.g r n*t.g k c<t.g k n*t.g r c∨(t.g r n*t.g k c=t.g k n*t.g r c∧t.bs r≤t.bs k)
 bl:s=true→∀ j,j<n→t.g m j<0→t.id c≤t.id j
def rc (t:Sx) (q:Nat):Int:=Dt m (zbf (fun k=>vec (t.bs k)) m (vec q))
end
theorem ze7 {t:Sx} {k:Nat} (hk:k<m):rc m vec t (t.bs k)=0 :=
 zg9 (r:=k) (l:=m) (by rw [zbj (by omega),zaY]) (by omega) (by omega) (by omega) _
theorem zd9 {t:Sx} (h:Tok m n vec t) {c:Nat} (hc:c≤n):rc m vec t (t.id c)=t.g m c:=(h.ent (Nat.le_refl m) hc).symm
theorem zlC {t:Sx} (h:Tok m n vec t):rc m vec t (t.bs m)=t.d:=by
 unfold rc
 rw [h.det,show zbf (fun k=>vec (t.bs k)) m (vec (t.bs m))=fun k=>vec (t.bs k) from zdP (cs:=fun k=>vec (t.bs k))]
theorem znD {t t':Sx} (h:Tok m n vec t) {c:Nat} (hc:c≤n):t.d*rc m vec t' (t.id c)=S (m+1) fun k=>t.g k c*rc m vec t' (t.bs k):=by
 unfold rc
 rw [← zmH t.d (by omega),← W_S (by omega) (fun k=>t.g k c) (fun k=>vec (t.bs k)),show (fun j=>t.d*vec (t.id c) j)=fun j=>S (m+1) fun k=>t.g k c*vec (t.bs k) j from funext (h.lin c hc)]
theorem Tok.inj {t:Sx} (h:Tok m n vec t) {k l:Nat} (hk:k≤m) (hl:l≤m) (e:t.bs k=t.bs l):k=l:=by
 refine Classical.byContradiction fun ne=>?_
 have z:Dt m (fun k=>vec (t.bs k))=0:=zg9 (r:=k) (l:=l) (by rw [e]) ne (by omega) (by omega) _
 have:=h.pos
 rw [h.det,z] at this
 omega
theorem Fea.piv {t:Sx} {s:Bool} {r c:Nat} (F:Fea m n vec t) (h:Stp m n t s r c):Fea m n vec (piv t r c):=by
 have hr:=h.hr
 have hc:=h.hc
 refine ⟨F.tok.piv (by omega) (by omega) h.pos,?_,?_,fun k hk=>?_,fun k hk=>?_,fun q hq=>?_,fun k hk=>?_⟩
 ·show zgl t.bs r (t.id c) m=_
  rw [zcL (by omega),F.bm]
 ·show zgl t.id c (t.bs r) n=_
  rw [zcL (by omega),F.idn]
 ·show zgl t.bs r (t.id c) k<_
  by_cases q:k=r
  ·rw [q,zb6];exact F.il c hc
  ·rw [zcL q];exact F.bl k hk
 ·show zgl t.id c (t.bs r) k<_
  by_cases q:k=c
  ·rw [q,zb6];exact F.bl r hr
  ·rw [zcL q];exact F.il k hk
 ·rcases F.cov q hq with ⟨k,hk,e⟩ | ⟨j,hj,e⟩
  ·by_cases z:k=r
   ·subst z
    exact .inr ⟨c,hc,by show zgl t.id c (t.bs k) c=q;rw [zb6,e]⟩
   ·exact .inl ⟨k,hk,by show zgl t.bs r (t.id c) k=q;rw [zcL z,e]⟩
  ·by_cases z:j=c
   ·subst z
    exact .inl ⟨r,hr,by show zgl t.bs r (t.id j) r=q;rw [zb6,e]⟩
   ·exact .inr ⟨j,hj,by show zgl t.id c (t.bs r) j=q;rw [zcL z,e]⟩
 ·by_cases z:k=r
  ·subst z
   rw [zks (by omega)]
   exact F.fea k hk
  ·have e:=zkv F.tok (by omega) (by omega) (k:=k) (j:=n) (by omega) (Nat.le_refl n) z (by omega:n≠c)
   have p:=F.tok.pos
   have b1:=F.fea k hk
   have b2:=F.fea r hr
   have hp:=h.pos
   have:0≤t.d*(My.piv t r c).g k n:=by
    rw [e]
    by_cases q:0<t.g k c
    ·have l:=h.lv k hk q
     have:t.g r n*t.g k c≤t.g k n*t.g r c:=by
      rcases l with l | l
      ·exact Int.le_of_lt l
      ·exact Int.le_of_eq l.1
     rw [Int.mul_comm (t.g r c),Int.mul_comm (t.g k c)]
     omega
    ·have h1:0≤t.g r c*t.g k n:=Int.mul_nonneg (Int.le_of_lt hp) b1
     have h2:0≤(- t.g k c)*t.g r n:=Int.mul_nonneg (by omega) b2
     rw [Int.neg_mul] at h2
     omega
   exact Int.nonneg_of_mul_nonneg_right this p
theorem zh6 {t t':Sx} {c' tn:Nat} (F':Fea m n vec t') (hb:∀ j,j<n→t'.g m j<0→tn≤t'.id j) {q:Nat} (hq:q<n+m) (lt:q<tn):0≤rc m vec t' q:=by
 rcases F'.cov q hq with ⟨k,hk,rfl⟩ | ⟨j,hj,rfl⟩
 ·rw [ze7 hk];exact Int.le_refl 0
 ·rw [zd9 F'.tok (by omega)]
  refine Classical.byContradiction fun no=>?_
  have:=hb j hj (by omega)
  omega
theorem bland {t t':Sx} {s:Bool} {r c c':Nat} (F:Fea m n vec t) (F':Fea m n vec t') (h:Stp m n t s r c) (hc':c'<n) (e:t'.id c'=t.bs r) (ng:t'.g m c'<0)
  (hb:∀ j,j<n→t'.g m j<0→t.bs r≤t'.id j) (hs:t.id c<t.bs r) (hq:∀ k,k<m→t.bs k≠t'.bs k→t.bs k≤t.bs r∧t.g k n=0):False:=by
 have hr:=h.hr
 have hc:=h.hc
 have E:=znD (t:=t) (t':=t') F.tok (c:=c) (by omega)
 have E':(S (m+1) fun k=>t.g k c*rc m vec t' (t.bs k))=(S m fun k=>t.g k c*rc m vec t' (t.bs k))+t.g m c*rc m vec t' (t.bs m):=rfl
 have top:rc m vec t' (t.bs m)=t'.d:=by rw [F.bm,← F'.bm,zlC F'.tok]
 rw [E',top] at E
 have n1:=zh6 (t:=t) (c':=c') F' hb (F.il c hc) hs
 have p1:0≤t.d*rc m vec t' (t.id c):=Int.mul_nonneg (Int.le_of_lt F.tok.pos) n1
 have p2:0<(- t.g m c)*t'.d:=Int.mul_pos (by have:=h.neg;omega) F'.tok.pos
 rw [Int.neg_mul] at p2
 obtain ⟨k,hk,pk⟩:=zkd (n:=m) (f:=fun k=>t.g k c*rc m vec t' (t.bs k)) (by omega)
 have ne:t.bs k≠t'.bs k:=fun z=>by
  have:rc m vec t' (t.bs k)=0:=by rw [z];exact ze7 hk
  rw [this,Int.mul_zero] at pk
  omega
 obtain ⟨le,b0⟩:=hq k hk ne
 by_cases z:t.bs k=t.bs r
 ·have ek:k=r:=F.tok.inj (by omega) (by omega) z
  subst ek
  rw [← e,zd9 F'.tok (by omega)] at pk
  have:=Int.mul_neg_of_pos_of_neg h.pos ng
  omega
 ·have n2:=zh6 (t:=t) (c':=c') F' hb (F.bl k hk) (by omega)
  have gk:0<t.g k c:=by
   refine Classical.byContradiction fun no=>?_
   have:0≤(- t.g k c)*rc m vec t' (t.bs k):=Int.mul_nonneg (by omega) n2
   rw [Int.neg_mul] at this
   omega
  have br:=F.fea r hr
  have q0:0≤t.g r n*t.g k c:=Int.mul_nonneg br (Int.le_of_lt gk)
  rcases h.lv k hk gk with l | l
  ·rw [b0,Int.zero_mul] at l
   omega
  ·have:=l.2
   omega
section
variable (m n:Nat) (vec:Nat→Nat→Int)
structure Run (st:Nat→Sx) (rr cc:Nat→Nat) (su:Nat→Bool) (L:Nat):Prop where
 ok:∀ i,i≤L→Fea m n vec (st i)
 nx:∀ i,i<L→st (i+1)=piv (st i) (rr i) (cc i)
 by':∀ i,i<L→Stp m n (st i) (su i) (rr i) (cc i)
 sk:∀ i,i<L→su (i+1)=decide ((st i).g (rr i) n=0)
end
section
variable {st:Nat→Sx} {rr cc:Nat→Nat} {su:Nat→Bool} {L:Nat}
theorem Run.bs (R:Run m n vec st rr cc su L) {i:Nat} (h:i<L) (k:Nat):(st (i+1)).bs k=if k=rr i then (st i).id (cc i) else (st i).bs k:=by rw [R.nx i h];rfl
theorem Run.leave (R:Run m n vec st rr cc su L) {k q:Nat}:∀ (w i:Nat),i+w≤L→(st i).bs k=q→(st (i+w)).bs k≠q→∃ x,i≤x∧x<i+w∧rr x=k∧(st x).bs k=q
 | 0,i,_,e,ne=>absurd e ne
 | w+1,i,h,e,ne=>by
  by_cases z:(st (i+w)).bs k=q
  ·have b:=R.bs (i:=i+w) (by omega) k
   by_cases y:k=rr (i+w)
   ·exact ⟨i+w,by omega,by omega,y.symm,z⟩
   ·rw [if_neg y] at b
    exact absurd (b.trans z) ne
  ·obtain ⟨x,h1,h2,h3⟩:=R.leave w i (by omega) e z
   exact ⟨x,h1,by omega,h3⟩
theorem Run.enter (R:Run m n vec st rr cc su L) {k q:Nat}:∀ (w i:Nat),i+w≤L→(st i).bs k≠q→(st (i+w)).bs k=q→∃ x,i≤x∧x<i+w∧rr x=k∧(st x).id (cc x)=q
 | 0,i,_,ne,e=>absurd e ne
 | w+1,i,h,ne,e=>by
  by_cases z:(st (i+w)).bs k=q
  ·obtain ⟨x,h1,h2,h3⟩:=R.enter w i (by omega) ne z
   exact ⟨x,h1,by omega,h3⟩
  ·have b:=R.bs (i:=i+w) (by omega) k
   have e':(st (i+w+1)).bs k=q:=e
   by_cases y:k=rr (i+w)
   ·rw [if_pos y,e'] at b
    exact ⟨i+w,by omega,by omega,y.symm,b.symm⟩
   ·rw [if_neg y,e'] at b
    exact absurd b.symm z
theorem most {f:Nat→Nat}:∀ (w i:Nat),∃ x,i≤x∧x≤i+w∧∀ y,i≤y→y≤i+w→f y≤f x
 | 0,i=>⟨i,Nat.le_refl _,Nat.le_refl _,fun y h1 h2=>by rw [show y=i by omega];exact Nat.le_refl _⟩
 | w+1,i=>by
  obtain ⟨x,h1,h2,h3⟩:=most (f:=f) w i
  by_cases z:f x≤f (i+w+1)
  ·exact ⟨i+w+1,by omega,by omega,fun y a b=>by
    by_cases q:y=i+w+1
    ·rw [q];exact Nat.le_refl _
    ·exact Nat.le_trans (h3 y a (by omega)) z⟩
  ·exact ⟨x,h1,by omega,fun y a b=>by
    by_cases q:y=i+w+1
    ·rw [q];omega
    ·exact h3 y a (by omega)⟩
theorem gain_ {t:Sx} {s:Bool} {r c:Nat} (F:Fea m n vec t) (h:Stp m n t s r c):t.d*(piv t r c).g m n=(piv t r c).d*t.g m n+(- t.g m c)*t.g r n:=by
 have hr:=h.hr
 have hc:=h.hc
 have e:=zkv F.tok (by omega) (by omega) (k:=m) (j:=n) (Nat.le_refl m) (Nat.le_refl n) (by omega:m≠r) (by omega:n≠c)
 rw [e]
 show _=t.g r c*t.g m n+_
 rw [Int.neg_mul]
 omega
theorem Run.up (R:Run m n vec st rr cc su L) {i:Nat} (h:i<L):(st i).g m n*(st (i+1)).d≤(st (i+1)).g m n*(st i).d∧((st i).g m n*(st (i+1)).d=(st (i+1)).g m n*(st i).d→(st i).g (rr i) n=0):=by
 have F:=R.ok i (by omega)
 have b:=R.by' i h
 have g:=gain_ F b
 rw [← R.nx i h] at g
 have n0:=F.fea _ b.hr
 have ng:=b.neg
 have q:0≤(- (st i).g m (cc i))*(st i).g (rr i) n:=Int.mul_nonneg (by omega) n0
 rw [Int.mul_comm ((st i).g m n),Int.mul_comm ((st (i+1)).g m n),g]
 refine ⟨by omega,fun e=>?_⟩
 have z:(- (st i).g m (cc i))*(st i).g (rr i) n=0:=by omega
 rcases Int.mul_eq_zero.mp z with z | z
 ·omega
 ·exact z
theorem zcP {a b c p q r:Int} (hp:0<p) (hq:0<q) (hr:0<r) (h1:a*q≤b*p) (h2:b*r≤c*q):a*r≤c*p:=by
 have e1:a*q*r≤b*p*r:=Int.mul_le_mul_of_nonneg_right h1 (Int.le_of_lt hr)
 have e2:b*r*p≤c*q*p:=Int.mul_le_mul_of_nonneg_right h2 (Int.le_of_lt hp)
 have:(a*r)*q≤(c*p)*q:=by
  have x1:a*r*q=a*q*r:=by grind
  have x2:c*p*q=c*q*p:=by grind
  have x3:b*r*p=b*p*r:=by grind
  omega
 exact Int.le_of_mul_le_mul_right this hq
theorem Run.upW (R:Run m n vec st rr cc su L):∀ (w i:Nat),i+w≤L→(st i).g m n*(st (i+w)).d≤(st (i+w)).g m n*(st i).d
 | 0,i,_=>Int.le_refl _
 | w+1,i,h=>zcP (R.ok i (by omega)).tok.pos (R.ok (i+w) (by omega)).tok.pos (R.ok (i+w+1) (by omega)).tok.pos (R.upW w i (by omega)) (R.up (i:=i+w) (by omega)).1
theorem Run.flat (R:Run m n vec st rr cc su L) {i w:Nat} (h:i+w≤L) (eV:(st i).g m n=(st (i+w)).g m n) (ed:(st i).d=(st (i+w)).d) {x:Nat} (h1:i≤x) (h2:x<i+w):(st x).g (rr x) n=0:=by
 refine (R.up (i:=x) (by omega)).2 ?_
 have p:∀ y,y≤L→0<(st y).d:=fun y hy=>(R.ok y hy).tok.pos
 obtain ⟨u,rfl⟩:∃ u,x=i+u:=⟨x - i,by omega⟩
 obtain ⟨v,hv⟩:∃ v,i+w=i+u+1+v:=⟨w - u - 1,by omega⟩
 have a1:=R.upW u i (by omega)
 have a2:=(R.up (i:=i+u) (by omega)).1
 have a3:=R.upW v (i+u+1) (by omega)
 rw [← hv,← eV,← ed] at a3
 have a4:=zcP (p (i+u+1) (by omega)) (p i (by omega)) (p (i+u) (by omega)) a3 a1
 exact Int.le_antisymm a2 a4
theorem Run.zero (R:Run m n vec st rr cc su L) {k:Nat} (hk:k<m):∀ (w i:Nat),i+w≤L→(∀ x,i≤x→x<i+w→(st x).g (rr x) n=0)→((st i).g k n=0↔(st (i+w)).g k n=0)
 | 0,i,_,_=>Iff.rfl
 | w+1,i,h,z=>by
  refine Iff.trans (R.zero hk w i (by omega) fun x a b=>z x a (by omega)) ?_
  have F:=R.ok (i+w) (by omega)
  have b:=R.by' (i+w) (by omega)
  have hr:=b.hr
  have hc:=b.hc
  have zr:=z (i+w) (by omega) (by omega)
  show _↔(st (i+w+1)).g k n=0
  rw [R.nx (i+w) (by omega)]
  by_cases q:k=rr (i+w)
  ·rw [q,zks (by omega)]
  ·have e:=zkv F.tok (by omega) (by omega) (k:=k) (j:=n) (by omega) (Nat.le_refl n) q (by omega:n≠cc (i+w))
   rw [zr,Int.mul_zero,Int.sub_zero] at e
   have p1:=F.tok.pos
   have p2:=b.pos
   constructor
   ·intro y
    rw [y,Int.mul_zero] at e
    rcases Int.mul_eq_zero.mp e with e | e
    ·omega
    ·exact e
   ·intro y
    rw [y,Int.mul_zero] at e
    rcases Int.mul_eq_zero.mp e.symm with e | e
    ·omega
    ·exact e
theorem Run.never (R:Run m n vec st rr cc su L) {i w:Nat} (h:i+w≤L) (hw:0<w) (eb:∀ k,k<m→(st i).bs k=(st (i+w)).bs k) (ec:∀ c,c<n→(st i).id c=(st (i+w)).id c) (es:su i=su (i+w)):False:=by
 have Fi:=R.ok i (by omega)
 have Fj:=R.ok (i+w) h
 have eb':∀ k,k<m+1→vec ((st i).bs k)=vec ((st (i+w)).bs k):=fun k hk=>by
  by_cases q:k=m
  ·rw [q,Fi.bm,Fj.bm]
  ·rw [eb k (by omega)]
 have ed:(st i).d=(st (i+w)).d:=by
  rw [Fi.tok.det,Fj.tok.det]
  exact congrFun (zgo (m+1) eb') _
 have eV:(st i).g m n=(st (i+w)).g m n:=by
  rw [Fi.tok.ent (Nat.le_refl m) (Nat.le_refl n),Fj.tok.ent (Nat.le_refl m) (Nat.le_refl n),Fi.idn,Fj.idn]
  refine congrFun (zgo (m+1) fun k hk=>?_) _
  by_cases q:k=m
  ·rw [q,zaY,zaY]
  ·rw [zbj q,zbj q,eb' k hk]
 have fl:∀ x,i≤x→x<i+w→(st x).g (rr x) n=0:=fun x a b=>R.flat h eV ed a b
 have stuck:∀ x,i≤x→x<i+w→su x=true:=fun x a b=>by
  have nxt:∀ y,i≤y→y<i+w→su (y+1)=true:=fun y a b=>by
   rw [R.sk y (by omega),fl y a b]
   rfl
  by_cases q:x=i
  ·rw [q,es]
   have:=nxt (i+w - 1) (by omega) (by omega)
   rwa [show i+w - 1+1=i+w by omega] at this
  ·have:=nxt (x - 1) (by omega) (by omega)
   rwa [show x - 1+1=x by omega] at this
 have lev:∀ k q a b,k<m→i≤a→a≤i+w→i≤b→b≤i+w→(st a).bs k=q→(st b).bs k≠q→∃ x,i≤x∧x<i+w∧rr x=k∧(st x).bs k=q:=fun k q a b hk ha ha' hb hb' e ne=>by
  by_cases o:a<b
  ·obtain ⟨x,x1,x2,x3⟩:=R.leave (k:=k) (q:=q) (b - a) a (by omega) e (by rwa [show a+(b - a)=b by omega])
   exact ⟨x,by omega,by omega,x3⟩
  ·by_cases z:(st (i+w)).bs k=q
   ·obtain ⟨x,x1,x2,x3⟩:=R.leave (k:=k) (q:=q) (b - i) i (by omega) ((eb k hk).trans z) (by rwa [show i+(b - i)=b by omega])
    exact ⟨x,by omega,by omega,x3⟩
   ·obtain ⟨x,x1,x2,x3⟩:=R.leave (k:=k) (q:=q) (i+w - a) a (by omega) e (by rwa [show a+(i+w - a)=i+w by omega])
    exact ⟨x,by omega,by omega,x3⟩
 have ent:∀ k q a b,k<m→i≤a→a≤i+w→i≤b→b≤i+w→(st a).bs k=q→(st b).bs k≠q→∃ x,i≤x∧x<i+w∧rr x=k∧(st x).id (cc x)=q:=fun k q a b hk ha ha' hb hb' e ne=>by
  by_cases o:b<a
  ·obtain ⟨x,x1,x2,x3⟩:=R.enter (k:=k) (q:=q) (a - b) b (by omega) ne (by rwa [show b+(a - b)=a by omega])
   exact ⟨x,by omega,by omega,x3⟩
  ·by_cases z:(st (i+w)).bs k=q
   ·obtain ⟨x,x1,x2,x3⟩:=R.enter (k:=k) (q:=q) (i+w - b) b (by omega) ne (by rwa [show b+(i+w - b)=i+w by omega])
    exact ⟨x,by omega,by omega,x3⟩
   ·obtain ⟨x,x1,x2,x3⟩:=R.enter (k:=k) (q:=q) (a - i) i (by omega) (fun y=>z ((eb k hk).symm.trans y)) (by rwa [show i+(a - i)=a by omega])
    exact ⟨x,by omega,by omega,x3⟩
 obtain ⟨a,a1,a2,amax⟩:=most (f:=fun x=>(st x).bs (rr x)) (w - 1) i
 have hA:=R.by' a (by omega)
 have FA:=R.ok a (by omega)
 have sne:(st a).id (cc a)≠(st a).bs (rr a):=fun z=>by
  have:=zd9 FA.tok (c:=cc a) (by have:=hA.hc;omega)
  rw [z,ze7 hA.hr] at this
  have:=hA.neg
  omega
 have ba:=R.bs (i:=a) (by omega) (rr a)
 rw [if_pos rfl] at ba
 obtain ⟨b,b1,b2,b3,b4⟩:=ent (rr a) _ a (a+1) hA.hr a1 (by omega) (by omega) (by omega) rfl (by rw [ba];exact sne)
 have hB:=R.by' b (by omega)
 have FB:=R.ok b (by omega)
 refine bland FA FB hA hB.hc b4 hB.neg (fun j hj ng=>?_) ?_ fun k hk ne=>?_
 ·rw [← b4]
  exact hB.bl (stuck b b1 b2) j hj ng
 ·obtain ⟨x,x1,x2,x3,x4⟩:=lev (rr a) ((st a).id (cc a)) (a+1) a hA.hr (by omega) (by omega) a1 (by omega) ba (fun z=>sne z.symm)
  have:=amax x x1 (by omega)
  rw [x3,x4] at this
  have:(st a).id (cc a)≤(st a).bs (rr a):=this
  omega
 ·obtain ⟨x,x1,x2,x3,x4⟩:=lev k ((st a).bs k) a b hk a1 (by omega) b1 (by omega) rfl (fun z=>ne z.symm)
  have le:=amax x x1 (by omega)
  rw [x3,x4] at le
  refine ⟨le,?_⟩
  have zx:(st x).g k n=0:=by rw [← x3];exact fl x x1 x2
  by_cases o:a≤x
  ·have:=R.zero hk (x - a) a (by omega) fun y p q=>fl y (by omega) (by omega)
   rw [show a+(x - a)=x by omega] at this
   exact this.mpr zx
  ·have:=R.zero hk (a - x) x (by omega) fun y p q=>fl y (by omega) (by omega)
   rw [show x+(a - x)=a by omega] at this
   exact this.mp zx
end
theorem zlH:∀ (N:Nat) (f:Nat→Nat),(∀ i,i≤N→f i<N)→∃ i j,i<j∧j≤N∧f i=f j
 | 0,f,h=>absurd (h 0 (Nat.le_refl 0)) (Nat.not_lt_zero _)
 | N+1,f,h=>by
  by_cases q:∃ i,i≤N∧f i=f (N+1)
  ·obtain ⟨i,h1,h2⟩:=q
   exact ⟨i,N+1,by omega,Nat.le_refl _,h2⟩
  ·have no:∀ i,i≤N→f i≠f (N+1):=fun i hi e=>q ⟨i,hi,e⟩
   have top:=h (N+1) (Nat.le_refl _)
   obtain ⟨i,j,h1,h2,h3⟩:=zlH N (fun i=>if f (N+1)<f i then f i - 1 else f i) fun i hi=>by
    have a:=h i (by omega)
    have b:=no i hi
    show (if f (N+1)<f i then f i - 1 else f i)<N
    split <;> omega
   refine ⟨i,j,h1,by omega,?_⟩
   have a:=no i (by omega)
   have b:=no j h2
   have h3:(if f (N+1)<f i then f i - 1 else f i)=if f (N+1)<f j then f j - 1 else f j:=h3
   split at h3 <;> split at h3 <;> omega
def cde (B:Nat) (f:Nat→Nat):Nat→Nat
 | 0=>0
 | k+1=>cde B f k*B+f k
theorem zlg {B:Nat} {f:Nat→Nat}:∀ k,(∀ i,i<k→f i<B)→cde B f k<B ^ k
 | 0,_=>Nat.one_pos
 | k+1,h=>by
  have a:=zlg k fun i hi=>h i (by omega)
  have b:=h k (by omega)
  show cde B f k*B+f k<B ^ (k+1)
  have:(cde B f k+1)*B≤B ^ k*B:=Nat.mul_le_mul_right B a
  rw [Nat.pow_succ]
  rw [Nat.add_mul] at this
  omega
theorem zjZ {B:Nat} {f g:Nat→Nat}:∀ k,(∀ i,i<k→f i<B)→(∀ i,i<k→g i<B)→cde B f k=cde B g k→∀ i,i<k→f i=g i
 | 0,_,_,_,i,hi=>absurd hi (Nat.not_lt_zero i)
 | k+1,hf,hg,e,i,hi=>by
  have e:cde B f k*B+f k=cde B g k*B+g k:=e
  have f1:=hf k (by omega)
  have g1:=hg k (by omega)
  have m1:(cde B f k*B+f k) % B=f k:=by rw [Nat.mul_comm,Nat.mul_add_mod,Nat.mod_eq_of_lt f1]
  have m2:(cde B g k*B+g k) % B=g k:=by rw [Nat.mul_comm,Nat.mul_add_mod,Nat.mod_eq_of_lt g1]
  have ek:f k=g k:=by rw [← m1,e,m2]
  by_cases q:i=k
  ·rw [q,ek]
  ·have e2:cde B f k*B=cde B g k*B:=by omega
   exact zjZ k (fun i hi=>hf i (by omega)) (fun i hi=>hg i (by omega)) (Nat.eq_of_mul_eq_mul_right (by omega) e2) i (by omega)
def kyF (m n:Nat) (t:Sx) (s:Bool) (i:Nat):Nat:=if i<m then t.bs i else if i<m+n then t.id (i - m) else if s=true then 1 else 0
theorem zmh {t:Sx} {s:Bool} {i:Nat} (h:i<m):kyF m n t s i=t.bs i:=if_pos h
theorem zmR {t:Sx} {s:Bool} {c:Nat} (h:c<n):kyF m n t s (m+c)=t.id c:=by
 unfold kyF
 rw [if_neg (by omega),if_pos (by omega),show m+c - m=c by omega]
theorem zmo {t:Sx} {s:Bool}:kyF m n t s (m+n)=if s=true then 1 else 0:=by
 unfold kyF
 rw [if_neg (by omega),if_neg (by omega)]
theorem Run.ends {st:Nat→Sx} {rr cc:Nat→Nat} {su:Nat→Bool} {L:Nat} (R:Run m n vec st rr cc su L):L<(n+m+2) ^ (m+n+1):=by
 refine Classical.byContradiction fun no=>?_
 have lt:∀ x,x≤L→∀ i,i<m+n+1→kyF m n (st x) (su x) i<n+m+2:=fun x hx i hi=>by
  have F:=R.ok x hx
  by_cases h1:i<m
  ·rw [zmh h1]
   have:=F.bl i h1
   omega
  ·by_cases h2:i<m+n
   ·obtain ⟨c,rfl⟩:∃ c,i=m+c:=⟨i - m,by omega⟩
    rw [zmR (by omega)]
    have:=F.il c (by omega)
    omega
   ·rw [show i=m+n by omega,zmo]
    split <;> omega
 obtain ⟨i,j,h1,h2,h3⟩:=zlH ((n+m+2) ^ (m+n+1)) (fun x=>cde (n+m+2) (kyF m n (st x) (su x)) (m+n+1)) fun x hx=>zlg _ (lt x (by omega))
 have same:=zjZ _ (lt i (by omega)) (lt j (by omega)) h3
 refine R.never (i:=i) (w:=j - i) (by omega) (by omega) (fun k hk=>?_) (fun c hc=>?_) ?_
 ·rw [show i+(j - i)=j by omega]
  have e:=same k (by omega)
  rwa [zmh hk,zmh hk] at e
 ·rw [show i+(j - i)=j by omega]
  have e:=same (m+c) (by omega)
  rwa [zmR hc,zmR hc] at e
 ·rw [show i+(j - i)=j by omega]
  have e:=same (m+n) (by omega)
  rw [zmo,zmo] at e
  cases a:su i <;> cases b:su j <;> rw [a,b] at e
  ·exact absurd e (by decide)
  ·exact absurd e (by decide)
def zbr (a:Nat→Nat→Int) (m n q j:Nat):Int:=if q<n then (if j<m then a q j else if j=m then -1 else 0) else if q≤n+m then (if j+n=q then 1 else 0) else if j<m then 1 else 0
section
variable {a:Nat→Nat→Int}
theorem zjY {q j:Nat} (h:q<n) (h2:j<m):zbr a m n q j=a q j:=by unfold zbr;rw [if_pos h,if_pos h2]
theorem vt_m {q:Nat} (h:q<n):zbr a m n q m=-1:=by unfold zbr;rw [if_pos h,if_neg (Nat.lt_irrefl m),if_pos rfl]
theorem zlA {q j:Nat} (h:m<j):zbr a m n q j=0:=by
 unfold zbr
 split
 ·rw [if_neg (by omega),if_neg (by omega)]
 ·split
  ·rw [if_neg (by omega)]
  ·rw [if_neg (by omega)]
theorem zkb {k j:Nat} (h:k≤m):zbr a m n (n+k) j=if j=k then 1 else 0:=by
 unfold zbr
 rw [if_neg (by omega),if_pos (by omega)]
 by_cases q:j=k
 ·rw [if_pos (by omega),if_pos q]
 ·rw [if_neg (by omega),if_neg q]
theorem zg5 {j:Nat}:zbr a m n (n+m+1) j=if j<m then 1 else 0:=by unfold zbr;rw [if_neg (by omega),if_neg (by omega)]
theorem vt_le {A:Nat} (hA:1≤A) (h:∀ q j,q<n→j<m→(a q j).natAbs≤A) (q j:Nat):(zbr a m n q j).natAbs≤A:=by
 unfold zbr
 split
 ·split
  ·exact h q j (by assumption) (by assumption)
  ·split <;> simp <;> omega
 ·split
  ·split <;> simp <;> omega
  ·split <;> simp <;> omega
theorem zlL (q j:Nat):zbr a m n q j=S (m+1) fun k=>zbr a m n q k*zbr a m n (n+k) j:=by
 by_cases h:j<m+1
 ·rw [zg6 (m+1) (r:=j) h fun k hk ne=>by rw [zkb (by omega),if_neg (Ne.symm ne),Int.mul_zero],zkb (by omega),if_pos rfl,Int.mul_one]
 ·rw [zlA (by omega),zfg (m+1) fun k hk=>by rw [zlA (j:=j) (by omega),Int.mul_zero]]
def sx0 (a:Nat→Nat→Int) (m n:Nat):Sx where
 g:=fun k c=>if k<m then (if c<n then a c k else 1) else if c<n then -1 else 0
 d:=1
 bs:=fun k=>n+k
 id:=fun c=>if c<n then c else n+m+1
theorem zlu:Fea m n (zbr a m n) (sx0 a m n):=by
 have gv:∀ k c,k≤m→c≤n→(sx0 a m n).g k c=zbr a m n ((sx0 a m n).id c) k:=fun k c hk hc=>by
  show (if k<m then (if c<n then a c k else 1) else if c<n then -1 else 0)=zbr a m n (if c<n then c else n+m+1) k
  by_cases h:c<n
  ·simp only [if_pos h]
   by_cases h2:k<m
   ·rw [if_pos h2,zjY h h2]
   ·rw [if_neg h2,show k=m by omega,vt_m h]
  ·simp only [if_neg h]
   rw [zg5]
 refine ⟨⟨Int.one_pos,fun c hc j=>?_,?_⟩,rfl,if_neg (Nat.lt_irrefl n),fun k hk=>?_,fun c hc=>?_,fun q hq=>?_,fun k hk=>?_⟩
 ·show 1*zbr a m n ((sx0 a m n).id c) j=S (m+1) fun k=>(sx0 a m n).g k c*zbr a m n (n+k) j
  rw [Int.one_mul,zlL,zay (m+1) fun k hk=>by rw [← gv k c (by omega) hc]]
 ·show 1=Dt m fun k=>zbr a m n (n+k)
  exact (W_id (m+1) fun k j hk hj=>zkb (by omega)).symm
 ·show n+k<n+m
  omega
 ·show (if c<n then c else n+m+1)<n+m
  rw [if_pos hc]
  omega
 ·by_cases h:q<n
  ·exact .inr ⟨q,h,if_pos h⟩
  ·exact .inl ⟨q - n,by omega,by show n+(q - n)=q;omega⟩
 ·show 0≤(if k<m then (if n<n then a n k else 1) else if n<n then -1 else 0)
  rw [if_pos hk,if_neg (Nat.lt_irrefl n)]
  decide
theorem ziY (h1:∀ q j,q<n→j<m→1≤a q j) {q j:Nat} (hq:q<n+m) (hj:j<m):0≤zbr a m n q j:=by
 by_cases h:q<n
 ·rw [zjY h hj]
  have:=h1 q j h hj
  omega
 ·rw [show q=n+(q - n) by omega,zkb (by omega)]
  split <;> omega
theorem Fea.out {t:Sx} (F:Fea m n (zbr a m n) t) (m1:0<m) (h1:∀ q j,q<n→j<m→1≤a q j) {c:Nat} (hc:c<n):∃ r,r<m∧0<t.g r c:=by
 refine Classical.byContradiction fun no=>?_
 have ng:∀ k,k<m→t.g k c≤0:=fun k hk=>by
  refine Classical.byContradiction fun q=>no ⟨k,hk,by omega⟩
 have hi:=F.il c hc
 obtain ⟨j,hj,pj⟩:∃ j,j<m∧0<zbr a m n (t.id c) j:=by
  by_cases q:t.id c<n
  ·refine ⟨0,m1,?_⟩
   rw [zjY q m1]
   have:=h1 _ 0 q m1
   omega
  ·refine ⟨t.id c - n,by omega,?_⟩
   rw [show t.id c=n+(t.id c - n) by omega,zkb (by omega),if_pos (by omega)]
   exact Int.one_pos
 have E:=F.tok.lin c (by omega) j
 have E':(S (m+1) fun k=>t.g k c*zbr a m n (t.bs k) j)=(S m fun k=>t.g k c*zbr a m n (t.bs k) j)+t.g m c*zbr a m n (t.bs m) j:=rfl
 rw [E',F.bm,zkb (Nat.le_refl m),if_neg (by omega),Int.mul_zero] at E
 have p:=Int.mul_pos F.tok.pos pj
 have:0≤S m fun k=>(-1)*(t.g k c*zbr a m n (t.bs k) j):=zdr m fun k hk=>by
  have:=Int.mul_nonneg (show 0≤- t.g k c by have:=ng k hk;omega) (ziY h1 (F.bl k hk) hj)
  rw [Int.neg_mul] at this
  omega
 rw [zdG] at this
 omega
theorem zjD (f:Nat→Nat→Int) (N:Nat):∀ M,(S M fun i=>S N fun k=>f i k)=S N fun k=>S M fun i=>f i k
 | 0=>(zfg N fun _ _=>rfl).symm
 | M+1=>by
  show (S M fun i=>S N fun k=>f i k)+(S N fun k=>f M k)=S N fun k=>(S M fun i=>f i k)+f M k
  rw [zjD f N M]
  have:=ze8 1 1 (fun k=>S M fun i=>f i k) (fun k=>f M k) N
  rw [zay (g:=fun k=>(S M fun i=>f i k)+f M k) N (fun k _=>by omega)] at this
  omega
def xw (m n:Nat) (t:Sx) (i:Nat):Int:=S m fun k=>if t.bs k=i then t.g k n else 0
theorem zlm (t:Sx) (f:Nat→Int):(S n fun i=>xw m n t i*f i)=S m fun k=>if t.bs k<n then t.g k n*f (t.bs k) else 0:=by
 have e:(S n fun i=>xw m n t i*f i)=S n fun i=>S m fun k=>(if t.bs k=i then t.g k n else 0)*f i:=zay n fun i _=>by
  unfold xw
  rw [Int.mul_comm,← zdG]
  exact zay m fun k _=>Int.mul_comm _ _
 rw [e,zjD (fun i k=>(if t.bs k=i then t.g k n else 0)*f i)]
 refine zay m fun k _=>?_
 by_cases q:t.bs k<n
 ·rw [if_pos q,zg6 n q fun i _ ne=>by rw [if_neg (Ne.symm ne),Int.zero_mul],if_pos rfl]
 ·rw [if_neg q,zfg n fun i hi=>by rw [if_neg (by omega),Int.zero_mul]]
theorem Fea.x0 {t:Sx} (F:Fea m n vec t) (i:Nat):0≤xw m n t i:=zdr m fun k hk=>by
 have:=F.fea k hk
 split <;> omega
theorem Fea.xcol {t:Sx} (F:Fea m n (zbr a m n) t) {j:Nat} (hj:j<m):(S n fun i=>xw m n t i*a i j)≤t.d:=by
 have E:=F.tok.lin n (Nat.le_refl n) j
 have E':(S (m+1) fun k=>t.g k n*zbr a m n (t.bs k) j)=(S m fun k=>t.g k n*zbr a m n (t.bs k) j)+t.g m n*zbr a m n (t.bs m) j:=rfl
 rw [E',F.idn,zg5,if_pos hj,F.bm,zkb (Nat.le_refl m),if_neg (by omega),Int.mul_zero] at E
 rw [zlm t fun i=>a i j]
 have:0≤S m fun k=>1*(t.g k n*zbr a m n (t.bs k) j)+(-1)*(if t.bs k<n then t.g k n*a (t.bs k) j else 0):=zdr m fun k hk=>by
  by_cases q:t.bs k<n
  ·rw [if_pos q,zjY q hj];omega
  ·have b:=F.bl k hk
   rw [if_neg q,show t.bs k=n+(t.bs k - n) by omega,zkb (by omega)]
   have:=F.fea k hk
   split <;> omega
 rw [ze8] at this
 omega
theorem Fea.xsum {t:Sx} (F:Fea m n (zbr a m n) t):(S n fun i=>xw m n t i)=t.g m n:=by
 have E:=F.tok.lin n (Nat.le_refl n) m
 have E':(S (m+1) fun k=>t.g k n*zbr a m n (t.bs k) m)=(S m fun k=>t.g k n*zbr a m n (t.bs k) m)+t.g m n*zbr a m n (t.bs m) m:=rfl
 rw [E',F.idn,zg5,if_neg (Nat.lt_irrefl m),F.bm,zkb (Nat.le_refl m),if_pos rfl,Int.mul_zero] at E
 have X:=zlm (m:=m) (n:=n) t fun _=>1
 rw [zay (g:=fun i=>xw m n t i) n (fun i _=>Int.mul_one _)] at X
 rw [X]
 have:(S m fun k=>t.g k n*zbr a m n (t.bs k) m)=S m fun k=>(-1)*(if t.bs k<n then t.g k n*1 else 0):=zay m fun k hk=>by
  by_cases q:t.bs k<n
  ·rw [if_pos q,vt_m q];omega
  ·have b:=F.bl k hk
   rw [if_neg q,show t.bs k=n+(t.bs k - n) by omega,zkb (by omega),if_neg (by omega)]
   omega
 rw [this,zdG] at E
 omega
def ziE (m n:Nat) (t:Sx):Prop:=∀ c,c<n→0≤t.g m c
def yw (a:Nat→Nat→Int) (m n:Nat) (t:Sx) (j:Nat):Int:=rc m (zbr a m n) t (n+j)
theorem Fea.rc0 {t:Sx} (F:Fea m n vec t) (h:ziE m n t) {q:Nat} (hq:q<n+m):0≤rc m vec t q:=by
 rcases F.cov q hq with ⟨k,hk,rfl⟩ | ⟨c,hc,rfl⟩
 ·rw [ze7 hk];exact Int.le_refl 0
 ·rw [zd9 F.tok (by omega)];exact h c hc
theorem Fea.rcsum {t:Sx} (q:Nat):rc m (zbr a m n) t q=S (m+1) fun k=>zbr a m n q k*rc m (zbr a m n) t (n+k):=by
 exact (congrArg (fun v=>Dt m (zbf (fun k=>zbr a m n (t.bs k)) m v)) (funext fun j=>zlL q j)).trans (W_S (r:=m) (M:=m+1) (Nat.lt_succ_self m) (fun k=>zbr a m n q k) (fun k=>zbr a m n (n+k)) _ _)
theorem Fea.yrow {t:Sx} (F:Fea m n (zbr a m n) t) (h:ziE m n t) {i:Nat} (hi:i<n):t.d≤S m fun j=>yw a m n t j*a i j:=by
 have r0:=F.rc0 h (q:=i) (by omega)
 have E:=Fea.rcsum (a:=a) (m:=m) (n:=n) (t:=t) i
 have E':(S (m+1) fun k=>zbr a m n i k*rc m (zbr a m n) t (n+k))=(S m fun k=>zbr a m n i k*rc m (zbr a m n) t (n+k))+zbr a m n i m*rc m (zbr a m n) t (n+m):=rfl
 have tp:=zlC F.tok
 rw [F.bm] at tp
 rw [E',vt_m hi,tp] at E
 rw [zay (g:=fun k=>zbr a m n i k*rc m (zbr a m n) t (n+k)) m fun j hj=>by rw [zjY hi hj,Int.mul_comm];rfl]
 omega
theorem Fea.ysum {t:Sx} (F:Fea m n (zbr a m n) t):(S m fun j=>yw a m n t j)=t.g m n:=by
 have E:=Fea.rcsum (a:=a) (m:=m) (n:=n) (t:=t) (n+m+1)
 have E':(S (m+1) fun k=>zbr a m n (n+m+1) k*rc m (zbr a m n) t (n+k))=(S m fun k=>zbr a m n (n+m+1) k*rc m (zbr a m n) t (n+k))+zbr a m n (n+m+1) m*rc m (zbr a m n) t (n+m):=rfl
 have ii:=zd9 F.tok (c:=n) (Nat.le_refl n)
 rw [F.idn] at ii
 rw [E',ii,zg5,if_neg (Nat.lt_irrefl m),Int.zero_mul,Int.add_zero] at E
 rw [E]
 exact zay m fun j hj=>by rw [zg5,if_pos hj,Int.one_mul];rfl
theorem Fea.y0 {t:Sx} (F:Fea m n (zbr a m n) t) (h:ziE m n t) {j:Nat} (hj:j<m):0≤yw a m n t j:=F.rc0 h (by omega)
theorem Fea.vpos {t:Sx} (F:Fea m n (zbr a m n) t) (h:ziE m n t) (n1:0<n):0<t.g m n:=by
 have d0:=F.tok.pos
 have yr:=F.yrow h n1
 obtain ⟨j,hj,pj⟩:=zkd (n:=m) (f:=fun j=>yw a m n t j*a 0 j) (by omega)
 have y0:=F.y0 h hj
 have:0<yw a m n t j:=by
  refine Classical.byContradiction fun no=>?_
  have e:yw a m n t j=0:=by omega
  have pj:0<yw a m n t j*a 0 j:=pj
  rw [e,Int.zero_mul] at pj
  omega
 rw [← F.ysum,zkT m hj]
 have:=zdr (f:=fun k=>if k=j then 0 else yw a m n t k) m fun k hk=>by
  show 0≤if k=j then 0 else yw a m n t k
  have:=F.y0 h hk
  split <;> omega
 show 0<yw a m n t j+_
 omega
theorem zmn {t:Sx} (h:Tok m n vec t) {k:Nat} (hk:k<m):xw m n t (t.bs k)=t.g k n:=by
 unfold xw
 rw [zg6 m hk fun l hl ne=>if_neg fun z=>ne (h.inj (by omega) (by omega) z),if_pos rfl]
theorem zmy {t:Sx} {i:Nat} (h:∀ k,k<m→t.bs k≠i):xw m n t i=0:=zfg m fun k hk=>if_neg (h k hk)
theorem zlS {t:Sx} (h:Tok m n (zbr a m n) t) {c:Nat} (hc:c<n) (hn:n≤t.id c):yw a m n t (t.id c - n)=t.g m c:=by
 unfold yw
 rw [show n+(t.id c - n)=t.id c by omega,zd9 h (by omega)]
theorem zmP {t:Sx} (F:Fea m n (zbr a m n) t) {j:Nat} (hj:j<m) (h:∀ c,c<n→t.id c≠n+j):yw a m n t j=0:=by
 rcases F.cov (n+j) (by omega) with ⟨k,hk,e⟩ | ⟨c,hc,e⟩
 ·unfold yw
  rw [← e,ze7 hk]
 ·exact absurd e (h c hc)
theorem Tok.bound {t:Sx} (h:Tok m n vec t) {A:Nat} (hA:∀ q j,(vec q j).natAbs≤A) {k c:Nat} (hk:k≤m) (hc:c≤n):(t.g k c).natAbs≤fct (m+1)*A ^ (m+1):=by
 rw [h.ent hk hc]
 refine W_le (fun l j=>?_) _ _ (zdY _)
 unfold zbf
 split
 ·exact hA _ _
 ·exact hA _ _
theorem Tok.boundD {t:Sx} (h:Tok m n vec t) {A:Nat} (hA:∀ q j,(vec q j).natAbs≤A):t.d.natAbs≤fct (m+1)*A ^ (m+1):=by
 rw [h.det]
 exact W_le (fun l j=>hA _ _) _ _ (zdY _)
theorem zkw {t:Sx} {A:Nat} (hA:∀ q j,(zbr a m n q j).natAbs≤A) (j:Nat):(yw a m n t j).natAbs≤fct (m+1)*A ^ (m+1):=by
 refine W_le (fun l i=>?_) _ _ (zdY _)
 unfold zbf
 split
 ·exact hA _ _
 ·exact hA _ _
end
end
structure Tb (H:Hp) (t:Addr) (rs:List Addr) (rows:List (List Int)) (w:Nat):Prop where
 ht:H t=some (.lst (rs.map V.ref))
 len:rs.length=rows.length
 hr:∀ (i:Nat) r row,rs[i]?=some r→rows[i]?=some row→H r=some (.lst (row.map V.int))
 hw:∀ row∈rows,row.length=w
 l1:1≤rows.length
 l6:rows.length≤12
 w1:1≤w
 w6:w≤12
 bd:∀ row∈rows,∀ x∈row,Bd 102 x
theorem Tb.same {H H':Hp} {t:Addr} {rs:List Addr} {rows:List (List Int)} {w:Nat} (h:Tb H t rs rows w) (s:zaR H H'):Tb H' t rs rows w :=
 ⟨s _ _ h.ht,h.len,fun i r row e1 e2=>s _ _ (h.hr i r row e1 e2),h.hw,h.l1,h.l6,h.w1,h.w6,h.bd⟩
theorem Tb.at {H:Hp} {t:Addr} {rs:List Addr} {rows:List (List Int)} {w:Nat} (h:Tb H t rs rows w) {i:Nat} {r:Addr} (e:rs[i]?=some r):∃ row,rows[i]?=some row∧H r=some (.lst (row.map V.int))∧row.length=w:=by
 have hi:=(List.getElem?_eq_some_iff.mp e).1
 rw [h.len] at hi
 exact ⟨rows[i],List.getElem?_eq_getElem hi,h.hr i r _ e (List.getElem?_eq_getElem hi),h.hw _ (List.getElem_mem hi)⟩
theorem Tb.first {H:Hp} {t:Addr} {rs:List Addr} {rows:List (List Int)} {w:Nat} (h:Tb H t rs rows w):∃ (r:Addr) (row:List Int),atI (rs.map V.ref) 0=some (.ref r)∧H r=some (.lst (row.map V.int))∧row.length=w:=by
 have l:=h.l1
 rw [← h.len] at l
 have e:rs[0]?=some rs[0]:=List.getElem?_eq_getElem l
 obtain ⟨row,_,h2,h3⟩:=h.at e
 exact ⟨_,row,zbz (j:=0) (by rw [List.getElem?_map,e];rfl),h2,h3⟩
def zh4:Sp:=fun vs H Q _=>∃ x:V,vs=[x]∧((∃ n:Int,x=.int n)∧Q (.bl true) H∨(∃ b:Bool,x=.bl b)∧Q (.bl false) H)
def zlX (K:PySem.W.Frag):Sp:=fun vs H Q _=>∃ (p:Addr) (ns:List Int),vs=[.ref p]∧H p=some (.lst (ns.map V.int))∧1≤ns.length∧ns.length≤12∧∀ H',zaR H H'→Q (.bl true) H'
def znu (K:PySem.W.Frag):Sp:=fun vs H Q _=>∃ (t:Addr) (rs:List Addr) (rows:List (List Int)) (w:Nat),vs=[.ref t]∧Tb H t rs rows w∧∀ H',zaR H H'→Q (.bl true) H'
def zgL (K:PySem.W.Frag):Sp:=fun vs H Q _=>∃ (t:Addr) (rs:List Addr) (rows:List (List Int)) (w:Nat),vs=[.ref t]∧Tb H t rs rows w∧∀ H',zaR H H'→Q .non H'
def zhJ:Str:="Board.entering.<locals>.<lambda>"
abbrev LT (H:Hp) (P:Addr):Prop:=zbQ H P ziW zhJ
def zen (t:Sx) (n k:Nat):List V:=(List.range (n+1)).map fun c=>V.int (t.g k c)
def nmL (f:Nat→Nat) (k:Nat):List V:=(List.range k).map fun i=>V.int (f i:Int)
theorem zeK (t:Sx) (n k:Nat):(zen t n k).length=n+1:=by rw [zen,List.length_map,List.length_range]
theorem zcN (f:Nat→Nat) (k:Nat):(nmL f k).length=k:=by rw [nmL,List.length_map,List.length_range]
theorem zh9 {t:Sx} {n k c:Nat} (h:c≤n):(zen t n k)[c]?=some (.int (t.g k c)):=by rw [zen,List.getElem?_map,List.getElem?_range (by omega)];rfl
theorem zhm {f:Nat→Nat} {k i:Nat} (h:i<k):(nmL f k)[i]?=some (.int (f i:Int)):=by rw [nmL,List.getElem?_map,List.getElem?_range h];rfl
theorem zbV {t:Sx} {n k c:Nat} (h:c≤n):atI (zen t n k) (c:Int)=some (.int (t.g k c)):=zbz (zh9 h)
theorem zgA {f:Nat→Nat} {k i:Nat} (h:i<k):atI (nmL f k) (i:Int)=some (.int (f i:Int)):=zbz (zhm h)
theorem zhu {xs:List V} {v:V} {n:Nat} (l:xs.length=n+1) (h:xs[n]?=some v):atI xs (-1)=some v:=by
 have e:xs=xs.dropLast++[v]:=by
  have ne:xs≠[]:=fun z=>by rw [z] at l;cases l
  have:=List.dropLast_concat_getLast ne
  rw [List.getLast_eq_getElem] at this
  have hv:xs[xs.length - 1]'(by omega)=v:=by
   have h2:xs[xs.length - 1]?=some v:=by rw [l];exact h
   exact (List.getElem?_eq_some_iff.mp h2).2
  rw [hv] at this
  exact this.symm
 rw [e]
 exact zkt _ _
theorem zd6 {t:Sx} {n k:Nat}:atI (zen t n k) (-1)=some (.int (t.g k n)):=zhu (zeK t n k) (zh9 (Nat.le_refl n))
structure Brd (H:Hp) (C b dx gl il ul:Addr) (rows:List Addr) (m n:Nat) (t:Sx) (s:Bool):Prop where
 hb:H b=some (.ins C dx [("grid",.ref gl),("scale",.int t.d),("idle",.ref il),("busy",.ref ul),("stuck",.bl s)])
 hg:H gl=some (.lst (rows.map V.ref))
 len:rows.length=m+1
 row:∀ (k:Nat) r,rows[k]?=some r→H r=some (.lst (zen t n k))
 hi:H il=some (.lst (nmL t.id n))
 hu:H ul=some (.lst (nmL t.bs m))
 ne:il≠ul
section
variable {H H':Hp} {C b dx gl il ul P:Addr} {rows:List Addr} {m n:Nat} {t:Sx} {s:Bool}
theorem Brd.same (B:Brd H C b dx gl il ul rows m n t s) (e:zaR H H'):Brd H' C b dx gl il ul rows m n t s:=⟨e _ _ B.hb,e _ _ B.hg,B.len,fun k r h=>e _ _ (B.row k r h),e _ _ B.hi,e _ _ B.hu,B.ne⟩
theorem Brd.bar (B:Brd H C b dx gl il ul rows m n t s) (L:LT H P) (e:Bar P H H'):Brd H' C b dx gl il ul rows m n t s :=
 ⟨e _ _ (L.neI B.hb) B.hb,e _ _ (L.neL B.hg) B.hg,B.len,fun k r h=>e _ _ (L.neL (B.row k r h)) (B.row k r h),e _ _ (L.neL B.hi) B.hi,e _ _ (L.neL B.hu) B.hu,B.ne⟩
theorem Brd.rowAt (B:Brd H C b dx gl il ul rows m n t s) {k:Nat} (h:k≤m):∃ r,rows[k]?=some r∧H r=some (.lst (zen t n k))∧atI (rows.map V.ref) (k:Int)=some (.ref r):=by
 have hk:k<rows.length:=by rw [B.len];omega
 refine ⟨rows[k],List.getElem?_eq_getElem hk,B.row k _ (List.getElem?_eq_getElem hk),zbz ?_⟩
 rw [List.getElem?_map,List.getElem?_eq_getElem hk]
 rfl
theorem Brd.rowEnd (B:Brd H C b dx gl il ul rows m n t s):∃ r,H r=some (.lst (zen t n m))∧atI (rows.map V.ref) (-1)=some (.ref r):=by
 have hk:m<rows.length:=by rw [B.len];omega
 refine ⟨rows[m],B.row m _ (List.getElem?_eq_getElem hk),zhu (by rw [List.length_map,B.len]) ?_⟩
 rw [List.getElem?_map,List.getElem?_eq_getElem hk]
 rfl
end
structure LP (a:Nat→Nat→Int) (m n:Nat) (t:Sx):Prop where
 m1:1≤m
 m12:m≤12
 n1:1≤n
 n12:n≤12
 a1:∀ q j,q<n→j<m→1≤a q j
 ab:∀ q j,q<n→j<m→(a q j).natAbs≤2 ^ 104
 F:Fea m n (zbr a m n) t
theorem znx:∀ m,m<13→fct (m+1)≤2 ^ 33:=by decide
theorem zji {m:Nat} (h:m≤12):fct (m+1)*(2 ^ 104) ^ (m+1)<2 ^ 1400:=by
 have h1:=znx m (by omega)
 have h2:(2 ^ 104) ^ (m+1)≤2 ^ (104*13):=by
  rw [← Nat.pow_mul]
  exact Nat.pow_le_pow_right (by decide) (by omega)
 have h3:fct (m+1)*(2 ^ 104) ^ (m+1)≤2 ^ 33*2 ^ (104*13):=Nat.mul_le_mul h1 h2
 rw [← Nat.pow_add] at h3
 exact Nat.lt_of_le_of_lt h3 (Nat.pow_lt_pow_right (by decide) (by decide))
section
variable {a:Nat→Nat→Int} {m n:Nat} {t:Sx}
theorem LP.vb (L:LP a m n t) (q j:Nat):(zbr a m n q j).natAbs≤2 ^ 104:=vt_le (Nat.one_le_two_pow) L.ab q j
theorem LP.g (L:LP a m n t) {k c:Nat} (hk:k≤m) (hc:c≤n):Bd 1400 (t.g k c):=Nat.lt_of_le_of_lt (L.F.tok.bound L.vb hk hc) (zji L.m12)
theorem LP.d (L:LP a m n t):Bd 1400 t.d:=Nat.lt_of_le_of_lt (L.F.tok.boundD L.vb) (zji L.m12)
theorem LP.y (L:LP a m n t) (j:Nat):Bd 1400 (yw a m n t j):=Nat.lt_of_le_of_lt (zkw L.vb j) (zji L.m12)
theorem LP.piv (L:LP a m n t) {s:Bool} {r c:Nat} (h:Stp m n t s r c):LP a m n (piv t r c):=⟨L.m1,L.m12,L.n1,L.n12,L.a1,L.ab,L.F.piv h⟩
end
def zf0 (C:Addr):Sp:=fun vs H Q _=>∃ (b dx gl il ul:Addr) (rows:List Addr) (a:Nat→Nat→Int) (m n:Nat) (t:Sx) (s:Bool) (k l c:Nat),vs=[.ref b,.int k,.int l,.int c]∧Brd H C b dx gl il ul rows m n t s∧LP a m n t∧k<m∧l<m∧c<n ∧
 ∀ r:Bool,(r=true↔t.g k n*t.g l c<t.g l n*t.g k c∨(t.g k n*t.g l c=t.g l n*t.g k c∧t.bs k<t.bs l))→Q (.bl r) H
def zhH (C:Addr):Sp:=fun vs H Q _=>∃ (b dx gl il ul:Addr) (rows:List Addr) (a:Nat→Nat→Int) (m n:Nat) (t:Sx) (s:Bool) (c:Nat),vs=[.ref b,.int c]∧Brd H C b dx gl il ul rows m n t s∧LP a m n t∧c<n ∧
 ∀ r:Nat,r<m→0<t.g r c→(∀ k,k<m→0<t.g k c→t.g r n*t.g k c<t.g k n*t.g r c∨(t.g r n*t.g k c=t.g k n*t.g r c∧t.bs r≤t.bs k))→Q (.int r) H
def zgr (C:Addr):Sp:=fun vs H Q _=>∃ (b dx gl il ul:Addr) (rows:List Addr) (a:Nat→Nat→Int) (m n:Nat) (t:Sx) (s:Bool) (c:Nat),vs=[.ref b,.int c]∧Brd H C b dx gl il ul rows m n t s∧LP a m n t∧c<n ∧
 ∀ (x y:Int) (r:Addr) (H':Hp),zaR H H'→H' r=some (.tup [.int x,.int y])→Bd 2900 x→Bd 2900 y→Q (.ref r) H'
def zfx (C:Addr):Sp:=fun vs H Q _=>∃ (b dx gl il ul cl:Addr) (rows:List Addr) (a:Nat→Nat→Int) (m n:Nat) (t:Sx) (s:Bool) (cs:List Nat),vs=[.ref b,.ref cl]∧Brd H C b dx gl il ul rows m n t s∧LP a m n t∧H cl=some (.lst (cs.map fun c:Nat=>V.int c))∧1≤cs.length∧cs.length≤12∧(∀ c∈cs,c<n) ∧
 ∀ c∈cs,∀ H',zaR H H'→Q (.int c) H'
def zfQ (C P:Addr):Sp:=fun vs H Q _=>∃ (b dx gl il ul:Addr) (rows:List Addr) (a:Nat→Nat→Int) (m n:Nat) (t:Sx) (s:Bool),vs=[.ref b]∧Brd H C b dx gl il ul rows m n t s∧LP a m n t∧LT H P ∧
 (ziE m n t→∀ H',zaR H H'→Q .non H')∧∀ (c:Nat) (H':Hp),c<n→t.g m c<0→(s=true→∀ j,j<n→t.g m j<0→t.id c≤t.id j)→Bar P H H'→LT H' P→Q (.int c) H'
def zjG (C:Addr):Sp:=fun vs H Q _=>∃ (b dx gl il ul:Addr) (rows:List Addr) (a:Nat→Nat→Int) (m n:Nat) (t:Sx) (s:Bool) (k r c:Nat),vs=[.ref b,.int k,.int r,.int c]∧Brd H C b dx gl il ul rows m n t s∧LP a m n t∧k≤m∧r<m∧c<n∧0<t.g r c ∧
 ∀ (l:Addr) (H':Hp),zaR H H'→H l=none→H' l=some (.lst (zen (piv t r c) n k))→Q (.ref l) H'
def zjc (C:Addr):Sp:=fun vs H Q _=>∃ (b dx gl il ul:Addr) (rows:List Addr) (a:Nat→Nat→Int) (m n:Nat) (t:Sx) (s:Bool) (r c:Nat),vs=[.ref b,.int r,.int c]∧Brd H C b dx gl il ul rows m n t s∧LP a m n t∧r<m∧c<n∧0<t.g r c ∧
 ∀ (gl':Addr) (rows':List Addr) (H':Hp),(∀ x o,x≠b→x≠il→x≠ul→H x=some o→H' x=some o)→Brd H' C b dx gl' il ul rows' m n (piv t r c) (decide (t.g r n=0))→Q .non H'
structure Grd (H:Hp) (gl:Addr) (rows:List Addr) (m n:Nat) (t:Sx):Prop where
 hg:H gl=some (.lst (rows.map V.ref))
 len:rows.length=m+1
 row:∀ (k:Nat) r,rows[k]?=some r→H r=some (.lst (zen t n k))
theorem Grd.same {H H':Hp} {gl:Addr} {rows:List Addr} {m n:Nat} {t:Sx} (B:Grd H gl rows m n t) (e:zaR H H'):Grd H' gl rows m n t:=⟨e _ _ B.hg,B.len,fun k r h=>e _ _ (B.row k r h)⟩
def zi2 (C:Addr):Sp:=fun vs H Q _=>∃ (b dx gl:Addr) (rows:List Addr) (m n:Nat) (t:Sx),vs=[.ref b,.ref gl]∧H b=some (.ins C dx [])∧Grd H gl rows m n t∧m≤12∧n≤12∧t.d=1∧t.id=(fun c=>if c<n then c else n+m+1)∧t.bs=(fun k=>n+k) ∧
 ∀ (il ul:Addr) (H':Hp),(∀ x o,x≠b→H x=some o→H' x=some o)→H il=none→H ul=none→Brd H' C b dx gl il ul rows m n t false→Q .non H'
section
variable {P:Program} {w:World} {mg:Str→Option Value} {base:Heap}
variable {K:PySem.W.Frag} {H:Hp} {Q:VK} {a:Ad}
def zeY:TS :=
 (zaM (zaU (tOp (rI (fun _ j=>j≠0) fun i j=>.int (i.fmod j)) (zab 0) (zab 1)) (zai 2))
 (zaM (zaU (zab 1) (zai 0))
 (zaU (zab 2) (zai 1))))
theorem zdw (D:zcb) (σ:St) (H:Hp):zeY D σ H=(zaM (zaU (tOp (rI (fun _ j=>j≠0) fun i j=>.int (i.fmod j)) (zab 0) (zab 1)) (zai 2))
 (zaM (zaU (zab 1) (zai 0))
 (zaU (zab 2) (zai 1)))) D σ H:=rfl
def zfb (K:PySem.W.Frag):TS :=
 (zaM (zaU (tCB (fun xs H Q=>∃ i,xs=[.int i]∧Q (.int (if i<0 then -i else i)) H) (zac (zab 0) zao)) (zai 0))
 (zaM (zaU (tCB (fun xs H Q=>∃ i,xs=[.int i]∧Q (.int (if i<0 then -i else i)) H) (zac (zab 1) zao)) (zai 1))
 (zaM (zeP (tTru K (zab 1)) (zeY))
 (zbM (zab 0)))))
theorem ziC {x y:Int} (q:Q (.int (Int.gcd x y:Nat)) H):zfb K { nx:=fun _ H'=>Q .non H',rt:=Q } (L2.zbb ["one","other","rest"] [.int x,.int y]) H:=by
 unfold zfb
 simp_all only [zdw,zab]
 refine zh3 (fun σ H'=>H'=H∧∃ u v r,σ=[some (.int u),some (.int v),r]∧0≤u∧0≤v∧Int.gcd u v=Int.gcd x y) (fun σ _=>match σ with | [_,some (.int y),_]=>y.toNat | _=>0) ?_ ?_ ?_
 ·rw [zli,zli]
  exact ⟨rfl,_,_,_,rfl,by omega,by omega,rfl⟩
 ·rintro σ H' ⟨rfl,u,v,r,rfl,hu,hv,hg⟩
  simp_all only [zdw,zab]
  refine zek (fun c=>?_) (fun c=>?_)
  ·have c':v≠0:=by simpa using c
   have hv':0<v:=by omega
   refine ⟨c',hv,Int.fmod_nonneg_of_pos u hv',?_,?_⟩
   ·rw [zgN hu hv',hg]
   ·have:=Int.fmod_lt_of_pos u hv'
    omega
  ·have c':v=0:=by simpa using c
   subst c'
   rw [← hg,zfG u hu] at q
   exact q
 ·rintro σ H1 Q1 Q2 hQ ⟨v,hv,k,hk,h⟩
  exact ⟨v,hv,k,hk,hQ _ _ h⟩
theorem zct:zaB ["one","other","rest"] ["one","other"] (zag ze5):=⟨rfl,rfl,rfl,by decide +kernel,rfl,by decide +kernel,by decide +kernel⟩
theorem zfC (T:Txt K mg base a):zcG P w K mg base CX0 1 a.f_divisor a.d_divisor ["one","other"] zk8:=by
 refine T.F_divisor.ok zct (fun vs H Q E h=>?_) (fun cdv A outer s H vs Q E hr h=>?_)
 ·obtain ⟨x,y,rfl,q⟩:=h
  rfl
 obtain ⟨x,y,rfl,q⟩:=h
 exact ⟨zfb K,(zad (zas (i:=0) zct.nd rfl (Or.inl rfl) (zax zik rfl T.z_abs PyProof.Rows.boot_abs (zaa (pv 0) zaf)))
 (zad (zas (i:=1) zct.nd rfl (Or.inl rfl) (zax zik rfl T.z_abs PyProof.Rows.boot_abs (zaa (pv 1) zaf)))
 (zad (zfX PassesOwn.never (zh7 (pv 1) (fun _=>rfl)) (zad (zas (i:=2) zct.nd rfl (Or.inl rfl) (zav zhB (pv 0) (pv 1)))
 (zad (zas (i:=0) zct.nd rfl (Or.inl rfl) (pv 1))
 (zam (zas (i:=1) zct.nd rfl (Or.inl rfl) (pv 2))))))
 (zam (zaQ (pv 0)))))),
  ziC q⟩
def zeW:TS :=
 (zbM (zgu (zac (tOp (rI (fun _ j=>j≠0∧j.natAbs.log2<9000) fun i j=>.int (i.fdiv j)) (zab 0) (zab 2)) (zac (tOp (rI (fun _ j=>j≠0∧j.natAbs.log2<9000) fun i j=>.int (i.fdiv j)) (zab 1) (zab 2)) zao))))
theorem zb7 (D:zcb) (σ:St) (H:Hp):zeW D σ H=(zbM (zgu (zac (tOp (rI (fun _ j=>j≠0∧j.natAbs.log2<9000) fun i j=>.int (i.fdiv j)) (zab 0) (zab 2)) (zac (tOp (rI (fun _ j=>j≠0∧j.natAbs.log2<9000) fun i j=>.int (i.fdiv j)) (zab 1) (zab 2)) zao)))) D σ H:=rfl
def zhg:TS :=
 (zaM (zaU (zaA zk8 [] E0 (zac (zab 0) (zac (zab 1) zao))) (zai 2))
 (zaM (zge (zda (zbd (tOp (rI0 fun i j=>.bl (decide (i<j))) (zab 1) (tC (.int 0)))) (zaU (tUn (rU fun i=>.int (-i)) (zab 2)) (zai 2)) zbo))
 (zeW)))
theorem zb4 (D:zcb) (σ:St) (H:Hp):zhg D σ H=(zaM (zaU (zaA zk8 [] E0 (zac (zab 0) (zac (zab 1) zao))) (zai 2))
 (zaM (zge (zda (zbd (tOp (rI0 fun i j=>.bl (decide (i<j))) (zab 1) (tC (.int 0)))) (zaU (tUn (rU fun i=>.int (-i)) (zab 2)) (zai 2)) zbo))
 (zeW))) D σ H:=rfl
def zhK:TS :=
 (zaM (zge (zda (zbd (tOp rEq (zab 1) (tC (.int 0)))) zi8 zbo))
 (zhg))
theorem zkp {t b:Int} (h:b≠0) (hb:Bd 6000 b) (q:∀ (r:Addr) (H':Hp),zaR H H'→H' r=some (.tup (fr (Rat.divInt t b)))→Q (.ref r) H') :
  zhK { nx:=fun _ H'=>Q .non H',rt:=Q } (L2.zbb ["top","bottom","shared"] [.int t,.int b]) H:=by
 unfold zhK
 simp_all only [zb7,zb4,zab]
 refine ⟨fun σ H'=>H'=H∧σ=[some (.int t),some (.int b),none],?_,?_⟩
 ·simp_all only [zb7,zb4,zab]
  exact zek (fun c=>absurd c h) (fun _=>trivial)
 ·rintro σ H' ⟨e,rfl⟩
  rw [e]
  simp_all only [zb7,zb4,zab]
  refine ⟨t,b,rfl,?_⟩
  refine ⟨fun σ H'=>H'=H∧σ=[some (.int t),some (.int b),some (.int (sg t b))],?_,?_⟩
  ·simp_all only [zb7,zb4,zab]
   unfold sg
   exact zek (fun c=>by rw [if_pos c]) (fun c=>by rw [if_neg c])
  ·rintro σ H' ⟨e,rfl⟩
   rw [e]
   simp_all only [zb7,zb4,zab]
   refine ⟨zgW h,zlp h hb,zgW h,zlp h hb,by decide,fun p hp=>q p _ (zah hp _) ?_⟩
   rw [fr,(zgx h).1,(zgx h).2]
   exact zae
theorem zfR:zaB ["top","bottom","shared"] ["top","bottom"] (zag zhD):=⟨rfl,rfl,rfl,by decide +kernel,rfl,by decide +kernel,by decide +kernel⟩
theorem zhX (T:Txt K mg base a):zcG P w K mg base CX0 2 a.f_ratio a.d_ratio ["top","bottom"] zkI:=by
 have G_divisor:=zfC (P:=P) (w:=w) (base:=base) T
 refine T.F_ratio.ok zfR (fun vs H Q E h=>?_) (fun cdv A outer s H vs Q E hr h=>?_)
 ·obtain ⟨t,b,rfl,h,hb,q⟩:=h
  rfl
 obtain ⟨t,b,rfl,h,hb,q⟩:=h
 exact ⟨zhK,(zad (zcT (zcZ (zbh zix (pv 1) zaj (zbp _)) (zam zib) zbi))
 (zad (zas (i:=2) zfR.nd rfl (Or.inl rfl) (zap G_divisor (hr.mono (by decide)) rfl T.m_divisor T.F_divisor.kp T.b_divisor .nil zaW (zaa (pv 0) (zaa (pv 1) zaf))))
 (zad (zcT (zcZ (zbh zhT (pv 1) zaj (zbp _)) (zam (zas (i:=2) zfR.nd rfl (Or.inl rfl) (zd0 zcB (pv 2)))) zbi))
 (zam (zaQ (zd5 (zaa (zav zdt (pv 0) (pv 2)) (zaa (zav zdt (pv 1) (pv 2)) zaf)))))))),
  zkp h hb q⟩
def zhO:Sp:=fun vs H Q _=>∃ (x y:Addr) (u v:Rat),vs=[.ref x,.ref y]∧H x=some (.tup (fr u))∧H y=some (.tup (fr v))∧Bq 2900 u∧Bq 2900 v∧∀ (r:Addr) (H':Hp),zaR H H'→H' r=some (.tup (fr (u+v)))→Q (.ref r) H'
def zjS (K:PySem.W.Frag):TS :=
 (zbM (zaA zkI [] E0 (zac (tOp (rI0 fun i j=>.int (i+j)) (tOp (rI IntMulOk fun i j=>.int (i*j)) (tOp (zdJ K) (zab 0) (tC (.int 0))) (tOp (zdJ K) (zab 1) (tC (.int 1)))) (tOp (rI IntMulOk fun i j=>.int (i*j)) (tOp (zdJ K) (zab 1) (tC (.int 0))) (tOp (zdJ K) (zab 0) (tC (.int 1))))) (zac (tOp (rI IntMulOk fun i j=>.int (i*j)) (tOp (zdJ K) (zab 0) (tC (.int 1))) (tOp (zdJ K) (zab 1) (tC (.int 1)))) zao))))
theorem zmB {x y:Addr} {u v:Rat} (hx:H x=some (.tup (fr u))) (hy:H y=some (.tup (fr v))) (bu:Bq 2900 u) (bv:Bq 2900 v) (q:∀ (r:Addr) (H':Hp),zaR H H'→H' r=some (.tup (fr (u+v)))→Q (.ref r) H') :
  zjS K { nx:=fun _ H'=>Q .non H',rt:=Q } (L2.zbb ["one","other"] [.ref x,.ref y]) H:=by
 unfold zjS
 simp_all only [zab]
 rw [← zj2] at q
 have hx:=SqT.of (K:=K) hx
 have hy:=SqT.of (K:=K) hy
 exact ⟨_,hx,_,rfl,_,hy,_,rfl,_,rfl,_,rfl,zht 2900 2900 bu.top bv.bot,_,hy,_,rfl,_,hx,_,rfl,_,rfl,_,rfl,zht 2900 2900 bv.top bu.bot,_,hx,_,rfl,_,hy,_,rfl,_,rfl,_,rfl,zht 2900 2900 bu.bot bv.bot,_,_,rfl,Int.mul_ne_zero (zdL u) (zdL v),(bu.bot.mul bv.bot).mono (by decide),q⟩
theorem zmL:zaB ["one","other"] ["one","other"] (zag zjV):=⟨rfl,rfl,rfl,by decide +kernel,rfl,by decide +kernel,by decide +kernel⟩
theorem zmt (T:Txt K mg base a):zcG P w K mg base CX0 3 a.f_plus a.d_plus ["one","other"] zhO:=by
 have G_ratio:=zhX (P:=P) (w:=w) (base:=base) T
 refine T.F_plus.ok zmL (fun vs H Q E h=>?_) (fun cdv A outer s H vs Q E hr h=>?_)
 ·obtain ⟨x,y,u,v,rfl,hx,hy,bu,bv,q⟩:=h
  rfl
 obtain ⟨x,y,u,v,rfl,hx,hy,bu,bv,q⟩:=h
 exact ⟨zjS K,(zam (zaQ (zap G_ratio (hr.mono (by decide)) rfl T.m_ratio T.F_ratio.kp T.b_ratio .nil zaW (zaa (zav zcm (zav za4 (zaw zco (pv 0) zaj (fun _ _=>rfl)) (zaw zco (pv 1) zaj (fun _ _=>rfl))) (zav za4 (zaw zco (pv 1) zaj (fun _ _=>rfl)) (zaw zco (pv 0) zaj (fun _ _=>rfl)))) (zaa (zav za4 (zaw zco (pv 0) zaj (fun _ _=>rfl)) (zaw zco (pv 1) zaj (fun _ _=>rfl))) zaf))))),
  zmB hx hy bu bv q⟩
theorem zcr {p D:Addr} {xs:List V} {te:TE} {rest:St} {x0:Option V} {vs:List V} (hp:H p=some (.lst xs)) (lq:vs.length=xs.length) (l6:vs.length≤1000) (hD:H D=none)
  (st:∀ (i:Nat) (x v:V) (H':Hp) (R:VK),xs[i]?=some x→vs[i]?=some v→zaR H H'→(∀ H2:Hp,zaR H' H2→R v H2)→te (some x::rest) H' R)
  (hd:∀ H':Hp,zaR H H'→H' D=some (.lst vs)→Q (.ref D) H') :
  zeU (Itl K p) (zai 0) zaq te D Q (x0::rest) (upd H D (.lst [])):=by
 refine zbs (K:=K) (xs:=xs) (fun i ys σ H'=>zaR H H'∧ys=vs.take i∧∃ x,σ=x::rest) ⟨zah hD _,rfl,_,rfl⟩ ?_ ?_ ?_
 ·rintro i ys σ H' _ ⟨s,_⟩
  exact SqL.of (s _ _ hp)
 ·rintro i x ys σ H' hx hD' ⟨s,rfl,u,rfl⟩
  have i1:=(List.getElem?_eq_some_iff.mp hx).1
  have hw:vs[i]?=some (vs[i]'(by omega)):=List.getElem?_eq_getElem (by omega)
  refine st i x _ _ _ hx hw s fun H2 s2=>?_
  refine ⟨D,_,_,rfl,rfl,s2 _ _ hD',zbm (by rw [List.length_take];omega),_,zae,(s.trans s2).put hD,?_,_,rfl⟩
  rw [List.take_add_one,hw]
  rfl
 ·rintro ys σ H' hD' ⟨s,rfl,u,rfl⟩
  rw [← lq,List.take_length] at hD'
  exact hd H' s hD'
structure ziH (ns:List Int) (g:Int):Prop where
 g0:0≤g
 all:∀ n∈ns,g∣n
 most:∀ d:Int,(∀ n∈ns,d∣n)→d∣g
theorem ziH.ne {ns:List Int} {g n:Int} (h:ziH ns g) (hn:n∈ns) (n0:n≠0):0<g:=by
 have h1:=h.all n hn
 have h2:=h.g0
 refine Classical.byContradiction fun c=>n0 ?_
 have:g=0:=by omega
 subst this
 exact Int.zero_dvd.mp h1
theorem ziH.le {ns:List Int} {g n:Int} (h:ziH ns g) (hn:n∈ns) (n0:n≠0):g.natAbs≤n.natAbs:=Nat.le_of_dvd (by omega) (Int.natAbs_dvd_natAbs.mpr (h.all n hn))
theorem ziH.log {ns:List Int} {g n:Int} (h:ziH ns g) (hn:n∈ns) (n0:n≠0) (b:Bd 9000 n):g.natAbs.log2<9000:=zg3 9000 (by have:=h.ne hn n0;omega) (b.le (h.le hn n0))
def zif:Sp:=fun vs H Q _=>∃ (l:Addr) (ns:List Int),vs=[.ref l]∧H l=some (.lst (ns.map V.int))∧∀ g:Int,ziH ns g→Q (.int g) H
def zcc (K:PySem.W.Frag):TS :=
 (zaM (zaU (tC (.int 0)) (zai 1))
 (zaM (zj5 (zbT K (zab 0)) (zai 2)
 (zaU (zaA zk8 [] E0 (zac (zab 1) (zac (zab 2) zao))) (zai 1)))
 (zbM (zab 1))))
theorem zeq {l:Addr} {ns:List Int} (hl:H l=some (.lst (ns.map V.int))) (q:∀ g:Int,ziH ns g→Q (.int g) H) :
  zcc K { nx:=fun _ H'=>Q .non H',rt:=Q } (L2.zbb ["numbers","shared","number"] [.ref l]) H:=by
 unfold zcc
 simp_all only [zab]
 refine ⟨⟨_,SqL.of hl⟩,?_⟩
 refine ze9 (K:=K) (xs:=ns.map V.int) (fun i σ H'=>H'=H∧∃ (g:Int) (x:Option V),ziH (ns.take i) g∧σ=[some (.ref l),some (.int g),x]) ⟨rfl,0,_,⟨by decide,by simp,fun d _=>Int.dvd_zero d⟩,rfl⟩ ?_ ?_ ?_
 ·rintro i σ H' _ ⟨rfl,_⟩
  exact SqL.of hl
 ·rintro i v σ H1 hx ⟨rfl,g,x,G,rfl⟩
  obtain ⟨n,en,rfl⟩:=zbO hx
  simp_all only [zab]
  refine ⟨g,n,rfl,rfl,_,⟨by omega,fun m hm=>?_,fun d hd=>?_⟩,rfl⟩
  ·rw [List.take_add_one,en] at hm
   rcases List.mem_append.mp hm with h | h
   ·exact Int.dvd_trans (Int.gcd_dvd_left ..) (G.all m h)
   ·have:m=n:=by simpa using h
    rw [this]
    exact Int.gcd_dvd_right ..
  ·rw [List.take_add_one,en] at hd
   exact Int.dvd_coe_gcd (G.most d fun m hm=>hd m (List.mem_append_left _ hm)) (hd n (List.mem_append_right _ (by simp)))
 ·rintro σ H1 ⟨rfl,g,x,G,rfl⟩
  rw [List.length_map,List.take_length] at G
  simp_all only [zab]
  exact q g G
theorem zbw:zaB ["numbers","shared","number"] ["numbers"] (zag zcg):=⟨rfl,rfl,rfl,by decide +kernel,rfl,by decide +kernel,by decide +kernel⟩
theorem zer (T:Txt K mg base a):zcG P w K mg base CX0 2 a.f_shared_divisor a.d_shared_divisor ["numbers"] zif:=by
 have G_divisor:=zfC (P:=P) (w:=w) (base:=base) T
 refine T.F_shared_divisor.ok zbw (fun vs H Q E h=>?_) (fun cdv A outer s H vs Q E hr h=>?_)
 ·obtain ⟨l,ns,rfl,hl,q⟩:=h
  rfl
 obtain ⟨l,ns,rfl,hl,q⟩:=h
 exact ⟨zcc K,(zad (zas (i:=1) zbw.nd rfl (Or.inl rfl) zaj)
 (zad (zex PassesOwn.never rfl (zbn (pv 0)) (zau (i:=2) zbw.nd rfl (Or.inl rfl))
 (zam (zas (i:=1) zbw.nd rfl (Or.inl rfl) (zap G_divisor (hr.mono (by decide)) rfl T.m_divisor T.F_divisor.kp T.b_divisor .nil zaW (zaa (pv 1) (zaa (pv 2) zaf))))))
 (zam (zaQ (pv 1))))),
  zeq hl q⟩
def zgq:Sp:=fun vs H Q _=>∃ (l:Addr) (ns:List Int) (m:Int),vs=[.ref l]∧H l=some (.lst (ns.map V.int))∧ns.length≤1000∧m∈ns∧m≠0∧Bd 9000 m∧∀ (r:Addr) (g:Int) (H':Hp),zaR H H'→ziH ns g→H' r=some (.lst ((ns.map fun n=>n.fdiv g).map V.int))→Q (.ref r) H'
def zf3 (K:PySem.W.Frag):TS :=
 (zaM (zaU (zaA zif [] E0 (zac (zab 0) zao)) (zai 1))
 (zbM (za5 (zbT K (zab 0)) (zai 0) zaq (tOp (rI (fun _ j=>j≠0∧j.natAbs.log2<9000) fun i j=>.int (i.fdiv j)) (zab 0) (zab 1)) [none,some 1])))
theorem zje {l:Addr} {ns:List Int} {m:Int} (hl:H l=some (.lst (ns.map V.int))) (l1:ns.length≤1000) (hm:m∈ns) (m0:m≠0) (mb:Bd 9000 m) (q:∀ (r:Addr) (g:Int) (H':Hp),zaR H H'→ziH ns g→H' r=some (.lst ((ns.map fun n=>n.fdiv g).map V.int))→Q (.ref r) H') :
  zf3 K { nx:=fun _ H'=>Q .non H',rt:=Q } (L2.zbb ["weights","shared"] [.ref l]) H:=by
 unfold zf3
 simp_all only [zab]
 refine ⟨l,ns,rfl,hl,fun g G=>?_⟩
 refine ⟨⟨_,SqL.of hl⟩,fun D hD=>?_⟩
 refine zcr (vs:=(ns.map fun n=>n.fdiv g).map V.int) hl (by simp) (by simpa using l1) hD (fun i x v H' R hx hv s k=>?_) fun H1 s1 h1=>q D g H1 s1 G h1
 obtain ⟨n,en,rfl⟩:=zbO hx
 obtain ⟨y,ey,rfl⟩:=zbO hv
 obtain ⟨n',en',rfl⟩:=zbO ey
 rw [en] at en'
 cases en'
 simp_all only [zab]
 exact ⟨by have:=G.ne hm m0;omega,G.log hm m0 mb,k _ (.refl _)⟩
theorem zgE:zaB ["weights","shared"] ["weights"] (zag zeG):=⟨rfl,rfl,rfl,by decide +kernel,rfl,by decide +kernel,by decide +kernel⟩
theorem zg4 (T:Txt K mg base a):zcG P w K mg base CX0 3 a.f_lowest a.d_lowest ["weights"] zgq:=by
 have G_shared_divisor:=zer (P:=P) (w:=w) (base:=base) T
 refine T.F_lowest.ok zgE (fun vs H Q E h=>?_) (fun cdv A outer s H vs Q E hr h=>?_)
 ·obtain ⟨l,ns,m,rfl,hl,l1,hm,m0,mb,q⟩:=h
  rfl
 obtain ⟨l,ns,m,rfl,hl,l1,hm,m0,mb,q⟩:=h
 exact ⟨zf3 K,(zad (zas (i:=1) zgE.nd rfl (Or.inr rfl) (zap G_shared_divisor (hr.mono (by decide)) rfl T.m_shared_divisor T.F_shared_divisor.kp T.b_shared_divisor .nil zaW (zaa (pv 0) zaf)))
 (zam (zaQ (zbx (sc:=zag zeG) (N:=["weights","shared"]) (Nc:=["weight","shared"]) (cap:=[none,some 1]) rfl rfl rfl (.of (by decide +kernel)) (zbn (pv 0)) (fun _ _ _ _=>(zau (i:=0) (show List.Nodup (["weight","shared"]:List Str) from by decide) rfl (Or.inl rfl))) (fun _ _ _ _=>za0) (fun _ _ _ _=>(zav zdt (pv 0) (pv 1))))))),
  zje hl l1 hm m0 mb q⟩
def zep (K:PySem.W.Frag):TS :=
 (zbM (zgz (tCB (zj3 K) (zac (zab 0) (zac (tC (.ty "int")) zao))) (zmz (tCB (zj3 K) (zac (zab 0) (zac (tC (.ty "bool")) zao))))))
theorem zhL {x:V} (q:(∃ n:Int,x=.int n)∧Q (.bl true) H∨(∃ b:Bool,x=.bl b)∧Q (.bl false) H):zep K { nx:=fun _ H'=>Q .non H',rt:=Q } (L2.zbb ["thing"] [x]) H:=by
 unfold zep
 simp_all only [zab]
 rcases q with ⟨⟨n,rfl⟩,q⟩ | ⟨⟨b,rfl⟩,q⟩
 ·refine zhI ⟨_,rfl,iteT ?_⟩
  exact zgT ⟨_,rfl,q⟩
 ·refine zlh (.bl b) (zgR K) ⟨_,rfl,iteT ?_⟩
  exact zlh (.bl b) zfY ⟨_,rfl,q⟩
theorem zhs:zaB ["thing"] ["thing"] (zag zes):=⟨rfl,rfl,rfl,by decide +kernel,rfl,by decide +kernel,by decide +kernel⟩
theorem zhR (T:Txt K mg base a):zcG P w K mg base CX0 1 a.f_is_whole a.d_is_whole ["thing"] zh4:=by
 refine T.F_is_whole.ok zhs (fun vs H Q E h=>?_) (fun cdv A outer s H vs Q E hr h=>?_)
 ·obtain ⟨x,rfl,q⟩:=h
  rfl
 obtain ⟨x,rfl,q⟩:=h
 exact ⟨zep K,(zam (zaQ (zhd (zax zcV rfl T.z_isinstance PyProof.Rows.boot_isinstance (zaa (pv 0) (zaa (zgc rfl T.z_int zkr rfl) zaf))) (zgS (znV (zax zcV rfl T.z_isinstance PyProof.Rows.boot_isinstance (zaa (pv 0) (zaa (zgc rfl T.z_bool ziI rfl) zaf)))))))),
  zhL q⟩
theorem zeS (n:Nat):(List.replicate n true).all id=true:=by
 rw [List.all_replicate]
 simp
theorem zf5 (n:Nat):(List.replicate (n+1) true).map V.bl=(List.replicate n true).map V.bl++[.bl true]:=by
 rw [List.replicate_succ',List.map_append]
 rfl
def zgi (K:PySem.W.Frag):TS :=
 (zbM (zgz (tCB (zj3 K) (zac (zab 0) (zac (tC (.ty "list")) zao))) (zgz (zfD (rI0 fun i j=>.bl (decide (i≤j))) (rI0 fun i j=>.bl (decide (i≤j))) (tC (.int 1)) (tCB (fun xs H Q=>∃ p ys,xs=[.ref p]∧(SqL K H p ys∨SqT K H p ys)∧Q (.int ys.length) H) (zac (zab 0) zao)) (tC (.int 12))) (tCB (zlT K) (zac (za5 (zbT K (zab 0)) (zai 0) zaq (zaA zh4 [] E0 (zac (zab 0) zao)) [none]) zao)))))
theorem zjN {p:Addr} {ns:List Int} (hp:H p=some (.lst (ns.map V.int))) (l1:1≤ns.length) (l6:ns.length≤12) (q:∀ H',zaR H H'→Q (.bl true) H') :
  zgi K { nx:=fun _ H'=>Q .non H',rt:=Q } (L2.zbb ["thing"] [.ref p]) H:=by
 unfold zgi
 simp_all only [zab]
 refine zeR hp ⟨true,rfl,iteT ?_⟩
 refine ⟨_,.inl (SqL.of hp),?_⟩
 rw [List.length_map,if_pos (by omega),if_pos (by omega)]
 refine ⟨⟨_,SqL.of hp⟩,fun D hD=>?_⟩
 refine zbs (K:=K) (xs:=ns.map V.int) (fun i ys σ H'=>zaR H H'∧ys=(List.replicate i true).map V.bl∧∃ x,σ=[x]) ⟨zah hD _,rfl,_,rfl⟩ ?_ ?_ ?_
 ·rintro i ys σ H' _ ⟨s,_⟩
  exact SqL.of (s _ _ hp)
 ·rintro i x ys σ H' hi hD' ⟨s,rfl,y,rfl⟩
  have li:=(List.getElem?_eq_some_iff.mp hi).1
  rw [List.length_map] at li
  obtain ⟨n,en,rfl⟩:=zbO hi
  simp_all only [zab]
  exact ⟨_,rfl,.inl ⟨⟨n,rfl⟩,_,hD',by simp [sizeLine];omega,_,zae,s.put hD,(zf5 i).symm⟩⟩
 ·rintro ys σ H' hD' ⟨s,rfl,y,rfl⟩
  exact ⟨D,rfl,_,SqL.of hD',by rw [zeS];exact q H' s⟩
theorem zi6:zaB ["thing"] ["thing"] (zag zeJ):=⟨rfl,rfl,rfl,by decide +kernel,rfl,by decide +kernel,by decide +kernel⟩
theorem ziX (T:Txt K mg base a):zcG P w K mg base CX0 2 a.f_is_row a.d_is_row ["thing"] (zlX K):=by
 have G_is_whole:=zhR (P:=P) (w:=w) (base:=base) T
 refine T.F_is_row.ok zi6 (fun vs H Q E h=>?_) (fun cdv A outer s H vs Q E hr h=>?_)
 ·obtain ⟨p,ns,rfl,hp,l1,l6,q⟩:=h
  rfl
 obtain ⟨p,ns,rfl,hp,l1,l6,q⟩:=h
 exact ⟨zgi K,(zam (zaQ (zhd (zax zcV rfl T.z_isinstance PyProof.Rows.boot_isinstance (zaa (pv 0) (zaa (zgc rfl T.z_list zcS rfl) zaf))) (zhd (zld zkg zkg zaj (zax zar rfl T.z_len PySem.boot_len (zaa (pv 0) zaf)) (zjA rfl T.m_MOST ⟨_,rfl⟩)) (zgS (zax (zfV rfl) rfl T.z_all PyProof.Rows.boot_all (zaa (zbx (sc:=zag zeJ) (N:=["thing"]) (Nc:=["number"]) (cap:=[none]) rfl rfl rfl (.of (by decide +kernel)) (zbn (pv 0)) (fun _ _ _ _=>(zau (i:=0) (show List.Nodup (["number"]:List Str) from by decide) rfl (Or.inl rfl))) (fun _ _ _ _=>za0) (fun _ _ _ _=>(zap G_is_whole (hr.mono (by decide)) rfl T.m_is_whole T.F_is_whole.kp T.b_is_whole .nil zaW (zaa (pv 0) zaf)))) zaf))))))),
  zjN hp l1 l6 q⟩
def zeB (K:PySem.W.Frag):TS :=
 (zbM (zgz (tCB (zlT K) (zac (za5 (zbT K (zab 0)) (zai 0) zaq (zaA (zlX K) [] E0 (zac (zab 0) zao)) [none]) zao)) (tCB (zlT K) (zac (za5 (zbT K (zab 0)) (zai 0) zaq (tOp rEq (tCB (fun xs H Q=>∃ p ys,xs=[.ref p]∧(SqL K H p ys∨SqT K H p ys)∧Q (.int ys.length) H) (zac (zab 0) zao)) (tCB (fun xs H Q=>∃ p ys,xs=[.ref p]∧(SqL K H p ys∨SqT K H p ys)∧Q (.int ys.length) H) (zac (tOp (za2 K) (zab 1) (tC (.int 0))) zao))) [none,some 0]) zao))))
theorem zbc (K:PySem.W.Frag) (D:zcb) (σ:St) (H:Hp):zeB K D σ H=(zbM (zgz (tCB (zlT K) (zac (za5 (zbT K (zab 0)) (zai 0) zaq (zaA (zlX K) [] E0 (zac (zab 0) zao)) [none]) zao)) (tCB (zlT K) (zac (za5 (zbT K (zab 0)) (zai 0) zaq (tOp rEq (tCB (fun xs H Q=>∃ p ys,xs=[.ref p]∧(SqL K H p ys∨SqT K H p ys)∧Q (.int ys.length) H) (zac (zab 0) zao)) (tCB (fun xs H Q=>∃ p ys,xs=[.ref p]∧(SqL K H p ys∨SqT K H p ys)∧Q (.int ys.length) H) (zac (tOp (za2 K) (zab 1) (tC (.int 0))) zao))) [none,some 0]) zao)))) D σ H:=rfl
def zey (K:PySem.W.Frag):TS :=
 (zda (tOr (zlt (tB (tCB (zj3 K) (zac (zab 0) (zac (tC (.ty "list")) zao))))) (zlt (zbd (zfD (rI0 fun i j=>.bl (decide (i≤j))) (rI0 fun i j=>.bl (decide (i≤j))) (tC (.int 1)) (tCB (fun xs H Q=>∃ p ys,xs=[.ref p]∧(SqL K H p ys∨SqT K H p ys)∧Q (.int ys.length) H) (zac (zab 0) zao)) (tC (.int 12)))))) (zbM (tC (.bl false))) zbo)
theorem za9 (K:PySem.W.Frag) (D:zcb) (σ:St) (H:Hp):zey K D σ H=(zda (tOr (zlt (tB (tCB (zj3 K) (zac (zab 0) (zac (tC (.ty "list")) zao))))) (zlt (zbd (zfD (rI0 fun i j=>.bl (decide (i≤j))) (rI0 fun i j=>.bl (decide (i≤j))) (tC (.int 1)) (tCB (fun xs H Q=>∃ p ys,xs=[.ref p]∧(SqL K H p ys∨SqT K H p ys)∧Q (.int ys.length) H) (zac (zab 0) zao)) (tC (.int 12)))))) (zbM (tC (.bl false))) zbo) D σ H:=rfl
def zej (K:PySem.W.Frag):TS :=
 (zaM (zge (zey K))
 (zeB K))
theorem zhU {t:Addr} {rs:List Addr} {rows:List (List Int)} {w:Nat} (B:Tb H t rs rows w) (q:∀ H',zaR H H'→Q (.bl true) H') :
  zej K { nx:=fun _ H'=>Q .non H',rt:=Q } (L2.zbb ["thing"] [.ref t]) H:=by
 unfold zej
 have l1:=B.l1
 have l6:=B.l6
 rw [← B.len] at l1 l6
 simp_all only [zbc,za9,zab]
 refine ⟨fun σ H'=>H'=H∧σ=[some (.ref t)],?_,?_⟩
 ·simp_all only [zbc,za9,zab]
  refine zeR B.ht ⟨true,rfl,?_⟩
  simp_all only [zbc,za9,zab]
  refine ⟨_,.inl (SqL.of B.ht),?_⟩
  rw [List.length_map,if_pos (by omega),if_neg (by omega)]
  trivial
 ·rintro σ H1 ⟨rfl,rfl⟩
  simp_all only [zbc,za9,zab]
  refine ⟨⟨_,SqL.of B.ht⟩,fun D hD=>?_⟩
  refine zbs (K:=K) (xs:=rs.map V.ref) (fun i ys σ H'=>zaR H1 H'∧ys=(List.replicate i true).map V.bl∧∃ x,σ=[x]) ⟨zah hD _,rfl,_,rfl⟩ ?_ ?_ ?_
  ·rintro i ys σ H' _ ⟨s,_⟩
   exact SqL.of (s _ _ B.ht)
  ·rintro i x ys σ H' hi hD' ⟨s,rfl,y,rfl⟩
   have li:=(List.getElem?_eq_some_iff.mp hi).1
   rw [List.length_map] at li
   obtain ⟨r,er,rfl⟩:=zbO hi
   obtain ⟨row,e1,e2,e3⟩:=B.at er
   have w1:=B.w1
   have w6:=B.w6
   simp_all only [zbc,za9,zab]
   refine ⟨r,row,rfl,s _ _ e2,by omega,by omega,fun H2 s2=>?_⟩
   have hD2:=s2 _ _ hD'
   exact ⟨_,hD2,by simp [sizeLine];omega,_,zae,(s.trans s2).put hD,(zf5 i).symm⟩
  ·rintro ys σ H' hD' ⟨s,rfl,y,rfl⟩
   have B2:=B.same s
   refine ⟨D,rfl,_,SqL.of hD',?_⟩
   rw [zeS]
   refine iteT ⟨⟨_,SqL.of B2.ht⟩,fun D2 hD2=>?_⟩
   obtain ⟨r0,row0,a0,h0,w0⟩:=B2.first
   refine zbs (K:=K) (xs:=rs.map V.ref) (fun i ys σ H2=>zaR H' H2∧ys=(List.replicate i true).map V.bl∧∃ x,σ=[x,some (.ref t)]) ⟨zah hD2 _,rfl,_,rfl⟩ ?_ ?_ ?_
   ·rintro i ys σ H2 _ ⟨s2,_⟩
    exact SqL.of (s2 _ _ B2.ht)
   ·rintro i x ys σ H2 hi hD3 ⟨s2,rfl,y,rfl⟩
    have li:=(List.getElem?_eq_some_iff.mp hi).1
    rw [List.length_map] at li
    obtain ⟨r,er,rfl⟩:=zbO hi
    obtain ⟨row,e1,e2,e3⟩:=B2.at er
    simp_all only [zbc,za9,zab]
    refine ⟨_,.inl (SqL.of (s2 _ _ e2)),_,SqL.of (s2 _ _ B2.ht),_,a0,_,rfl,_,.inl (SqL.of (s2 _ _ h0)),?_⟩
    rw [List.length_map,List.length_map,e3,w0]
    rw [decide_eq_true rfl]
    exact ⟨_,hD3,by simp [sizeLine];omega,_,zae,s2.put hD2,(zf5 i).symm⟩
   ·rintro ys σ H2 hD3 ⟨s2,rfl,y,rfl⟩
    exact ⟨D2,rfl,_,SqL.of hD3,by rw [zeS];exact q H2 (s.trans s2)⟩
theorem zhx:zaB ["thing"] ["thing"] (zag zcR):=⟨rfl,rfl,rfl,by decide +kernel,rfl,by decide +kernel,by decide +kernel⟩
theorem zhr (T:Txt K mg base a):zcG P w K mg base CX0 3 a.f_is_table a.d_is_table ["thing"] (znu K):=by
 have G_is_row:=ziX (P:=P) (w:=w) (base:=base) T
 refine T.F_is_table.ok zhx (fun vs H Q E h=>?_) (fun cdv A outer s H vs Q E hr h=>?_)
 ·obtain ⟨t,rs,rows,w,rfl,B,q⟩:=h
  rfl
 obtain ⟨t,rs,rows,w,rfl,B,q⟩:=h
 exact ⟨zej K,(zad (zcT (zcZ (PW.pt (zn5 (zij (zhW (zax zcV rfl T.z_isinstance PyProof.Rows.boot_isinstance (zaa (pv 0) (zaa (zgc rfl T.z_list zcS rfl) zaf))))) (zlj (zij (zkm zkg zkg zaj (zax zar rfl T.z_len PySem.boot_len (zaa (pv 0) zaf)) (zjA rfl T.m_MOST ⟨_,rfl⟩)))))) (zam (zaQ zg8)) zbi))
 (zam (zaQ (zhd (zax (zfV rfl) rfl T.z_all PyProof.Rows.boot_all (zaa (zbx (sc:=zag zcR) (N:=["thing"]) (Nc:=["row"]) (cap:=[none]) rfl rfl rfl (.of (by decide +kernel)) (zbn (pv 0)) (fun _ _ _ _=>(zau (i:=0) (show List.Nodup (["row"]:List Str) from by decide) rfl (Or.inl rfl))) (fun _ _ _ _=>za0) (fun _ _ _ _=>(zap G_is_row (hr.mono (by decide)) rfl T.m_is_row T.F_is_row.kp T.b_is_row .nil zaW (zaa (pv 0) zaf)))) zaf)) (zgS (zax (zfV rfl) rfl T.z_all PyProof.Rows.boot_all (zaa (zbx (sc:=zag zcR) (N:=["thing"]) (Nc:=["row","thing"]) (cap:=[none,some 0]) rfl rfl rfl (.of (by decide +kernel)) (zbn (pv 0)) (fun _ _ _ _=>(zau (i:=0) (show List.Nodup (["row","thing"]:List Str) from by decide) rfl (Or.inl rfl))) (fun _ _ _ _=>za0) (fun _ _ _ _=>(zeX zix (zax zar rfl T.z_len PySem.boot_len (zaa (pv 0) zaf)) (zax zar rfl T.z_len PySem.boot_len (zaa (zaw zan (pv 1) zaj (fun _ _=>rfl)) zaf)) (zbp _)))) zaf))))))),
  zhU B q⟩
def zdf (K:PySem.W.Frag):TS :=
 (zda (zlt (tB (zaA (znu K) [] E0 (zac (zab 0) zao)))) zi8 zbo)
theorem zgp {t:Addr} {rs:List Addr} {rows:List (List Int)} {w:Nat} (B:Tb H t rs rows w) (q:∀ H',zaR H H'→Q .non H') :
  zdf K { nx:=fun _ H'=>Q .non H',rt:=Q } (L2.zbb ["table"] [.ref t]) H:=by
 unfold zdf
 simp_all only [zab]
 refine ⟨t,rs,rows,w,rfl,B,fun H' s=>⟨true,rfl,?_⟩⟩
 rw [if_neg Bool.noConfusion]
 exact q H' s
theorem zgs:zaB ["table"] ["table"] (zag zdl):=⟨rfl,rfl,rfl,by decide +kernel,rfl,by decide +kernel,by decide +kernel⟩
theorem zfT (T:Txt K mg base a):zcG P w K mg base CX0 4 a.f_look_table a.d_look_table ["table"] (zgL K):=by
 have G_is_table:=zhr (P:=P) (w:=w) (base:=base) T
 refine T.F_look_table.ok zgs (fun vs H Q E h=>?_) (fun cdv A outer s H vs Q E hr h=>?_)
 ·obtain ⟨t,rs,rows,w,rfl,B,q⟩:=h
  rfl
 obtain ⟨t,rs,rows,w,rfl,B,q⟩:=h
 exact ⟨zdf K,(zam (zcZ (zij (zhW (zap G_is_table (hr.mono (by decide)) rfl T.m_is_table T.F_is_table.kp T.b_is_table .nil zaW (zaa (pv 0) zaf)))) (zam zib) zbi)),
  zgp B q⟩
def zbU (K:PySem.W.Frag) (a:Ad):TS :=
 (zaM (zaU (tOp (rI IntMulOk fun i j=>.int (i*j)) (tOp (za2 K) (tOp (za2 K) (tAt a.c_Board (zab 0) "grid") (zab 1)) (tUn (rU fun i=>.int (-i)) (tC (.int 1)))) (tOp (za2 K) (tOp (za2 K) (tAt a.c_Board (zab 0) "grid") (zab 2)) (zab 3))) (zai 4))
 (zaM (zaU (tOp (rI IntMulOk fun i j=>.int (i*j)) (tOp (za2 K) (tOp (za2 K) (tAt a.c_Board (zab 0) "grid") (zab 2)) (tUn (rU fun i=>.int (-i)) (tC (.int 1)))) (tOp (za2 K) (tOp (za2 K) (tAt a.c_Board (zab 0) "grid") (zab 1)) (zab 3))) (zai 5))
 (zbM (tOrV (tOp (rI0 fun i j=>.bl (decide (i<j))) (zab 4) (zab 5)) (zgz (tOp rEq (zab 4) (zab 5)) (tOp (rI0 fun i j=>.bl (decide (i<j))) (tOp (za2 K) (tAt a.c_Board (zab 0) "busy") (zab 1)) (tOp (za2 K) (tAt a.c_Board (zab 0) "busy") (zab 2))))))))
theorem zd3 {b dx gl il ul:Addr} {rows:List Addr} {α:Nat→Nat→Int} {m n:Nat} {t:Sx} {s:Bool} {k l c:Nat} (B:Brd H a.c_Board b dx gl il ul rows m n t s) (L:LP α m n t) (hk:k<m) (hl:l<m) (hc:c<n)
  (q:∀ r:Bool,(r=true↔t.g k n*t.g l c<t.g l n*t.g k c∨(t.g k n*t.g l c=t.g l n*t.g k c∧t.bs k<t.bs l))→Q (.bl r) H) :
  zbU K a { nx:=fun _ H'=>Q .non H',rt:=Q } (L2.zbb ["self","k","best","column","here","there"] [.ref b,.int k,.int l,.int c]) H:=by
 unfold zbU
 obtain ⟨rk,_,hk1,hk2⟩:=B.rowAt (k:=k) (by omega)
 obtain ⟨rl,_,hl1,hl2⟩:=B.rowAt (k:=l) (by omega)
 have hg:=SqL.of (K:=K) B.hg
 have hu:=SqL.of (K:=K) B.hu
 have b1:=zht (i:=t.g k n) (j:=t.g l c) 1400 1400 (L.g (by omega) (by omega)) (L.g (by omega) (by omega))
 have b2:=zht (i:=t.g l n) (j:=t.g k c) 1400 1400 (L.g (by omega) (by omega)) (L.g (by omega) (by omega))
 simp_all only [zab]
 refine ⟨_,_,B.hb,_,rfl,gl,rfl,_,hg,_,hk2,rk,rfl,_,SqL.of hk1,_,zd6,_,_,B.hb,_,rfl,gl,rfl,_,hg,_,hl2,rl,rfl,_,SqL.of hl1,_,zbV (by omega),_,rfl,_,rfl,b1,?_⟩
 refine ⟨_,_,B.hb,_,rfl,gl,rfl,_,hg,_,hl2,rl,rfl,_,SqL.of hl1,_,zd6,_,_,B.hb,_,rfl,gl,rfl,_,hg,_,hk2,rk,rfl,_,SqL.of hk1,_,zbV (by omega),_,rfl,_,rfl,b2,?_⟩
 refine zek (fun z=>q true ⟨fun _=>.inl z,fun _=>rfl⟩) (fun z=>zek (fun z2=>?_) (fun z2=>q false ⟨fun h=>(by cases h),fun h=>?_⟩))
 ·refine ⟨_,_,B.hb,_,rfl,ul,rfl,_,hu,_,zgA hk,_,_,B.hb,_,rfl,ul,rfl,_,hu,_,zgA hl,_,rfl,_,rfl,?_⟩
  refine q _ ⟨fun h=>.inr ⟨z2,?_⟩,fun h=>?_⟩
  ·have:=of_decide_eq_true h
   omega
  ·rcases h with h | h
   ·exact absurd h z
   ·refine decide_eq_true ?_
    have:=h.2
    omega
 ·rcases h with h | h
  ·exact absurd h z
  ·exact absurd h.1 z2
theorem zbN:zaB ["self","k","best","column","here","there"] ["self","k","best","column"] (zag zbY):=⟨rfl,rfl,rfl,by decide +kernel,rfl,by decide +kernel,by decide +kernel⟩
theorem zdS (T:Txt K mg base a):zcG P w K mg base CX0 1 a.f_Board_is_sooner a.d_Board_is_sooner ["self","k","best","column"] (zf0 a.c_Board):=by
 refine T.F_Board_is_sooner.ok zbN (fun vs H Q E h=>?_) (fun cdv A outer s H vs Q E hr h=>?_)
 ·obtain ⟨b,dx,gl,il,ul,rows,α,m,n,t,s,k,l,c,rfl,B,L,hk,hl,hc,q⟩:=h
  rfl
 obtain ⟨b,dx,gl,il,ul,rows,α,m,n,t,s,k,l,c,rfl,B,L,hk,hl,hc,q⟩:=h
 exact ⟨zbU K a,(zad (zas (i:=4) zbN.nd rfl (Or.inl rfl) (zav za4 (zaw zan (zaw zan (zbC T.cl_Board T.na_Board_grid (pv 0)) (pv 1) (fun _ _=>rfl)) (zd0 zcB zaj) (fun _ _=>rfl)) (zaw zan (zaw zan (zbC T.cl_Board T.na_Board_grid (pv 0)) (pv 2) (fun _ _=>rfl)) (pv 3) (fun _ _=>rfl))))
 (zad (zas (i:=5) zbN.nd rfl (Or.inl rfl) (zav za4 (zaw zan (zaw zan (zbC T.cl_Board T.na_Board_grid (pv 0)) (pv 2) (fun _ _=>rfl)) (zd0 zcB zaj) (fun _ _=>rfl)) (zaw zan (zaw zan (zbC T.cl_Board T.na_Board_grid (pv 0)) (pv 1) (fun _ _=>rfl)) (pv 3) (fun _ _=>rfl))))
 (zam (zaQ (pe_or (zeX zhT (pv 4) (pv 5) (zbp _)) (zgS (zhd (zeX zix (pv 4) (pv 5) (zbp _)) (zgS (zeX zhT (zaw zan (zbC T.cl_Board T.na_Board_busy (pv 0)) (pv 1) (fun _ _=>rfl)) (zaw zan (zbC T.cl_Board T.na_Board_busy (pv 0)) (pv 2) (fun _ _=>rfl)) (zbp _)))))))))),
  zd3 B L hk hl hc q⟩
def LE (n:Nat) (t:Sx) (c r k:Nat):Prop:=t.g r n*t.g k c<t.g k n*t.g r c∨(t.g r n*t.g k c=t.g k n*t.g r c∧t.bs r≤t.bs k)
theorem LE.le {n:Nat} {t:Sx} {c r k:Nat} (h:LE n t c r k):t.g r n*t.g k c≤t.g k n*t.g r c:=by
 rcases h with h | h
 ·exact Int.le_of_lt h
 ·exact Int.le_of_eq h.1
theorem LE.trans {n:Nat} {t:Sx} {c i r k:Nat} (pi:0<t.g i c) (pr:0<t.g r c) (pk:0<t.g k c) (h1:LE n t c i r) (h2:LE n t c r k):LE n t c i k:=by
 have l:=zcP pi pr pk h1.le h2.le
 by_cases e:t.g i n*t.g k c=t.g k n*t.g i c
 ·have a1:=zcP pr pk pi h2.le (Int.le_of_eq e.symm)
  have a2:=zcP pk pi pr (Int.le_of_eq e.symm) h1.le
  refine .inr ⟨e,?_⟩
  have e1:t.bs i≤t.bs r:=by
   rcases h1 with h | h
   ·omega
   ·exact h.2
  have e2:t.bs r≤t.bs k:=by
   rcases h2 with h | h
   ·omega
   ·exact h.2
  omega
 ·exact .inl (by omega)
def zcQ (K:PySem.W.Frag) (a:Ad):TS :=
 (zda (tAnd (zbd (tOp (rI0 fun i j=>.bl (decide (j<i))) (tOp (za2 K) (tOp (za2 K) (tAt a.c_Board (zab 0) "grid") (zab 3)) (zab 1)) (tC (.int 0)))) (tOr (zbd (tOp (fun x y H Q=>y=.non∧Q (.bl (decide (x=.non))) H) (zab 2) (tC .non))) (tB (zdo a.c_Board "is_sooner" (zf0 a.c_Board) [] E0 (zab 0) (zac (zab 3) (zac (zab 2) (zac (zab 1) zao))))))) (zaU (zab 3) (zai 2)) zbo)
theorem zby (K:PySem.W.Frag) (a:Ad) (D:zcb) (σ:St) (H:Hp):zcQ K a D σ H=(zda (tAnd (zbd (tOp (rI0 fun i j=>.bl (decide (j<i))) (tOp (za2 K) (tOp (za2 K) (tAt a.c_Board (zab 0) "grid") (zab 3)) (zab 1)) (tC (.int 0)))) (tOr (zbd (tOp (fun x y H Q=>y=.non∧Q (.bl (decide (x=.non))) H) (zab 2) (tC .non))) (tB (zdo a.c_Board "is_sooner" (zf0 a.c_Board) [] E0 (zab 0) (zac (zab 3) (zac (zab 2) (zac (zab 1) zao))))))) (zaU (zab 3) (zai 2)) zbo) D σ H:=rfl
def zcx (K:PySem.W.Frag) (a:Ad):TS :=
 (zaM (zaU (tC .non) (zai 2))
 (zaM (zj5 (zc3 (zac (tCB (fun xs H Q=>∃ p ys,xs=[.ref p]∧(SqL K H p ys∨SqT K H p ys)∧Q (.int ys.length) H) (zac (tAt a.c_Board (zab 0) "busy") zao)) zao)) (zai 3)
 (zcQ K a))
 (zbM (zab 2))))
theorem zeF {b dx gl il ul:Addr} {rows:List Addr} {α:Nat→Nat→Int} {m n:Nat} {t:Sx} {s:Bool} {c:Nat} (B:Brd H a.c_Board b dx gl il ul rows m n t s) (L:LP α m n t) (hc:c<n)
  (q:∀ r:Nat,r<m→0<t.g r c→(∀ k,k<m→0<t.g k c→t.g r n*t.g k c<t.g k n*t.g r c∨(t.g r n*t.g k c=t.g k n*t.g r c∧t.bs r≤t.bs k))→Q (.int r) H) :
  zcx K a { nx:=fun _ H'=>Q .non H',rt:=Q } (L2.zbb ["self","column","best","k"] [.ref b,.int c]) H:=by
 unfold zcx
 have m12:=L.m12
 simp_all only [zby,zab]
 refine ⟨_,_,B.hb,_,rfl,ul,rfl,_,.inl (SqL.of B.hu),?_⟩
 rw [zcN]
 refine ⟨by omega,by omega,?_⟩
 refine zea (fun i σ H'=>H'=H∧∃ (v:V) (z:Option V),σ=[some (.ref b),some (.int c),some v,z]∧((v=.non∧∀ k,k<i→¬ 0<t.g k c)∨∃ r:Nat,r<m∧v=.int r∧0<t.g r c∧∀ k,k<i→0<t.g k c→LE n t c r k)) ⟨rfl,_,_,rfl,.inl ⟨rfl,fun k hk=>absurd hk (Nat.not_lt_zero k)⟩⟩ ?_ ?_
 ·rintro i σ H' hi ⟨rfl,v,z,rfl,st⟩
  have hi:i<m:=by omega
  obtain ⟨ri,_,h1,h2⟩:=B.rowAt (k:=i) (by omega)
  simp_all only [zby,zab]
  rw [Int.zero_add]
  refine ⟨_,_,B.hb,_,rfl,gl,rfl,_,SqL.of B.hg,_,h2,ri,rfl,_,SqL.of h1,_,zbV (by omega),_,rfl,?_⟩
  have keep:¬ 0<t.g i c→((v=.non∧∀ k,k<i+1→¬ 0<t.g k c)∨∃ r:Nat,r<m∧v=.int r∧0<t.g r c∧∀ k,k<i+1→0<t.g k c→LE n t c r k):=fun no=>by
   rcases st with ⟨e,st⟩ | ⟨r,hr,e,p,st⟩
   ·refine .inl ⟨e,fun k hk=>?_⟩
    by_cases ek:k=i
    ·rw [ek];exact no
    ·exact st k (by omega)
   ·refine .inr ⟨r,hr,e,p,fun k hk pk=>?_⟩
    by_cases ek:k=i
    ·rw [ek] at pk;exact absurd pk no
    ·exact st k (by omega) pk
  refine zek (fun pi=>?_) (fun pi=>keep pi)
  rcases st with ⟨rfl,st⟩ | ⟨r,hr,rfl,pr,st⟩
  ·refine zek (fun _=>?_) (fun z=>absurd rfl z)
   refine .inr ⟨i,hi,rfl,pi,fun k hk pk=>?_⟩
   by_cases ek:k=i
   ·rw [ek];exact .inr ⟨rfl,Nat.le_refl _⟩
   ·exact absurd pk (st k (by omega))
  ·refine zek (fun z=>(by cases z)) (fun _=>⟨_,_,B.hb,rfl,?_⟩)
   refine ⟨_,_,_,_,_,_,_,_,_,_,_,i,r,c,rfl,B,L,hi,hr,hc,fun x hx=>⟨x,rfl,?_⟩⟩
   refine zek (fun zx=>⟨rfl,.inr ⟨i,hi,rfl,pi,fun k hk pk=>?_⟩⟩) (fun zx=>⟨rfl,.inr ⟨r,hr,rfl,pr,fun k hk pk=>?_⟩⟩)
   ·by_cases ek:k=i
    ·rw [ek];exact .inr ⟨rfl,Nat.le_refl _⟩
    ·refine LE.trans pi pr pk ?_ (st k (by omega) pk)
     rcases hx.mp zx with h | h
     ·exact .inl h
     ·exact .inr ⟨h.1,Nat.le_of_lt h.2⟩
   ·by_cases ek:k=i
    ·rw [ek]
     have no:=fun h=>zx (hx.mpr h)
     by_cases e:t.g r n*t.g i c=t.g i n*t.g r c
     ·refine .inr ⟨e,Nat.le_of_not_lt fun h=>no (.inr ⟨e.symm,h⟩)⟩
     ·refine .inl ?_
      have:¬ t.g i n*t.g r c<t.g r n*t.g i c:=fun h=>no (.inl h)
      omega
    ·exact st k (by omega) pk
 ·rintro σ H' ⟨rfl,v,z,rfl,st⟩
  simp_all only [zby,zab]
  rcases st with ⟨rfl,st⟩ | ⟨r,hr,rfl,pr,st⟩
  ·obtain ⟨r,hr,pr⟩:=L.F.out L.m1 L.a1 hc
   exact absurd pr (st r (by omega))
  ·exact q r hr pr fun k hk pk=>st k (by omega) pk
theorem zbH:zaB ["self","column","best","k"] ["self","column"] (zag zcy):=⟨rfl,rfl,rfl,by decide +kernel,rfl,by decide +kernel,by decide +kernel⟩
theorem zeD (T:Txt K mg base a):zcG P w K mg base CX0 2 a.f_Board_leaving a.d_Board_leaving ["self","column"] (zhH a.c_Board):=by
 have G_Board_is_sooner:=zdS (P:=P) (w:=w) (base:=base) T
 refine T.F_Board_leaving.ok zbH (fun vs H Q E h=>?_) (fun cdv A outer s H vs Q E hr h=>?_)
 ·obtain ⟨b,dx,gl,il,ul,rows,α,m,n,t,s,c,rfl,B,L,hc,q⟩:=h
  rfl
 obtain ⟨b,dx,gl,il,ul,rows,α,m,n,t,s,c,rfl,B,L,hc,q⟩:=h
 exact ⟨zcx K a,(zad (zas (i:=2) zbH.nd rfl (Or.inl rfl) zid)
 (zad (zex PassesOwn.never rfl (zba rfl T.z_range (zaa (zax zar rfl T.z_len PySem.boot_len (zaa (zbC T.cl_Board T.na_Board_busy (pv 0)) zaf)) zaf)) (zau (i:=3) zbH.nd rfl (Or.inl rfl))
 (zam (zcZ (PW.pt (zok (zbh zmI (zaw zan (zaw zan (zbC T.cl_Board T.na_Board_grid (pv 0)) (pv 3) (fun _ _=>rfl)) (pv 1) (fun _ _=>rfl)) zaj (zbp _)) (zl7 (PW.pt (zn5 (zbh znt (pv 2) zid (zbp _)) (zlj (zhW (zdI (pv 0) T.cl_Board T.M_Board_is_sooner G_Board_is_sooner (hr.mono (by decide)) T.b_Board_is_sooner .nil zaW (zaa (pv 3) (zaa (pv 2) (zaa (pv 1) zaf))))))))))) (zam (zas (i:=2) zbH.nd rfl (Or.inl rfl) (pv 3))) zbi)))
 (zam (zaQ (pv 2))))),
  zeF B L hc q⟩
theorem zme {m:Nat}:∀ (l:List Int),(∀ x∈l,Bd m x)→l.length≤13→Bd (m+13) l.sum:=fun l h hl=>by
 have key:∀ l:List Int,(∀ x∈l,Bd m x)→l.sum.natAbs≤l.length*2 ^ m:=by
  intro l
  induction l with
  | nil=>intro _;exact Nat.zero_le _
  | cons x l ih =>
   intro h
   have h1:=ih fun y hy=>h y (List.mem_cons_of_mem _ hy)
   have h2:x.natAbs<2 ^ m:=h x List.mem_cons_self
   have h3:=Int.natAbs_add_le x l.sum
   rw [List.sum_cons,List.length_cons,Nat.add_mul,Nat.one_mul]
   omega
 have h1:=key l h
 have h2:l.length*2 ^ m≤13*2 ^ m:=Nat.mul_le_mul_right _ hl
 show l.sum.natAbs<2 ^ (m+13)
 rw [Nat.pow_add]
 have h4:0<2 ^ m:=Nat.two_pow_pos m
 have h5:2 ^ m*2 ^ 13=8192*2 ^ m:=by rw [Nat.mul_comm]
 omega
def zbX (K:PySem.W.Frag) (a:Ad):TS :=
 (zaM (zaU (za5 (zbT K (tAt a.c_Board (zab 0) "grid")) (zai 0) zaq (tOp (rI IntMulOk fun i j=>.int (i*j)) (tOp (za2 K) (zab 0) (zab 1)) (tOp (za2 K) (zab 0) (zab 1))) [none,some 1]) (zai 2))
 (zbM (zgu (zac (tOp (za2 K) (zab 2) (tUn (rU fun i=>.int (-i)) (tC (.int 1)))) (zac (tOp (rI0 fun i j=>.int (i+j)) (tOp (rI IntMulOk fun i j=>.int (i*j)) (tAt a.c_Board (zab 0) "scale") (tAt a.c_Board (zab 0) "scale")) (tCB (rSum K) (zac (tSl (znH K) (zab 2) zeQ (zi7 (tUn (rU fun i=>.int (-i)) (tC (.int 1))))) zao))) zao)))))
open HT in
theorem zd4 {b dx gl il ul:Addr} {rows:List Addr} {α:Nat→Nat→Int} {m n:Nat} {t:Sx} {s:Bool} {c:Nat} (B:Brd H a.c_Board b dx gl il ul rows m n t s) (L:LP α m n t) (hc:c<n)
  (q:∀ (x y:Int) (r:Addr) (H':Hp),zaR H H'→H' r=some (.tup [.int x,.int y])→Bd 2900 x→Bd 2900 y→Q (.ref r) H') :
  zbX K a { nx:=fun _ H'=>Q .non H',rt:=Q } (L2.zbb ["self","column","squares"] [.ref b,.int c]) H:=by
 unfold zbX
 have m12:=L.m12
 have rl:=B.len
 simp_all only [zab]
 refine ⟨_,_,B.hb,_,rfl,gl,rfl,⟨_,SqL.of B.hg⟩,fun D hD=>?_⟩
 have lq:(((List.range (m+1)).map fun k=>t.g k c*t.g k c).map V.int).length=(rows.map V.ref).length:=by rw [List.length_map,List.length_map,List.length_map,List.length_range,rl]
 refine zcr B.hg lq (by rw [lq,List.length_map];omega) hD (fun i x v H' R hx hv s' hR=>?_) fun H' s' hD'=>?_
 ·obtain ⟨r,hr,rfl⟩:=zbO hx
  have hi:=(List.getElem?_eq_some_iff.mp hr).1
  have h1:=(B.same s').row i r hr
  rw [List.getElem?_map,List.getElem?_map,List.getElem?_range (by omega)] at hv
  cases hv
  simp_all only [zab]
  exact ⟨_,SqL.of h1,_,zbV (by omega),_,SqL.of h1,_,zbV (by omega),_,rfl,_,rfl,zht 1400 1400 (L.g (by omega) (by omega)) (L.g (by omega) (by omega)),hR H' (.refl _)⟩
 ·have B':=B.same s'
  have g2:∀ k,k≤m→Bd 2800 (t.g k c*t.g k c):=fun k hk=>(L.g hk (by omega)).mul (L.g hk (by omega))
  have dB:=L.d
  have d2:Bd 2800 (t.d*t.d):=dB.mul dB
  have hm:∀ x∈(List.range (m+1)).map fun k=>t.g k c*t.g k c,Bd 2800 x:=fun x hx=>by
   obtain ⟨k,hk,rfl⟩:=List.mem_map.mp hx
   exact g2 k (by have:=List.mem_range.mp hk;omega)
  have hl:((List.range (m+1)).map fun k=>t.g k c*t.g k c).length=m+1:=by rw [List.length_map,List.length_range]
  generalize hns:(List.range (m+1)).map (fun k=>t.g k c*t.g k c)=ns at hD' hm hl
  have e1:atI (ns.map V.int) (-1)=some (.int (ns.getD m 0)):=zhu (n:=m) (by rw [List.length_map,hl]) (by rw [List.getElem?_map,List.getElem?_eq_getElem (by omega),List.getD_eq_getElem?_getD,List.getElem?_eq_getElem (by omega)];rfl)
  have m1:ns.getD m 0∈ns:=by rw [List.getD_eq_getElem?_getD,List.getElem?_eq_getElem (by omega)];exact List.getElem_mem _
  refine ⟨D,rfl,_,SqL.of hD',_,e1,_,_,B'.hb,_,rfl,_,_,B'.hb,_,rfl,_,rfl,_,rfl,zht 1400 1400 dB dB,D,rfl,_,SqL.of hD',fun p hp=>?_⟩
  have ec:zjd (ns.map V.int) none (some (-1))=((ns.drop (sIx ns.length 0 none)).take (sIx ns.length ns.length (some (-1)) - sIx ns.length 0 none)).map V.int:=by
   unfold zjd
   rw [List.length_map,List.map_take,List.map_drop]
  refine ⟨_,SqL.of (by rw [ec];exact zae),by decide,fun r hr=>?_⟩
  have hs:zaR H (L2.upd H' p (.lst (zjd (ns.map V.int) none (some (-1))))):=s'.trans (zah hp _)
  refine q _ _ r _ (hs.trans (zah hr _)) zae ((hm _ m1).mono (by decide)) ?_
  refine ((d2.mono (show 2800≤2813 by decide)).add (zme (m:=2800) _ (fun x hx=>hm x (List.mem_of_mem_drop (List.mem_of_mem_take hx))) ?_)).mono (by decide)
  rw [List.length_take,List.length_drop]
  omega
theorem zcH:zaB ["self","column","squares"] ["self","column"] (zag zbu):=⟨rfl,rfl,rfl,by decide +kernel,rfl,by decide +kernel,by decide +kernel⟩
theorem zdM (T:Txt K mg base a):zcG P w K mg base CX0 1 a.f_Board_steepness a.d_Board_steepness ["self","column"] (zgr a.c_Board):=by
 refine T.F_Board_steepness.ok zcH (fun vs H Q E h=>?_) (fun cdv A outer s H vs Q E hr h=>?_)
 ·obtain ⟨b,dx,gl,il,ul,rows,α,m,n,t,s,c,rfl,B,L,hc,q⟩:=h
  rfl
 obtain ⟨b,dx,gl,il,ul,rows,α,m,n,t,s,c,rfl,B,L,hc,q⟩:=h
 exact ⟨zbX K a,(zad (zcq (i:=2) zcH.nd rfl rfl (sc:=zag zbu) (N:=["self","column","squares"]) (Nc:=["row","column"]) (cap:=[none,some 1]) rfl rfl rfl (.of (by decide +kernel)) (zbn (zbC T.cl_Board T.na_Board_grid (pv 0))) (fun _ _ _ _=>(zau (i:=0) (show List.Nodup (["row","column"]:List Str) from by decide) rfl (Or.inl rfl))) (fun _ _ _ _=>za0) (fun _ _ _ _=>(zav za4 (zaw zan (pv 0) (pv 1) (fun _ _=>rfl)) (zaw zan (pv 0) (pv 1) (fun _ _=>rfl)))))
 (zam (zaQ (zd5 (zaa (zaw zan (pv 2) (zd0 zcB zaj) (fun _ _=>rfl)) (zaa (zav zcm (zav za4 (zbC T.cl_Board T.na_Board_scale (pv 0)) (zbC T.cl_Board T.na_Board_scale (pv 0))) (zax (zki rfl) rfl T.z_sum PyProof.Rows.boot_sum (zaa (zf7 zhk (pv 2) zhM (zhn (zd0 zcB zaj))) zaf))) zaf)))))),
  zd4 B L hc q⟩
def zcz (K:PySem.W.Frag) (a:Ad):TS :=
 (zaM (zaU (zdo a.c_Board "steepness" (zgr a.c_Board) [] E0 (zab 0) (zac (zab 4) zao)) (zai 5))
 (zda (zbd (tOp (rI0 fun i j=>.bl (decide (j<i))) (tOp (rI IntMulOk fun i j=>.int (i*j)) (tOp (zdJ K) (zab 5) (tC (.int 0))) (tOp (zdJ K) (zab 3) (tC (.int 1)))) (tOp (rI IntMulOk fun i j=>.int (i*j)) (tOp (zdJ K) (zab 3) (tC (.int 0))) (tOp (zdJ K) (zab 5) (tC (.int 1)))))) (zaM (zaU (zab 4) (zai 2))
 (zaU (zab 5) (zai 3))) zbo))
theorem za6 (K:PySem.W.Frag) (a:Ad) (D:zcb) (σ:St) (H:Hp):zcz K a D σ H=(zaM (zaU (zdo a.c_Board "steepness" (zgr a.c_Board) [] E0 (zab 0) (zac (zab 4) zao)) (zai 5))
 (zda (zbd (tOp (rI0 fun i j=>.bl (decide (j<i))) (tOp (rI IntMulOk fun i j=>.int (i*j)) (tOp (zdJ K) (zab 5) (tC (.int 0))) (tOp (zdJ K) (zab 3) (tC (.int 1)))) (tOp (rI IntMulOk fun i j=>.int (i*j)) (tOp (zdJ K) (zab 3) (tC (.int 0))) (tOp (zdJ K) (zab 5) (tC (.int 1)))))) (zaM (zaU (zab 4) (zai 2))
 (zaU (zab 5) (zai 3))) zbo)) D σ H:=rfl
def zck (K:PySem.W.Frag) (a:Ad):TS :=
 (zaM (zaU (tOp (za2 K) (zab 1) (tC (.int 0))) (zai 2))
 (zaM (zaU (zdo a.c_Board "steepness" (zgr a.c_Board) [] E0 (zab 0) (zac (zab 2) zao)) (zai 3))
 (zaM (zj5 (zbT K (tSl (znH K) (zab 1) (zi7 (tC (.int 1))) zeQ)) (zai 4)
 (zcz K a))
 (zbM (zab 2)))))
open HT in
theorem zeg {b dx gl il ul cl:Addr} {rows:List Addr} {α:Nat→Nat→Int} {m n:Nat} {t:Sx} {s:Bool} {cs:List Nat} (B:Brd H a.c_Board b dx gl il ul rows m n t s) (L:LP α m n t) (hcl:H cl=some (.lst (cs.map fun c:Nat=>V.int c))) (l1:1≤cs.length) (l12:cs.length≤12) (hn:∀ c∈cs,c<n)
  (q:∀ c∈cs,∀ H',zaR H H'→Q (.int c) H') :
  zck K a { nx:=fun _ H'=>Q .non H',rt:=Q } (L2.zbb ["self","columns","best","most","k","here"] [.ref b,.ref cl]) H:=by
 unfold zck
 obtain ⟨c0,cs',rfl⟩:∃ c0 cs',cs=c0::cs':=by
  cases cs with
  | nil=>cases l1
  | cons x y=>exact ⟨x,y,rfl⟩
 have h0:=hn c0 List.mem_cons_self
 simp_all only [za6,zab]
 have e0:atI ((c0::cs').map fun c:Nat=>V.int c) 0=some (.int c0):=zbz (j:=0) rfl
 refine ⟨_,SqL.of hcl,_,e0,_,_,B.hb,rfl,?_⟩
 refine ⟨_,_,_,_,_,_,_,_,_,_,_,c0,rfl,B,L,h0,fun x y r H1 s1 h1 bx by'=>?_⟩
 refine ⟨_,SqL.of (s1 _ _ hcl),fun p hp=>?_⟩
 have ec:zjd ((c0::cs').map fun c:Nat=>V.int c) (some 1) none=cs'.map fun c:Nat=>V.int c:=by
  unfold zjd
  rw [show sIx ((c0::cs').map fun c:Nat=>V.int c).length 0 (some 1)=1 from by rw [List.length_map];exact (zjx _ _ 1).trans (by rw [List.length_cons];omega),zhZ,List.map_cons,List.drop_succ_cons,List.drop_zero,List.take_of_length_le (by rw [List.length_cons];omega)]
 rw [ec]
 have hp':(L2.upd H1 p (.lst (cs'.map fun c:Nat=>V.int c))) p=some (.lst (cs'.map fun c:Nat=>V.int c)):=zae
 have s2:zaR H (L2.upd H1 p (.lst (cs'.map fun c:Nat=>V.int c))):=s1.trans (zah hp _)
 have h2:=zah hp (.lst (cs'.map fun c:Nat=>V.int c)) _ _ h1
 generalize L2.upd H1 p (.lst (cs'.map fun c:Nat=>V.int c))=H2 at hp' s2 h2
 refine ⟨⟨_,SqL.of hp'⟩,?_⟩
 refine ze9 (K:=K) (xs:=cs'.map fun c:Nat=>V.int c) (fun i σ H'=>zaR H2 H'∧∃ (c:Nat) (x y:Int) (r:Addr) (u v:Option V),c∈c0::cs'∧H' r=some (.tup [.int x,.int y])∧Bd 2900 x∧Bd 2900 y∧σ=[some (.ref b),some (.ref cl),some (.int c),some (.ref r),u,v]) ⟨.refl _,c0,x,y,r,_,_,List.mem_cons_self,h2,bx,by',rfl⟩ ?_ ?_ ?_
 ·rintro i σ H' _ ⟨s3,_⟩
  exact SqL.of (s3 _ _ hp')
 ·rintro i z σ H3 hz ⟨s3,c,x,y,r,u,v,mc,hr,bx,by',rfl⟩
  obtain ⟨d,hd,rfl⟩:=zbO hz
  have md:d∈c0::cs':=List.mem_cons_of_mem _ (ziJ hd)
  have B3:=B.same (s2.trans s3)
  simp_all only [za6,zab]
  refine ⟨_,_,B3.hb,rfl,?_⟩
  refine ⟨_,_,_,_,_,_,_,_,_,_,_,d,rfl,B3,L,hn d md,fun x' y' r' H4 s4 h4 bx' by''=>?_⟩
  have hr4:=s4 _ _ hr
  simp_all only [za6,zab]
  refine ⟨_,SqT.of h4,_,rfl,_,SqT.of hr4,_,rfl,_,rfl,_,rfl,zht 2900 2900 bx' by',_,SqT.of hr4,_,rfl,_,SqT.of h4,_,rfl,_,rfl,_,rfl,zht 2900 2900 bx by'',?_⟩
  exact zek (fun _=>⟨s3.trans s4,d,md,x',y',r',h4,bx',by'',rfl,rfl⟩) (fun _=>⟨s3.trans s4,c,mc,x,y,r,hr4,bx,by',rfl,rfl⟩)
 ·rintro σ H3 ⟨s3,c,x,y,r,u,v,mc,hr,bx,by',rfl⟩
  simp_all only [za6,zab]
  exact q c mc H3 (s2.trans s3)
theorem zaS:zaB ["self","columns","best","most","k","here"] ["self","columns"] (zag zcf):=⟨rfl,rfl,rfl,by decide +kernel,rfl,by decide +kernel,by decide +kernel⟩
theorem zee (T:Txt K mg base a):zcG P w K mg base CX0 2 a.f_Board_steepest a.d_Board_steepest ["self","columns"] (zfx a.c_Board):=by
 have G_Board_steepness:=zdM (P:=P) (w:=w) (base:=base) T
 refine T.F_Board_steepest.ok zaS (fun vs H Q E h=>?_) (fun cdv A outer s H vs Q E hr h=>?_)
 ·obtain ⟨b,dx,gl,il,ul,cl,rows,α,m,n,t,s,cs,rfl,B,L,hcl,l1,l12,hn,q⟩:=h
  rfl
 obtain ⟨b,dx,gl,il,ul,cl,rows,α,m,n,t,s,cs,rfl,B,L,hcl,l1,l12,hn,q⟩:=h
 exact ⟨zck K a,(zad (zas (i:=2) zaS.nd rfl (Or.inl rfl) (zaw zan (pv 1) zaj (fun _ _=>rfl)))
 (zad (zas (i:=3) zaS.nd rfl (Or.inl rfl) (zdI (pv 0) T.cl_Board T.M_Board_steepness G_Board_steepness (hr.mono (by decide)) T.b_Board_steepness .nil zaW (zaa (pv 2) zaf)))
 (zad (zex PassesOwn.never rfl (zbn (zf7 zhk (pv 1) (zhn zaj) zhM)) (zau (i:=4) zaS.nd rfl (Or.inl rfl))
 (zad (zas (i:=5) zaS.nd rfl (Or.inl rfl) (zdI (pv 0) T.cl_Board T.M_Board_steepness G_Board_steepness (hr.mono (by decide)) T.b_Board_steepness .nil zaW (zaa (pv 4) zaf)))
 (zam (zcZ (zbh zmI (zav za4 (zaw zco (pv 5) zaj (fun _ _=>rfl)) (zaw zco (pv 3) zaj (fun _ _=>rfl))) (zav za4 (zaw zco (pv 3) zaj (fun _ _=>rfl)) (zaw zco (pv 5) zaj (fun _ _=>rfl))) (zbp _)) (zad (zas (i:=2) zaS.nd rfl (Or.inl rfl) (pv 4))
 (zam (zas (i:=3) zaS.nd rfl (Or.inl rfl) (pv 5)))) zbi))))
 (zam (zaQ (pv 2)))))),
  zeg B L hcl l1 l12 hn q⟩
def hlp (m:Nat) (t:Sx) (k:Nat):List Nat:=(List.range k).filter fun c=>decide (t.g m c<0)
theorem zil {m:Nat} {t:Sx} {k:Nat}:hlp m t (k+1)=if t.g m k<0 then hlp m t k++[k] else hlp m t k:=by
 unfold hlp
 rw [List.range_succ,List.filter_append]
 by_cases h:t.g m k<0
 ·rw [if_pos h,List.filter_cons_of_pos (by simpa using h),List.filter_nil]
 ·rw [if_neg h,List.filter_cons_of_neg (by simpa using h),List.filter_nil,List.append_nil]
theorem zjb (m:Nat) (t:Sx) (k:Nat):(hlp m t k).length≤k:=Nat.le_trans (List.length_filter_le _ _) (by rw [List.length_range];exact Nat.le_refl _)
theorem zeu {m:Nat} {t:Sx} {k c:Nat}:c∈hlp m t k↔c<k∧t.g m c<0:=by
 unfold hlp
 rw [List.mem_filter,List.mem_range,decide_eq_true_eq]
def zcF (K:PySem.W.Frag) (a:Ad):TS :=
 (zda (tB (tAt a.c_Board (zab 0) "stuck")) (zbM (zf1 K a.p_lam ziW zhJ [0] (zac (zab 1) zao) (tOp (za2 K) (tAt a.c_Board (zab 1) "idle") (zab 0)))) zbo)
theorem zaN (K:PySem.W.Frag) (a:Ad) (D:zcb) (σ:St) (H:Hp):zcF K a D σ H=(zda (tB (tAt a.c_Board (zab 0) "stuck")) (zbM (zf1 K a.p_lam ziW zhJ [0] (zac (zab 1) zao) (tOp (za2 K) (tAt a.c_Board (zab 1) "idle") (zab 0)))) zbo) D σ H:=rfl
def zb8 (K:PySem.W.Frag) (a:Ad):TS :=
 (zaM (zaU (za5 (zc3 (zac (tCB (fun xs H Q=>∃ p ys,xs=[.ref p]∧(SqL K H p ys∨SqT K H p ys)∧Q (.int ys.length) H) (zac (tAt a.c_Board (zab 0) "idle") zao)) zao)) (zai 0) (zbd (tOp (rI0 fun i j=>.bl (decide (i<j))) (tOp (za2 K) (tOp (za2 K) (tAt a.c_Board (zab 1) "grid") (tUn (rU fun i=>.int (-i)) (tC (.int 1)))) (zab 0)) (tC (.int 0)))) (zab 0) [none,some 0]) (zai 1))
 (zaM (zge (zda (zlt (tTru K (zab 1))) (zbM (tC .non)) zbo))
 (zaM (zge (zcF K a))
 (zbM (zdo a.c_Board "steepest" (zfx a.c_Board) [] E0 (zab 0) (zac (zab 1) zao))))))
theorem zd8 {b dx gl il ul:Addr} {rows:List Addr} {α:Nat→Nat→Int} {m n:Nat} {t:Sx} {s:Bool} (B:Brd H a.c_Board b dx gl il ul rows m n t s) (L:LP α m n t) (LH:LT H a.p_lam) (q0:ziE m n t→∀ H',zaR H H'→Q .non H')
  (q:∀ (c:Nat) (H':Hp),c<n→t.g m c<0→(s=true→∀ j,j<n→t.g m j<0→t.id c≤t.id j)→Bar a.p_lam H H'→LT H' a.p_lam→Q (.int c) H') :
  zb8 K a { nx:=fun _ H'=>Q .non H',rt:=Q } (L2.zbb ["self","helping"] [.ref b]) H:=by
 unfold zb8
 have n12:=L.n12
 simp_all only [zaN,zab]
 refine ⟨_,_,B.hb,_,rfl,il,rfl,_,.inl (SqL.of B.hi),?_⟩
 rw [zcN]
 refine ⟨by omega,by omega,fun D hD=>?_⟩
 rw [Int.toNat_natCast]
 refine za8 (fun i ys σ H'=>zaR H H'∧ys=(hlp m t i).map (fun c:Nat=>V.int c)∧∃ z,σ=[z,some (.ref b)]) ⟨zah hD _,rfl,_,rfl⟩ ?_ ?_
 ·rintro i ys σ H' hi hD' ⟨s',rfl,z,rfl⟩
  have B':=B.same s'
  obtain ⟨r,h1,h2⟩:=B'.rowEnd
  simp_all only [zaN,zab]
  rw [Int.zero_add]
  refine ⟨_,_,B'.hb,_,rfl,gl,rfl,_,SqL.of B'.hg,_,h2,r,rfl,_,SqL.of h1,_,zbV (by omega),_,rfl,?_⟩
  have hl:=zjb m t i
  refine zek (fun c=>?_) (fun c=>?_)
  ·refine ⟨_,hD',zbm (by rw [List.length_map];omega),_,zae,s'.put hD,?_⟩
   rw [zil,if_pos c,List.map_append]
   rfl
  ·refine ⟨_,hD',s',?_⟩
   rw [zil,if_neg c]
 ·rintro ys σ H' hD' ⟨s',rfl,z,rfl⟩
  have B':=B.same s'
  have LH':=LH.same s'
  refine ⟨fun σ H2=>H2=H'∧1≤(hlp m t n).length∧σ=[some (.ref b),some (.ref D)],?_,?_⟩
  ·simp_all only [zaN,zab]
   refine ⟨_,.inl ⟨_,SqL.of hD',rfl⟩,?_⟩
   cases e:hlp m t n with
   | nil =>
    refine zek (fun _=>q0 (fun c hc=>?_) H' s') (fun z=>absurd rfl z)
    refine Classical.byContradiction fun no=>?_
    have:c∈hlp m t n:=zeu.mpr ⟨hc,by omega⟩
    rw [e] at this
    cases this
   | cons x l=>exact zek (fun z=>absurd z (by simp)) (fun _=>Nat.le_add_left _ _)
  ·rintro σ H2 ⟨rfl,hl,rfl⟩
   have l12:=zjb m t n
   refine ⟨fun σ H3=>H3=H2∧s=false∧σ=[some (.ref b),some (.ref D)],?_,?_⟩
   ·simp_all only [zaN,zab]
    refine ⟨_,_,B'.hb,_,rfl,s,rfl,zek (fun hs=>?_) (fun hs=>by cases s;rfl;exact absurd rfl hs)⟩
    have el:(hlp m t n).map (fun c:Nat=>V.int c)=((hlp m t n).map fun c:Nat=>(c:Int)).map V.int:=by rw [List.map_map];rfl
    refine ⟨(hlp m t n).map fun c:Nat=>(c:Int),SqL.of (by rw [← el];exact hD'),by rw [List.length_map];omega,[.ref b],rfl,LH',fun H3 bar L3=>?_⟩
    have B3:=B'.bar LH' bar
    refine ⟨fun x=>(t.id x.toNat:Int),fun x hx=>?_,fun x hx best=>?_⟩
    ·obtain ⟨c,hc,rfl⟩:=List.mem_map.mp hx
     simp_all only [zaN,zab]
     refine ⟨_,_,B3.hb,_,rfl,il,rfl,_,SqL.of B3.hi,_,zgA (zeu.mp hc).1,?_⟩
     rw [Int.toNat_natCast]
    ·obtain ⟨c,hc,rfl⟩:=List.mem_map.mp hx
     obtain ⟨c1,c2⟩:=zeu.mp hc
     refine q c H3 c1 c2 (fun _ j hj ng=>?_) (fun x o nx e=>bar _ _ nx (s' _ _ e)) L3
     have:(t.id (c:Int).toNat:Int)≤(t.id (j:Int).toNat:Int):=best j (List.mem_map.mpr ⟨j,zeu.mpr ⟨hj,ng⟩,rfl⟩)
     rw [Int.toNat_natCast,Int.toNat_natCast] at this
     omega
   ·rintro σ H3 ⟨rfl,hs,rfl⟩
    simp_all only [zaN,zab]
    refine ⟨_,_,B'.hb,rfl,?_⟩
    refine ⟨_,_,_,_,_,_,_,_,_,_,_,_,_,rfl,B',L,hD',hl,by omega,fun c hc=>(zeu.mp hc).1,fun c hc H4 s4=>?_⟩
    obtain ⟨c1,c2⟩:=zeu.mp hc
    exact q c H4 c1 c2 (fun z=>by rw [hs] at z;cases z) (fun x o _ e=>s4 _ _ (s' _ _ e)) (LH'.same s4)
theorem zcU:zaB ["self","helping"] ["self"] (zag zbl):=⟨rfl,rfl,rfl,by decide +kernel,rfl,by decide +kernel,by decide +kernel⟩
theorem zei (T:Txt K mg base a):zcG P w K mg base CX0 4 a.f_Board_entering a.d_Board_entering ["self"] (zfQ a.c_Board a.p_lam):=by
 have G_Board_steepest:=zee (P:=P) (w:=w) (base:=base) T
 refine T.F_Board_entering.ok zcU (fun vs H Q E h=>?_) (fun A outer s H vs Q E hr h=>?_)
 ·obtain ⟨b,dx,gl,il,ul,rows,α,m,n,t,s,rfl,B,L,LH,q0,q⟩:=h
  rfl
 obtain ⟨b,dx,gl,il,ul,rows,α,m,n,t,s,rfl,B,L,LH,q0,q⟩:=h
 exact ⟨zb8 K a,(zad (zcq (i:=1) zcU.nd rfl rfl (sc:=zag zbl) (N:=["self","helping"]) (Nc:=["k","self"]) (cap:=[none,some 0]) rfl rfl rfl (.of (by decide +kernel)) (zba rfl T.z_range (zaa (zax zar rfl T.z_len PySem.boot_len (zaa (zbC T.cl_Board T.na_Board_idle (pv 0)) zaf)) zaf)) (fun _ _ _ _=>(zau (i:=0) (show List.Nodup (["k","self"]:List Str) from by decide) rfl (Or.inl rfl))) (fun _ _ _ _=>(zmg (zbh zhT (zaw zan (zaw zan (zbC T.cl_Board T.na_Board_grid (pv 1)) (zd0 zcB zaj) (fun _ _=>rfl)) (pv 0) (fun _ _=>rfl)) zaj (zbp _)))) (fun _ _ _ _=>(pv 0)))
 (zad (zcT (zcZ (zij (zh7 (pv 1) (fun _=>rfl))) (zam (zaQ zid)) zbi))
 (zad (zcT (zcZ (zhW (zbC T.cl_Board T.na_Board_stuck (pv 0))) (zam (zaQ (zjj (k:=0) (hr.mono (by decide)) rfl T.z_min (zaa (pv 1) zaf) rfl T.hC T.hB rfl rfl rfl (znd.one (j:=0) rfl rfl rfl rfl (by decide +kernel)) (fun _ _ _ _=>rfl) rfl rfl rfl rfl (by decide +kernel) (fun _ _ _ _ _ _=>(zaw zan (zbC T.cl_Board T.na_Board_idle (pv 1)) (pv 0) (fun _ _=>rfl)))))) zbi))
 (zam (zaQ (zdI (pv 0) T.cl_Board T.M_Board_steepest G_Board_steepest (hr.mono (by decide)) T.b_Board_steepest .nil zaW (zaa (pv 1) zaf))))))),
  zd8 B L LH q0 q⟩
theorem zfH {n c:Nat} (h:c<n):ixN n (c:Int)=some c:=by
 have e:atI (List.replicate n V.non) (c:Int)=some .non:=zbz (by rw [List.getElem?_replicate,if_pos h])
 unfold ixN
 have h1:¬ ((c:Int)<0):=by omega
 simp [PySem.seqIndex?,h1,h]
theorem zjo {f g:Nat→Int} {n c:Nat} {x:Int} (hc:c≤n) (h1:g c=x) (h2:∀ j,j≤n→j≠c→g j=f j):((List.range (n+1)).map fun j=>V.int (f j)).set c (.int x)=(List.range (n+1)).map fun j=>V.int (g j):=by
 refine List.ext_getElem? fun j=>?_
 rw [List.getElem?_set,List.getElem?_map,List.getElem?_map]
 by_cases hj:j<n+1
 ·rw [List.getElem?_range hj]
  by_cases e:c=j
  ·subst e
   rw [if_pos rfl,if_pos (by rw [List.length_map,List.length_range];omega),Option.map_some,h1]
  ·rw [if_neg e,Option.map_some,Option.map_some,h2 j (by omega) (Ne.symm e)]
 ·rw [if_neg (by omega),List.getElem?_eq_none (by rw [List.length_range];omega)]
  rfl
def zb1 (K:PySem.W.Frag) (a:Ad):TS :=
 (zaM (zaU (tOp (za2 K) (tAt a.c_Board (zab 0) "grid") (zab 1)) (zai 6))
 (zaM (zaU (za5 (zc3 (zac (tCB (fun xs H Q=>∃ p ys,xs=[.ref p]∧(SqL K H p ys∨SqT K H p ys)∧Q (.int ys.length) H) (zac (zab 6) zao)) zao)) (zai 0) zaq (tOp (rI (fun _ j=>j≠0∧j.natAbs.log2<9000) fun i j=>.int (i.fdiv j)) (tOp (rI0 fun i j=>.int (i - j)) (tOp (rI IntMulOk fun i j=>.int (i*j)) (tOp (za2 K) (zab 2) (zab 3)) (tOp (za2 K) (zab 4) (zab 0))) (tOp (rI IntMulOk fun i j=>.int (i*j)) (tOp (za2 K) (zab 4) (zab 3)) (tOp (za2 K) (zab 2) (zab 0)))) (tAt a.c_Board (zab 1) "scale")) [none,some 0,some 4,some 3,some 6]) (zai 5))
 (zaM (zaU (tUn (rU fun i=>.int (-i)) (tOp (za2 K) (zab 6) (zab 3))) (zhv (zab 5) (zab 3) zdz))
 (zbM (zab 5)))))
theorem zaO (K:PySem.W.Frag) (a:Ad) (D:zcb) (σ:St) (H:Hp):zb1 K a D σ H=(zaM (zaU (tOp (za2 K) (tAt a.c_Board (zab 0) "grid") (zab 1)) (zai 6))
 (zaM (zaU (za5 (zc3 (zac (tCB (fun xs H Q=>∃ p ys,xs=[.ref p]∧(SqL K H p ys∨SqT K H p ys)∧Q (.int ys.length) H) (zac (zab 6) zao)) zao)) (zai 0) zaq (tOp (rI (fun _ j=>j≠0∧j.natAbs.log2<9000) fun i j=>.int (i.fdiv j)) (tOp (rI0 fun i j=>.int (i - j)) (tOp (rI IntMulOk fun i j=>.int (i*j)) (tOp (za2 K) (zab 2) (zab 3)) (tOp (za2 K) (zab 4) (zab 0))) (tOp (rI IntMulOk fun i j=>.int (i*j)) (tOp (za2 K) (zab 4) (zab 3)) (tOp (za2 K) (zab 2) (zab 0)))) (tAt a.c_Board (zab 1) "scale")) [none,some 0,some 4,some 3,some 6]) (zai 5))
 (zaM (zaU (tUn (rU fun i=>.int (-i)) (tOp (za2 K) (zab 6) (zab 3))) (zhv (zab 5) (zab 3) zdz))
 (zbM (zab 5))))) D σ H:=rfl
def zb5 (K:PySem.W.Frag) (a:Ad):TS :=
 (zda (zbd (tOp rEq (zab 1) (zab 2))) (zaM (zaU (tCB (fun xs H Q=>∃ p ys,xs=[.ref p]∧(SqL K H p ys∨SqT K H p ys)∧∀ l,H l=none→Q (.ref l) (upd H l (.lst ys))) (zac (zab 4) zao)) (zai 5))
 (zaM (zaU (tAt a.c_Board (zab 0) "scale") (zhv (zab 5) (zab 3) zdz))
 (zbM (zab 5)))) zbo)
theorem zaP (K:PySem.W.Frag) (a:Ad) (D:zcb) (σ:St) (H:Hp):zb5 K a D σ H=(zda (zbd (tOp rEq (zab 1) (zab 2))) (zaM (zaU (tCB (fun xs H Q=>∃ p ys,xs=[.ref p]∧(SqL K H p ys∨SqT K H p ys)∧∀ l,H l=none→Q (.ref l) (upd H l (.lst ys))) (zac (zab 4) zao)) (zai 5))
 (zaM (zaU (tAt a.c_Board (zab 0) "scale") (zhv (zab 5) (zab 3) zdz))
 (zbM (zab 5)))) zbo) D σ H:=rfl
def zbJ (K:PySem.W.Frag) (a:Ad):TS :=
 (zaM (zaU (tOp (za2 K) (tAt a.c_Board (zab 0) "grid") (zab 2)) (zai 4))
 (zaM (zge (zb5 K a))
 (zb1 K a)))
theorem zdu {b dx gl il ul:Addr} {rows:List Addr} {α:Nat→Nat→Int} {m n:Nat} {t:Sx} {s:Bool} {k r c:Nat} (B:Brd H a.c_Board b dx gl il ul rows m n t s) (L:LP α m n t) (hk:k≤m) (hr:r<m) (hc:c<n) (hp:0<t.g r c)
  (q:∀ (l:Addr) (H':Hp),zaR H H'→H l=none→H' l=some (.lst (zen (piv t r c) n k))→Q (.ref l) H') :
  zbJ K a { nx:=fun _ H'=>Q .non H',rt:=Q } (L2.zbb ["self","k","row","column","ahead","fresh","old"] [.ref b,.int k,.int r,.int c]) H:=by
 unfold zbJ
 obtain ⟨rr,_,hr1,hr2⟩:=B.rowAt (k:=r) (by omega)
 obtain ⟨rk,_,hk1,hk2⟩:=B.rowAt hk
 have hg:=SqL.of (K:=K) B.hg
 have n12:=L.n12
 simp_all only [zaO,zaP,zab]
 refine ⟨_,_,B.hb,_,rfl,gl,rfl,_,hg,_,hr2,?_⟩
 refine ⟨fun σ H'=>H'=H∧k≠r∧σ=[some (.ref b),some (.int k),some (.int r),some (.int c),some (.ref rr),none,none],?_,?_⟩
 ·simp_all only [zaO,zaP,zab]
  refine zek (fun e=>?_) (fun e=>fun z=>e (by rw [z]))
  have e:k=r:=by omega
  subst e
  refine ⟨_,.inl (SqL.of hr1),fun l hl=>?_⟩
  have B':=B.same (zah hl (.lst (zen t n k)))
  refine ⟨_,_,B'.hb,_,rfl,_,zae,c,zfH (by rw [zeK];omega),?_⟩
  rw [zf9]
  refine q l _ (zah hl _) hl ?_
  rw [zae]
  exact congrArg (fun z=>some (HO.lst z)) (zjo (by omega) zlK fun j _ ne=>zks ne)
 ·rintro σ H' ⟨rfl,ne,rfl⟩
  simp_all only [zaO,zaP,zab]
  refine ⟨_,_,B.hb,_,rfl,gl,rfl,_,hg,_,hk2,rk,rfl,_,.inl (SqL.of hk1),?_⟩
  rw [zeK]
  refine ⟨by omega,by omega,fun D hD=>?_⟩
  rw [Int.toNat_natCast]
  have d0:=L.F.tok.pos
  have dl:t.d.natAbs.log2<9000:=zg3 1400 (by omega) L.d
  let f:Nat→Int:=fun j=>(t.g r c*t.g k j - t.g k c*t.g r j).fdiv t.d
  refine za8 (fun i ys σ H2=>zaR H' H2∧ys=(List.range i).map (fun j=>V.int (f j))∧∃ z,σ=[z,some (.ref b),some (.ref rr),some (.int c),some (.ref rk)]) ⟨zah hD _,rfl,_,rfl⟩ ?_ ?_
  ·rintro i ys σ H2 hi hD2 ⟨s2,rfl,z,rfl⟩
   have B2:=B.same s2
   have h1:=s2 _ _ hr1
   have h2:=s2 _ _ hk1
   simp_all only [zaO,zaP,zab]
   rw [Int.zero_add]
   refine ⟨_,SqL.of h1,_,zbV (by omega),_,SqL.of h2,_,zbV (by omega),_,rfl,_,rfl,zht 1400 1400 (L.g (by omega) (by omega)) (L.g (by omega) (by omega)),_,SqL.of h2,_,zbV (by omega),_,SqL.of h1,_,zbV (by omega),_,rfl,_,rfl,zht 1400 1400 (L.g (by omega) (by omega)) (L.g (by omega) (by omega)),_,_,B2.hb,_,rfl,_,rfl,by omega,dl,_,hD2,zbm (by rw [List.length_map,List.length_range];omega),_,zae,s2.put hD,?_⟩
   rw [List.range_succ,List.map_append]
   rfl
  ·rintro ys σ H2 hD2 ⟨s2,rfl,z,rfl⟩
   have h2:=s2 _ _ hk1
   simp_all only [zaO,zaP,zab]
   refine ⟨_,SqL.of h2,_,zbV (by omega),_,rfl,_,hD2,c,zfH (by rw [List.length_map,List.length_range];omega),?_⟩
   refine q D _ (s2.put hD) hD ?_
   rw [zae]
   refine congrArg (fun z=>some (HO.lst z)) (zjo (by omega) (znG ne) fun j hj nj=>?_)
   show (if k=r then (if j=c then t.d else t.g r j) else if j=c then - t.g k c else (t.g r c*t.g k j - t.g k c*t.g r j).fdiv t.d)=_
   rw [if_neg ne,if_neg nj]
theorem zaZ:zaB ["self","k","row","column","ahead","fresh","old"] ["self","k","row","column"] (zag zbg):=⟨rfl,rfl,rfl,by decide +kernel,rfl,by decide +kernel,by decide +kernel⟩
theorem zdv (T:Txt K mg base a):zcG P w K mg base CX0 1 a.f_Board_swapped_row a.d_Board_swapped_row ["self","k","row","column"] (zjG a.c_Board):=by
 refine T.F_Board_swapped_row.ok zaZ (fun vs H Q E h=>?_) (fun cdv A outer s H vs Q E hr h=>?_)
 ·obtain ⟨b,dx,gl,il,ul,rows,α,m,n,t,s,k,r,c,rfl,B,L,hk,hr1,hc,hp,q⟩:=h
  rfl
 obtain ⟨b,dx,gl,il,ul,rows,α,m,n,t,s,k,r,c,rfl,B,L,hk,hr1,hc,hp,q⟩:=h
 exact ⟨zbJ K a,(zad (zas (i:=4) zaZ.nd rfl (Or.inr rfl) (zaw zan (zbC T.cl_Board T.na_Board_grid (pv 0)) (pv 2) (fun _ _=>rfl)))
 (zad (zcT (zcZ (zbh zix (pv 1) (pv 2) (zbp _)) (zad (zas (i:=5) zaZ.nd rfl (Or.inl rfl) (zdU zdd rfl T.z_list zcS (zaa (pv 4) zaf)))
 (zad (zdN (zbC T.cl_Board T.na_Board_scale (pv 0)) (zeA (pv 5) (pv 3) zcE))
 (zam (zaQ (pv 5))))) zbi))
 (zad (zas (i:=6) zaZ.nd rfl (Or.inr rfl) (zaw zan (zbC T.cl_Board T.na_Board_grid (pv 0)) (pv 1) (fun _ _=>rfl)))
 (zad (zcq (i:=5) zaZ.nd rfl rfl (sc:=zag zbg) (N:=["self","k","row","column","ahead","fresh","old"]) (Nc:=["j","self","ahead","column","old"]) (cap:=[none,some 0,some 4,some 3,some 6]) rfl rfl rfl (.of (by decide +kernel)) (zba rfl T.z_range (zaa (zax zar rfl T.z_len PySem.boot_len (zaa (pv 6) zaf)) zaf)) (fun _ _ _ _=>(zau (i:=0) (show List.Nodup (["j","self","ahead","column","old"]:List Str) from by decide) rfl (Or.inl rfl))) (fun _ _ _ _=>za0) (fun _ _ _ _=>(zav zdt (zav zc8 (zav za4 (zaw zan (pv 2) (pv 3) (fun _ _=>rfl)) (zaw zan (pv 4) (pv 0) (fun _ _=>rfl))) (zav za4 (zaw zan (pv 4) (pv 3) (fun _ _=>rfl)) (zaw zan (pv 2) (pv 0) (fun _ _=>rfl)))) (zbC T.cl_Board T.na_Board_scale (pv 1)))))
 (zad (zdN (zd0 zcB (zaw zan (pv 6) (pv 3) (fun _ _=>rfl))) (zeA (pv 5) (pv 3) zcE))
 (zam (zaQ (pv 5)))))))),
  zdu B L hk hr1 hc hp q⟩
theorem zlE {f:Nat→Nat} {k r x:Nat} (h:r<k):(nmL f k).set r (.int (x:Int))=nmL (zgl f r x) k:=by
 unfold nmL
 refine List.ext_getElem? fun j=>?_
 rw [List.getElem?_set,List.getElem?_map,List.getElem?_map]
 by_cases hj:j<k
 ·rw [List.getElem?_range hj]
  by_cases e:r=j
  ·subst e
   rw [if_pos rfl,if_pos (by rw [List.length_map,List.length_range];exact h),Option.map_some,zb6]
  ·rw [if_neg e,Option.map_some,Option.map_some,zcL (Ne.symm e)]
 ·rw [if_neg (by omega),List.getElem?_eq_none (by rw [List.length_range];omega)]
  rfl
def zdg (K:PySem.W.Frag) (a:Ad):TS :=
 (zaM (zaU (tOp (za2 K) (tOp (za2 K) (tAt a.c_Board (zab 0) "grid") (zab 1)) (zab 2)) (zai 3))
 (zaM (sAt a.c_Board (zab 0) (tOp rEq (tOp (za2 K) (tOp (za2 K) (tAt a.c_Board (zab 0) "grid") (zab 1)) (tUn (rU fun i=>.int (-i)) (tC (.int 1)))) (tC (.int 0))) "stuck")
 (zaM (sAt a.c_Board (zab 0) (za5 (zc3 (zac (tCB (fun xs H Q=>∃ p ys,xs=[.ref p]∧(SqL K H p ys∨SqT K H p ys)∧Q (.int ys.length) H) (zac (tAt a.c_Board (zab 0) "grid") zao)) zao)) (zai 0) zaq (zdo a.c_Board "swapped_row" (zjG a.c_Board) [] E0 (zab 3) (zac (zab 0) (zac (zab 1) (zac (zab 2) zao)))) [none,some 1,some 2,some 0]) "grid")
 (zaM (sAt a.c_Board (zab 0) (zab 3) "scale")
 (zaM (zaU (tOp (za2 K) (tAt a.c_Board (zab 0) "busy") (zab 1)) (zai 4))
 (zaM (zaU (tOp (za2 K) (tAt a.c_Board (zab 0) "idle") (zab 2)) (zhv (tAt a.c_Board (zab 0) "busy") (zab 1) zdz))
 (zaU (zab 4) (zhv (tAt a.c_Board (zab 0) "idle") (zab 2) zdz))))))))
theorem zfU {b dx gl il ul:Addr} {rows:List Addr} {α:Nat→Nat→Int} {m n:Nat} {t:Sx} {s:Bool} {r c:Nat} (B:Brd H a.c_Board b dx gl il ul rows m n t s) (L:LP α m n t) (hr:r<m) (hc:c<n) (hp:0<t.g r c)
  (q:∀ (gl':Addr) (rows':List Addr) (H':Hp),(∀ x o,x≠b→x≠il→x≠ul→H x=some o→H' x=some o)→Brd H' a.c_Board b dx gl' il ul rows' m n (piv t r c) (decide (t.g r n=0))→Q .non H') :
  zdg K a { nx:=fun _ H'=>Q .non H',rt:=Q } (L2.zbb ["self","row","column","pivot","name"] [.ref b,.int r,.int c]) H:=by
 unfold zdg
 obtain ⟨rr,_,hr1,hr2⟩:=B.rowAt (k:=r) (by omega)
 have hg:=SqL.of (K:=K) B.hg
 have n12:=L.n12
 have m12:=L.m12
 simp_all only [zab]
 refine ⟨_,_,B.hb,_,rfl,gl,rfl,_,hg,_,hr2,rr,rfl,_,SqL.of hr1,_,zbV (by omega),?_⟩
 refine ⟨_,_,B.hb,_,rfl,gl,rfl,_,hg,_,hr2,rr,rfl,_,SqL.of hr1,_,zd6,rfl,_,_,B.hb,show 5<1000 by decide,?_⟩
 have e1:zeL "stuck" (V.bl (decide (V.int (t.g r n)=V.int 0))) [("grid",V.ref gl),("scale",V.int t.d),("idle",V.ref il),("busy",V.ref ul),("stuck",V.bl s)]=([("grid",V.ref gl),("scale",V.int t.d),("idle",V.ref il),("busy",V.ref ul),("stuck",V.bl (decide (t.g r n=0)))]:List (Str×V)):=by
  rw [show decide (V.int (t.g r n)=V.int 0)=decide (t.g r n=0) from by simp]
  rfl
 rw [e1]
 have k1:∀ x o,x≠b→H x=some o→(L2.upd H b (.ins a.c_Board dx [("grid",V.ref gl),("scale",V.int t.d),("idle",V.ref il),("busy",V.ref ul),("stuck",V.bl (decide (t.g r n=0)))])) x=some o:=fun x o nx e=>(zak nx).trans e
 have nb:∀ x xs,H x=some (.lst xs)→x≠b:=fun x xs e z=>by rw [z,B.hb] at e;cases e
 have B1:Brd (L2.upd H b (.ins a.c_Board dx [("grid",V.ref gl),("scale",V.int t.d),("idle",V.ref il),("busy",V.ref ul),("stuck",V.bl (decide (t.g r n=0)))])) a.c_Board b dx gl il ul rows m n t (decide (t.g r n=0)) :=
  ⟨zae,k1 _ _ (nb _ _ B.hg) B.hg,B.len,fun k x e=>k1 _ _ (nb _ _ (B.row k x e)) (B.row k x e),k1 _ _ (nb _ _ B.hi) B.hi,k1 _ _ (nb _ _ B.hu) B.hu,B.ne⟩
 generalize L2.upd H b (.ins a.c_Board dx [("grid",V.ref gl),("scale",V.int t.d),("idle",V.ref il),("busy",V.ref ul),("stuck",V.bl (decide (t.g r n=0)))])=H1 at k1 B1 ⊢
 refine ⟨_,_,B1.hb,_,rfl,gl,rfl,_,.inl (SqL.of B1.hg),?_⟩
 rw [List.length_map,B.len]
 refine ⟨by omega,by omega,fun D hD=>?_⟩
 rw [Int.toNat_natCast]
 refine za8 (fun i ys σ H2=>zaR H1 H2∧(∃ us:List Addr,ys=us.map V.ref∧us.length=i∧∀ (k:Nat) x,us[k]?=some x→x≠D∧H1 x=none∧H2 x=some (.lst (zen (piv t r c) n k)))∧∃ z,σ=[z,some (.int r),some (.int c),some (.ref b)]) ⟨zah hD _,⟨[],rfl,rfl,fun k x e=>nomatch e⟩,_,rfl⟩ ?_ ?_
 ·rintro i ys σ H2 hi hD2 ⟨s2,⟨us,rfl,lu,hu⟩,z,rfl⟩
  have B2:=B1.same s2
  simp_all only [zab]
  rw [Int.zero_add]
  refine ⟨_,_,B2.hb,rfl,?_⟩
  refine ⟨_,_,_,_,_,_,_,_,_,_,_,i,r,c,rfl,B2,L,by omega,hr,hc,hp,fun l H3 s3 nl hl=>?_⟩
  have nlD:l≠D:=fun z=>by rw [z,hD2] at nl;cases nl
  refine ⟨_,s3 _ _ hD2,zbm (by rw [List.length_map];omega),_,zae,(s2.trans s3).put hD,us++[l],by rw [List.map_append];rfl,by rw [List.length_append,lu];rfl,fun k x e=>?_⟩
  by_cases hk:k<us.length
  ·rw [List.getElem?_append_left hk] at e
   obtain ⟨z1,z0,z2⟩:=hu k x e
   exact ⟨z1,z0,by rw [zak z1];exact s3 _ _ z2⟩
  ·rw [List.getElem?_append_right (by omega)] at e
   have zk:k - us.length=0:=by
    have:=(List.getElem?_eq_some_iff.mp e).1
    simp only [List.length_cons,List.length_nil] at this
    omega
   rw [zk] at e
   cases e
   refine ⟨nlD,s2.free nl,?_⟩
   rw [zak nlD,show k=i by omega]
   exact hl
 ·rintro ys σ H2 hD2 ⟨s2,⟨us,rfl,lu,hu⟩,z,rfl⟩
  have B2:=B1.same s2
  refine ⟨_,_,B2.hb,show 5<1000 by decide,_,_,zae,show 5<1000 by decide,?_⟩
  rw [zf9]
  have e2:zeL "scale" (V.int (t.g r c)) (zeL "grid" (V.ref D) [("grid",V.ref gl),("scale",V.int t.d),("idle",V.ref il),("busy",V.ref ul),("stuck",V.bl (decide (t.g r n=0)))])=([("grid",V.ref D),("scale",V.int (t.g r c)),("idle",V.ref il),("busy",V.ref ul),("stuck",V.bl (decide (t.g r n=0)))]:List (Str×V)):=rfl
  rw [e2]
  have nb2:∀ x xs,H2 x=some (.lst xs)→x≠b:=fun x xs e z=>by rw [z,B2.hb] at e;cases e
  have k3:∀ x o,x≠b→H2 x=some o→(L2.upd H2 b (.ins a.c_Board dx [("grid",V.ref D),("scale",V.int (t.g r c)),("idle",V.ref il),("busy",V.ref ul),("stuck",V.bl (decide (t.g r n=0)))])) x=some o:=fun x o nx e=>(zak nx).trans e
  have hb3:(L2.upd H2 b (.ins a.c_Board dx [("grid",V.ref D),("scale",V.int (t.g r c)),("idle",V.ref il),("busy",V.ref ul),("stuck",V.bl (decide (t.g r n=0)))])) b=some (.ins a.c_Board dx [("grid",V.ref D),("scale",V.int (t.g r c)),("idle",V.ref il),("busy",V.ref ul),("stuck",V.bl (decide (t.g r n=0)))]):=zae
  generalize L2.upd H2 b (.ins a.c_Board dx [("grid",V.ref D),("scale",V.int (t.g r c)),("idle",V.ref il),("busy",V.ref ul),("stuck",V.bl (decide (t.g r n=0)))])=H3 at k3 hb3 ⊢
  have hi3:=k3 _ _ (nb2 _ _ B2.hi) B2.hi
  have hu3:=k3 _ _ (nb2 _ _ B2.hu) B2.hu
  have hD3:=k3 _ _ (nb2 _ _ hD2) hD2
  refine ⟨_,_,hb3,_,rfl,ul,rfl,_,SqL.of hu3,_,zgA hr,?_⟩
  refine ⟨_,_,hb3,_,rfl,il,rfl,_,SqL.of hi3,_,zgA hc,?_⟩
  refine ⟨_,_,hb3,_,rfl,ul,rfl,_,hu3,r,zfH (by rw [zcN];exact hr),?_⟩
  rw [zlE hr]
  have ub:ul≠b:=nb2 _ _ B2.hu
  have ib:il≠b:=nb2 _ _ B2.hi
  have hb4:(L2.upd H3 ul (.lst (nmL (zgl t.bs r (t.id c)) m))) b=_:=(zak (Ne.symm ub)).trans hb3
  have hi4:(L2.upd H3 ul (.lst (nmL (zgl t.bs r (t.id c)) m))) il=_:=(zak B.ne).trans hi3
  refine ⟨_,_,hb4,_,rfl,il,rfl,_,hi4,c,zfH (by rw [zcN];exact hc),?_⟩
  rw [zlE hc]
  refine q D us _ (fun x o n1 n2 n3 e=>?_) ⟨?_,?_,lu,fun k x e=>?_,zae,?_,B.ne⟩
  ·rw [zak n2,zak n3]
   exact k3 _ _ n1 (s2 _ _ (k1 _ _ n1 e))
  ·rw [zak (Ne.symm ib)]
   exact hb4
  ·have h1:D≠il:=fun z=>by rw [z,B1.hi] at hD;cases hD
   have h2:D≠ul:=fun z=>by rw [z,B1.hu] at hD;cases hD
   rw [zak h1,zak h2]
   exact hD3
  ·obtain ⟨z1,z0,z2⟩:=hu k x e
   have h1:x≠il:=fun z=>by rw [z,B1.hi] at z0;cases z0
   have h2:x≠ul:=fun z=>by rw [z,B1.hu] at z0;cases z0
   rw [zak h1,zak h2]
   exact k3 _ _ (nb2 _ _ z2) z2
  ·rw [zak (Ne.symm B.ne)]
   exact zae
theorem zc5:zaB ["self","row","column","pivot","name"] ["self","row","column"] (zag zcI):=⟨rfl,rfl,rfl,by decide +kernel,rfl,by decide +kernel,by decide +kernel⟩
theorem zfS (T:Txt K mg base a):zcG P w K mg base CX0 2 a.f_Board_swap a.d_Board_swap ["self","row","column"] (zjc a.c_Board):=by
 have G_Board_swapped_row:=zdv (P:=P) (w:=w) (base:=base) T
 refine T.F_Board_swap.ok zc5 (fun vs H Q E h=>?_) (fun cdv A outer s H vs Q E hr h=>?_)
 ·obtain ⟨b,dx,gl,il,ul,rows,α,m,n,t,s,r,c,rfl,B,L,hr1,hc,hp,q⟩:=h
  rfl
 obtain ⟨b,dx,gl,il,ul,rows,α,m,n,t,s,r,c,rfl,B,L,hr1,hc,hp,q⟩:=h
 exact ⟨zdg K a,(zad (zas (i:=3) zc5.nd rfl (Or.inl rfl) (zaw zan (zaw zan (zbC T.cl_Board T.na_Board_grid (pv 0)) (pv 1) (fun _ _=>rfl)) (pv 2) (fun _ _=>rfl)))
 (zad (zgX T.cl_Board T.na_Board_stuck (pv 0) (zeX zix (zaw zan (zaw zan (zbC T.cl_Board T.na_Board_grid (pv 0)) (pv 1) (fun _ _=>rfl)) (zd0 zcB zaj) (fun _ _=>rfl)) zaj (zbp _)))
 (zad (zgX T.cl_Board T.na_Board_grid (pv 0) (zbx (sc:=zag zcI) (N:=["self","row","column","pivot","name"]) (Nc:=["k","row","column","self"]) (cap:=[none,some 1,some 2,some 0]) rfl rfl rfl (.of (by decide +kernel)) (zba rfl T.z_range (zaa (zax zar rfl T.z_len PySem.boot_len (zaa (zbC T.cl_Board T.na_Board_grid (pv 0)) zaf)) zaf)) (fun _ _ _ _=>(zau (i:=0) (show List.Nodup (["k","row","column","self"]:List Str) from by decide) rfl (Or.inl rfl))) (fun _ _ _ _=>za0) (fun _ _ _ _=>(zdI (pv 3) T.cl_Board T.M_Board_swapped_row G_Board_swapped_row (hr.mono (by decide)) T.b_Board_swapped_row .nil zaW (zaa (pv 0) (zaa (pv 1) (zaa (pv 2) zaf)))))))
 (zad (zgX T.cl_Board T.na_Board_scale (pv 0) (pv 3))
 (zad (zas (i:=4) zc5.nd rfl (Or.inl rfl) (zaw zan (zbC T.cl_Board T.na_Board_busy (pv 0)) (pv 1) (fun _ _=>rfl)))
 (zad (zdN (zaw zan (zbC T.cl_Board T.na_Board_idle (pv 0)) (pv 2) (fun _ _=>rfl)) (zeA (zbC T.cl_Board T.na_Board_busy (pv 0)) (pv 1) zcE))
 (zam (zdN (pv 4) (zeA (zbC T.cl_Board T.na_Board_idle (pv 0)) (pv 2) zcE))))))))),
  zfU B L hr1 hc hp q⟩
def zcj (K:PySem.W.Frag) (a:Ad):TS :=
 (zaM (sAt a.c_Board (zab 0) (zab 1) "grid")
 (zaM (sAt a.c_Board (zab 0) (tC (.int 1)) "scale")
 (zaM (sAt a.c_Board (zab 0) (tCB zgv (zac (zlY (zac (tOp (rI0 fun i j=>.int (i - j)) (tCB (fun xs H Q=>∃ p ys,xs=[.ref p]∧(SqL K H p ys∨SqT K H p ys)∧Q (.int ys.length) H) (zac (tOp (za2 K) (zab 1) (tC (.int 0))) zao)) (tC (.int 1))) zao)) zao)) "idle")
 (zaM (sAt a.c_Board (zab 0) (za5 (zc3 (zac (tOp (rI0 fun i j=>.int (i - j)) (tCB (fun xs H Q=>∃ p ys,xs=[.ref p]∧(SqL K H p ys∨SqT K H p ys)∧Q (.int ys.length) H) (zac (zab 1) zao)) (tC (.int 1))) zao)) (zai 0) zaq (tOp (rI0 fun i j=>.int (i+j)) (tCB (fun xs H Q=>∃ p ys,xs=[.ref p]∧(SqL K H p ys∨SqT K H p ys)∧Q (.int ys.length) H) (zac (tAt a.c_Board (zab 1) "idle") zao)) (zab 0)) [none,some 0]) "busy")
 (sAt a.c_Board (zab 0) (tC (.bl false)) "stuck")))))
theorem zel {b dx gl:Addr} {rows:List Addr} {m n:Nat} {t:Sx} (hb:H b=some (.ins a.c_Board dx [])) (G:Grd H gl rows m n t) (m12:m≤12) (n12:n≤12) (td:t.d=1) (ti:t.id=(fun c=>if c<n then c else n+m+1)) (tb:t.bs=(fun k=>n+k))
  (q:∀ (il ul:Addr) (H':Hp),(∀ x o,x≠b→H x=some o→H' x=some o)→H il=none→H ul=none→Brd H' a.c_Board b dx gl il ul rows m n t false→Q .non H') :
  zcj K a { nx:=fun _ H'=>Q .non H',rt:=Q } (L2.zbb ["self","grid"] [.ref b,.ref gl]) H:=by
 unfold zcj
 have nb:∀ x xs,H x=some (.lst xs)→x≠b:=fun x xs e z=>by rw [z,hb] at e;cases e
 simp_all only [zab]
 refine ⟨_,_,hb,show 0<1000 by decide,_,_,zae,show 1<1000 by decide,?_⟩
 rw [zf9]
 have k1:∀ x o,x≠b→H x=some o→(L2.upd H b (.ins a.c_Board dx [("grid",V.ref gl),("scale",V.int 1)])) x=some o:=fun x o nx e=>(zak nx).trans e
 have hb1:(L2.upd H b (.ins a.c_Board dx [("grid",V.ref gl),("scale",V.int 1)])) b=some (.ins a.c_Board dx [("grid",V.ref gl),("scale",V.int 1)]):=zae
 have e1:zeL "scale" (V.int 1) (zeL "grid" (V.ref gl) [])=([("grid",V.ref gl),("scale",V.int 1)]:List (Str×V)):=rfl
 rw [e1]
 have f1:∀ x,(L2.upd H b (.ins a.c_Board dx [("grid",V.ref gl),("scale",V.int 1)])) x=none→H x=none:=fun x e=>by
  by_cases z:x=b
  ·rw [z,zae] at e;cases e
  ·rwa [zak z] at e
 generalize L2.upd H b (.ins a.c_Board dx [("grid",V.ref gl),("scale",V.int 1)])=H1 at k1 hb1 f1 ⊢
 have l0:0<rows.length:=by rw [G.len];omega
 have g1:=k1 _ _ (nb _ _ G.hg) G.hg
 have r0:=G.row 0 rows[0] (List.getElem?_eq_getElem l0)
 have r1:=k1 _ _ (nb _ _ r0) r0
 refine ⟨_,SqL.of g1,_,zbz (j:=0) (by rw [List.getElem?_map,List.getElem?_eq_getElem l0];rfl),rows[0],rfl,_,.inl (SqL.of r1),?_⟩
 rw [zeK]
 refine ⟨by omega,by omega,fun p hp=>⟨_,_,zae,by decide,by decide,by omega,by omega,by omega,fun il hil=>?_⟩⟩
 have ep:((List.range (((n+1:Nat):Int) - 1 - 0).toNat).map fun k:Nat=>V.int (0+(k:Int)))=nmL t.id n:=by
  rw [show (((n+1:Nat):Int) - 1 - 0).toNat=n by omega,nmL,ti]
  refine List.map_congr_left fun k hk=>?_
  show V.int (0+(k:Int))=V.int ((if k<n then k else n+m+1:Nat):Int)
  rw [if_pos (List.mem_range.mp hk),Int.zero_add]
 rw [ep]
 have s2:=(zah hp (.rng 0 (((n+1:Nat):Int) - 1))).trans (zah hil (.lst (nmL t.id n)))
 have f2:∀ x,(L2.upd (L2.upd H1 p (.rng 0 (((n+1:Nat):Int) - 1))) il (.lst (nmL t.id n))) x=none→H1 x=none:=fun x e=>s2.free e
 have hi2:(L2.upd (L2.upd H1 p (.rng 0 (((n+1:Nat):Int) - 1))) il (.lst (nmL t.id n))) il=some (.lst (nmL t.id n)):=zae
 have ni:H1 il=none:=(zah hp _).free hil
 generalize L2.upd (L2.upd H1 p (.rng 0 (((n+1:Nat):Int) - 1))) il (.lst (nmL t.id n))=H2 at s2 f2 hi2 ⊢
 refine ⟨_,_,s2 _ _ hb1,show 2<1000 by decide,?_⟩
 have ib:il≠b:=fun z=>by rw [z,hb1] at ni;cases ni
 have e2:zeL "idle" (V.ref il) [("grid",V.ref gl),("scale",V.int 1)]=([("grid",V.ref gl),("scale",V.int 1),("idle",V.ref il)]:List (Str×V)):=rfl
 rw [e2]
 have k3:∀ x o,x≠b→H2 x=some o→(L2.upd H2 b (.ins a.c_Board dx [("grid",V.ref gl),("scale",V.int 1),("idle",V.ref il)])) x=some o:=fun x o nx e=>(zak nx).trans e
 have hb3:(L2.upd H2 b (.ins a.c_Board dx [("grid",V.ref gl),("scale",V.int 1),("idle",V.ref il)])) b=some (.ins a.c_Board dx [("grid",V.ref gl),("scale",V.int 1),("idle",V.ref il)]):=zae
 have f3:∀ x,(L2.upd H2 b (.ins a.c_Board dx [("grid",V.ref gl),("scale",V.int 1),("idle",V.ref il)])) x=none→H2 x=none:=fun x e=>by
  by_cases z:x=b
  ·rw [z,zae] at e;cases e
  ·rwa [zak z] at e
 generalize L2.upd H2 b (.ins a.c_Board dx [("grid",V.ref gl),("scale",V.int 1),("idle",V.ref il)])=H3 at k3 hb3 f3 ⊢
 have g3:=k3 _ _ (nb _ _ G.hg) (s2 _ _ g1)
 refine ⟨_,.inl (SqL.of g3),?_⟩
 rw [List.length_map,G.len]
 refine ⟨by omega,by omega,fun D hD=>?_⟩
 rw [show (((m+1:Nat):Int) - 1).toNat=m by omega]
 have hi3:=k3 _ _ ib hi2
 refine za8 (fun i ys σ H'=>zaR H3 H'∧ys=nmL t.bs i∧∃ z,σ=[z,some (.ref b)]) ⟨zah hD _,rfl,_,rfl⟩ ?_ ?_
 ·rintro i ys σ H' hi hD' ⟨s',rfl,z,rfl⟩
  simp_all only [zab]
  refine ⟨_,_,s' _ _ hb3,_,rfl,il,rfl,_,.inl (SqL.of (s' _ _ hi3)),_,hD',zbm (by rw [zcN];omega),_,zae,s'.put hD,?_⟩
  rw [zcN,nmL,nmL,List.range_succ,List.map_append,tb,Int.zero_add]
  rfl
 ·rintro ys σ H' hD' ⟨s',rfl,z,rfl⟩
  refine ⟨_,_,s' _ _ hb3,show 3<1000 by decide,_,_,zae,show 4<1000 by decide,?_⟩
  rw [zf9]
  have e4:zeL "stuck" (V.bl false) (zeL "busy" (V.ref D) [("grid",V.ref gl),("scale",V.int 1),("idle",V.ref il)])=([("grid",V.ref gl),("scale",V.int 1),("idle",V.ref il),("busy",V.ref D),("stuck",V.bl false)]:List (Str×V)):=rfl
  rw [e4]
  have ne:il≠D:=fun z=>by rw [← z,hi3] at hD;cases hD
  have nD:D≠b:=fun z=>by rw [z,hb3] at hD;cases hD
  have kk:∀ x o,x≠b→H x=some o→(L2.upd H' b (.ins a.c_Board dx [("grid",V.ref gl),("scale",V.int 1),("idle",V.ref il),("busy",V.ref D),("stuck",V.bl false)])) x=some o:=fun x o nx e=>(zak nx).trans (s' _ _ (k3 _ _ nx (s2 _ _ (k1 _ _ nx e))))
  refine q il D _ kk (f1 _ ni) (f1 _ (f2 _ (f3 _ hD))) ⟨by rw [td];exact zae,kk _ _ (nb _ _ G.hg) G.hg,G.len,fun k x e=>kk _ _ (nb _ _ (G.row k x e)) (G.row k x e),(zak ib).trans (s' _ _ hi3),(zak nD).trans hD',ne⟩
theorem zeb:zaB ["self","grid"] ["self","grid"] (zag zbE):=⟨rfl,rfl,rfl,by decide +kernel,rfl,by decide +kernel,by decide +kernel⟩
theorem zev (T:Txt K mg base a):zcG P w K mg base CX0 1 a.f_Board___init__ a.d_Board___init__ ["self","grid"] (zi2 a.c_Board):=by
 refine T.F_Board___init__.ok zeb (fun vs H Q E h=>?_) (fun cdv A outer s H vs Q E hr h=>?_)
 ·obtain ⟨b,dx,gl,rows,m,n,t,rfl,hb,G,m12,n12,td,ti,tb,q⟩:=h
  rfl
 obtain ⟨b,dx,gl,rows,m,n,t,rfl,hb,G,m12,n12,td,ti,tb,q⟩:=h
 exact ⟨zcj K a,(zad (zgX T.cl_Board T.na_Board_grid (pv 0) (pv 1))
 (zad (zgX T.cl_Board T.na_Board_scale (pv 0) zaj)
 (zad (zgX T.cl_Board T.na_Board_idle (pv 0) (zdU (zgn rfl) rfl T.z_list zcS (zaa (zlP rfl T.z_range (zaa (zav zc8 (zax zar rfl T.z_len PySem.boot_len (zaa (zaw zan (pv 1) zaj (fun _ _=>rfl)) zaf)) zaj) zaf)) zaf)))
 (zad (zgX T.cl_Board T.na_Board_busy (pv 0) (zbx (sc:=zag zbE) (N:=["self","grid"]) (Nc:=["k","self"]) (cap:=[none,some 0]) rfl rfl rfl (.of (by decide +kernel)) (zba rfl T.z_range (zaa (zav zc8 (zax zar rfl T.z_len PySem.boot_len (zaa (pv 1) zaf)) zaj) zaf)) (fun _ _ _ _=>(zau (i:=0) (show List.Nodup (["k","self"]:List Str) from by decide) rfl (Or.inl rfl))) (fun _ _ _ _=>za0) (fun _ _ _ _=>(zav zcm (zax zar rfl T.z_len PySem.boot_len (zaa (zbC T.cl_Board T.na_Board_idle (pv 1)) zaf)) (pv 0)))))
 (zam (zgX T.cl_Board T.na_Board_stuck (pv 0) zg8)))))),
  zel hb G m12 n12 td ti tb q⟩
def aOf (rows:List (List Int)) (lift:Int) (i j:Nat):Int:=(rows.getD i []).getD j 0+lift
theorem zoe {rows:List (List Int)} {lift:Int} {w j:Nat} (h:j<w):zen (sx0 (aOf rows lift) w rows.length) rows.length j=(rows.map fun row=>V.int (row.getD j 0+lift))++[V.int 1]:=by
 rw [zen,List.range_succ,List.map_append]
 congr 1
 ·refine List.ext_getElem? fun i=>?_
  rw [List.getElem?_map,List.getElem?_map]
  by_cases hi:i<rows.length
  ·rw [List.getElem?_range hi,List.getElem?_eq_getElem hi,Option.map_some,Option.map_some]
   show some (V.int (if j<w then (if i<rows.length then aOf rows lift i j else 1) else _))=_
   rw [if_pos h,if_pos hi,aOf,show rows.getD i []=rows[i] from by rw [List.getD_eq_getElem?_getD,List.getElem?_eq_getElem hi];rfl]
  ·rw [List.getElem?_eq_none (by rw [List.length_range];omega),List.getElem?_eq_none (by omega)]
   rfl
 ·show [V.int (if j<w then (if rows.length<rows.length then _ else 1) else _)]=_
  rw [if_pos h,if_neg (Nat.lt_irrefl _)]
theorem zmD {rows:List (List Int)} {lift:Int} {w:Nat}:zen (sx0 (aOf rows lift) w rows.length) rows.length w=(rows.map fun _=>V.int (-1))++[V.int 0]:=by
 rw [zen,List.range_succ,List.map_append]
 congr 1
 ·refine List.ext_getElem? fun i=>?_
  rw [List.getElem?_map,List.getElem?_map]
  by_cases hi:i<rows.length
  ·rw [List.getElem?_range hi,List.getElem?_eq_getElem hi,Option.map_some,Option.map_some]
   show some (V.int (if w<w then _ else if i<rows.length then -1 else 0))=_
   rw [if_neg (Nat.lt_irrefl w),if_pos hi]
  ·rw [List.getElem?_eq_none (by rw [List.length_range];omega),List.getElem?_eq_none (by omega)]
   rfl
 ·show [V.int (if w<w then _ else if rows.length<rows.length then -1 else 0)]=_
  rw [if_neg (Nat.lt_irrefl w),if_neg (Nat.lt_irrefl _)]
def ziN:Sp:=fun vs H Q _=>∃ (tt:Addr) (rs:List Addr) (rows:List (List Int)) (w:Nat) (lift:Int),vs=[.ref tt,.int lift]∧Tb H tt rs rows w ∧
 ∀ (gl:Addr) (us:List Addr) (H':Hp),zaR H H'→Grd H' gl us w rows.length (sx0 (aOf rows lift) w rows.length)→Q (.ref gl) H'
def zdb (K:PySem.W.Frag):TS :=
 (zaM (zaU (za5 (zc3 (zac (tCB (fun xs H Q=>∃ p ys,xs=[.ref p]∧(SqL K H p ys∨SqT K H p ys)∧Q (.int ys.length) H) (zac (tOp (za2 K) (zab 0) (tC (.int 0))) zao)) zao)) (zai 0) zaq (tOp zj8 (za5 (zbT K (zab 2)) (zai 0) zaq (tOp (rI0 fun i j=>.int (i+j)) (tOp (za2 K) (zab 0) (zab 2)) (zab 1)) [none,some 1,some 0]) (zfL (zac (tC (.int 1)) zao))) [none,some 1,some 0]) (zai 2))
 (zbM (tOp zj8 (zab 2) (zfL (zac (tOp zj8 (za5 (zbT K (zab 0)) (zai 0) zaq (tUn (rU fun i=>.int (-i)) (tC (.int 1))) [none]) (zfL (zac (tC (.int 0)) zao))) zao)))))
theorem zf4 {tt:Addr} {rs:List Addr} {rows:List (List Int)} {w:Nat} {lift:Int} (B:Tb H tt rs rows w) (q:∀ (gl:Addr) (us:List Addr) (H':Hp),zaR H H'→Grd H' gl us w rows.length (sx0 (aOf rows lift) w rows.length)→Q (.ref gl) H') :
  zdb K { nx:=fun _ H'=>Q .non H',rt:=Q } (L2.zbb ["table","lift","grid"] [.ref tt,.int lift]) H:=by
 unfold zdb
 have l12:=B.l6
 have w12:=B.w6
 have ln:=B.len
 obtain ⟨r0,row0,a0,h0,w0⟩:=B.first
 simp_all only [zab]
 refine ⟨_,SqL.of B.ht,_,a0,r0,rfl,_,.inl (SqL.of h0),?_⟩
 rw [List.length_map,w0]
 refine ⟨by omega,by omega,fun D hD=>?_⟩
 rw [Int.toNat_natCast]
 refine za8 (fun i ys σ H'=>zaR H H'∧(∃ us:List Addr,ys=us.map V.ref∧us.length=i∧∀ (k:Nat) x,us[k]?=some x→x≠D∧H' x=some (.lst (zen (sx0 (aOf rows lift) w rows.length) rows.length k)))∧∃ z,σ=[z,some (.int lift),some (.ref tt)]) ⟨zah hD _,⟨[],rfl,rfl,fun k x e=>nomatch e⟩,_,rfl⟩ ?_ ?_
 ·rintro i ys σ H2 hi hD2 ⟨s2,⟨us,rfl,lu,hu⟩,z,rfl⟩
  have B2:=B.same s2
  simp_all only [zab]
  refine ⟨⟨_,SqL.of B2.ht⟩,fun F hF=>?_⟩
  have lq:(rows.map fun row=>V.int (row.getD i 0+lift)).length=(rs.map V.ref).length:=by rw [List.length_map,List.length_map,ln]
  refine zcr B2.ht lq (by rw [List.length_map];omega) hF (fun j x v H3 R hx hv s3 hR=>?_) fun H3 s3 hF3=>?_
  ·obtain ⟨r,hr,rfl⟩:=zbO hx
   obtain ⟨row,e1,e2,e3⟩:=(B2.same s3).at hr
   rw [List.getElem?_map,e1] at hv
   cases hv
   simp_all only [zab]
   rw [Int.zero_add]
   refine ⟨_,SqL.of e2,_,zbz (by rw [List.getElem?_map,List.getElem?_eq_getElem (by omega)];rfl),_,rfl,?_⟩
   have:row[i]'(by omega)=row.getD i 0:=by rw [List.getD_eq_getElem?_getD,List.getElem?_eq_getElem (by omega)];rfl
   rw [this]
   exact hR H3 (.refl _)
  ·refine ⟨by decide,fun p hp=>?_⟩
   have nF:F≠p:=fun z=>by rw [← z,hF3] at hp;cases hp
   refine ⟨F,rfl,_,(zak nF).trans hF3,_,zae,by rw [List.length_map];simp only [sizeLine,List.length_cons,List.length_nil];omega,fun x hx=>?_⟩
   rw [← zoe hi]
   have s4:zaR H2 (L2.upd (L2.upd H3 p (.lst [V.int 1])) x (.lst (zen (sx0 (aOf rows lift) w rows.length) rows.length i))):=s3.trans ((zah hp _).trans (zah hx _))
   have hx4:(L2.upd (L2.upd H3 p (.lst [V.int 1])) x (.lst (zen (sx0 (aOf rows lift) w rows.length) rows.length i))) x=some (.lst (zen (sx0 (aOf rows lift) w rows.length) rows.length i)):=zae
   have nx:H2 x=none:=s3.free ((zah hp _).free hx)
   generalize L2.upd (L2.upd H3 p (.lst [V.int 1])) x (.lst (zen (sx0 (aOf rows lift) w rows.length) rows.length i))=H4 at s4 hx4 ⊢
   have nxD:x≠D:=fun z=>by rw [z,hD2] at nx;cases nx
   refine ⟨_,s4 _ _ hD2,zbm (by rw [List.length_map];omega),_,zae,(s2.trans s4).put hD,us++[x],by rw [List.map_append];rfl,by rw [List.length_append,lu];rfl,fun k y e=>?_⟩
   by_cases hk:k<us.length
   ·rw [List.getElem?_append_left hk] at e
    obtain ⟨z1,z2⟩:=hu k y e
    exact ⟨z1,by rw [zak z1];exact s4 _ _ z2⟩
   ·rw [List.getElem?_append_right (by omega)] at e
    have zk:k - us.length=0:=by
     have:=(List.getElem?_eq_some_iff.mp e).1
     simp only [List.length_cons,List.length_nil] at this
     omega
    rw [zk] at e
    cases e
    refine ⟨nxD,?_⟩
    rw [zak nxD,show k=i by omega]
    exact hx4
 ·rintro ys σ H2 hD2 ⟨s2,⟨us,rfl,lu,hu⟩,z,rfl⟩
  have B2:=B.same s2
  simp_all only [zab]
  refine ⟨⟨_,SqL.of B2.ht⟩,fun F hF=>?_⟩
  have lq:(rows.map fun _=>V.int (-1)).length=(rs.map V.ref).length:=by rw [List.length_map,List.length_map,ln]
  refine zcr B2.ht lq (by rw [List.length_map];omega) hF (fun j x v H3 R hx hv s3 hR=>?_) fun H3 s3 hF3=>?_
  ·rw [List.getElem?_map] at hv
   cases e:rows[j]? with
   | none=>rw [e] at hv;cases hv
   | some y =>
    rw [e] at hv
    cases hv
    simp_all only [zab]
    exact hR H3 (.refl _)
  ·refine ⟨by decide,fun p hp=>?_⟩
   have nF:F≠p:=fun z=>by rw [← z,hF3] at hp;cases hp
   refine ⟨F,rfl,_,(zak nF).trans hF3,_,zae,by rw [List.length_map];simp only [sizeLine,List.length_cons,List.length_nil];omega,fun x hx=>?_⟩
   rw [← zmD (lift:=lift) (w:=w)]
   have s4:zaR H2 (L2.upd (L2.upd H3 p (.lst [V.int 0])) x (.lst (zen (sx0 (aOf rows lift) w rows.length) rows.length w))):=s3.trans ((zah hp _).trans (zah hx _))
   have hx4:(L2.upd (L2.upd H3 p (.lst [V.int 0])) x (.lst (zen (sx0 (aOf rows lift) w rows.length) rows.length w))) x=some (.lst (zen (sx0 (aOf rows lift) w rows.length) rows.length w)):=zae
   generalize L2.upd (L2.upd H3 p (.lst [V.int 0])) x (.lst (zen (sx0 (aOf rows lift) w rows.length) rows.length w))=H4 at s4 hx4 ⊢
   refine ⟨by decide,fun y hy=>?_⟩
   have s5:=zah hy (.lst [V.ref x])
   refine ⟨_,s5 _ _ (s4 _ _ hD2),_,zae,by rw [List.length_map];simp only [sizeLine,List.length_cons,List.length_nil];omega,fun g hg=>?_⟩
   have s6:=s5.trans (zah hg (.lst (us.map V.ref++[V.ref x])))
   refine q g (us++[x]) _ (s2.trans (s4.trans s6)) ⟨?_,by rw [List.length_append,lu];rfl,fun k v e=>?_⟩
   ·rw [zae,List.map_append]
    rfl
   ·by_cases hk:k<us.length
    ·rw [List.getElem?_append_left hk] at e
     exact s6 _ _ (s4 _ _ (hu k v e).2)
    ·rw [List.getElem?_append_right (by omega)] at e
     have zk:k - us.length=0:=by
      have:=(List.getElem?_eq_some_iff.mp e).1
      simp only [List.length_cons,List.length_nil] at this
      omega
     rw [zk] at e
     cases e
     rw [show k=w by omega]
     exact s6 _ _ hx4
theorem zdK:zaB ["table","lift","grid"] ["table","lift"] (zag zbK):=⟨rfl,rfl,rfl,by decide +kernel,rfl,by decide +kernel,by decide +kernel⟩
theorem zf2 (T:Txt K mg base a):zcG P w K mg base CX0 1 a.f_first_grid a.d_first_grid ["table","lift"] ziN:=by
 refine T.F_first_grid.ok zdK (fun vs H Q E h=>?_) (fun cdv A outer s H vs Q E hr h=>?_)
 ·obtain ⟨tt,rs,rows,w,lift,rfl,B,q⟩:=h
  rfl
 obtain ⟨tt,rs,rows,w,lift,rfl,B,q⟩:=h
 exact ⟨zdb K,(zad (zhj (i:=2) zdK.nd rfl rfl (sc:=zag zbK) (N:=["table","lift","grid"]) (Nc:=["j","lift","table"]) (cap:=[none,some 1,some 0]) rfl rfl rfl (.of (by decide +kernel)) (zba rfl T.z_range (zaa (zax zar rfl T.z_len PySem.boot_len (zaa (zaw zan (pv 0) zaj (fun _ _=>rfl)) zaf)) zaf)) (fun _ _ _ _=>(zau (i:=0) (show List.Nodup (["j","lift","table"]:List Str) from by decide) rfl (Or.inr rfl))) (fun _ _ _ _=>za0) (fun _ _ _ _=>(zav zft (zbx (N:=["j","lift","table"]) (Nc:=["row","lift","j"]) (cap:=[none,some 1,some 0]) rfl (zhA.trans (congrArg (zds _) (rfl:_=zag zbK))) rfl (.of (by decide +kernel)) (zbn (pv 2)) (fun _ _ _ _=>(zau (i:=0) (show List.Nodup (["row","lift","j"]:List Str) from by decide) rfl (Or.inl rfl))) (fun _ _ _ _=>za0) (fun _ _ _ _=>(zav zcm (zaw zan (pv 0) (pv 2) (fun _ _=>rfl)) (pv 1)))) (zc7 (zaa zaj zaf)))))
 (zam (zaQ (zav zft (pv 2) (zc7 (zaa (zav zft (zbx (sc:=zag zbK) (N:=["table","lift","grid"]) (Nc:=["row"]) (cap:=[none]) rfl rfl rfl (.of (by decide +kernel)) (zbn (pv 0)) (fun _ _ _ _=>(zau (i:=0) (show List.Nodup (["row"]:List Str) from by decide) rfl (Or.inl rfl))) (fun _ _ _ _=>za0) (fun _ _ _ _=>(zd0 zcB zaj))) (zc7 (zaa zaj zaf))) zaf)))))),
  zf4 B q⟩
def Lst (f:Nat→Int) (n:Nat):List Int:=(List.range n).map f
structure Low (f:Nat→Int) (n:Nat) (ws:List Int) (g:Int):Prop where
 pos:0<g
 len:ws.length=n
 at':∀ i,i<n→f i=g*ws.getD i 0
theorem zlw {f:Nat→Int} {n:Nat} {g:Int} (G:ziH (Lst f n) g) {i:Nat} (hi:i<n) (n0:f i≠0):Low f n ((Lst f n).map fun x=>x.fdiv g) g:=by
 have mem:∀ j,j<n→f j∈Lst f n:=fun j hj=>List.mem_map.mpr ⟨j,List.mem_range.mpr hj,rfl⟩
 have p:=G.ne (mem i hi) n0
 refine ⟨p,by rw [List.length_map,Lst,List.length_map,List.length_range],fun j hj=>?_⟩
 rw [List.getD_eq_getElem?_getD,List.getElem?_map,Lst,List.getElem?_map,List.getElem?_range hj]
 show f j=g*(f j).fdiv g
 obtain ⟨d,hd⟩:=G.all _ (mem j hj)
 rw [hd,Int.mul_fdiv_cancel_left _ (by omega)]
theorem zjJ {f:Nat→Int} {n j:Nat} {x:Int} (h:j<n):((Lst f n).map V.int).set j (.int x)=(Lst (fun i=>if i=j then x else f i) n).map V.int:=by
 unfold Lst
 rw [List.map_map,List.map_map]
 refine List.ext_getElem? fun i=>?_
 rw [List.getElem?_set,List.getElem?_map,List.getElem?_map]
 by_cases hi:i<n
 ·rw [List.getElem?_range hi]
  by_cases e:j=i
  ·subst e
   rw [if_pos rfl,if_pos (by rw [List.length_map,List.length_range];exact h),Option.map_some]
   show _=some (V.int (if j=j then x else f j))
   rw [if_pos rfl]
  ·rw [if_neg e,Option.map_some,Option.map_some]
   show some (V.int (f i))=some (V.int (if i=j then x else f i))
   rw [if_neg (Ne.symm e)]
 ·rw [if_neg (by omega),List.getElem?_eq_none (by rw [List.length_range];omega)]
  rfl
def zi5 (C:Addr):Sp:=fun vs H Q _=>∃ (b dx gl il ul:Addr) (rows:List Addr) (α:Nat→Nat→Int) (m n:Nat) (t:Sx) (s:Bool),vs=[.ref b,.int n]∧Brd H C b dx gl il ul rows m n t s∧LP α m n t∧ziE m n t ∧
 ∀ (l:Addr) (ws:List Int) (g:Int) (H':Hp),zaR H H'→H' l=some (.lst (ws.map V.int))→Low (xw m n t) n ws g→Q (.ref l) H'
def zdh (K:PySem.W.Frag) (a:Ad):TS :=
 (zda (zbd (tOp (rI0 fun i j=>.bl (decide (i<j))) (zab 4) (zab 1))) (zaU (tOp (za2 K) (tOp (za2 K) (tAt a.c_Board (zab 0) "grid") (zab 3)) (tUn (rU fun i=>.int (-i)) (tC (.int 1)))) (zhv (zab 2) (zab 4) zdz)) zbo)
theorem za7 (K:PySem.W.Frag) (a:Ad) (D:zcb) (σ:St) (H:Hp):zdh K a D σ H=(zda (zbd (tOp (rI0 fun i j=>.bl (decide (i<j))) (zab 4) (zab 1))) (zaU (tOp (za2 K) (tOp (za2 K) (tAt a.c_Board (zab 0) "grid") (zab 3)) (tUn (rU fun i=>.int (-i)) (tC (.int 1)))) (zhv (zab 2) (zab 4) zdz)) zbo) D σ H:=rfl
def zcX (K:PySem.W.Frag) (a:Ad):TS :=
 (zaM (zaU (za5 (zc3 (zac (zab 1) zao)) (zai 0) zaq (tC (.int 0)) [none]) (zai 2))
 (zaM (zj5 (zk6 K (zac (tAt a.c_Board (zab 0) "busy") zao)) (zne K 2 (zfm (zai 3) (zfm (zai 4) znl)))
 (zdh K a))
 (zbM (zaA zgq [] E0 (zac (zab 2) zao)))))
theorem zfk {b dx gl il ul:Addr} {rows:List Addr} {α:Nat→Nat→Int} {m n:Nat} {t:Sx} {s:Bool} (B:Brd H a.c_Board b dx gl il ul rows m n t s) (L:LP α m n t) (Dn:ziE m n t)
  (q:∀ (l:Addr) (ws:List Int) (g:Int) (H':Hp),zaR H H'→H' l=some (.lst (ws.map V.int))→Low (xw m n t) n ws g→Q (.ref l) H') :
  zcX K a { nx:=fun _ H'=>Q .non H',rt:=Q } (L2.zbb ["board","many","weights","k","name"] [.ref b,.int n]) H:=by
 unfold zcX
 have m12:=L.m12
 have n12:=L.n12
 simp_all only [za7,zab]
 refine ⟨by omega,by omega,fun D hD=>?_⟩
 rw [Int.toNat_natCast]
 refine za8 (fun i ys σ H'=>zaR H H'∧ys=(Lst (fun _=>0) i).map V.int∧∃ z,σ=[z]) ⟨zah hD _,rfl,_,rfl⟩ ?_ ?_
 ·rintro i ys σ H' hi hD' ⟨s',rfl,z,rfl⟩
  simp_all only [za7,zab]
  refine ⟨_,hD',zbm (by rw [List.length_map,Lst,List.length_map,List.length_range];omega),_,zae,s'.put hD,?_⟩
  rw [Lst,Lst,List.range_succ,List.map_append,List.map_append]
  rfl
 ·rintro ys σ H1 hD1 ⟨s1,rfl,z,rfl⟩
  have B1:=B.same s1
  refine ⟨_,_,B1.hb,_,rfl,ul,rfl,⟨_,SqL.of B1.hu⟩,?_⟩
  refine zhi (K:=K) (xs:=nmL t.bs m) (fun i σ H'=>zaR H H'∧H' D=some (.lst ((Lst (fun j=>S i fun k=>if t.bs k=j then t.g k n else 0) n).map V.int))∧∃ x y,σ=[some (.ref b),some (.int n),some (.ref D),x,y]) ⟨s1,hD1,_,_,rfl⟩ ?_ ?_ ?_
  ·rintro i σ H' _ ⟨s',_⟩
   exact SqL.of (B.same s').hu
  ·rintro i v tp σ H2 hx ⟨s2,hD2,x,y,rfl⟩ ht
   have hi:i<m:=by
    have:=(List.getElem?_eq_some_iff.mp hx).1
    rwa [zcN] at this
   rw [zhm hi] at hx
   cases hx
   have ntD:D≠tp:=fun z=>by rw [← z,hD2] at ht;cases ht
   have s3:=s2.trans (zah ht (.tup [V.int (i:Int),V.int (t.bs i:Int)]))
   have hD3:=(zah ht (.tup [V.int (i:Int),V.int (t.bs i:Int)])) _ _ hD2
   have ht3:(L2.upd H2 tp (.tup [V.int (i:Int),V.int (t.bs i:Int)])) tp=some (.tup [V.int (i:Int),V.int (t.bs i:Int)]):=zae
   generalize L2.upd H2 tp (.tup [V.int (i:Int),V.int (t.bs i:Int)])=H3 at s3 hD3 ht3 ⊢
   have B3:=B.same s3
   obtain ⟨ri,_,h1,h2⟩:=B3.rowAt (k:=i) (by omega)
   simp_all only [za7,zab]
   refine ⟨_,SqT.of ht3,rfl,_,_,rfl,_,_,rfl,rfl,?_⟩
   simp_all only [za7,zab]
   refine zek (fun c=>?_) (fun c=>?_)
   ·have c:t.bs i<n:=by omega
    refine ⟨_,_,B3.hb,_,rfl,gl,rfl,_,SqL.of B3.hg,_,h2,ri,rfl,_,SqL.of h1,_,zd6,_,hD3,t.bs i,zfH (by rw [List.length_map,Lst,List.length_map,List.length_range];exact c),s3.put hD,?_⟩
    rw [zae,zjJ c]
    refine congrArg (fun z=>some (HO.lst (z.map V.int))) (List.map_congr_left fun j hj=>?_)
    show (if j=t.bs i then t.g i n else S i fun k=>if t.bs k=j then t.g k n else 0)=(S i fun k=>if t.bs k=j then t.g k n else 0)+if t.bs i=j then t.g i n else 0
    by_cases e:j=t.bs i
    ·rw [if_pos e,if_pos e.symm,zfg i fun k hk=>if_neg fun z=>by have:=L.F.tok.inj (k:=k) (l:=i) (by omega) (by omega) (z.trans e);omega]
     omega
    ·rw [if_neg e,if_neg (Ne.symm e)]
     omega
   ·refine ⟨s3,?_⟩
    rw [hD3]
    refine congrArg (fun z=>some (HO.lst (z.map V.int))) (List.map_congr_left fun j hj=>?_)
    have hj:=List.mem_range.mp hj
    show (S i fun k=>if t.bs k=j then t.g k n else 0)=(S i fun k=>if t.bs k=j then t.g k n else 0)+if t.bs i=j then t.g i n else 0
    rw [if_neg (by omega)]
    omega
  ·rintro σ H2 ⟨s2,hD2,x,y,rfl⟩
   rw [zcN] at hD2
   simp_all only [za7,zab]
   have vp:=L.F.vpos Dn (by have:=L.n1;omega)
   rw [← L.F.xsum] at vp
   obtain ⟨i,hi,pi⟩:=zkd vp
   have bi:Bd 9000 (xw m n t i):=by
    by_cases z:∃ k,k<m∧t.bs k=i
    ·obtain ⟨k,hk,rfl⟩:=z
     rw [zmn L.F.tok hk]
     exact (L.g (by omega) (by omega)).mono (by decide)
    ·rw [zmy fun k hk e=>z ⟨k,hk,e⟩]
     exact Nat.two_pow_pos _
   refine ⟨D,Lst (xw m n t) n,xw m n t i,rfl,hD2,by rw [Lst,List.length_map,List.length_range];omega,List.mem_map.mpr ⟨i,List.mem_range.mpr hi,rfl⟩,by omega,bi,fun r g H3 s3 G hr=>?_⟩
   exact q r _ g H3 (s2.trans s3) hr (zlw G hi (by omega))
theorem zbZ:zaB ["board","many","weights","k","name"] ["board","many"] (zag zcp):=⟨rfl,rfl,rfl,by decide +kernel,rfl,by decide +kernel,by decide +kernel⟩
theorem zfl (T:Txt K mg base a):zcG P w K mg base CX0 4 a.f_row_weights a.d_row_weights ["board","many"] (zi5 a.c_Board):=by
 have G_lowest:=zg4 (P:=P) (w:=w) (base:=base) T
 refine T.F_row_weights.ok zbZ (fun vs H Q E h=>?_) (fun cdv A outer s H vs Q E hr h=>?_)
 ·obtain ⟨b,dx,gl,il,ul,rows,α,m,n,t,s,rfl,B,L,Dn,q⟩:=h
  rfl
 obtain ⟨b,dx,gl,il,ul,rows,α,m,n,t,s,rfl,B,L,Dn,q⟩:=h
 exact ⟨zcX K a,(zad (zcq (i:=2) zbZ.nd rfl rfl (sc:=zag zcp) (N:=["board","many","weights","k","name"]) (Nc:=["k"]) (cap:=[none]) rfl rfl rfl (.of (by decide +kernel)) (zba rfl T.z_range (zaa (pv 1) zaf)) (fun _ _ _ _=>(zau (i:=0) (show List.Nodup (["k"]:List Str) from by decide) rfl (Or.inl rfl))) (fun _ _ _ _=>za0) (fun _ _ _ _=>zaj))
 (zad (zex PassesOwn.never rfl (zi4 rfl T.z_enumerate (zaa (zbC T.cl_Board T.na_Board_busy (pv 0)) zaf)) (zjq rfl (zdq (zau (i:=3) zbZ.nd rfl (Or.inl rfl)) (zdq (zau (i:=4) zbZ.nd rfl (Or.inl rfl)) zho)))
 (zam (zcZ (zbh zhT (pv 4) (pv 1) (zbp _)) (zam (zdN (zaw zan (zaw zan (zbC T.cl_Board T.na_Board_grid (pv 0)) (pv 3) (fun _ _=>rfl)) (zd0 zcB zaj) (fun _ _=>rfl)) (zeA (pv 2) (pv 4) zcE))) zbi)))
 (zam (zaQ (zap G_lowest (hr.mono (by decide)) rfl T.m_lowest T.F_lowest.kp T.b_lowest .nil zaW (zaa (pv 2) zaf)))))),
  zfk B L Dn q⟩
def yp (α:Nat→Nat→Int) (m n:Nat) (t:Sx) (i j:Nat):Int:=if (List.range i).any (fun k=>t.id k == n+j)=true then yw α m n t j else 0
theorem zjC {α:Nat→Nat→Int} {m n:Nat} {t:Sx} {i j:Nat}:yp α m n t (i+1) j=if t.id i=n+j then yw α m n t j else yp α m n t i j:=by
 unfold yp
 rw [List.range_succ,List.any_append]
 by_cases e:t.id i=n+j
 ·rw [if_pos e,if_pos]
  simp [e]
 ·rw [if_neg e]
  have:([i].any fun k=>t.id k == n+j)=false:=by simp [e]
  rw [this,Bool.or_false]
theorem znF {α:Nat→Nat→Int} {m n:Nat} {t:Sx} (F:Fea m n (zbr α m n) t) {j:Nat} (hj:j<m):yp α m n t n j=yw α m n t j:=by
 unfold yp
 by_cases e:((List.range n).any fun k=>t.id k == n+j)=true
 ·rw [if_pos e]
 ·rw [if_neg e,zmP F hj]
  intro c hc z
  refine e (List.any_eq_true.mpr ⟨c,List.mem_range.mpr hc,?_⟩)
  rw [z]
  exact beq_self_eq_true _
def zjk (C:Addr):Sp:=fun vs H Q _=>∃ (b dx gl il ul:Addr) (rows:List Addr) (α:Nat→Nat→Int) (m n:Nat) (t:Sx) (s:Bool),vs=[.ref b,.int n,.int m]∧Brd H C b dx gl il ul rows m n t s∧LP α m n t∧ziE m n t ∧
 ∀ (l:Addr) (ws:List Int) (g:Int) (H':Hp),zaR H H'→H' l=some (.lst (ws.map V.int))→Low (yw α m n t) m ws g→Q (.ref l) H'
def zcA (K:PySem.W.Frag) (a:Ad):TS :=
 (zda (zbd (tOp (rI0 fun i j=>.bl (decide (j≤i))) (zab 5) (zab 1))) (zaU (tOp (za2 K) (tOp (za2 K) (tAt a.c_Board (zab 0) "grid") (tUn (rU fun i=>.int (-i)) (tC (.int 1)))) (zab 4)) (zhv (zab 3) (tOp (rI0 fun i j=>.int (i - j)) (zab 5) (zab 1)) zdz)) zbo)
theorem zaV (K:PySem.W.Frag) (a:Ad) (D:zcb) (σ:St) (H:Hp):zcA K a D σ H=(zda (zbd (tOp (rI0 fun i j=>.bl (decide (j≤i))) (zab 5) (zab 1))) (zaU (tOp (za2 K) (tOp (za2 K) (tAt a.c_Board (zab 0) "grid") (tUn (rU fun i=>.int (-i)) (tC (.int 1)))) (zab 4)) (zhv (zab 3) (tOp (rI0 fun i j=>.int (i - j)) (zab 5) (zab 1)) zdz)) zbo) D σ H:=rfl
def zch (K:PySem.W.Frag) (a:Ad):TS :=
 (zaM (zaU (za5 (zc3 (zac (zab 2) zao)) (zai 0) zaq (tC (.int 0)) [none]) (zai 3))
 (zaM (zj5 (zk6 K (zac (tAt a.c_Board (zab 0) "idle") zao)) (zne K 2 (zfm (zai 4) (zfm (zai 5) znl)))
 (zcA K a))
 (zbM (zaA zgq [] E0 (zac (zab 3) zao)))))
theorem zed {b dx gl il ul:Addr} {rows:List Addr} {α:Nat→Nat→Int} {m n:Nat} {t:Sx} {s:Bool} (B:Brd H a.c_Board b dx gl il ul rows m n t s) (L:LP α m n t) (Dn:ziE m n t)
  (q:∀ (l:Addr) (ws:List Int) (g:Int) (H':Hp),zaR H H'→H' l=some (.lst (ws.map V.int))→Low (yw α m n t) m ws g→Q (.ref l) H') :
  zch K a { nx:=fun _ H'=>Q .non H',rt:=Q } (L2.zbb ["board","rows","many","weights","k","name"] [.ref b,.int n,.int m]) H:=by
 unfold zch
 have m12:=L.m12
 have n12:=L.n12
 simp_all only [zaV,zab]
 refine ⟨by omega,by omega,fun D hD=>?_⟩
 rw [Int.toNat_natCast]
 refine za8 (fun i ys σ H'=>zaR H H'∧ys=(Lst (fun _=>0) i).map V.int∧∃ z,σ=[z]) ⟨zah hD _,rfl,_,rfl⟩ ?_ ?_
 ·rintro i ys σ H' hi hD' ⟨s',rfl,z,rfl⟩
  simp_all only [zaV,zab]
  refine ⟨_,hD',zbm (by rw [List.length_map,Lst,List.length_map,List.length_range];omega),_,zae,s'.put hD,?_⟩
  rw [Lst,Lst,List.range_succ,List.map_append,List.map_append]
  rfl
 ·rintro ys σ H1 hD1 ⟨s1,rfl,z,rfl⟩
  have B1:=B.same s1
  refine ⟨_,_,B1.hb,_,rfl,il,rfl,⟨_,SqL.of B1.hi⟩,?_⟩
  refine zhi (K:=K) (xs:=nmL t.id n) (fun i σ H'=>zaR H H'∧H' D=some (.lst ((Lst (yp α m n t i) m).map V.int))∧∃ x y,σ=[some (.ref b),some (.int n),some (.int m),some (.ref D),x,y]) ⟨s1,hD1,_,_,rfl⟩ ?_ ?_ ?_
  ·rintro i σ H' _ ⟨s',_⟩
   exact SqL.of (B.same s').hi
  ·rintro i v tp σ H2 hx ⟨s2,hD2,x,y,rfl⟩ ht
   have hi:i<n:=by
    have:=(List.getElem?_eq_some_iff.mp hx).1
    rwa [zcN] at this
   rw [zhm hi] at hx
   cases hx
   have s3:=s2.trans (zah ht (.tup [V.int (i:Int),V.int (t.id i:Int)]))
   have hD3:=(zah ht (.tup [V.int (i:Int),V.int (t.id i:Int)])) _ _ hD2
   have ht3:(L2.upd H2 tp (.tup [V.int (i:Int),V.int (t.id i:Int)])) tp=some (.tup [V.int (i:Int),V.int (t.id i:Int)]):=zae
   generalize L2.upd H2 tp (.tup [V.int (i:Int),V.int (t.id i:Int)])=H3 at s3 hD3 ht3 ⊢
   have B3:=B.same s3
   have il':=L.F.il i hi
   obtain ⟨re,h1,h2⟩:=B3.rowEnd
   simp_all only [zaV,zab]
   refine ⟨_,SqT.of ht3,rfl,_,_,rfl,_,_,rfl,rfl,?_⟩
   simp_all only [zaV,zab]
   refine zek (fun c=>?_) (fun c=>?_)
   ·have c:n≤t.id i:=by omega
    have ej:(t.id i:Int) - (n:Int)=((t.id i - n:Nat):Int):=by omega
    rw [ej]
    refine ⟨_,_,B3.hb,_,rfl,gl,rfl,_,SqL.of B3.hg,_,h2,re,rfl,_,SqL.of h1,_,zbV (by omega),_,hD3,t.id i - n,zfH (by rw [List.length_map,Lst,List.length_map,List.length_range];omega),s3.put hD,?_⟩
    rw [zae,zjJ (by omega)]
    refine congrArg (fun z=>some (HO.lst (z.map V.int))) (List.map_congr_left fun j hj=>?_)
    show (if j=t.id i - n then t.g m i else yp α m n t i j)=yp α m n t (i+1) j
    rw [zjC]
    by_cases e:j=t.id i - n
    ·rw [if_pos e,if_pos (by omega),e,zlS L.F.tok hi c]
    ·rw [if_neg e,if_neg (by omega)]
   ·refine ⟨s3,?_⟩
    rw [hD3]
    refine congrArg (fun z=>some (HO.lst (z.map V.int))) (List.map_congr_left fun j hj=>?_)
    rw [zjC,if_neg (by omega)]
  ·rintro σ H2 ⟨s2,hD2,x,y,rfl⟩
   rw [zcN,show Lst (yp α m n t n) m=Lst (yw α m n t) m from List.map_congr_left fun j hj=>znF L.F (List.mem_range.mp hj)] at hD2
   simp_all only [zaV,zab]
   have vp:=L.F.vpos Dn (by have:=L.n1;omega)
   rw [← L.F.ysum] at vp
   obtain ⟨i,hi,pi⟩:=zkd vp
   refine ⟨D,Lst (yw α m n t) m,yw α m n t i,rfl,hD2,by rw [Lst,List.length_map,List.length_range];omega,List.mem_map.mpr ⟨i,List.mem_range.mpr hi,rfl⟩,by omega,(L.y i).mono (by decide),fun r g H3 s3 G hr=>?_⟩
   exact q r _ g H3 (s2.trans s3) hr (zlw G hi (by omega))
theorem zbv:zaB ["board","rows","many","weights","k","name"] ["board","rows","many"] (zag zbF):=⟨rfl,rfl,rfl,by decide +kernel,rfl,by decide +kernel,by decide +kernel⟩
theorem zeo (T:Txt K mg base a):zcG P w K mg base CX0 4 a.f_column_weights a.d_column_weights ["board","rows","many"] (zjk a.c_Board):=by
 have G_lowest:=zg4 (P:=P) (w:=w) (base:=base) T
 refine T.F_column_weights.ok zbv (fun vs H Q E h=>?_) (fun cdv A outer s H vs Q E hr h=>?_)
 ·obtain ⟨b,dx,gl,il,ul,rows,α,m,n,t,s,rfl,B,L,Dn,q⟩:=h
  rfl
 obtain ⟨b,dx,gl,il,ul,rows,α,m,n,t,s,rfl,B,L,Dn,q⟩:=h
 exact ⟨zch K a,(zad (zcq (i:=3) zbv.nd rfl rfl (sc:=zag zbF) (N:=["board","rows","many","weights","k","name"]) (Nc:=["k"]) (cap:=[none]) rfl rfl rfl (.of (by decide +kernel)) (zba rfl T.z_range (zaa (pv 2) zaf)) (fun _ _ _ _=>(zau (i:=0) (show List.Nodup (["k"]:List Str) from by decide) rfl (Or.inl rfl))) (fun _ _ _ _=>za0) (fun _ _ _ _=>zaj))
 (zad (zex PassesOwn.never rfl (zi4 rfl T.z_enumerate (zaa (zbC T.cl_Board T.na_Board_idle (pv 0)) zaf)) (zjq rfl (zdq (zau (i:=4) zbv.nd rfl (Or.inl rfl)) (zdq (zau (i:=5) zbv.nd rfl (Or.inl rfl)) zho)))
 (zam (zcZ (zbh op_ge (pv 5) (pv 1) (zbp _)) (zam (zdN (zaw zan (zaw zan (zbC T.cl_Board T.na_Board_grid (pv 0)) (zd0 zcB zaj) (fun _ _=>rfl)) (pv 4) (fun _ _=>rfl)) (zeA (pv 3) (zav zc8 (pv 5) (pv 1)) zcE))) zbi)))
 (zam (zaQ (zap G_lowest (hr.mono (by decide)) rfl T.m_lowest T.F_lowest.kp T.b_lowest .nil zaW (zaa (pv 3) zaf)))))),
  zed B L Dn q⟩
theorem zl4 {c:TT} {tb:TS} {D:zcb} {σ:St} {H:Hp} (W:Nat→St→Hp→Prop) {m:Nat} (h0:W m σ H)
  (hs:∀ m σ H,W m σ H→c σ H fun b H1=>if b=true then ∃ N:St→Hp→Prop,(∀ σ' H',N σ' H'→∃ m',m'<m∧W m' σ' H')∧tb { D with nx:=N,ct:=N,bk:=D.nx } σ H1 else D.nx σ H1):zeP c tb D σ H:=⟨W,⟨m,h0⟩,hs⟩
def zkl (m n:Nat) (vec:Nat→Nat→Int) (t:Sx) (s:Bool) (L:Nat):Prop:=∃ st rr cc su,Run m n vec st rr cc su L∧st L=t∧su L=s
theorem zkl.zero {m n:Nat} {vec:Nat→Nat→Int} {t:Sx} (F:Fea m n vec t) (s:Bool):zkl m n vec t s 0 :=
 ⟨fun _=>t,fun _=>0,fun _=>0,fun _=>s,⟨fun _ _=>F,fun i h=>absurd h (Nat.not_lt_zero i),fun i h=>absurd h (Nat.not_lt_zero i),fun i h=>absurd h (Nat.not_lt_zero i)⟩,rfl,rfl⟩
theorem zkl.lt {m n:Nat} {vec:Nat→Nat→Int} {t:Sx} {s:Bool} {L:Nat} (h:zkl m n vec t s L):L<(n+m+2) ^ (m+n+1):=by
 obtain ⟨_,_,_,_,R,_⟩:=h
 exact R.ends
theorem zkl.step {m n:Nat} {vec:Nat→Nat→Int} {t:Sx} {s:Bool} {L r c:Nat} (h:zkl m n vec t s L) (hs:Stp m n t s r c):zkl m n vec (piv t r c) (decide (t.g r n=0)) (L+1):=by
 obtain ⟨st,rr,cc,su,R,e1,e2⟩:=h
 have a1:∀ i,i≤L→(if i≤L then st i else piv t r c)=st i:=fun i hi=>if_pos hi
 have a2:(if L+1≤L then st (L+1) else piv t r c)=piv t r c:=if_neg (by omega)
 have b1:∀ i,i≤L→(if i≤L then su i else decide (t.g r n=0))=su i:=fun i hi=>if_pos hi
 have b2:(if L+1≤L then su (L+1) else decide (t.g r n=0))=decide (t.g r n=0):=if_neg (by omega)
 have c1:∀ i,i<L→(if i<L then rr i else r)=rr i:=fun i hi=>if_pos hi
 have c2:(if L<L then rr L else r)=r:=if_neg (by omega)
 have d1:∀ i,i<L→(if i<L then cc i else c)=cc i:=fun i hi=>if_pos hi
 have d2:(if L<L then cc L else c)=c:=if_neg (by omega)
 refine ⟨fun i=>if i≤L then st i else piv t r c,fun i=>if i<L then rr i else r,fun i=>if i<L then cc i else c,fun i=>if i≤L then su i else decide (t.g r n=0),⟨fun i hi=>?_,fun i hi=>?_,fun i hi=>?_,fun i hi=>?_⟩,a2,b2⟩
 ·by_cases q:i≤L
  ·show Fea m n vec (if i≤L then st i else piv t r c)
   rw [a1 i q]
   exact R.ok i q
  ·show Fea m n vec (if i≤L then st i else piv t r c)
   rw [if_neg q]
   have:=R.ok L (Nat.le_refl L)
   rw [e1] at this
   exact this.piv hs
 ·show (if i+1≤L then st (i+1) else piv t r c)=piv (if i≤L then st i else piv t r c) (if i<L then rr i else r) (if i<L then cc i else c)
  by_cases q:i<L
  ·rw [a1 (i+1) q,a1 i (by omega),c1 i q,d1 i q,R.nx i q]
  ·have:i=L:=by omega
   subst this
   rw [a2,a1 i (by omega),c2,d2,e1]
 ·show Stp m n (if i≤L then st i else piv t r c) (if i≤L then su i else decide (t.g r n=0)) (if i<L then rr i else r) (if i<L then cc i else c)
  by_cases q:i<L
  ·rw [a1 i (by omega),b1 i (by omega),c1 i q,d1 i q]
   exact R.by' i q
  ·have:i=L:=by omega
   subst this
   rw [a1 i (by omega),b1 i (by omega),c2,d2,e1,e2]
   exact hs
 ·show (if i+1≤L then su (i+1) else decide (t.g r n=0))=decide ((if i≤L then st i else piv t r c).g (if i<L then rr i else r) n=0)
  by_cases q:i<L
  ·rw [b1 (i+1) q,a1 i (by omega),c1 i q]
   exact R.sk i q
  ·have:i=L:=by omega
   subst this
   rw [b2,a1 i (by omega),c2,e1]
def ent (rows:List (List Int)) (i j:Nat):Int:=(rows.getD i []).getD j 0
structure Sol (rows:List (List Int)) (w:Nat) (W:Rat) (R C:List Int):Prop where
 rl:R.length=rows.length
 cl:C.length=w
 r0:∀ i,i<rows.length→0≤R.getD i 0
 c0:∀ j,j<w→0≤C.getD j 0
 rp:0<S rows.length fun i=>R.getD i 0
 cp:0<S w fun j=>C.getD j 0
 col:∀ j,j<w→(((S rows.length fun i=>R.getD i 0*ent rows i j:Int)):Rat)≤W*((S rows.length fun i=>R.getD i 0:Int):Rat)
 row:∀ i,i<rows.length→W*((S w fun j=>C.getD j 0:Int):Rat)≤((S w fun j=>C.getD j 0*ent rows i j:Int):Rat)
theorem zjQ {f h:Nat→Int} {n:Nat} {ws:List Int} {g:Int} (L:Low f n ws g):(S n fun i=>f i*h i)=g*S n fun i=>ws.getD i 0*h i:=by
 rw [← zdG]
 exact zay n fun i hi=>by rw [L.at' i hi,Int.mul_assoc]
theorem zh5 {f:Nat→Int} {n:Nat} {ws:List Int} {g:Int} (L:Low f n ws g):(S n fun i=>f i)=g*S n fun i=>ws.getD i 0:=by
 rw [← zdG]
 exact zay n fun i hi=>L.at' i hi
theorem znC {rows:List (List Int)} {w:Nat} {lift:Int} {t:Sx} {R C:List Int} {g h:Int} (L:LP (aOf rows lift) w rows.length t) (D:ziE w rows.length t) (lR:Low (xw w rows.length t) rows.length R g) (lC:Low (yw (aOf rows lift) w rows.length t) w C h) :
  Sol rows w (Rat.divInt t.d (t.g w rows.length)+((-lift:Int):Rat)) R C:=by
 have F:=L.F
 have n1:=L.n1
 have vp:=F.vpos D (by omega)
 have gp:=lR.pos
 have hp:=lC.pos
 have vq:((t.g w rows.length:Int):Rat)≠0:=fun z=>by
  have:t.g w rows.length=0:=by exact_mod_cast z
  omega
 have vr:(0:Rat)<((t.g w rows.length:Int):Rat):=by exact_mod_cast vp
 have gr:(0:Rat)<(g:Rat):=by exact_mod_cast gp
 have hr:(0:Rat)<(h:Rat):=by exact_mod_cast hp
 have key:(Rat.divInt t.d (t.g w rows.length)+((-lift:Int):Rat))*((t.g w rows.length:Int):Rat)=((t.d - lift*t.g w rows.length:Int):Rat):=by
  rw [Rat.divInt_eq_div]
  push_cast
  grind
 generalize Rat.divInt t.d (t.g w rows.length)+((-lift:Int):Rat)=W at key ⊢
 have sx:=zh5 lR
 rw [F.xsum] at sx
 have sy:=zh5 lC
 rw [F.ysum] at sy
 refine ⟨lR.len,lC.len,fun i hi=>?_,fun j hj=>?_,?_,?_,fun j hj=>?_,fun i hi=>?_⟩
 ·have:=F.x0 i
  rw [lR.at' i hi] at this
  exact Int.nonneg_of_mul_nonneg_right this gp
 ·have:=F.y0 D hj
  rw [lC.at' j hj] at this
  exact Int.nonneg_of_mul_nonneg_right this hp
 ·rw [sx] at vp
  exact Int.pos_of_mul_pos_right vp gp
 ·rw [sy] at vp
  exact Int.pos_of_mul_pos_right vp hp
 ·have xc:=F.xcol hj
  have e:(S rows.length fun i=>xw w rows.length t i*aOf rows lift i j)=(S rows.length fun i=>xw w rows.length t i*ent rows i j)+lift*t.g w rows.length:=by
   have:(S rows.length fun i=>xw w rows.length t i*aOf rows lift i j)=S rows.length fun i=>1*(xw w rows.length t i*ent rows i j)+lift*xw w rows.length t i:=zay _ fun i _=>by
    show xw w rows.length t i*(ent rows i j+lift)=_
    grind
   rw [this,ze8,show (S rows.length fun i=>xw w rows.length t i)=t.g w rows.length from F.xsum,Int.one_mul]
  rw [e,zjQ lR] at xc
  generalize (S rows.length fun i=>R.getD i 0*ent rows i j)=A at xc ⊢
  generalize (S rows.length fun i=>R.getD i 0)=B at sx ⊢
  have xq:((g*A:Int):Rat)≤((t.d - lift*t.g w rows.length:Int):Rat):=by
   have:g*A≤t.d - lift*t.g w rows.length:=by omega
   exact_mod_cast this
  rw [← key,sx] at xq
  push_cast at xq
  have:(g:Rat)*(A:Rat)≤(g:Rat)*(W*(B:Rat)):=by
   have z:W*((g:Rat)*(B:Rat))=(g:Rat)*(W*(B:Rat)):=by grind
   rw [← z]
   exact xq
  exact Rat.le_of_mul_le_mul_left this gr
 ·have yr:=F.yrow D hi
  have e:(S w fun j=>yw (aOf rows lift) w rows.length t j*aOf rows lift i j)=(S w fun j=>yw (aOf rows lift) w rows.length t j*ent rows i j)+lift*t.g w rows.length:=by
   have:(S w fun j=>yw (aOf rows lift) w rows.length t j*aOf rows lift i j)=S w fun j=>1*(yw (aOf rows lift) w rows.length t j*ent rows i j)+lift*yw (aOf rows lift) w rows.length t j:=zay _ fun j _=>by
    show yw (aOf rows lift) w rows.length t j*(ent rows i j+lift)=_
    grind
   rw [this,ze8,show (S w fun j=>yw (aOf rows lift) w rows.length t j)=t.g w rows.length from F.ysum,Int.one_mul]
  rw [e,zjQ lC] at yr
  generalize (S w fun j=>C.getD j 0*ent rows i j)=A at yr ⊢
  generalize (S w fun j=>C.getD j 0)=B at sy ⊢
  have yq:((t.d - lift*t.g w rows.length:Int):Rat)≤((h*A:Int):Rat):=by
   have:t.d - lift*t.g w rows.length≤h*A:=by omega
   exact_mod_cast this
  rw [← key,sy] at yq
  push_cast at yq
  have:(h:Rat)*(W*(B:Rat))≤(h:Rat)*(A:Rat):=by
   have z:W*((h:Rat)*(B:Rat))=(h:Rat)*(W*(B:Rat)):=by grind
   rw [← z]
   exact yq
  exact Rat.le_of_mul_le_mul_left this hr
def Col (m n:Nat) (t:Sx) (s:Bool) (v:V):Prop:=(v=.non∧ziE m n t)∨∃ c:Nat,v=.int c∧c<n∧t.g m c<0∧(s=true→∀ j,j<n→t.g m j<0→t.id c≤t.id j)
def zgj (P:Addr):Sp:=fun vs H Q _=>∃ (tt:Addr) (rs:List Addr) (rows:List (List Int)) (w:Nat),vs=[.ref tt]∧Tb H tt rs rows w∧LT H P ∧
 ∀ (r wr rl cl:Addr) (W:Rat) (R C:List Int) (H':Hp),Bar P H H'→LT H' P→H' r=some (.tup [.ref wr,.ref rl,.ref cl])→H' wr=some (.tup (fr W))→H' rl=some (.lst (R.map V.int))→H' cl=some (.lst (C.map V.int))→Sol rows w W R C→Bq 2801 W→Q (.ref r) H'
theorem Tb.bar {H H':Hp} {P tt:Addr} {rs:List Addr} {rows:List (List Int)} {w:Nat} (B:Tb H tt rs rows w) (L:LT H P) (e:Bar P H H'):Tb H' tt rs rows w :=
 ⟨e _ _ (L.neL B.ht) B.ht,B.len,fun i r row e1 e2=>e _ _ (L.neL (B.hr i r row e1 e2)) (B.hr i r row e1 e2),B.hw,B.l1,B.l6,B.w1,B.w6,B.bd⟩
theorem zaR.bar {P:Addr} {H H':Hp} (s:zaR H H'):Bar P H H':=fun _ _ _ e=>s _ _ e
theorem zcv {P:Addr} {H H' H2:Hp} (s:Bar P H H') (s2:Bar P H' H2):Bar P H H2:=fun x o n e=>s2 _ _ n (s _ _ n e)
def zec (a:Ad):TS :=
 (zaM (zgf (zdo a.c_Board "swap" (zjc a.c_Board) [] E0 (zab 2) (zac (zdo a.c_Board "leaving" (zhH a.c_Board) [] E0 (zab 2) (zac (zab 3) zao)) (zac (zab 3) zao))))
 (zaU (zdo a.c_Board "entering" (zfQ a.c_Board a.p_lam) [] E0 (zab 2) zao) (zai 3)))
theorem zcW (a:Ad) (D:zcb) (σ:St) (H:Hp):zec a D σ H=(zaM (zgf (zdo a.c_Board "swap" (zjc a.c_Board) [] E0 (zab 2) (zac (zdo a.c_Board "leaving" (zhH a.c_Board) [] E0 (zab 2) (zac (zab 3) zao)) (zac (zab 3) zao))))
 (zaU (zdo a.c_Board "entering" (zfQ a.c_Board a.p_lam) [] E0 (zab 2) zao) (zai 3))) D σ H:=rfl
def zef (K:PySem.W.Frag) (a:Ad):TS :=
 (zaM (zaU (zaA zhO [] E0 (zac (zaA zkI [] E0 (zac (tAt a.c_Board (zab 2) "scale") (zac (tOp (za2 K) (tOp (za2 K) (tAt a.c_Board (zab 2) "grid") (tUn (rU fun i=>.int (-i)) (tC (.int 1)))) (tUn (rU fun i=>.int (-i)) (tC (.int 1)))) zao))) (zac (zgu (zac (tUn (rU fun i=>.int (-i)) (zab 1)) (zac (tC (.int 1)) zao))) zao))) (zai 4))
 (zaM (zaU (tCB (fun xs H Q=>∃ p ys,xs=[.ref p]∧(SqL K H p ys∨SqT K H p ys)∧Q (.int ys.length) H) (zac (zab 0) zao)) (zai 5))
 (zbM (zgu (zac (zab 4) (zac (zaA (zi5 a.c_Board) [] E0 (zac (zab 2) (zac (zab 5) zao))) (zac (zaA (zjk a.c_Board) [] E0 (zac (zab 2) (zac (zab 5) (zac (tCB (fun xs H Q=>∃ p ys,xs=[.ref p]∧(SqL K H p ys∨SqT K H p ys)∧Q (.int ys.length) H) (zac (tOp (za2 K) (zab 0) (tC (.int 0))) zao)) zao)))) zao)))))))
theorem zc6 (K:PySem.W.Frag) (a:Ad) (D:zcb) (σ:St) (H:Hp):zef K a D σ H=(zaM (zaU (zaA zhO [] E0 (zac (zaA zkI [] E0 (zac (tAt a.c_Board (zab 2) "scale") (zac (tOp (za2 K) (tOp (za2 K) (tAt a.c_Board (zab 2) "grid") (tUn (rU fun i=>.int (-i)) (tC (.int 1)))) (tUn (rU fun i=>.int (-i)) (tC (.int 1)))) zao))) (zac (zgu (zac (tUn (rU fun i=>.int (-i)) (zab 1)) (zac (tC (.int 1)) zao))) zao))) (zai 4))
 (zaM (zaU (tCB (fun xs H Q=>∃ p ys,xs=[.ref p]∧(SqL K H p ys∨SqT K H p ys)∧Q (.int ys.length) H) (zac (zab 0) zao)) (zai 5))
 (zbM (zgu (zac (zab 4) (zac (zaA (zi5 a.c_Board) [] E0 (zac (zab 2) (zac (zab 5) zao))) (zac (zaA (zjk a.c_Board) [] E0 (zac (zab 2) (zac (zab 5) (zac (tCB (fun xs H Q=>∃ p ys,xs=[.ref p]∧(SqL K H p ys∨SqT K H p ys)∧Q (.int ys.length) H) (zac (tOp (za2 K) (zab 0) (tC (.int 0))) zao)) zao)))) zao))))))) D σ H:=rfl
def zfM (K:PySem.W.Frag) (a:Ad):TS :=
 (zaM (zaU (tOp (rI0 fun i j=>.int (i - j)) (tC (.int 1)) (tCB (zkn K) (zac (za5 (zbT K (zab 0)) (zai 0) zaq (tCB (zkn K) (zac (zab 0) zao)) [none]) zao))) (zai 1))
 (zaM (zaU (zmV a.c_Board (zi2 a.c_Board) [] E0 (zac (zaA ziN [] E0 (zac (zab 0) (zac (zab 1) zao))) zao)) (zai 2))
 (zaM (zaU (zdo a.c_Board "entering" (zfQ a.c_Board a.p_lam) [] E0 (zab 2) zao) (zai 3))
 (zaM (zeP (zbd (tOp (fun x y H Q=>y=.non∧Q (.bl (!decide (x=.non))) H) (zab 3) (tC .non))) (zec a))
 (zef K a)))))
theorem zjl {tt:Addr} {rs:List Addr} {rows:List (List Int)} {w:Nat} (B:Tb H tt rs rows w) (LH:LT H a.p_lam)
  (q:∀ (r wr rl cl:Addr) (W:Rat) (R C:List Int) (H':Hp),Bar a.p_lam H H'→LT H' a.p_lam→H' r=some (.tup [.ref wr,.ref rl,.ref cl])→H' wr=some (.tup (fr W))→H' rl=some (.lst (R.map V.int))→H' cl=some (.lst (C.map V.int))→Sol rows w W R C→Bq 2801 W→Q (.ref r) H') :
  zfM K a { nx:=fun _ H'=>Q .non H',rt:=Q } (L2.zbb ["table","lift","board","column","worth","rows"] [.ref tt]) H:=by
 unfold zfM
 have l1:=B.l1
 have l12:=B.l6
 have w1:=B.w1
 have w12:=B.w6
 have ln:=B.len
 simp_all only [zcW,zc6,zab]
 refine ⟨⟨_,SqL.of B.ht⟩,fun D hD=>?_⟩
 refine zbs (K:=K) (xs:=rs.map V.ref) (fun i ys σ H'=>zaR H H'∧(∃ ms:List Int,ys=ms.map V.int∧ms.length=i∧(∀ x∈ms,Bd 102 x)∧∀ k,k<i→∀ j,j<w→ms.getD k 0≤ent rows k j)∧∃ z,σ=[z]) ⟨zah hD _,⟨[],rfl,rfl,fun x h=>(nomatch h),fun k hk=>absurd hk (Nat.not_lt_zero k)⟩,_,rfl⟩ ?_ ?_ ?_
 ·rintro i ys σ H' _ ⟨s,_⟩
  exact SqL.of (s _ _ B.ht)
 ·rintro i x ys σ H' hx hD' ⟨s,⟨ms,rfl,lm,mb,ml⟩,z,rfl⟩
  obtain ⟨r,hr,rfl⟩:=zbO hx
  obtain ⟨row,e1,e2,e3⟩:=B.at hr
  have hi:=(List.getElem?_eq_some_iff.mp e1).1
  simp_all only [zcW,zc6,zab]
  have er:rows.getD i []=row:=by rw [List.getD_eq_getElem?_getD,e1];rfl
  refine ⟨row,SqL.of (s _ _ e2),by omega,fun m hm le=>⟨_,hD',zbm (by rw [List.length_map];omega),_,zae,s.put hD,ms++[m],by rw [List.map_append];rfl,by rw [List.length_append,lm];rfl,fun x hx=>?_,fun k hk j hj=>?_⟩⟩
  ·rcases List.mem_append.mp hx with h | h
   ·exact mb x h
   ·rw [List.mem_singleton.mp h]
    exact B.bd row (ziJ e1) m hm
  ·by_cases ek:k=i
   ·subst ek
    rw [List.getD_eq_getElem?_getD,List.getElem?_append_right (by omega),lm,Nat.sub_self,ent,er]
    refine le _ ?_
    rw [List.getD_eq_getElem?_getD,List.getElem?_eq_getElem (by omega)]
    exact List.getElem_mem _
   ·rw [List.getD_eq_getElem?_getD,List.getElem?_append_left (by omega),← List.getD_eq_getElem?_getD]
    exact ml k (by omega) j hj
 ·rintro ys σ H1 hD1 ⟨s1,⟨ms,rfl,lm,mb,ml⟩,z,rfl⟩
  rw [List.length_map,ln] at lm ml
  refine ⟨D,rfl,ms,SqL.of hD1,by omega,fun M hM le=>?_⟩
  have bM:=mb M hM
  have B1:=B.same s1
  have LH1:=LH.same s1
  refine ⟨tt,rs,rows,w,1 - M,rfl,B1,fun gl us H2 s2 G2=>?_⟩
  have B2:=B1.same s2
  have LH2:=LH1.same s2
  have L0:LP (aOf rows (1 - M)) w rows.length (sx0 (aOf rows (1 - M)) w rows.length):=by
   refine ⟨w1,w12,l1,l12,fun i j hi hj=>?_,fun i j hi hj=>?_,zlu⟩
   ·have h1:=ml i (by omega) j hj
    have h2:M≤ms.getD i 0:=le _ (by rw [List.getD_eq_getElem?_getD,List.getElem?_eq_getElem (by omega)];exact List.getElem_mem _)
    show 1≤ent rows i j+(1 - M)
    omega
   ·have hr:rows.getD i []=rows[i]:=by rw [List.getD_eq_getElem?_getD,List.getElem?_eq_getElem hi];rfl
    have hw:=B.hw rows[i] (List.getElem_mem _)
    have h1:Bd 102 (ent rows i j):=B.bd rows[i] (List.getElem_mem _) _ (by rw [ent,hr,List.getD_eq_getElem?_getD,List.getElem?_eq_getElem (by omega)];exact List.getElem_mem _)
    have h1:(ent rows i j).natAbs<2 ^ 102:=h1
    have h2:M.natAbs<2 ^ 102:=bM
    show (ent rows i j+(1 - M)).natAbs≤2 ^ 104
    omega
  intro b dx nb nd nbd
  have s3:zaR H2 (L2.upd (L2.upd H2 dx (.own b)) b (.ins a.c_Board dx [])):=(zah nd _).trans (zah ((zak (Ne.symm nbd)).trans nb) _)
  have hb3:(L2.upd (L2.upd H2 dx (.own b)) b (.ins a.c_Board dx [])) b=some (.ins a.c_Board dx []):=zae
  generalize L2.upd (L2.upd H2 dx (.own b)) b (.ins a.c_Board dx [])=H3 at s3 hb3 ⊢
  refine ⟨b,dx,gl,us,w,rows.length,_,rfl,hb3,G2.same s3,w12,l12,rfl,rfl,rfl,fun il ul H4 k4 ni nu B4=>⟨rfl,?_⟩⟩
  have base4:∀ x o,H x=some o→H4 x=some o:=fun x o e=>k4 _ _ (fun z=>by rw [z] at e;rw [s2 _ _ (s1 _ _ e)] at nb;cases nb) (s3 _ _ (s2 _ _ (s1 _ _ e)))
  have fb:H b=none:=s1.free (s2.free nb)
  have fi:H il=none:=s1.free (s2.free (s3.free ni))
  have fu:H ul=none:=s1.free (s2.free (s3.free nu))
  have LH4:LT H4 a.p_lam:=LH.same base4
  refine ⟨_,_,B4.hb,rfl,?_⟩
  have loop:∀ (v:V) (H5:Hp),Bar a.p_lam H4 H5→LT H5 a.p_lam→Col w rows.length (sx0 (aOf rows (1 - M)) w rows.length) false v →
    zeP (zbd (tOp (fun x y H Q=>y=.non∧Q (.bl (!decide (x=.non))) H) (zab 3) (tC .non))) (zec a) { nx:=zef K a { nx:=fun x H'=>Q .non H',rt:=Q },rt:=Q } [some (.ref tt),some (.int (1 - M)),some (.ref b),some v,none,none] H5:=by
   intro v H5 bar5 LH5 C5
   refine zl4 (m:=(rows.length+w+2) ^ (w+rows.length+1)) (fun k σ H'=>∃ (gl:Addr) (us:List Addr) (t:Sx) (s:Bool) (v:V) (Z:Nat),Brd H' a.c_Board b dx gl il ul us w rows.length t s∧LP (aOf rows (1 - M)) w rows.length t∧LT H' a.p_lam∧Bar a.p_lam H H'∧Col w rows.length t s v∧zkl w rows.length (zbr (aOf rows (1 - M)) w rows.length) t s Z∧k+Z=(rows.length+w+2) ^ (w+rows.length+1)∧σ=[some (.ref tt),some (.int (1 - M)),some (.ref b),some v,none,none]) ⟨gl,us,_,false,v,0,B4.bar LH4 bar5,L0,LH5,zcv (zaR.bar base4) bar5,C5,zkl.zero zlu false,rfl,rfl⟩ ?_
   rintro k σ H6 ⟨gl,us,t,s,v,Z,B6,L6,LH6,bar6,C6,Hi,ek,rfl⟩
   simp_all only [zcW,zc6,zab]
   refine zek (fun nv=>?_) (fun nv=>?_)
   ·rcases C6 with ⟨z,_⟩ | ⟨c,rfl,c1,c2,c3⟩
    ·exact absurd z nv
    refine ⟨_,fun _ _ h=>h,_,_,B6.hb,rfl,_,_,B6.hb,rfl,⟨b,dx,gl,il,ul,us,_,w,rows.length,t,s,c,rfl,B6,L6,c1,fun r hr pr lv=>?_⟩⟩
    have stp:Stp w rows.length t s r c:=⟨hr,c1,c2,pr,lv,c3⟩
    refine ⟨b,dx,gl,il,ul,us,_,w,rows.length,t,s,r,c,rfl,B6,L6,hr,c1,pr,fun gl' us' H7 k7 B7=>?_⟩
    have LH7:LT H7 a.p_lam:=LH6.put fun x o n1 n2 e=>k7 x o (fun z=>by rw [z,B6.hb] at e;cases e;exact n2 _ _ _ rfl) (fun z=>by rw [z,B6.hi] at e;cases e;exact n1 _ rfl) (fun z=>by rw [z,B6.hu] at e;cases e;exact n1 _ rfl) e
    have bar7:Bar a.p_lam H H7:=fun x o nx e=>k7 x o (fun z=>by rw [z,fb] at e;cases e) (fun z=>by rw [z,fi] at e;cases e) (fun z=>by rw [z,fu] at e;cases e) (bar6 _ _ nx e)
    have L7:=L6.piv stp
    have zl:=Hi.lt
    have H7i:=Hi.step stp
    refine ⟨_,_,B7.hb,rfl,b,dx,gl',il,ul,us',_,w,rows.length,_,_,rfl,B7,L7,LH7,fun Dn H8 s8=>?_,fun c' H8 d1 d2 d3 bar LT8=>?_⟩
    ·exact ⟨k - 1,by omega,gl',us',_,_,B7.same s8,L7,LH7.same s8,zcv bar7 (zaR.bar s8),_,.inl ⟨rfl,Dn⟩,_,H7i,by omega,rfl⟩
    ·exact ⟨k - 1,by omega,gl',us',_,_,B7.bar LH7 bar,L7,LT8,zcv bar7 bar,_,.inr ⟨c',rfl,d1,d2,d3⟩,_,H7i,by omega,rfl⟩
   ·rcases C6 with ⟨rfl,Dn⟩ | ⟨c,rfl,_⟩
    ·obtain ⟨re,h1,h2⟩:=B6.rowEnd
     have vp:=L6.F.vpos Dn (by omega)
     have T6:=B.bar LH bar6
     refine ⟨_,_,B6.hb,_,rfl,_,_,B6.hb,_,rfl,gl,rfl,_,SqL.of B6.hg,_,h2,re,rfl,_,SqL.of h1,_,zd6,⟨t.d,t.g w rows.length,rfl,by omega,(L6.g (by omega) (by omega)).mono (by decide),fun u H7 s7 h7=>?_⟩⟩
     refine ⟨by decide,fun p hp=>?_⟩
     have ep:[V.int (-(1 - M)),V.int 1]=fr (((-(1 - M):Int)):Rat):=rfl
     rw [ep]
     have s8:=zah hp (.tup (fr (((-(1 - M):Int)):Rat)))
     have bl:Bd 104 (-(1 - M)):=by
      have h2:M.natAbs<2 ^ 102:=bM
      show (-(1 - M)).natAbs<2 ^ 104
      omega
     have bq1:Bq 1400 (Rat.divInt t.d (t.g w rows.length)):=zgP (by omega) L6.d (L6.g (by omega) (by omega))
     have bq2:Bq 1400 (((-(1 - M):Int)):Rat):=⟨bl.mono (by decide),by show (1:Nat)<2 ^ 1400;exact Nat.one_lt_two_pow (by decide)⟩
     refine ⟨u,p,_,_,rfl,s8 _ _ h7,zae,bq1.mono (by decide),bq2.mono (by decide),fun wr H9 s9 h9=>?_⟩
     have S9:=s7.trans (s8.trans s9)
     have T9:=T6.same S9
     have B9:=B6.same S9
     refine ⟨_,.inl (SqL.of T9.ht),?_⟩
     rw [List.length_map,ln]
     refine ⟨b,dx,gl,il,ul,us,_,w,rows.length,t,s,rfl,B9,L6,Dn,fun rl R g Ha sa hR lR=>?_⟩
     have Ta:=T9.same sa
     obtain ⟨r0,row0,a0,h0,w0⟩:=Ta.first
     refine ⟨_,SqL.of Ta.ht,_,a0,r0,rfl,_,.inl (SqL.of h0),?_⟩
     rw [List.length_map,w0]
     refine ⟨b,dx,gl,il,ul,us,_,w,rows.length,t,s,rfl,B9.same sa,L6,Dn,fun cl C h Hb sb hC lC=>⟨by decide,fun r hr=>?_⟩⟩
     have sc:=zah hr (.tup [V.ref wr,V.ref rl,V.ref cl])
     refine q r wr rl cl _ R C _ (zcv bar6 (zaR.bar (S9.trans (sa.trans (sb.trans sc))))) (LH6.same (S9.trans (sa.trans (sb.trans sc)))) zae (sc _ _ (sb _ _ (sa _ _ h9))) (sc _ _ (sb _ _ hR)) (sc _ _ hC) (znC L6 Dn lR lC) ((bq1.add bq2).mono (by decide))
    ·exact absurd (fun z=>by cases z) nv
  refine ⟨b,dx,gl,il,ul,us,_,_,_,_,_,rfl,B4,L0,LH4,fun Dn H5 s5=>?_,fun c H5 c1 c2 c3 bar LT5=>?_⟩
  ·exact loop _ H5 (zaR.bar s5) (LH4.same s5) (.inl ⟨rfl,Dn⟩)
  ·exact loop _ H5 bar LT5 (.inr ⟨c,rfl,c1,c2,c3⟩)
theorem zcw:zaB ["table","lift","board","column","worth","rows"] ["table"] (zag zeM):=⟨rfl,rfl,rfl,by decide +kernel,rfl,by decide +kernel,by decide +kernel⟩
theorem zjT (T:Txt K mg base a):zcG P w K mg base CX0 6 a.f_solved a.d_solved ["table"] (zgj a.p_lam):=by
 have G_Board___init__:=zev (P:=P) (w:=w) (base:=base) T
 have G_Board_entering:=zei (P:=P) (w:=w) (base:=base) T
 have G_Board_leaving:=zeD (P:=P) (w:=w) (base:=base) T
 have G_Board_swap:=zfS (P:=P) (w:=w) (base:=base) T
 have G_column_weights:=zeo (P:=P) (w:=w) (base:=base) T
 have G_first_grid:=zf2 (P:=P) (w:=w) (base:=base) T
 have G_plus:=zmt (P:=P) (w:=w) (base:=base) T
 have G_ratio:=zhX (P:=P) (w:=w) (base:=base) T
 have G_row_weights:=zfl (P:=P) (w:=w) (base:=base) T
 refine T.F_solved.ok zcw (fun vs H Q E h=>?_) (fun cdv A outer s H vs Q E hr h=>?_)
 ·obtain ⟨tt,rs,rows,w,rfl,B,LH,q⟩:=h
  rfl
 obtain ⟨tt,rs,rows,w,rfl,B,LH,q⟩:=h
 exact ⟨zfM K a,(zad (zas (i:=1) zcw.nd rfl (Or.inl rfl) (zav zc8 zaj (zax (zgZ rfl) rfl T.z_min PyProof.Rows.boot_min (zaa (zbx (sc:=zag zeM) (N:=["table","lift","board","column","worth","rows"]) (Nc:=["row"]) (cap:=[none]) rfl rfl rfl (.of (by decide +kernel)) (zbn (pv 0)) (fun _ _ _ _=>(zau (i:=0) (show List.Nodup (["row"]:List Str) from by decide) rfl (Or.inl rfl))) (fun _ _ _ _=>za0) (fun _ _ _ _=>(zax (zgZ rfl) rfl T.z_min PyProof.Rows.boot_min (zaa (pv 0) zaf)))) zaf))))
 (zad (zas (i:=2) zcw.nd rfl (Or.inl rfl) (zmj T.K_Board G_Board___init__ (hr.mono (by decide)) rfl T.m_Board T.b_Board___init__ .nil zaW (zaa (zap G_first_grid (hr.mono (by decide)) rfl T.m_first_grid T.F_first_grid.kp T.b_first_grid .nil zaW (zaa (pv 0) (zaa (pv 1) zaf))) zaf)))
 (zad (zas (i:=3) zcw.nd rfl (Or.inl rfl) (zie (pv 2) T.cl_Board T.M_Board_entering G_Board_entering (hr.mono (by decide)) T.b_Board_entering .nil zaW))
 (zad (zfX PassesOwn.never (zbh zmT (pv 3) zid (zbp _)) (zad (zgd (zdI (pv 2) T.cl_Board T.M_Board_swap G_Board_swap (hr.mono (by decide)) T.b_Board_swap .nil zaW (zaa (zdI (pv 2) T.cl_Board T.M_Board_leaving G_Board_leaving (hr.mono (by decide)) T.b_Board_leaving .nil zaW (zaa (pv 3) zaf)) (zaa (pv 3) zaf))))
 (zam (zas (i:=3) zcw.nd rfl (Or.inl rfl) (zie (pv 2) T.cl_Board T.M_Board_entering G_Board_entering (hr.mono (by decide)) T.b_Board_entering .nil zaW)))))
 (zad (zas (i:=4) zcw.nd rfl (Or.inl rfl) (zap G_plus (hr.mono (by decide)) rfl T.m_plus T.F_plus.kp T.b_plus .nil zaW (zaa (zap G_ratio (hr.mono (by decide)) rfl T.m_ratio T.F_ratio.kp T.b_ratio .nil zaW (zaa (zbC T.cl_Board T.na_Board_scale (pv 2)) (zaa (zaw zan (zaw zan (zbC T.cl_Board T.na_Board_grid (pv 2)) (zd0 zcB zaj) (fun _ _=>rfl)) (zd0 zcB zaj) (fun _ _=>rfl)) zaf))) (zaa (zd5 (zaa (zd0 zcB (pv 1)) (zaa zaj zaf))) zaf))))
 (zad (zas (i:=5) zcw.nd rfl (Or.inl rfl) (zax zar rfl T.z_len PySem.boot_len (zaa (pv 0) zaf)))
 (zam (zaQ (zd5 (zaa (pv 4) (zaa (zap G_row_weights (hr.mono (by decide)) rfl T.m_row_weights T.F_row_weights.kp T.b_row_weights .nil zaW (zaa (pv 2) (zaa (pv 5) zaf))) (zaa (zap G_column_weights (hr.mono (by decide)) rfl T.m_column_weights T.F_column_weights.kp T.b_column_weights .nil zaW (zaa (pv 2) (zaa (pv 5) (zaa (zax zar rfl T.z_len PySem.boot_len (zaa (zaw zan (pv 0) zaj (fun _ _=>rfl)) zaf)) zaf)))) zaf)))))))))))),
  zjl B LH q⟩
def zbW (P:Addr):Sp:=zgj P
def zc0 (K:PySem.W.Frag) (a:Ad):TS :=
 (zaM (zgf (zaA (zgL K) [] E0 (zac (zab 0) zao)))
 (zbM (zaA (zgj a.p_lam) [] E0 (zac (zab 0) zao))))
theorem zfo {tt:Addr} {rs:List Addr} {rows:List (List Int)} {w:Nat} (B:Tb H tt rs rows w) (LH:LT H a.p_lam)
  (q:∀ (r wr rl cl:Addr) (W:Rat) (R C:List Int) (H':Hp),Bar a.p_lam H H'→LT H' a.p_lam→H' r=some (.tup [.ref wr,.ref rl,.ref cl])→H' wr=some (.tup (fr W))→H' rl=some (.lst (R.map V.int))→H' cl=some (.lst (C.map V.int))→Sol rows w W R C→Bq 2801 W→Q (.ref r) H') :
  zc0 K a { nx:=fun _ H'=>Q .non H',rt:=Q } (L2.zbb ["table"] [.ref tt]) H:=by
 unfold zc0
 simp_all only [zab]
 refine ⟨tt,rs,rows,w,rfl,B,fun H1 s1=>?_⟩
 refine ⟨tt,rs,rows,w,rfl,B.same s1,LH.same s1,fun r wr rl cl W R C H' bar L' h1 h2 h3 h4 so bq=>?_⟩
 exact q r wr rl cl W R C H' (zcv (zaR.bar s1) bar) L' h1 h2 h3 h4 so bq
theorem zfq:zaB ["table"] ["table"] (zag zc2):=⟨rfl,rfl,rfl,by decide +kernel,rfl,by decide +kernel,by decide +kernel⟩
theorem zfi (T:Txt K mg base a):zcG P w K mg base CX0 7 a.f_table_worth a.d_table_worth ["table"] (zbW a.p_lam):=by
 have G_look_table:=zfT (P:=P) (w:=w) (base:=base) T
 have G_solved:=zjT (P:=P) (w:=w) (base:=base) T
 refine T.F_table_worth.ok zfq (fun vs H Q E h=>?_) (fun cdv A outer s H vs Q E hr h=>?_)
 ·obtain ⟨tt,rs,rows,w,rfl,B,LH,q⟩:=h
  rfl
 obtain ⟨tt,rs,rows,w,rfl,B,LH,q⟩:=h
 exact ⟨zc0 K a,(zad (zgd (zap G_look_table (hr.mono (by decide)) rfl T.m_look_table T.F_look_table.kp T.b_look_table .nil zaW (zaa (pv 0) zaf)))
 (zam (zaQ (zap G_solved (hr.mono (by decide)) rfl T.m_solved T.F_solved.kp T.b_solved .nil zaW (zaa (pv 0) zaf))))),
  zfo B LH q⟩
def zd7:TS :=
 (zaM (zaU (tOp (rI (fun _ j=>0<j) fun i j=>.int (i % j)) (tOp (rI IntMulOk fun i j=>.int (i*j)) (tOp (rI0 fun i j=>.int (i+j)) (tOp (rI0 fun i j=>.int (i+j)) (tOp (rI IntMulOk fun i j=>.int (i*j)) (zab 0) (zab 0)) (tOp (rI IntMulOk fun i j=>.int (i*j)) (zab 1) (zab 0))) (tOp (rI IntMulOk fun i j=>.int (i*j)) (tOp (rI IntMulOk fun i j=>.int (i*j)) (tC (.int 7)) (zab 1)) (zab 1))) (tC (.int 1103515245))) (tC (.int 2147483629))) (zai 2))
 (zbM (tOp (rI (fun _ j=>0<j) fun i j=>.int (i % j)) (tOp (rI IntMulOk fun i j=>.int (i*j)) (zab 2) (zab 2)) (tC (.int 2147483587)))))
theorem zhz {n k:Int} (hn:n.natAbs<2 ^ 2 ^ 20) (k0:0≤k) (k1:k≤100000) (q:∀ r:Int,0≤r→r<2147483587→Q (.int r) H) :
  zd7 { nx:=fun _ H'=>Q .non H',rt:=Q } (L2.zbb ["_law_number","_law_k","_law_mixed"] [.int n,.int k]) H:=by
 unfold zd7
 simp_all only [zab]
 refine ⟨zht 1048576 1048576 hn hn,mulL (by omega) (by omega),zol (by omega) (by omega),zol (by omega) (by omega),zol (by decide) (by decide),by decide,?_⟩
 have b3:=Int.emod_nonneg ((n*n+k*n+7*k*k)*1103515245) (show (2147483629:Int)≠0 by decide)
 have b4:=Int.emod_lt_of_pos ((n*n+k*n+7*k*k)*1103515245) (show (0:Int)<2147483629 by decide)
 generalize (n*n+k*n+7*k*k)*1103515245 % 2147483629=x at b3 b4 ⊢
 refine ⟨zol (by omega) (by omega),by decide,q _ (Int.emod_nonneg _ (by decide)) (Int.emod_lt_of_pos _ (by decide))⟩
theorem zfh:zaB ["_law_number","_law_k","_law_mixed"] ["_law_number","_law_k"] (zag zet):=⟨rfl,rfl,rfl,by decide +kernel,rfl,by decide +kernel,by decide +kernel⟩
theorem zhV (T:Txt K mg base a):zcG P w K mg base CX0 1 a.f__law_mix a.d__law_mix ["_law_number","_law_k"] zhE:=by
 refine T.F__law_mix.ok zfh (fun vs H Q E h=>?_) (fun cdv A outer s H vs Q E hr h=>?_)
 ·obtain ⟨n,k,rfl,hn,k0,k1,q⟩:=h
  rfl
 obtain ⟨n,k,rfl,hn,k0,k1,q⟩:=h
 exact ⟨zd7,(zad (zas (i:=2) zfh.nd rfl (Or.inl rfl) (zav zgy (zav za4 (zav zcm (zav zcm (zav za4 (pv 0) (pv 0)) (zav za4 (pv 1) (pv 0))) (zav za4 (zav za4 zaj (pv 1)) (pv 1))) zaj) zaj))
 (zam (zaQ (zav zgy (zav za4 (pv 2) (pv 2)) zaj)))),
  zhz hn k0 k1 q⟩
def zc9 (K:PySem.W.Frag):TS :=
 (zda (zbd (tOp (rI0 fun i j=>.bl (decide (i<j))) (zab 1) (tCB (fun xs H Q=>∃ p ys,xs=[.ref p]∧(SqL K H p ys∨SqT K H p ys)∧Q (.int ys.length) H) (zac (zab 0) zao)))) (zbM (tOp (za2 K) (zab 0) (zab 1))) zbo)
theorem zcu (K:PySem.W.Frag) (D:zcb) (σ:St) (H:Hp):zc9 K D σ H=(zda (zbd (tOp (rI0 fun i j=>.bl (decide (i<j))) (zab 1) (tCB (fun xs H Q=>∃ p ys,xs=[.ref p]∧(SqL K H p ys∨SqT K H p ys)∧Q (.int ys.length) H) (zac (zab 0) zao)))) (zbM (tOp (za2 K) (zab 0) (zab 1))) zbo) D σ H:=rfl
def zcM (K:PySem.W.Frag):TS :=
 (zaM (zge (zc9 K))
 (zbM (tC (.int 0))))
theorem ze4 {p:Addr} {x:Int} (hp:H p=some (.lst [.int x])) (q:Q (.int x) H) :
  zcM K { nx:=fun _ H'=>Q .non H',rt:=Q } (L2.zbb ["_law_script","_law_k"] [.ref p,.int 0]) H:=by
 unfold zcM
 simp_all only [zcu,zab]
 refine ⟨fun _ _=>False,?_,fun _ _ z=>z.elim⟩
 simp_all only [zcu,zab]
 refine ⟨_,.inl (SqL.of hp),?_⟩
 exact zek (fun _=>⟨_,SqL.of hp,_,rfl,q⟩) (fun z=>absurd (show (0:Int)<1 by decide) z)
theorem ze1:zaB ["_law_script","_law_k"] ["_law_script","_law_k"] (zag zcK):=⟨rfl,rfl,rfl,by decide +kernel,rfl,by decide +kernel,by decide +kernel⟩
theorem zff (T:Txt K mg base a):zcG P w K mg base CX0 1 a.f__law_cell_at a.d__law_cell_at ["_law_script","_law_k"] (zih K):=by
 refine T.F__law_cell_at.ok ze1 (fun vs H Q E h=>?_) (fun cdv A outer s H vs Q E hr h=>?_)
 ·obtain ⟨p,x,rfl,hp,q⟩:=h
  rfl
 obtain ⟨p,x,rfl,hp,q⟩:=h
 exact ⟨zcM K,(zad (zcT (zcZ (zbh zhT (pv 1) (zax zar rfl T.z_len PySem.boot_len (zaa (pv 0) zaf)) (zbp _)) (zam (zaQ (zaw zan (pv 0) (pv 1) (fun _ _=>rfl)))) zbi))
 (zam (zaQ zaj))),
  ze4 hp q⟩
def zd2:TS :=
 (zbM (zfL (zac (tOp (rI0 fun i j=>.int (i - j)) (zab 2) (tOp (rI zlx fun i j=>.int (i ^ j.toNat)) (tC (.int 10)) (tC (.int 18)))) (zac (tC (.int 1)) (zac (tC (.int 0)) zao)))))
theorem zce (D:zcb) (σ:St) (H:Hp):zd2 D σ H=(zbM (zfL (zac (tOp (rI0 fun i j=>.int (i - j)) (zab 2) (tOp (rI zlx fun i j=>.int (i ^ j.toNat)) (tC (.int 10)) (tC (.int 18)))) (zac (tC (.int 1)) (zac (tC (.int 0)) zao))))) D σ H:=rfl
def zdT:TS :=
 (zda (zbd (tOp (rI0 fun i j=>.bl (decide (i<j))) (zab 2) (tOp (rI zlx fun i j=>.int (i ^ j.toNat)) (tC (.int 10)) (tC (.int 18))))) (zbM (zfL (zac (zab 2) (zac (tC (.int 0)) (zac (tC (.int 0)) zao))))) zbo)
theorem zca (D:zcb) (σ:St) (H:Hp):zdT D σ H=(zda (zbd (tOp (rI0 fun i j=>.bl (decide (i<j))) (zab 2) (tOp (rI zlx fun i j=>.int (i ^ j.toNat)) (tC (.int 10)) (tC (.int 18))))) (zbM (zfL (zac (zab 2) (zac (tC (.int 0)) (zac (tC (.int 0)) zao))))) zbo) D σ H:=rfl
def zdH (K:PySem.W.Frag):TS :=
 (zaM (zaU (zaA (zih K) [] E0 (zac (zab 0) (zac (zab 1) zao))) (zai 2))
 (zaM (zge (zdT))
 (zd2)))
theorem zgC {p:Addr} {x:Int} (hp:H p=some (.lst [.int x])) (bx:x.natAbs<2 ^ 2 ^ 20) (q:∀ (l:Addr) (H':Hp),zaR H H'→H l=none→Drw H' l 0→Q (.ref l) H') :
  zdH K { nx:=fun _ H'=>Q .non H',rt:=Q } (L2.zbb ["_law_script","_law_k","_law_cell"] [.ref p,.int 0]) H:=by
 unfold zdH
 simp_all only [zce,zca,zab]
 refine ⟨p,x,rfl,hp,?_⟩
 refine ⟨fun σ H'=>H'=H∧1000000000000000000≤x∧σ=[some (.ref p),some (.int 0),some (.int x)],?_,?_⟩
 ·simp_all only [zce,zca,zab]
  refine ⟨znv,zek (fun c=>⟨by decide,fun l hl=>?_⟩) (fun c=>by omega)⟩
  exact q l _ (zah hl _) hl ⟨⟨x,0,zae,bx,.inl rfl⟩,by decide⟩
 ·rintro σ H1 ⟨rfl,c,rfl⟩
  simp_all only [zce,zca,zab]
  refine ⟨znv,by decide,fun l hl=>?_⟩
  exact q l _ (zah hl _) hl ⟨⟨_,1,zae,Nat.lt_of_le_of_lt (by omega) bx,.inr ⟨rfl,by omega⟩⟩,by decide⟩
theorem zew:zaB ["_law_script","_law_k","_law_cell"] ["_law_script","_law_k"] (zag zdD):=⟨rfl,rfl,rfl,by decide +kernel,rfl,by decide +kernel,by decide +kernel⟩
theorem zha (T:Txt K mg base a):zcG P w K mg base CX0 2 a.f__law_left a.d__law_left ["_law_script","_law_k"] (zjF K):=by
 have G__law_cell_at:=zff (P:=P) (w:=w) (base:=base) T
 refine T.F__law_left.ok zew (fun vs H Q E h=>?_) (fun cdv A outer s H vs Q E hr h=>?_)
 ·obtain ⟨p,x,rfl,hp,bx,q⟩:=h
  rfl
 obtain ⟨p,x,rfl,hp,bx,q⟩:=h
 exact ⟨zdH K,(zad (zas (i:=2) zew.nd rfl (Or.inl rfl) (zap G__law_cell_at (hr.mono (by decide)) rfl T.m__law_cell_at T.F__law_cell_at.kp T.b__law_cell_at .nil zaW (zaa (pv 0) (zaa (pv 1) zaf))))
 (zad (zcT (zcZ (zbh zhT (pv 2) (zav zi0 zaj zaj) (zbp _)) (zam (zaQ (zc7 (zaa (pv 2) (zaa zaj (zaa zaj zaf)))))) zbi))
 (zam (zaQ (zc7 (zaa (zav zc8 (pv 2) (zav zi0 zaj zaj)) (zaa zaj (zaa zaj zaf)))))))),
  zgC hp bx q⟩
theorem logM {m:Int} (h0:0<m) (h1:m≤1000000000000000000000000000000):m.natAbs.log2<9000:=zg3 100 (by omega) (by omega)
def zdO (K:PySem.W.Frag):TS :=
 (zaM (zaU (tOp (rI (fun _ j=>0<j) fun i j=>.int (i % j)) (tOp (za2 K) (zab 0) (tC (.int 0))) (zab 1)) (zai 3))
 (zaM (zaU (tOp (rI (fun _ j=>0<j∧j.natAbs.log2<9000) fun i j=>.int (i / j)) (tOp (za2 K) (zab 0) (tC (.int 0))) (zab 1)) (zhv (zab 0) (tC (.int 0)) zdz))
 (zbM (zab 3))))
theorem zbG (K:PySem.W.Frag) (D:zcb) (σ:St) (H:Hp):zdO K D σ H=(zaM (zaU (tOp (rI (fun _ j=>0<j) fun i j=>.int (i % j)) (tOp (za2 K) (zab 0) (tC (.int 0))) (zab 1)) (zai 3))
 (zaM (zaU (tOp (rI (fun _ j=>0<j∧j.natAbs.log2<9000) fun i j=>.int (i / j)) (tOp (za2 K) (zab 0) (tC (.int 0))) (zab 1)) (zhv (zab 0) (tC (.int 0)) zdz))
 (zbM (zab 3)))) D σ H:=rfl
def zdQ (K:PySem.W.Frag):TS :=
 (zda (zbd (tOp rEq (tOp (za2 K) (zab 0) (tC (.int 1))) (tC (.int 0)))) (zaM (zaU (zaA zhE [] E0 (zac (tOp (za2 K) (zab 0) (tC (.int 0))) (zac (tOp (za2 K) (zab 0) (tC (.int 2))) zao))) (zai 2))
 (zbM (tOp (rI (fun _ j=>0<j) fun i j=>.int (i % j)) (tOp (rI (fun _ j=>0<j) fun i j=>.int (i % j)) (tOp (rI IntMulOk fun i j=>.int (i*j)) (zab 2) (tOp (rI0 fun i j=>.int (i+j)) (zab 2) (tC (.int 2)))) (tC (.int 2147483579))) (zab 1)))) zbo)
theorem zbI (K:PySem.W.Frag) (D:zcb) (σ:St) (H:Hp):zdQ K D σ H=(zda (zbd (tOp rEq (tOp (za2 K) (zab 0) (tC (.int 1))) (tC (.int 0)))) (zaM (zaU (zaA zhE [] E0 (zac (tOp (za2 K) (zab 0) (tC (.int 0))) (zac (tOp (za2 K) (zab 0) (tC (.int 2))) zao))) (zai 2))
 (zbM (tOp (rI (fun _ j=>0<j) fun i j=>.int (i % j)) (tOp (rI (fun _ j=>0<j) fun i j=>.int (i % j)) (tOp (rI IntMulOk fun i j=>.int (i*j)) (zab 2) (tOp (rI0 fun i j=>.int (i+j)) (zab 2) (tC (.int 2)))) (tC (.int 2147483579))) (zab 1)))) zbo) D σ H:=rfl
def zdE (K:PySem.W.Frag):TS :=
 (zaM (zaU (tOp (rI0 fun i j=>.int (i+j)) (tOp (za2 K) (zab 0) (tC (.int 2))) (tC (.int 1))) (zhv (zab 0) (tC (.int 2)) zdz))
 (zaM (zge (zdQ K))
 (zdO K)))
theorem zgD {p:Addr} {c m:Int} (hP:Drw H p c) (c1:c<10000) (m0:0<m) (m1:m≤1000000000000000000000000000000)
  (q:∀ (r:Int) (H':Hp),0≤r→r<m→Off p p H'=Off p p H→Drw H' p (c+1)→Q (.int r) H') :
  zdE K { nx:=fun _ H'=>Q .non H',rt:=Q } (L2.zbb ["_law_left_here","_law_base","_law_mixed","_law_digit"] [.ref p,.int m]) H:=by
 unfold zdE
 obtain ⟨n,f,hp,bn,hf⟩:=hP.hp
 have c0:=hP.c0
 simp_all only [zbG,zbI,zab]
 refine ⟨_,SqL.of hp,_,rfl,_,rfl,_,hp,2,rfl,?_⟩
 simp_all only [zbG,zbI,zab]
 have hp2:(L2.upd H p (.lst [.int n,.int f,.int (c+1)])) p=some (.lst [.int n,.int f,.int (c+1)]):=zae
 have o2:Off p p (L2.upd H p (.lst [.int n,.int f,.int (c+1)]))=Off p p H:=zn7
 generalize L2.upd H p (.lst [.int n,.int f,.int (c+1)])=G at hp2 o2 ⊢
 refine ⟨fun σ H'=>H'=G∧f=1∧0≤n∧σ=[some (.ref p),some (.int m),none,none],?_,?_⟩
 ·simp_all only [zbG,zbI,zab]
  refine ⟨_,SqL.of hp2,_,rfl,rfl,zek (fun z=>?_) (fun z=>?_)⟩
  ·refine ⟨_,SqL.of hp2,_,rfl,_,SqL.of hp2,_,rfl,n,c+1,rfl,bn,by omega,by omega,fun x x0 x1=>?_⟩
   refine ⟨x,rfl,x,rfl,zol (by omega) (by omega),by decide,m0,?_⟩
   exact q _ _ (Int.emod_nonneg _ (by omega)) (Int.emod_lt_of_pos _ m0) o2 ⟨⟨n,f,hp2,bn,hf⟩,by omega⟩
  ·rcases hf with rfl | h
   ·exact absurd rfl z
   ·exact h
 ·rintro σ H' ⟨rfl,rfl,n0,rfl⟩
  simp_all only [zbG,zbI,zab]
  refine ⟨_,SqL.of hp2,_,rfl,n,rfl,m0,_,SqL.of hp2,_,rfl,n,rfl,m0,logM m0 m1,_,hp2,0,rfl,?_⟩
  have d0:0≤n / m:=Int.ediv_nonneg n0 (by omega)
  have d1:n / m≤n:=Int.ediv_le_self m n0
  exact q _ _ (Int.emod_nonneg _ (by omega)) (Int.emod_lt_of_pos _ m0) (zn7.trans o2) ⟨⟨n / m,1,zae,Nat.lt_of_le_of_lt (by omega) bn,.inr ⟨rfl,d0⟩⟩,by omega⟩
theorem zdk:zaB ["_law_left_here","_law_base","_law_mixed","_law_digit"] ["_law_left_here","_law_base"] (zag zdy):=⟨rfl,rfl,rfl,by decide +kernel,rfl,by decide +kernel,by decide +kernel⟩
theorem zdj (T:Txt K mg base a):zcG P w K mg base CX0 2 a.f__law_draw a.d__law_draw ["_law_left_here","_law_base"] zaX:=by
 have G__law_mix:=zhV (P:=P) (w:=w) (base:=base) T
 refine T.F__law_draw.ok zdk (fun vs H Q E h=>?_) (fun cdv A outer s H vs Q E hr h=>?_)
 ·obtain ⟨p,c,m,rfl,hP,c1,m0,m1,q⟩:=h
  rfl
 obtain ⟨p,c,m,rfl,hP,c1,m0,m1,q⟩:=h
 exact ⟨zdE K,(zad (zdN (zav zcm (zaw zan (pv 0) zaj (fun _ _=>rfl)) zaj) (zeA (pv 0) zaj zcE))
 (zad (zcT (zcZ (zbh zix (zaw zan (pv 0) zaj (fun _ _=>rfl)) zaj (zbp _)) (zad (zas (i:=2) zdk.nd rfl (Or.inl rfl) (zap G__law_mix (hr.mono (by decide)) rfl T.m__law_mix T.F__law_mix.kp T.b__law_mix .nil zaW (zaa (zaw zan (pv 0) zaj (fun _ _=>rfl)) (zaa (zaw zan (pv 0) zaj (fun _ _=>rfl)) zaf))))
 (zam (zaQ (zav zgy (zav zgy (zav za4 (pv 2) (zav zcm (pv 2) zaj)) zaj) (pv 1))))) zbi))
 (zad (zas (i:=3) zdk.nd rfl (Or.inl rfl) (zav zgy (zaw zan (pv 0) zaj (fun _ _=>rfl)) (pv 1)))
 (zad (zdN (zav zh2 (zaw zan (pv 0) zaj (fun _ _=>rfl)) (pv 1)) (zeA (pv 0) zaj zcE))
 (zam (zaQ (pv 3))))))),
  zgD hP c1 m0 m1 q⟩
def zhq:Sp:=fun vs H Q _=>∃ (p:Addr) (c:Int),vs=[.ref p]∧Drw H p c∧c<1000∧∀ (t:Addr) (rs:List Addr) (rows:List (List Int)) (w:Nat) (c':Int) (H':Hp),zaR (Off p p H) (Off p p H')→Drw H' p c'→c'≤c+39→Tb (Off p p H') t rs rows w→(∀ row∈rows,∀ x∈row,Bd 98 x)→rows.length≤6→w≤6→Q (.ref t) H'
def zg1:Sp:=fun vs H Q _=>∃ (t:Addr) (rs:List Addr) (rows:List (List Int)) (w:Nat),vs=[.ref t]∧Tb H t rs rows w∧∀ (t':Addr) (rs':List Addr) (H':Hp),zaR H H'→Tb H' t' rs' rows w→Q (.ref t') H'
theorem pow29:zlx 10 29:=⟨by decide,by decide,by decide⟩
theorem log2:(0:Int)<2∧(Int.natAbs 2).log2<9000:=by decide +kernel
def Rws (H:Hp) (D:Addr) (rs:List Addr) (rows:List (List Int)):Prop:=rs.length=rows.length∧∀ (k:Nat) (r:Addr) (row:List Int),rs[k]?=some r→rows[k]?=some row→r≠D∧H r=some (.lst (row.map V.int))
theorem Rws.nil {H:Hp} {D:Addr}:Rws H D [] []:=⟨rfl,fun _ _ _ e=>nomatch e⟩
theorem Rws.put {H H':Hp} {D b:Addr} {rs:List Addr} {rows:List (List Int)} {row:List Int} (h:Rws H D rs rows) (s:∀ (x:Addr) (o:HO),x≠D→H x=some o→H' x=some o) (nb:b≠D) (hb:H' b=some (.lst (row.map V.int))):Rws H' D (rs++[b]) (rows++[row]):=by
 refine ⟨by rw [List.length_append,List.length_append,h.1];rfl,fun k r row' k1 k2=>?_⟩
 by_cases ck:k<rs.length
 ·rw [List.getElem?_append_left ck] at k1
  rw [List.getElem?_append_left (by rw [← h.1];exact ck)] at k2
  obtain ⟨z1,z2⟩:=h.2 k r row' k1 k2
  exact ⟨z1,s _ _ z1 z2⟩
 ·rw [List.getElem?_append_right (by omega)] at k1
  rw [List.getElem?_append_right (by rw [← h.1];omega),← h.1] at k2
  have zk:k - rs.length=0:=by
   have:=(List.getElem?_eq_some_iff.mp k1).1
   simp only [List.length_cons,List.length_nil] at this
   omega
  rw [zk] at k1 k2
  cases k1
  cases k2
  exact ⟨nb,hb⟩
def zdx (K:PySem.W.Frag):TS :=
 (zgf (tBM K "list" zci (zab 4) (zac (za5 (zc3 (zac (zab 2) zao)) (zai 0) zaq (tOp (rI0 fun i j=>.int (i - j)) (zaA zaX [] E0 (zac (zab 1) (zac (zab 2) zao))) (tOp (rI (fun _ j=>0<j∧j.natAbs.log2<9000) fun i j=>.int (i / j)) (zab 2) (tC (.int 2)))) [none,some 0,some 3]) zao)))
theorem za1 (K:PySem.W.Frag) (D:zcb) (σ:St) (H:Hp):zdx K D σ H=(zgf (tBM K "list" zci (zab 4) (zac (za5 (zc3 (zac (zab 2) zao)) (zai 0) zaq (tOp (rI0 fun i j=>.int (i - j)) (zaA zaX [] E0 (zac (zab 1) (zac (zab 2) zao))) (tOp (rI (fun _ j=>0<j∧j.natAbs.log2<9000) fun i j=>.int (i / j)) (zab 2) (tC (.int 2)))) [none,some 0,some 3]) zao))) D σ H:=rfl
def zdm (K:PySem.W.Frag):TS :=
 (zaM (zaU (tOp (rI0 fun i j=>.int (i+j)) (tC (.int 1)) (zaA zaX [] E0 (zac (zab 0) (zac (tC (.int 6)) zao)))) (zai 1))
 (zaM (zaU (tOp (rI0 fun i j=>.int (i+j)) (tC (.int 1)) (zaA zaX [] E0 (zac (zab 0) (zac (tC (.int 6)) zao)))) (zai 2))
 (zaM (zaU (tOp (za2 K) (zfL (zac (tC (.int 3)) (zac (tC (.int 7)) (zac (tC (.int 19)) (zac (tOp (rI0 fun i j=>.int (i - j)) (tOp (rI IntMulOk fun i j=>.int (i*j)) (tC (.int 2)) (tOp (rI zlx fun i j=>.int (i ^ j.toNat)) (tC (.int 10)) (tC (.int 29)))) (tC (.int 1))) zao))))) (zaA zaX [] E0 (zac (zab 0) (zac (tC (.int 4)) zao)))) (zai 3))
 (zaM (zaU (zfL zao) (zai 4))
 (zaM (zj5 (zc3 (zac (zab 1) zao)) (zai 5)
 (zdx K))
 (zbM (zab 4)))))))
theorem zgm {p:Addr} {c:Int} (hP:Drw H p c) (c1:c<1000) (q:∀ (t:Addr) (rs:List Addr) (rows:List (List Int)) (w:Nat) (c':Int) (H':Hp),zaR (Off p p H) (Off p p H')→Drw H' p c'→c'≤c+39→Tb (Off p p H') t rs rows w→(∀ row∈rows,∀ x∈row,Bd 98 x)→rows.length≤6→w≤6→Q (.ref t) H') :
  zdm K { nx:=fun _ H'=>Q .non H',rt:=Q } (L2.zbb ["_law_left_here","_law_high","_law_wide","_law_base","_law_table_here","_law_i"] [.ref p]) H:=by
 unfold zdm
 have c0:=hP.c0
 simp_all only [za1,zab]
 refine ⟨p,c,6,rfl,hP,by omega,by decide,by decide,fun r1 H1 a0 a1 o1 P1=>?_⟩
 simp_all only [za1,zab]
 refine ⟨p,c+1,6,rfl,P1,by omega,by decide,by decide,fun r2 H2 b0 b1 o2 P2=>?_⟩
 simp_all only [za1,zab]
 refine ⟨pow29,mulL (by decide) (by decide),by decide,fun d hd=>?_⟩
 have nd:=P2.new hd
 have P3:=P2.upd (o:=.lst [V.int 3,V.int 7,V.int 19,V.int 199999999999999999999999999999]) nd
 have s3:zaR (Off p p H2) (Off p p (L2.upd H2 d (.lst [V.int 3,V.int 7,V.int 19,V.int 199999999999999999999999999999]))):=by
  rw [zbA nd nd]
  exact zah (zde hd) _
 have e3:Off p p (L2.upd H2 d (.lst [V.int 3,V.int 7,V.int 19,V.int 199999999999999999999999999999])) d=some (.lst [V.int 3,V.int 7,V.int 19,V.int 199999999999999999999999999999]):=by
  rw [zcn nd nd]
  exact zae
 generalize L2.upd H2 d (.lst [V.int 3,V.int 7,V.int 19,V.int 199999999999999999999999999999])=H3 at P3 s3 e3 ⊢
 refine ⟨p,c+1+1,4,rfl,P3,by omega,by decide,by decide,fun r3 H4 d0 d1 o4 P4=>?_⟩
 have h4:H4 d=some (.lst [V.int 3,V.int 7,V.int 19,V.int 199999999999999999999999999999]):=by
  rw [← o4] at e3
  exact zbL _ _ _ _ _ e3
 obtain ⟨b,hb,b2,b3⟩:∃ b:Int,atI [V.int 3,V.int 7,V.int 19,V.int 199999999999999999999999999999] r3=some (.int b)∧3≤b∧b≤199999999999999999999999999999:=by
  have:r3=0∨r3=1∨r3=2∨r3=3:=by omega
  rcases this with rfl | rfl | rfl | rfl
  ·exact ⟨_,rfl,by decide,by decide⟩
  ·exact ⟨_,rfl,by decide,by decide⟩
  ·exact ⟨_,rfl,by decide,by decide⟩
  ·exact ⟨_,rfl,by decide,by decide⟩
 have s4:zaR (Off p p H) (Off p p H4):=by
  rw [o4,← o1,← o2]
  exact s3
 refine ⟨_,r3,rfl,SqL.of h4,_,hb,by decide,fun D hD=>⟨by omega,by omega,?_⟩⟩
 have nD:=P4.new hD
 have fD:Off p p H4 D=none:=zde hD
 obtain ⟨w,ew⟩:∃ w:Nat,1+r2=(w:Int):=⟨(1+r2).toNat,by omega⟩
 rw [ew]
 refine zea (fun i σ H'=>∃ (rs:List Addr) (rows:List (List Int)) (u:Int),H' D=some (.lst (rs.map V.ref))∧rs.length=i∧Rws (Off p p H') D rs rows∧(∀ row∈rows,row.length=w∧∀ x∈row,Bd 98 x)∧Drw H' p u∧u≤c+3+6*i∧zaR (Off p p H4) (Off p p H')∧∃ x,σ=[some (.ref p),some (.int (1+r1)),some (.int w),some (.int b),some (.ref D),x]) ?_ ?_ ?_
 ·refine ⟨[],[],_,zae,rfl,.nil,fun row h=>absurd h List.not_mem_nil,P4.upd nD,by omega,?_,_,rfl⟩
  rw [zbA nD nD]
  exact zah fD _
 ·rintro i σ H5 hi ⟨rs,rows,u,hD5,lr,R5,lw,P5,hu,s5,x,rfl⟩
  simp_all only [za1,zab]
  refine ⟨.inl ⟨rfl,_,SqL.of hD5⟩,by omega,by omega,fun F hF=>?_⟩
  have nF:=P5.new hF
  have u0:=P5.c0
  have nFD:D≠F:=zaG hD5 hF
  refine za8 (fun j ys σ H'=>∃ (ns:List Int) (u':Int),ys=ns.map V.int∧(ns.length=j∧∀ x∈ns,Bd 98 x)∧Drw H' p u'∧u'≤u+j∧zaR (Off p p H5) (Off p p H')∧∃ k,σ=[k,some (.ref p),some (.int b)]) ?_ ?_ ?_
  ·refine ⟨[],u,rfl,⟨rfl,fun x h=>(nomatch h)⟩,P5.upd nF,by omega,?_,_,rfl⟩
   rw [zbA nF nF]
   exact zah (zde hF) _
  ·rintro j ys σ H' hj hF' ⟨ns,u',rfl,⟨ln,bn⟩,P',hu',s',k,rfl⟩
   simp_all only [za1,zab]
   have u0':=P'.c0
   refine ⟨p,u',b,rfl,P',by omega,by omega,by omega,fun r H6 q0 q1 o6 P6=>?_⟩
   have hF6:H6 F=some (.lst (ns.map V.int)):=by
    have:Off p p H6 F=some (.lst (ns.map V.int)):=by rw [o6,zcn nF nF];exact hF'
    exact zbL _ _ _ _ _ this
   refine ⟨log2.1,log2.2,r,rfl,_,hF6,by rw [List.length_map];simp only [sizeLine];omega,_,zae,ns++[r - b / 2],by rw [List.map_append];rfl,by rw [List.length_append,ln];rfl,fun x hx=>?_,u'+1,P6.upd nF,by omega,?_⟩
   ·rcases List.mem_append.mp hx with h | h
    ·exact bn x h
    ·rw [List.mem_singleton.mp h]
     show (r - b / 2).natAbs<2 ^ 98
     omega
   ·rw [zbA nF nF,o6]
    exact s'.put (zde hF)
  ·rintro ys σ H' hF' ⟨ns,u',rfl,⟨ln,bn⟩,P',hu',s',k,rfl⟩
   have hD':H' D=some (.lst (rs.map V.ref)):=by
    have:Off p p H5 D=some (.lst (rs.map V.ref)):=by rw [zcn nD nD];exact hD5
    exact zbL _ _ _ _ _ (s' _ _ this)
   have l6:=R5.1
   refine ⟨_,hD',by rw [List.length_map];simp only [sizeLine];omega,rs++[F],by rw [zae,List.map_append];rfl,by rw [List.length_append,lr];rfl,rows++[ns],?_,?_,u',P'.upd nD,by omega,?_⟩
   ·refine R5.put (fun x o nx hx=>?_) nFD.symm ?_
    ·rw [zbA nD nD,zak nx]
     exact s' _ _ hx
    ·rw [zbA nD nD,zak nFD.symm,zcn nF nF]
     exact hF'
   ·intro row hrow
    rcases List.mem_append.mp hrow with h | h
    ·exact lw row h
    ·rw [List.mem_singleton.mp h]
     exact ⟨by rw [ln,Int.toNat_natCast],bn⟩
   ·rw [zbA nD nD]
    exact (s5.trans s').put fD
 ·rintro σ H5 ⟨rs,rows,u,hD5,lr,R5,lw,P5,hu,s5,x,rfl⟩
  simp_all only [za1,zab]
  have l6:=R5.1
  refine q D rs rows w u H5 (s4.trans s5) P5 (by omega) ⟨by rw [zcn nD nD];exact hD5,R5.1,fun k r row k1 k2=>(R5.2 k r row k1 k2).2,fun row h=>(lw row h).1,by omega,by omega,by omega,by omega,fun row h x hx=>((lw row h).2 x hx).mono (by decide)⟩ (fun row h x hx=>(lw row h).2 x hx) (by omega) (by omega)
theorem zbt:zaB ["_law_left_here","_law_high","_law_wide","_law_base","_law_table_here","_law_i"] ["_law_left_here"] (zag zcD):=⟨rfl,rfl,rfl,by decide +kernel,rfl,by decide +kernel,by decide +kernel⟩
theorem zgh (T:Txt K mg base a):zcG P w K mg base CX0 3 a.f__law_table a.d__law_table ["_law_left_here"] zhq:=by
 have G__law_draw:=zdj (P:=P) (w:=w) (base:=base) T
 refine T.F__law_table.ok zbt (fun vs H Q E h=>?_) (fun cdv A outer s H vs Q E hr h=>?_)
 ·obtain ⟨p,c,rfl,hP,c1,q⟩:=h
  rfl
 obtain ⟨p,c,rfl,hP,c1,q⟩:=h
 exact ⟨zdm K,(zad (zas (i:=1) zbt.nd rfl (Or.inl rfl) (zav zcm zaj (zap G__law_draw (hr.mono (by decide)) rfl T.m__law_draw T.F__law_draw.kp T.b__law_draw .nil zaW (zaa (pv 0) (zaa zaj zaf)))))
 (zad (zas (i:=2) zbt.nd rfl (Or.inl rfl) (zav zcm zaj (zap G__law_draw (hr.mono (by decide)) rfl T.m__law_draw T.F__law_draw.kp T.b__law_draw .nil zaW (zaa (pv 0) (zaa zaj zaf)))))
 (zad (zas (i:=3) zbt.nd rfl (Or.inr rfl) (zaw zan (zc7 (zaa zaj (zaa zaj (zaa zaj (zaa (zav zc8 (zav za4 zaj (zav zi0 zaj zaj)) zaj) zaf))))) (zap G__law_draw (hr.mono (by decide)) rfl T.m__law_draw T.F__law_draw.kp T.b__law_draw .nil zaW (zaa (pv 0) (zaa zaj zaf))) (fun _ _=>rfl)))
 (zad (zas (i:=4) zbt.nd rfl (Or.inl rfl) (zc7 zaf))
 (zad (zex PassesOwn.never rfl (zba rfl T.z_range (zaa (pv 1) zaf)) (zau (i:=5) zbt.nd rfl (Or.inl rfl))
 (zam (zgd (znz PySem.F.plainAttrs_list PySem.F.slot_list_append PySem.F.type_list_append ze2 (pv 4) (zaa (zbx (sc:=zag zcD) (N:=["_law_left_here","_law_high","_law_wide","_law_base","_law_table_here","_law_i"]) (Nc:=["_law_j","_law_left_here","_law_base"]) (cap:=[none,some 0,some 3]) rfl rfl rfl (.of (by decide +kernel)) (zba rfl T.z_range (zaa (pv 2) zaf)) (fun _ _ _ _=>(zau (i:=0) (show List.Nodup (["_law_j","_law_left_here","_law_base"]:List Str) from by decide) rfl (Or.inl rfl))) (fun _ _ _ _=>za0) (fun _ _ _ _=>(zav zc8 (zap G__law_draw (hr.mono (by decide)) rfl T.m__law_draw T.F__law_draw.kp T.b__law_draw .nil zaW (zaa (pv 1) (zaa (pv 2) zaf))) (zav zh2 (pv 2) zaj)))) zaf)))))
 (zam (zaQ (pv 4)))))))),
  zgm hP c1 q⟩
def zdB (K:PySem.W.Frag):TS :=
 (zbM (za5 (zbT K (zab 0)) (zai 0) zaq (tCB (fun xs H Q=>∃ p ys,xs=[.ref p]∧(SqL K H p ys∨SqT K H p ys)∧∀ l,H l=none→Q (.ref l) (upd H l (.lst ys))) (zac (zab 0) zao)) [none]))
theorem zhe {t:Addr} {rs:List Addr} {rows:List (List Int)} {w:Nat} (B:Tb H t rs rows w) (q:∀ (t':Addr) (rs':List Addr) (H':Hp),zaR H H'→Tb H' t' rs' rows w→Q (.ref t') H') :
  zdB K { nx:=fun _ H'=>Q .non H',rt:=Q } (L2.zbb ["_law_table_here"] [.ref t]) H:=by
 unfold zdB
 have l6:=B.l6
 simp_all only [zab]
 refine ⟨⟨_,SqL.of B.ht⟩,fun D hD=>?_⟩
 refine zbs (K:=K) (xs:=rs.map V.ref) (fun i ys σ H'=>zaR H H'∧(∃ rs':List Addr,ys=rs'.map V.ref∧rs'.length=i∧∀ (k:Nat) r row,rs'[k]?=some r→rows[k]?=some row→r≠D∧H' r=some (.lst (row.map V.int)))∧∃ x,σ=[x]) ⟨zah hD _,⟨[],rfl,rfl,fun k r row e=>nomatch e⟩,_,rfl⟩ ?_ ?_ ?_
 ·rintro i ys σ H' _ ⟨s,_⟩
  exact SqL.of (s _ _ B.ht)
 ·rintro i x ys σ H' hi hD' ⟨s,⟨rs',rfl,lr,hr⟩,y,rfl⟩
  obtain ⟨r,er,rfl⟩:=zbO hi
  obtain ⟨row,e1,e2,e3⟩:=B.at er
  have li:=(List.getElem?_eq_some_iff.mp e1).1
  simp_all only [zab]
  refine ⟨_,.inl (SqL.of (s _ _ e2)),fun b hb=>?_⟩
  have nb:D≠b:=zaG hD' hb
  refine ⟨_,by rw [zak nb];exact hD',by rw [List.length_map];simp only [sizeLine];omega,_,zae,(s.add hb).put hD,rs'++[b],by rw [List.map_append];rfl,by rw [List.length_append,lr];rfl,fun k r' row' k1 k2=>?_⟩
  by_cases ck:k<rs'.length
  ·rw [List.getElem?_append_left ck] at k1
   obtain ⟨z1,z2⟩:=hr k r' row' k1 k2
   exact ⟨z1,by rw [zak z1,zak (zaG z2 hb)];exact z2⟩
  ·rw [List.getElem?_append_right (by omega)] at k1
   have zk:k - rs'.length=0:=by
    have:=(List.getElem?_eq_some_iff.mp k1).1
    simp only [List.length_cons,List.length_nil] at this
    omega
   rw [zk] at k1
   cases k1
   have ek:k=i:=by omega
   rw [ek,e1] at k2
   cases k2
   exact ⟨nb.symm,by rw [zak nb.symm];exact zae⟩
 ·rintro ys σ H' hD' ⟨s,⟨rs',rfl,lr,hr⟩,y,rfl⟩
  rw [List.length_map] at lr
  exact q D rs' H' s ⟨hD',by rw [lr];exact B.len,fun k r row k1 k2=>(hr k r row k1 k2).2,B.hw,B.l1,B.l6,B.w1,B.w6,B.bd⟩
theorem zg2:zaB ["_law_table_here"] ["_law_table_here"] (zag zc1):=⟨rfl,rfl,rfl,by decide +kernel,rfl,by decide +kernel,by decide +kernel⟩
theorem zg7 (T:Txt K mg base a):zcG P w K mg base CX0 1 a.f__law_copy a.d__law_copy ["_law_table_here"] zg1:=by
 refine T.F__law_copy.ok zg2 (fun vs H Q E h=>?_) (fun cdv A outer s H vs Q E hr h=>?_)
 ·obtain ⟨t,rs,rows,w,rfl,B,q⟩:=h
  rfl
 obtain ⟨t,rs,rows,w,rfl,B,q⟩:=h
 exact ⟨zdB K,(zam (zaQ (zbx (sc:=zag zc1) (N:=["_law_table_here"]) (Nc:=["_law_row"]) (cap:=[none]) rfl rfl rfl (.of (by decide +kernel)) (zbn (pv 0)) (fun _ _ _ _=>(zau (i:=0) (show List.Nodup (["_law_row"]:List Str) from by decide) rfl (Or.inl rfl))) (fun _ _ _ _=>za0) (fun _ _ _ _=>(zdU zdd rfl T.z_list zcS (zaa (pv 0) zaf)))))),
  zhe B q⟩
theorem ziR {t b:Int} (h:b≠0) (hb:Bd 8000 b):(sg t b).natAbs.log2<9000:=zg3 8000 (zgW h) (hb.le (znO h))
def zjy:Sp:=fun vs H Q _=>∃ t b:Int,vs=[.int t,.int b]∧0<b∧Bd 8000 b∧∀ (r:Addr) (H':Hp),zaR H H'→H' r=some (.tup (fr (Rat.divInt t b)))→Q (.ref r) H'
def zdi:TS :=
 (zbM (zgu (zac (tOp (rI (fun _ j=>j≠0∧j.natAbs.log2<9000) fun i j=>.int (i.fdiv j)) (zab 0) (zab 2)) (zac (tOp (rI (fun _ j=>j≠0∧j.natAbs.log2<9000) fun i j=>.int (i.fdiv j)) (zab 1) (zab 2)) zao))))
theorem zcC (D:zcb) (σ:St) (H:Hp):zdi D σ H=(zbM (zgu (zac (tOp (rI (fun _ j=>j≠0∧j.natAbs.log2<9000) fun i j=>.int (i.fdiv j)) (zab 0) (zab 2)) (zac (tOp (rI (fun _ j=>j≠0∧j.natAbs.log2<9000) fun i j=>.int (i.fdiv j)) (zab 1) (zab 2)) zao)))) D σ H:=rfl
def zcY:TS :=
 (zaM (zaU (zab 1) (zai 2))
 (zaM (zaU (tOp (rI (fun _ j=>j≠0) fun i j=>.int (i.fmod j)) (zab 0) (zab 1)) (zai 3))
 (zaM (zeP (zbd (tOp (rI0 fun i j=>.bl (decide (j<i))) (zab 3) (tC (.int 0)))) (tPar 2 3 (zac (zab 3) (zac (tOp (rI (fun _ j=>j≠0) fun i j=>.int (i.fmod j)) (zab 2) (zab 3)) zao))))
 (zdi))))
theorem zfn {t b:Int} (h:0<b) (hb:Bd 8000 b) (q:∀ (r:Addr) (H':Hp),zaR H H'→H' r=some (.tup (fr (Rat.divInt t b)))→Q (.ref r) H') :
  zcY { nx:=fun _ H'=>Q .non H',rt:=Q } (L2.zbb ["_law_top","_law_bottom","_law_one","_law_other"] [.int t,.int b]) H:=by
 unfold zcY
 simp_all only [zcC,zab]
 have h0:b≠0:=by omega
 have e0:sg t b=(Int.gcd t b:Int):=by unfold sg;rw [if_neg (by omega)]
 have f0:=Int.fmod_nonneg_of_pos t h
 have g0:Int.gcd b (t.fmod b)=Int.gcd t b:=by
  have e:t.fmod b=t - b*(t.fdiv b):=Int.fmod_def t b
  rw [e,Int.gcd_comm t b]
  have:t - b*t.fdiv b=t+b*(-(t.fdiv b)):=by rw [Int.mul_neg];omega
  rw [this]
  exact Int.gcd_add_mul_left_right b t _
 refine ⟨h0,?_⟩
 refine zh3 (fun σ H'=>H'=H∧∃ u v,σ=[some (.int t),some (.int b),some (.int u),some (.int v)]∧0≤u∧0≤v∧Int.gcd u v=Int.gcd t b) (fun σ _=>match σ with | [_,_,_,some (.int v)]=>v.toNat | _=>0) ?_ ?_ ?_
 ·exact ⟨rfl,_,_,rfl,by omega,f0,g0⟩
 ·rintro σ H' ⟨rfl,u,v,rfl,hu,hv,hg⟩
  simp_all only [zcC,zab]
  refine zek (fun c=>?_) (fun c=>?_)
  ·have hv':0<v:=by omega
   refine ⟨by omega,hv,Int.fmod_nonneg_of_pos u hv',?_,?_⟩
   ·rw [zgN hu hv',hg]
   ·have:=Int.fmod_lt_of_pos u hv'
    omega
  ·have c':v=0:=by omega
   subst c'
   have e:u=sg t b:=by
    rw [e0,← hg,zfG u hu]
   subst e
   refine ⟨zgW h0,ziR h0 hb,zgW h0,ziR h0 hb,by decide,fun p hp=>q p _ (zah hp _) ?_⟩
   rw [fr,(zgx h0).1,(zgx h0).2]
   exact zae
 ·rintro σ H1 Q1 Q2 hQ ⟨v,hv,k,hk,h,h1,b,hb,h2⟩
  exact ⟨v,hv,k,hk,h,h1,b,hb,hQ _ _ h2⟩
theorem zb0:zaB ["_law_top","_law_bottom","_law_one","_law_other"] ["_law_top","_law_bottom"] (zag zc4):=⟨rfl,rfl,rfl,by decide +kernel,rfl,by decide +kernel,by decide +kernel⟩
theorem zfj (T:Txt K mg base a):zcG P w K mg base CX0 1 a.f__law_lowest a.d__law_lowest ["_law_top","_law_bottom"] zjy:=by
 refine T.F__law_lowest.ok zb0 (fun vs H Q E h=>?_) (fun cdv A outer s H vs Q E hr h=>?_)
 ·obtain ⟨t,b,rfl,h,hb,q⟩:=h
  rfl
 obtain ⟨t,b,rfl,h,hb,q⟩:=h
 exact ⟨zcY,(zad (zas (i:=2) zb0.nd rfl (Or.inl rfl) (pv 1))
 (zad (zas (i:=3) zb0.nd rfl (Or.inl rfl) (zav zhB (pv 0) (pv 1)))
 (zad (zfX PassesOwn.never (zbh zmI (pv 3) zaj (zbp _)) (zam (znE (i:=2) (j:=3) rfl zb0.nd rfl rfl (by decide) rfl rfl (zaa (pv 3) (zaa (zav zhB (pv 2) (pv 3)) zaf)) rfl)))
 (zam (zaQ (zd5 (zaa (zav zdt (pv 0) (pv 2)) (zaa (zav zdt (pv 1) (pv 2)) zaf)))))))),
  zfn h hb q⟩
theorem znw {f g:Nat→Int}:∀ n,(∀ k,k<n→f k≤g k)→S n f≤S n g
 | 0,_=>Int.le_refl 0
 | n+1,h=>by
  have h1:=znw n fun k hk=>h k (by omega)
  have h2:=h n (by omega)
  show S n f+f n≤S n g+g n
  omega
theorem zlo {W:Rat} {s x:Int}:W*(s:Rat)≤(x:Rat)↔W.num*s≤x*W.den:=by
 have d:=zfN W
 have dq:(0:Rat)<((W.den:Int):Rat):=by exact_mod_cast d
 have e:W*((W.den:Int):Rat)=((W.num:Int):Rat):=by
  have h:=Rat.num_divInt_den W
  rw [Rat.divInt_eq_div] at h
  have z:((W.den:Int):Rat)≠0:=fun z=>by rw [z] at dq;exact absurd dq (by decide)
  generalize ((W.den:Int):Rat)=d' at h z ⊢
  generalize ((W.num:Int):Rat)=n' at h ⊢
  grind
 constructor
 ·intro h
  have h1:W*(s:Rat)*((W.den:Int):Rat)≤(x:Rat)*((W.den:Int):Rat):=Rat.mul_le_mul_of_nonneg_right h (Rat.le_of_lt dq)
  have h2:W*(s:Rat)*((W.den:Int):Rat)=((W.num*s:Int):Rat):=by
   push_cast
   rw [← e]
   push_cast
   grind
  rw [h2] at h1
  exact_mod_cast h1
 ·intro h
  have h1:((W.num*s:Int):Rat)≤((x*W.den:Int):Rat):=by exact_mod_cast h
  have h2:W*(s:Rat)*((W.den:Int):Rat)=((W.num*s:Int):Rat):=by
   push_cast
   rw [← e]
   push_cast
   grind
  rw [← h2] at h1
  push_cast at h1
  exact Rat.le_of_mul_le_mul_right h1 (by exact_mod_cast d)
theorem zll {W:Rat} {s x:Int}:(x:Rat)≤W*(s:Rat)↔x*W.den≤W.num*s:=by
 have h:=zlo (W:=-W) (s:=s) (x:=-x)
 have e1:(-W*(s:Rat)≤((-x:Int):Rat))↔((x:Rat)≤W*(s:Rat)):=by
  push_cast
  constructor
  ·intro z;grind
  ·intro z;grind
 rw [e1,Rat.neg_num,Rat.neg_den] at h
 rw [h,Int.neg_mul,Int.neg_mul]
 constructor <;> intro z <;> omega
def Up (A:Nat→Nat→Int) (n m:Nat) (W:Rat):Prop:=∃ R:Nat→Int,(∀ i,i<n→0≤R i)∧0<S n R∧∀ j,j<m→((S n fun i=>R i*A i j:Int):Rat)≤W*((S n R:Int):Rat)
def Dw (A:Nat→Nat→Int) (n m:Nat) (W:Rat):Prop:=∃ C:Nat→Int,(∀ j,j<m→0≤C j)∧0<S m C∧∀ i,i<n→W*((S m C:Int):Rat)≤((S m fun j=>C j*A i j:Int):Rat)
theorem dual {A:Nat→Nat→Int} {n m:Nat} {W W':Rat} (h:Up A n m W) (h':Dw A n m W'):W'≤W:=by
 obtain ⟨R,r0,rp,hR⟩:=h
 obtain ⟨C,c0,cp,hC⟩:=h'
 have e1:W'.num*(S m C)*(S n R)≤(S n fun i=>R i*S m fun j=>C j*A i j)*W'.den:=by
  have:(S n fun i=>(W'.num*S m C)*R i)≤S n fun i=>W'.den*(R i*S m fun j=>C j*A i j):=znw n fun i hi=>by
   have:=Int.mul_le_mul_of_nonneg_left (zlo.mp (hC i hi)) (r0 i hi)
   grind
  rw [zdG,zdG] at this
  grind
 have e2:(S n fun i=>R i*S m fun j=>C j*A i j)*W.den≤W.num*(S n R)*(S m C):=by
  have sw:(S n fun i=>R i*S m fun j=>C j*A i j)=S m fun j=>C j*S n fun i=>R i*A i j:=by
   have a1:(S n fun i=>R i*S m fun j=>C j*A i j)=S n fun i=>S m fun j=>R i*(C j*A i j):=zay n fun i _=>(zdG (R i) (fun j=>C j*A i j) m).symm
   have a2:(S m fun j=>C j*S n fun i=>R i*A i j)=S m fun j=>S n fun i=>C j*(R i*A i j):=zay m fun j _=>(zdG (C j) (fun i=>R i*A i j) n).symm
   rw [a1,a2,zjD (fun i j=>R i*(C j*A i j))]
   exact zay m fun j _=>zay n fun i _=>by grind
  rw [sw]
  have:(S m fun j=>W.den*(C j*S n fun i=>R i*A i j))≤S m fun j=>(W.num*S n R)*C j:=znw m fun j hj=>by
   have:=Int.mul_le_mul_of_nonneg_left (zll.mp (hR j hj)) (c0 j hj)
   grind
  rw [zdG,zdG] at this
  grind
 have d:=zfN W
 have d':=zfN W'
 have e3:=Int.mul_le_mul_of_nonneg_right e1 (Int.le_of_lt d)
 have e4:=Int.mul_le_mul_of_nonneg_right e2 (Int.le_of_lt d')
 have e5:(W'.num*W.den)*(S m C*S n R)≤(W.num*W'.den)*(S m C*S n R):=by
  generalize (S n fun i=>R i*S m fun j=>C j*A i j)=T at e3 e4
  generalize S m C=c at *
  generalize S n R=r at *
  have z1:W'.num*c*r*W.den=W'.num*W.den*(c*r):=by grind
  have z2:W.num*r*c*W'.den=W.num*W'.den*(c*r):=by grind
  have z3:T*W.den*W'.den=T*W'.den*W.den:=by grind
  omega
 exact (zll (W:=W) (s:=W'.den) (x:=W'.num)).mpr (Int.le_of_mul_le_mul_right e5 (Int.mul_pos cp rp)) |> fun h=>by
  have e:(W'.num:Rat)=W'*((W'.den:Int):Rat):=by
   have h:=Rat.num_divInt_den W'
   rw [Rat.divInt_eq_div] at h
   have z:((W'.den:Int):Rat)≠0:=fun z=>zdL W' (by exact_mod_cast z)
   generalize ((W'.den:Int):Rat)=d' at h z ⊢
   generalize ((W'.num:Int):Rat)=n' at h ⊢
   grind
  rw [e] at h
  exact Rat.le_of_mul_le_mul_right h (by exact_mod_cast d')
theorem Sol.up {rows:List (List Int)} {w:Nat} {W:Rat} {R C:List Int} (h:Sol rows w W R C):Up (ent rows) rows.length w W:=⟨fun i=>R.getD i 0,h.r0,h.rp,h.col⟩
theorem Sol.dw {rows:List (List Int)} {w:Nat} {W:Rat} {R C:List Int} (h:Sol rows w W R C):Dw (ent rows) rows.length w W:=⟨fun j=>C.getD j 0,h.c0,h.cp,h.row⟩
theorem Up.congr {A B:Nat→Nat→Int} {n m:Nat} {W:Rat} (h:Up A n m W) (e:∀ i j,i<n→j<m→A i j=B i j):Up B n m W:=by
 obtain ⟨R,r0,rp,hR⟩:=h
 refine ⟨R,r0,rp,fun j hj=>?_⟩
 rw [zay (g:=fun i=>R i*A i j) n fun i hi=>by rw [e i j hi hj]]
 exact hR j hj
theorem Dw.congr {A B:Nat→Nat→Int} {n m:Nat} {W:Rat} (h:Dw A n m W) (e:∀ i j,i<n→j<m→A i j=B i j):Dw B n m W:=by
 obtain ⟨R,r0,rp,hR⟩:=h
 refine ⟨R,r0,rp,fun i hi=>?_⟩
 rw [zay (f:=fun j=>R j*B i j) (g:=fun j=>R j*A i j) m fun j hj=>by rw [e i j hi hj]]
 exact hR i hi
theorem Sol.one {rows:List (List Int)} {w:Nat} {W V:Rat} {R C:List Int} (h:Sol rows w W R C) (u:Up (ent rows) rows.length w V) (d:Dw (ent rows) rows.length w V):W=V:=Rat.le_antisymm (dual u h.dw) (dual h.up d)
theorem zmN (f:Nat→Int):∀ n,S n f=((List.range n).map f).sum
 | 0=>rfl
 | n+1=>by rw [List.range_succ,List.map_append,List.sum_append,← zmN f n];show S n f+f n=S n f+(f n+0);omega
theorem zk9 {l l':List Int} (h:l.Perm l'):l.sum=l'.sum:=by
 induction h with
 | nil=>rfl
 | cons x _ ih=>rw [List.sum_cons,List.sum_cons,ih]
 | swap x y l=>simp only [List.sum_cons];omega
 | trans _ _ i1 i2=>exact i1.trans i2
theorem zfJ {ns:List Nat} {n:Nat} (h:ns.Perm (List.range n)) (f:Nat→Int):(S n fun i=>f (ns.getD i 0))=S n f:=by
 have l:=h.length_eq
 rw [List.length_range] at l
 rw [zmN,zmN]
 have e:(List.range n).map (fun i=>f (ns.getD i 0))=ns.map f:=by
  refine List.ext_getElem? fun i=>?_
  rw [List.getElem?_map,List.getElem?_map]
  by_cases hi:i<n
  ·rw [List.getElem?_range hi,List.getElem?_eq_getElem (by omega),Option.map_some,Option.map_some,List.getD_eq_getElem?_getD,List.getElem?_eq_getElem (by omega)]
   rfl
  ·rw [List.getElem?_eq_none (by rw [List.length_range];omega),List.getElem?_eq_none (by omega)]
   rfl
 rw [e]
 exact zk9 (h.map f)
theorem zdn {ns:List Nat} {n i:Nat} (h:ns.Perm (List.range n)) (hi:i<n):ns.getD i 0<n:=by
 have l:=h.length_eq
 rw [List.length_range] at l
 rw [List.getD_eq_getElem?_getD,List.getElem?_eq_getElem (by omega)]
 exact List.mem_range.mp (h.mem_iff.mp (List.getElem_mem _))
section
variable {A:Nat→Nat→Int} {n m:Nat} {W:Rat}
theorem Up.perm (h:Up A n m W) {ns ms:List Nat} (h1:ns.Perm (List.range n)) (h2:ms.Perm (List.range m)):Up (fun i j=>A (ns.getD i 0) (ms.getD j 0)) n m W:=by
 obtain ⟨R,r0,rp,hR⟩:=h
 refine ⟨fun i=>R (ns.getD i 0),fun i hi=>r0 _ (zdn h1 hi),by rw [zfJ h1 R];exact rp,fun j hj=>?_⟩
 rw [zfJ h1 fun x=>R x*A x (ms.getD j 0),zfJ h1 R]
 exact hR _ (zdn h2 hj)
theorem Dw.perm (h:Dw A n m W) {ns ms:List Nat} (h1:ns.Perm (List.range n)) (h2:ms.Perm (List.range m)):Dw (fun i j=>A (ns.getD i 0) (ms.getD j 0)) n m W:=by
 obtain ⟨R,r0,rp,hR⟩:=h
 refine ⟨fun i=>R (ms.getD i 0),fun i hi=>r0 _ (zdn h2 hi),by rw [zfJ h2 R];exact rp,fun i hi=>?_⟩
 rw [zfJ h2 fun x=>R x*A (ns.getD i 0) x,zfJ h2 R]
 exact hR _ (zdn h1 hi)
theorem zoj (f:Nat→Int) (k:Nat):(S k fun i=>-(f i))=-(S k f):=by
 rw [zay (g:=fun i=>(-1)*f i) k fun i _=>by omega,zdG]
 omega
theorem Dw.turn (h:Dw A n m W):Up (fun j i=>0 - A i j) m n (-W):=by
 obtain ⟨C,r0,rp,hR⟩:=h
 refine ⟨C,r0,rp,fun i hi=>?_⟩
 rw [zay (g:=fun j=>-(C j*A i j)) m fun j _=>by grind,zoj]
 have:=hR i hi
 push_cast
 grind
theorem Up.turn (h:Up A n m W):Dw (fun j i=>0 - A i j) m n (-W):=by
 obtain ⟨C,r0,rp,hR⟩:=h
 refine ⟨C,r0,rp,fun j hj=>?_⟩
 rw [zay (f:=fun i=>C i*(0 - A i j)) (g:=fun i=>-(C i*A i j)) n fun i _=>by grind,zoj]
 have:=hR j hj
 push_cast
 grind
theorem Up.scale (h:Up A n m W) {p q:Int} (hp:0<p):Up (fun i j=>p*A i j+q) n m ((p:Rat)*W+(q:Rat)):=by
 obtain ⟨R,r0,rp,hR⟩:=h
 refine ⟨R,r0,rp,fun j hj=>?_⟩
 rw [zay (g:=fun i=>p*(R i*A i j)+q*R i) n fun i _=>by grind,ze8]
 have h1:=hR j hj
 have pr:(0:Rat)≤(p:Rat):=by exact_mod_cast (Int.le_of_lt hp)
 have h2:=Rat.mul_le_mul_of_nonneg_left h1 pr
 push_cast
 generalize ((S n fun i=>R i*A i j:Int):Rat)=x at h2 ⊢
 generalize ((S n R:Int):Rat)=y at h2 ⊢
 grind
theorem Dw.scale (h:Dw A n m W) {p q:Int} (hp:0<p):Dw (fun i j=>p*A i j+q) n m ((p:Rat)*W+(q:Rat)):=by
 obtain ⟨R,r0,rp,hR⟩:=h
 refine ⟨R,r0,rp,fun i hi=>?_⟩
 rw [zay (f:=fun j=>R j*(p*A i j+q)) (g:=fun j=>p*(R j*A i j)+q*R j) m fun j _=>by grind,ze8]
 have h1:=hR i hi
 have pr:(0:Rat)≤(p:Rat):=by exact_mod_cast (Int.le_of_lt hp)
 have h2:=Rat.mul_le_mul_of_nonneg_left h1 pr
 push_cast
 generalize ((S m fun j=>R j*A i j:Int):Rat)=x at h2 ⊢
 generalize ((S m R:Int):Rat)=y at h2 ⊢
 grind
def ziV (R:Nat→Int) (n:Nat):Nat→Int:=fun i=>if i<n then R i else 0
theorem zkC {R:Nat→Int} {n:Nat} (f:Nat→Int):∀ k,(S (n+k) fun i=>ziV R n i*f i)=S n fun i=>R i*f i
 | 0=>zay n fun i hi=>by rw [ziV,if_pos hi]
 | k+1=>by
  show (S (n+k) fun i=>ziV R n i*f i)+ziV R n (n+k)*f (n+k)=_
  rw [zkC f k,ziV,if_neg (by omega),Int.zero_mul,Int.add_zero]
theorem zh0 {R:Nat→Int} {n:Nat} (k:Nat):S (n+k) (ziV R n)=S n R:=by
 have:=zkC (R:=R) (n:=n) (fun _=>1) k
 rw [zay (g:=ziV R n) _ fun i _=>Int.mul_one _,zay (g:=R) _ fun i _=>Int.mul_one _] at this
 exact this
theorem ziP {R:Nat→Int} (h:∀ i,i<n→0≤R i) (i:Nat):0≤ziV R n i:=by
 unfold ziV
 split
 ·exact h i (by assumption)
 ·exact Int.le_refl 0
theorem Up.rows (h:Up A n m W) {B:Nat→Nat→Int} (k:Nat) (e:∀ i j,i<n→j<m→B i j=A i j):Up B (n+k) m W:=by
 obtain ⟨R,r0,rp,hR⟩:=h
 refine ⟨ziV R n,fun i _=>ziP r0 i,by rw [zh0];exact rp,fun j hj=>?_⟩
 rw [zkC (fun i=>B i j),zh0,zay (g:=fun i=>R i*A i j) n fun i hi=>by rw [e i j hi hj]]
 exact hR j hj
theorem Dw.rows (h:Dw A n m W) {B:Nat→Nat→Int} {k:Nat} (e:∀ i,i<n+k→∃ i',i'<n∧∀ j,j<m→A i' j≤B i j):Dw B (n+k) m W:=by
 obtain ⟨R,r0,rp,hR⟩:=h
 refine ⟨R,r0,rp,fun i hi=>?_⟩
 obtain ⟨i',h1,h2⟩:=e i hi
 refine Rat.le_trans (hR i' h1) ?_
 have:(S m fun j=>R j*A i' j)≤S m fun j=>R j*B i j:=znw m fun j hj=>Int.mul_le_mul_of_nonneg_left (h2 j hj) (r0 j hj)
 exact_mod_cast this
theorem Dw.cols (h:Dw A n m W) {B:Nat→Nat→Int} (k:Nat) (e:∀ i j,i<n→j<m→B i j=A i j):Dw B n (m+k) W:=by
 obtain ⟨R,r0,rp,hR⟩:=h
 refine ⟨ziV R m,fun i _=>ziP r0 i,by rw [zh0];exact rp,fun i hi=>?_⟩
 rw [zkC (fun j=>B i j),zh0,zay (f:=fun j=>R j*B i j) (g:=fun j=>R j*A i j) m fun j hj=>by rw [e i j hi hj]]
 exact hR i hi
theorem Up.cols (h:Up A n m W) {B:Nat→Nat→Int} {k:Nat} (e:∀ j,j<m+k→∃ j',j'<m∧∀ i,i<n→B i j≤A i j'):Up B n (m+k) W:=by
 obtain ⟨R,r0,rp,hR⟩:=h
 refine ⟨R,r0,rp,fun j hj=>?_⟩
 obtain ⟨j',h1,h2⟩:=e j hj
 refine Rat.le_trans ?_ (hR j' h1)
 have:(S n fun i=>R i*B i j)≤S n fun i=>R i*A i j':=znw n fun i hi=>Int.mul_le_mul_of_nonneg_left (h2 i hi) (r0 i hi)
 exact_mod_cast this
end
def zgQ:Sp:=fun vs H Q _=>∃ (p:Addr) (c:Int) (m:Nat),vs=[.ref p,.int m]∧Drw H p c∧c<1000∧m≤6∧∀ (l:Addr) (ns:List Nat) (c':Int) (H':Hp),zaR (Off p p H) (Off p p H')→Drw H' p c'→c'≤c+6→Off p p H' l=some (.lst (ns.map fun x:Nat=>V.int x))→ns.Perm (List.range m)→Q (.ref l) H'
def zdW (K:PySem.W.Frag):TS :=
 (zgf (tBM K "list" zga (zab 2) (zac (zaA zaX [] E0 (zac (zab 0) (zac (tOp (rI0 fun i j=>.int (i+j)) (zab 3) (tC (.int 1))) zao))) (zac (zab 3) zao))))
theorem zcd (K:PySem.W.Frag) (D:zcb) (σ:St) (H:Hp):zdW K D σ H=(zgf (tBM K "list" zga (zab 2) (zac (zaA zaX [] E0 (zac (zab 0) (zac (tOp (rI0 fun i j=>.int (i+j)) (zab 3) (tC (.int 1))) zao))) (zac (zab 3) zao)))) D σ H:=rfl
def zdF (K:PySem.W.Frag):TS :=
 (zaM (zaU (zfL zao) (zai 2))
 (zaM (zj5 (zc3 (zac (zab 1) zao)) (zai 3)
 (zdW K))
 (zbM (zab 2))))
theorem zgY {p:Addr} {c:Int} {m:Nat} (hP:Drw H p c) (c1:c<1000) (m6:m≤6) (q:∀ (l:Addr) (ns:List Nat) (c':Int) (H':Hp),zaR (Off p p H) (Off p p H')→Drw H' p c'→c'≤c+6→Off p p H' l=some (.lst (ns.map fun x:Nat=>V.int x))→ns.Perm (List.range m)→Q (.ref l) H') :
  zdF K { nx:=fun _ H'=>Q .non H',rt:=Q } (L2.zbb ["_law_left_here","_law_many","_law_turn_here","_law_k"] [.ref p,.int m]) H:=by
 unfold zdF
 have c0:=hP.c0
 simp_all only [zcd,zab]
 refine ⟨by decide,fun D hD=>⟨by omega,by omega,?_⟩⟩
 have nD:=hP.new hD
 have fD:Off p p H D=none:=zde hD
 rw [Int.toNat_natCast]
 refine zea (fun i σ H'=>∃ (ns:List Nat) (u:Int),H' D=some (.lst (ns.map fun x:Nat=>V.int x))∧ns.Perm (List.range i)∧Drw H' p u∧u≤c+i∧zaR (Off p p H) (Off p p H')∧∃ x,σ=[some (.ref p),some (.int m),some (.ref D),x]) ?_ ?_ ?_
 ·refine ⟨[],c,zae,.refl _,hP.upd nD,by omega,?_,_,rfl⟩
  rw [zbA nD nD]
  exact zah fD _
 ·rintro i σ H1 hi ⟨ns,u,hD1,pm,P1,hu,s1,x,rfl⟩
  have u0:=P1.c0
  have ll:=pm.length_eq
  rw [List.length_range] at ll
  simp_all only [zcd,zab]
  rw [Int.zero_add]
  refine ⟨.inl ⟨rfl,_,SqL.of hD1⟩,?_⟩
  refine ⟨p,u,(i:Int)+1,rfl,P1,by omega,by omega,by omega,fun r H2 r0 r1 o2 P2=>?_⟩
  have hD2:H2 D=some (.lst (ns.map fun x:Nat=>V.int x)):=by
   have:Off p p H2 D=some (.lst (ns.map fun x:Nat=>V.int x)):=by rw [o2,zcn nD nD];exact hD1
   exact zbL _ _ _ _ _ this
  refine ⟨_,r,rfl,hD2,r0,by rw [List.length_map];omega,by rw [List.length_map];omega,ns.take r.toNat++i::ns.drop r.toNat,?_,?_,u+1,P2.upd nD,by omega,?_⟩
  ·rw [zae,List.map_append,List.map_cons,List.map_take,List.map_drop]
  ·refine List.Perm.trans List.perm_middle ?_
   rw [List.take_append_drop,List.range_succ]
   exact (pm.cons i).trans (List.perm_append_singleton i (List.range i)).symm
  ·rw [zbA nD nD,o2]
   exact s1.put fD
 ·rintro σ H1 ⟨ns,u,hD1,pm,P1,hu,s1,x,rfl⟩
  simp_all only [zcd,zab]
  exact q D ns u H1 s1 P1 (by omega) (by rw [zcn nD nD];exact hD1) pm
theorem zdc:zaB ["_law_left_here","_law_many","_law_turn_here","_law_k"] ["_law_left_here","_law_many"] (zag zdC):=⟨rfl,rfl,rfl,by decide +kernel,rfl,by decide +kernel,by decide +kernel⟩
theorem zg0 (T:Txt K mg base a):zcG P w K mg base CX0 3 a.f__law_turn a.d__law_turn ["_law_left_here","_law_many"] zgQ:=by
 have G__law_draw:=zdj (P:=P) (w:=w) (base:=base) T
 refine T.F__law_turn.ok zdc (fun vs H Q E h=>?_) (fun cdv A outer s H vs Q E hr h=>?_)
 ·obtain ⟨p,c,m,rfl,hP,c1,m6,q⟩:=h
  rfl
 obtain ⟨p,c,m,rfl,hP,c1,m6,q⟩:=h
 exact ⟨zdF K,(zad (zas (i:=2) zdc.nd rfl (Or.inl rfl) (zc7 zaf))
 (zad (zex PassesOwn.never rfl (zba rfl T.z_range (zaa (pv 1) zaf)) (zau (i:=3) zdc.nd rfl (Or.inl rfl))
 (zam (zgd (znz PySem.F.plainAttrs_list PySem.F.slot_list_insert PySem.F.type_list_insert ziM (pv 2) (zaa (zap G__law_draw (hr.mono (by decide)) rfl T.m__law_draw T.F__law_draw.kp T.b__law_draw .nil zaW (zaa (pv 0) (zaa (zav zcm (pv 3) zaj) zaf))) (zaa (pv 3) zaf))))))
 (zam (zaQ (pv 2))))),
  zgY hP c1 m6 q⟩
def zkO (K:PySem.W.Frag) (P:Addr):Sp:=fun vs H Q _=>∃ (p:Addr) (ns:List Int),vs=[.ref p]∧SqL K H p (ns.map V.int)∧ns.length≤63∧(∀ x∈ns,x.natAbs<2 ^ 2 ^ 20)∧LT H P∧∀ H',Q (.bl true) H'
structure Lw (H0 H:Hp) (P p tt:Addr) (c:Int) (rs:List Addr) (rows:List (List Int)) (w:Nat) (W:Rat):Prop where
 D:Drw H p c
 L:LT (Off p p H) P
 T:Tb (Off p p H) tt rs rows w
 b98:∀ row∈rows,∀ x∈row,Bd 98 x
 l6:rows.length≤6
 w6:w≤6
 sol:∃ R C,Sol rows w W R C
 bq:Bq 2801 W
 base:Bar P H0 (Off p p H)
section
variable {H0 H H':Hp} {P' p tt:Addr} {c c':Int} {rs:List Addr} {rows:List (List Int)} {w:Nat} {W:Rat}
theorem Lw.same (h:Lw H0 H P' p tt c rs rows w W) (s:zaR (Off p p H) (Off p p H')) (d:Drw H' p c'):Lw H0 H' P' p tt c' rs rows w W:=⟨d,h.L.same s,h.T.same s,h.b98,h.l6,h.w6,h.sol,h.bq,fun x o n e=>s _ _ (h.base x o n e)⟩
theorem Lw.draw (h:Lw H0 H P' p tt c rs rows w W) (o:Off p p H'=Off p p H) (d:Drw H' p c'):Lw H0 H' P' p tt c' rs rows w W:=h.same (by rw [o];exact .refl _) d
theorem Lw.new (h:Lw H0 H P' p tt c rs rows w W) {b:Addr} (hb:H b=none) (o:HO):Lw H0 (L2.upd H b o) P' p tt c rs rows w W:=by
 have n:=h.D.new hb
 refine h.same ?_ (h.D.upd n)
 rw [zbA n n]
 exact zah (zde hb) _
theorem Lw.grow (h:Lw H0 H P' p tt c rs rows w W) (s:zaR H H'):Lw H0 H' P' p tt c rs rows w W:=by
 obtain ⟨n,f,hp,e1,e2⟩:=h.D.hp
 refine h.same (fun x o e=>?_) ⟨⟨n,f,s _ _ hp,e1,e2⟩,h.D.c0⟩
 have nx:x≠p:=(zjU e).1
 rw [zcn nx nx] at e ⊢
 exact s _ _ e
theorem Lw.full (h:Lw H0 H P' p tt c rs rows w W):LT H P':=h.L.same (zbL _ _ _)
theorem Lw.tab (h:Lw H0 H P' p tt c rs rows w W):Tb H tt rs rows w:=h.T.same (zbL _ _ _)
theorem Lw.pP (h:Lw H0 H P' p tt c rs rows w W):p≠P':=by
 obtain ⟨n,f,hp,_⟩:=h.D.hp
 exact h.full.neL hp
theorem Lw.worth (h:Lw H0 H P' p tt c rs rows w W) (bar:Bar P' H H') (l:LT H' P'):Lw H0 H' P' p tt c rs rows w W:=by
 have np:=h.pP
 obtain ⟨n,f,hp,e1,e2⟩:=h.D.hp
 have hp':=bar _ _ np hp
 have bo:Bar P' (Off p p H) (Off p p H'):=fun x o nx e=>by
  have nxp:x≠p:=(zjU e).1
  rw [zcn nxp nxp] at e ⊢
  exact bar _ _ nx e
 refine ⟨⟨⟨n,f,hp',e1,e2⟩,h.D.c0⟩,l.put fun x o n1 n2 e=>?_,h.T.bar h.L bo,h.b98,h.l6,h.w6,h.sol,h.bq,zcv h.base bo⟩
 have nxp:x≠p:=fun z=>by rw [z,hp'] at e;cases e;exact n1 _ rfl
 rw [zcn nxp nxp]
 exact e
end
def Mde (H H':Hp) (D:Addr) (us:List Addr) (rows:List (List Int)) (i:Nat):Prop:=us.length=i∧∀ (k:Nat) r row,us[k]?=some r→rows[k]?=some row→r≠D∧H' r=some (.lst (row.map V.int))
theorem Mde.put {H H' H2:Hp} {D l:Addr} {us:List Addr} {rows:List (List Int)} {row:List Int} {i:Nat} (h:Mde H H' D us rows i) (s:zaR H' H2) (e:rows[i]?=some row) (nl:l≠D) (hl:H2 l=some (.lst (row.map V.int))) (o:HO):Mde H (L2.upd H2 D o) D (us++[l]) rows (i+1):=by
 refine ⟨by rw [List.length_append,h.1];rfl,fun k r row' k1 k2=>?_⟩
 by_cases hk:k<us.length
 ·rw [List.getElem?_append_left hk] at k1
  obtain ⟨z1,z2⟩:=h.2 k r row' k1 k2
  exact ⟨z1,by rw [zak z1];exact s _ _ z2⟩
 ·rw [List.getElem?_append_right (by omega)] at k1
  have zk:k - us.length=0:=by
   have:=(List.getElem?_eq_some_iff.mp k1).1
   simp only [List.length_cons,List.length_nil] at this
   omega
  rw [zk] at k1
  cases k1
  have l1:=h.1
  rw [show k=i by omega,e] at k2
  cases k2
  exact ⟨nl,by rw [zak nl];exact hl⟩
theorem zfz {p D:Addr} {xs:List V} {te:TE} {rest:St} {x0:Option V} {rows:List (List Int)} (hp:H p=some (.lst xs)) (lq:rows.length=xs.length) (l6:rows.length≤100) (hD:H D=none)
  (st:∀ (i:Nat) (x:V) (row:List Int) (H':Hp) (R:VK),xs[i]?=some x→rows[i]?=some row→zaR H H'→(∀ (l:Addr) (H2:Hp),zaR H' H2→H' l=none→H2 l=some (.lst (row.map V.int))→R (.ref l) H2)→te (some x::rest) H' R)
  (hd:∀ (us:List Addr) (H':Hp),zaR H H'→H' D=some (.lst (us.map V.ref))→us.length=rows.length→(∀ (k:Nat) r row,us[k]?=some r→rows[k]?=some row→H' r=some (.lst (row.map V.int)))→Q (.ref D) H') :
  zeU (Itl K p) (zai 0) zaq te D Q (x0::rest) (upd H D (.lst [])):=by
 refine zbs (K:=K) (xs:=xs) (fun i ys σ H'=>zaR H H'∧(∃ us:List Addr,ys=us.map V.ref∧Mde H H' D us rows i)∧∃ x,σ=x::rest) ⟨zah hD _,⟨[],rfl,rfl,fun k r row e=>nomatch e⟩,_,rfl⟩ ?_ ?_ ?_
 ·rintro i ys σ H' _ ⟨s,_⟩
  exact SqL.of (s _ _ hp)
 ·rintro i x ys σ H' hx hD' ⟨s,⟨us,rfl,M⟩,u,rfl⟩
  have i1:=(List.getElem?_eq_some_iff.mp hx).1
  have hw:rows[i]?=some (rows[i]'(by omega)):=List.getElem?_eq_getElem (by omega)
  refine st i x _ _ _ hx hw s fun l H2 s2 nl hl=>?_
  have lD:l≠D:=fun z=>by rw [z,hD'] at nl;cases nl
  have ul:=M.1
  exact ⟨D,_,_,rfl,rfl,s2 _ _ hD',zbm (by rw [List.length_map];omega),_,zae,(s.trans s2).put hD,⟨us++[l],by rw [List.map_append];rfl,M.put s2 hw lD hl _⟩,_,rfl⟩
 ·rintro ys σ H' hD' ⟨s,⟨us,rfl,M⟩,u,rfl⟩
  exact hd us H' s hD' (by rw [M.1,lq]) fun k r row k1 k2=>(M.2 k r row k1 k2).2
theorem ziq {D:Addr} {n:Nat} {te:TE} {rest:St} {x0:Option V} {rows:List (List Int)} (lq:rows.length=n) (l6:rows.length≤100) (hD:H D=none)
  (st:∀ (i:Nat) (row:List Int) (H':Hp) (R:VK),i<n→rows[i]?=some row→zaR H H'→(∀ (l:Addr) (H2:Hp),zaR H' H2→H' l=none→H2 l=some (.lst (row.map V.int))→R (.ref l) H2)→te (some (.int (0+i))::rest) H' R)
  (hd:∀ (us:List Addr) (H':Hp),zaR H H'→H' D=some (.lst (us.map V.ref))→us.length=rows.length→(∀ (k:Nat) r row,us[k]?=some r→rows[k]?=some row→H' r=some (.lst (row.map V.int)))→Q (.ref D) H') :
  zeU (Itr 0 n) (zai 0) zaq te D Q (x0::rest) (upd H D (.lst [])):=by
 refine za8 (fun i ys σ H'=>zaR H H'∧(∃ us:List Addr,ys=us.map V.ref∧Mde H H' D us rows i)∧∃ x,σ=x::rest) ⟨zah hD _,⟨[],rfl,rfl,fun k r row e=>nomatch e⟩,_,rfl⟩ ?_ ?_
 ·rintro i ys σ H' hi hD' ⟨s,⟨us,rfl,M⟩,u,rfl⟩
  have hw:rows[i]?=some (rows[i]'(by omega)):=List.getElem?_eq_getElem (by omega)
  refine st i _ _ _ hi hw s fun l H2 s2 nl hl=>?_
  have lD:l≠D:=fun z=>by rw [z,hD'] at nl;cases nl
  have ul:=M.1
  exact ⟨D,_,_,rfl,rfl,s2 _ _ hD',zbm (by rw [List.length_map];omega),_,zae,(s.trans s2).put hD,⟨us++[l],by rw [List.map_append];rfl,M.put s2 hw lD hl _⟩,_,rfl⟩
 ·rintro ys σ H' hD' ⟨s,⟨us,rfl,M⟩,u,rfl⟩
  exact hd us H' s hD' (by rw [M.1,lq]) fun k r row k1 k2=>(M.2 k r row k1 k2).2
theorem zhG {D:Addr} {n:Nat} {te:TE} {rest:St} {x0:Option V} {vs:List V} (lq:vs.length=n) (l6:vs.length≤1000) (hD:H D=none)
  (st:∀ (i:Nat) (v:V) (H':Hp) (R:VK),i<n→vs[i]?=some v→zaR H H'→(∀ H2:Hp,zaR H' H2→R v H2)→te (some (.int (0+i))::rest) H' R)
  (hd:∀ H':Hp,zaR H H'→H' D=some (.lst vs)→Q (.ref D) H') :
  zeU (Itr 0 n) (zai 0) zaq te D Q (x0::rest) (upd H D (.lst [])):=by
 refine za8 (fun i ys σ H'=>zaR H H'∧ys=vs.take i∧∃ x,σ=x::rest) ⟨zah hD _,rfl,_,rfl⟩ ?_ ?_
 ·rintro i ys σ H' hi hD' ⟨s,rfl,u,rfl⟩
  have hw:vs[i]?=some (vs[i]'(by omega)):=List.getElem?_eq_getElem (by omega)
  refine st i _ _ _ hi hw s fun H2 s2=>?_
  refine ⟨D,_,_,rfl,rfl,s2 _ _ hD',zbm (by rw [List.length_take];omega),_,zae,(s.trans s2).put hD,?_,_,rfl⟩
  rw [List.take_add_one,hw]
  rfl
 ·rintro ys σ H' hD' ⟨s,rfl,u,rfl⟩
  rw [← lq,List.take_length] at hD'
  exact hd H' s hD'
theorem ziS {D:Addr} {us:List Addr} {rows:List (List Int)} {w:Nat} (hD:H D=some (.lst (us.map V.ref))) (lu:us.length=rows.length) (hu:∀ (k:Nat) r row,us[k]?=some r→rows[k]?=some row→H r=some (.lst (row.map V.int))) (hw:∀ row∈rows,row.length=w) (l1:1≤rows.length) (l12:rows.length≤12) (w1:1≤w) (w12:w≤12) (hb:∀ row∈rows,∀ x∈row,Bd 102 x):Tb H D us rows w:=⟨hD,lu,hu,hw,l1,l12,w1,w12,hb⟩
theorem zcJ {rows:List (List Int)} {i:Nat} {row:List Int} (e:rows[i]?=some row) (j:Nat):ent rows i j=row.getD j 0:=by rw [ent,List.getD_eq_getElem?_getD (l:=rows),e];rfl
theorem zh8 {m w i j:Nat} {rows:List (List Int)} (h:∀ row∈rows,∀ x∈row,Bd m x) (hw:∀ row∈rows,row.length=w) (hi:i<rows.length) (hj:j<w):Bd m (ent rows i j):=by
 have e:rows[i]?=some rows[i]:=List.getElem?_eq_getElem hi
 have l:=hw _ (List.getElem_mem hi)
 rw [zcJ e,List.getD_eq_getElem?_getD,List.getElem?_eq_getElem (by omega)]
 exact h _ (List.getElem_mem hi) _ (List.getElem_mem _)
def tbl (f:Nat→Nat→Int) (n m:Nat):List (List Int):=(List.range n).map fun i=>(List.range m).map fun j=>f i j
theorem zbP (f:Nat→Nat→Int) (n m:Nat):(tbl f n m).length=n:=by rw [tbl,List.length_map,List.length_range]
theorem zhl {f:Nat→Nat→Int} {n m i:Nat} {row:List Int} (h:(tbl f n m)[i]?=some row):i<n∧row=(List.range m).map fun j=>f i j:=by
 rw [tbl,List.getElem?_map] at h
 by_cases hi:i<n
 ·rw [List.getElem?_range hi] at h
  cases h
  exact ⟨hi,rfl⟩
 ·rw [List.getElem?_eq_none (by rw [List.length_range];omega)] at h
  cases h
theorem zjr {f:Nat→Nat→Int} {n m i j:Nat} (hi:i<n) (hj:j<m):ent (tbl f n m) i j=f i j:=by
 rw [zcJ (row:=(List.range m).map fun j=>f i j) (by rw [tbl,List.getElem?_map,List.getElem?_range hi];rfl),List.getD_eq_getElem?_getD,List.getElem?_map,List.getElem?_range hj]
 rfl
theorem zi3 {f:Nat→Nat→Int} {n m:Nat} {row:List Int} (h:row∈tbl f n m):∃ i,i<n∧row=(List.range m).map fun j=>f i j:=by
 obtain ⟨i,hi,rfl⟩:=List.mem_map.mp h
 exact ⟨i,List.mem_range.mp hi,rfl⟩
theorem zhy {f:Nat→Nat→Int} {n m:Nat} {D:Addr} {us:List Addr} (hD:H D=some (.lst (us.map V.ref))) (lu:us.length=n) (hu:∀ (k:Nat) r row,us[k]?=some r→(tbl f n m)[k]?=some row→H r=some (.lst (row.map V.int))) (n1:1≤n) (n12:n≤12) (m1:1≤m) (m12:m≤12) (hb:∀ i j,i<n→j<m→Bd 102 (f i j)):Tb H D us (tbl f n m) m:=by
 refine ziS hD (by rw [zbP,lu]) hu (fun row h=>?_) (by rw [zbP];exact n1) (by rw [zbP];exact n12) m1 m12 fun row h x hx=>?_
 ·obtain ⟨i,_,rfl⟩:=zi3 h
  rw [List.length_map,List.length_range]
 ·obtain ⟨i,hi,rfl⟩:=zi3 h
  obtain ⟨j,hj,rfl⟩:=List.mem_map.mp hx
  exact hb i j hi (List.mem_range.mp hj)
theorem zhF {f:Nat→Nat→Int} {n m:Nat} {W V:Rat} {R C:List Int} (h:Sol (tbl f n m) m W R C) (u:Up f n m V) (d:Dw f n m V):W=V:=by
 refine h.one ?_ ?_
 ·rw [zbP]
  exact u.congr fun i j hi hj=>(zjr hi hj).symm
 ·rw [zbP]
  exact d.congr fun i j hi hj=>(zjr hi hj).symm
def zgg (K:PySem.W.Frag) (a:Ad):TS :=
 (zaM (zaU (zaA zaX [] E0 (zac (zab 2) (zac (zab 5) zao))) (zai 15))
 (zda (zbd (tOp (ziG K) (tOp (zdJ K) (zaA (zbW a.p_lam) [] E0 (zac (za5 (zbT K (zab 3)) (zai 0) zaq (tOp zj8 (zab 0) (zfL (zac (tOp (rI0 fun i j=>.int (i - j)) (tOp (za2 K) (zab 0) (zab 1)) (zaA zaX [] E0 (zac (zab 2) (zac (tC (.int 3)) zao)))) zao))) [none,some 15,some 2]) zao)) (tC (.int 0))) (zgu (zac (zab 6) (zac (zab 7) zao))))) (zbM (tC (.bl false))) zbo))
theorem zaJ (K:PySem.W.Frag) (a:Ad) (D:zcb) (σ:St) (H:Hp):zgg K a D σ H=(zaM (zaU (zaA zaX [] E0 (zac (zab 2) (zac (zab 5) zao))) (zai 15))
 (zda (zbd (tOp (ziG K) (tOp (zdJ K) (zaA (zbW a.p_lam) [] E0 (zac (za5 (zbT K (zab 3)) (zai 0) zaq (tOp zj8 (zab 0) (zfL (zac (tOp (rI0 fun i j=>.int (i - j)) (tOp (za2 K) (zab 0) (zab 1)) (zaA zaX [] E0 (zac (zab 2) (zac (tC (.int 3)) zao)))) zao))) [none,some 15,some 2]) zao)) (tC (.int 0))) (zgu (zac (zab 6) (zac (zab 7) zao))))) (zbM (tC (.bl false))) zbo)) D σ H:=rfl
def zgw (K:PySem.W.Frag) (a:Ad):TS :=
 (zda (zbd (tOp (ziG K) (tOp (zdJ K) (zaA (zbW a.p_lam) [] E0 (zac (tOp zj8 (zaA zg1 [] E0 (zac (zab 3) zao)) (zab 14)) zao)) (tC (.int 0))) (zgu (zac (zab 6) (zac (zab 7) zao))))) (zbM (tC (.bl false))) zbo)
theorem zaK (K:PySem.W.Frag) (a:Ad) (D:zcb) (σ:St) (H:Hp):zgw K a D σ H=(zda (zbd (tOp (ziG K) (tOp (zdJ K) (zaA (zbW a.p_lam) [] E0 (zac (tOp zj8 (zaA zg1 [] E0 (zac (zab 3) zao)) (zab 14)) zao)) (tC (.int 0))) (zgu (zac (zab 6) (zac (zab 7) zao))))) (zbM (tC (.bl false))) zbo) D σ H:=rfl
def zf6 (K:PySem.W.Frag) (a:Ad):TS :=
 (zaM (zaU (zaA zaX [] E0 (zac (zab 2) (zac (zab 4) zao))) (zai 13))
 (zaM (zaU (zfL (zac (tCB (fun xs H Q=>∃ p ys,xs=[.ref p]∧(SqL K H p ys∨SqT K H p ys)∧∀ l,H l=none→Q (.ref l) (upd H l (.lst ys))) (zac (tOp (za2 K) (zab 3) (zab 13)) zao)) (zac (za5 (zbT K (tOp (za2 K) (zab 3) (zab 13))) (zai 0) zaq (tOp (rI0 fun i j=>.int (i+j)) (tOp (rI0 fun i j=>.int (i+j)) (zab 0) (tC (.int 1))) (zaA zaX [] E0 (zac (zab 1) (zac (tC (.int 3)) zao)))) [none,some 2]) zao))) (zai 14))
 (zaM (zge (zgw K a))
 (zgg K a))))
theorem zaE (K:PySem.W.Frag) (a:Ad) (D:zcb) (σ:St) (H:Hp):zf6 K a D σ H=(zaM (zaU (zaA zaX [] E0 (zac (zab 2) (zac (zab 4) zao))) (zai 13))
 (zaM (zaU (zfL (zac (tCB (fun xs H Q=>∃ p ys,xs=[.ref p]∧(SqL K H p ys∨SqT K H p ys)∧∀ l,H l=none→Q (.ref l) (upd H l (.lst ys))) (zac (tOp (za2 K) (zab 3) (zab 13)) zao)) (zac (za5 (zbT K (tOp (za2 K) (zab 3) (zab 13))) (zai 0) zaq (tOp (rI0 fun i j=>.int (i+j)) (tOp (rI0 fun i j=>.int (i+j)) (zab 0) (tC (.int 1))) (zaA zaX [] E0 (zac (zab 1) (zac (tC (.int 3)) zao)))) [none,some 2]) zao))) (zai 14))
 (zaM (zge (zgw K a))
 (zgg K a)))) D σ H:=rfl
def zfZ (K:PySem.W.Frag) (a:Ad):TS :=
 (zda (zbd (tOp (ziG K) (tOp (zdJ K) (zaA (zbW a.p_lam) [] E0 (zac (zab 12) zao)) (tC (.int 0))) (zaA zjy [] E0 (zac (tOp (rI0 fun i j=>.int (i+j)) (tOp (rI IntMulOk fun i j=>.int (i*j)) (zab 10) (zab 6)) (tOp (rI IntMulOk fun i j=>.int (i*j)) (zab 11) (zab 7))) (zac (zab 7) zao))))) (zbM (tC (.bl false))) zbo)
theorem zaI (K:PySem.W.Frag) (a:Ad) (D:zcb) (σ:St) (H:Hp):zfZ K a D σ H=(zda (zbd (tOp (ziG K) (tOp (zdJ K) (zaA (zbW a.p_lam) [] E0 (zac (zab 12) zao)) (tC (.int 0))) (zaA zjy [] E0 (zac (tOp (rI0 fun i j=>.int (i+j)) (tOp (rI IntMulOk fun i j=>.int (i*j)) (zab 10) (zab 6)) (tOp (rI IntMulOk fun i j=>.int (i*j)) (zab 11) (zab 7))) (zac (zab 7) zao))))) (zbM (tC (.bl false))) zbo) D σ H:=rfl
def zfK (K:PySem.W.Frag) (a:Ad):TS :=
 (zaM (zaU (tOp (rI0 fun i j=>.int (i+j)) (tC (.int 1)) (zaA zaX [] E0 (zac (zab 2) (zac (tC (.int 9)) zao)))) (zai 10))
 (zaM (zaU (tOp (rI0 fun i j=>.int (i - j)) (zaA zaX [] E0 (zac (zab 2) (zac (tC (.int 2001)) zao))) (tC (.int 1000))) (zai 11))
 (zaM (zaU (za5 (zbT K (zab 3)) (zai 0) zaq (za5 (zbT K (zab 0)) (zai 0) zaq (tOp (rI0 fun i j=>.int (i+j)) (tOp (rI IntMulOk fun i j=>.int (i*j)) (zab 2) (zab 0)) (zab 1)) [none,some 1,some 2]) [none,some 11,some 10]) (zai 12))
 (zaM (zge (zfZ K a))
 (zf6 K a)))))
theorem zaD (K:PySem.W.Frag) (a:Ad) (D:zcb) (σ:St) (H:Hp):zfK K a D σ H=(zaM (zaU (tOp (rI0 fun i j=>.int (i+j)) (tC (.int 1)) (zaA zaX [] E0 (zac (zab 2) (zac (tC (.int 9)) zao)))) (zai 10))
 (zaM (zaU (tOp (rI0 fun i j=>.int (i - j)) (zaA zaX [] E0 (zac (zab 2) (zac (tC (.int 2001)) zao))) (tC (.int 1000))) (zai 11))
 (zaM (zaU (za5 (zbT K (zab 3)) (zai 0) zaq (za5 (zbT K (zab 0)) (zai 0) zaq (tOp (rI0 fun i j=>.int (i+j)) (tOp (rI IntMulOk fun i j=>.int (i*j)) (zab 2) (zab 0)) (zab 1)) [none,some 1,some 2]) [none,some 11,some 10]) (zai 12))
 (zaM (zge (zfZ K a))
 (zf6 K a))))) D σ H:=rfl
def zfO (K:PySem.W.Frag) (a:Ad):TS :=
 (zda (zbd (tOp (ziG K) (tOp (zdJ K) (zaA (zbW a.p_lam) [] E0 (zac (za5 (zc3 (zac (zab 5) zao)) (zai 0) zaq (za5 (zc3 (zac (zab 1) zao)) (zai 0) zaq (tOp (rI0 fun i j=>.int (i - j)) (tC (.int 0)) (tOp (za2 K) (tOp (za2 K) (zab 2) (zab 0)) (zab 1))) [none,some 0,some 2]) [none,some 4,some 3]) zao)) (tC (.int 0))) (zgu (zac (tOp (rI0 fun i j=>.int (i - j)) (tC (.int 0)) (zab 6)) (zac (zab 7) zao))))) (zbM (tC (.bl false))) zbo)
theorem zaH (K:PySem.W.Frag) (a:Ad) (D:zcb) (σ:St) (H:Hp):zfO K a D σ H=(zda (zbd (tOp (ziG K) (tOp (zdJ K) (zaA (zbW a.p_lam) [] E0 (zac (za5 (zc3 (zac (zab 5) zao)) (zai 0) zaq (za5 (zc3 (zac (zab 1) zao)) (zai 0) zaq (tOp (rI0 fun i j=>.int (i - j)) (tC (.int 0)) (tOp (za2 K) (tOp (za2 K) (zab 2) (zab 0)) (zab 1))) [none,some 0,some 2]) [none,some 4,some 3]) zao)) (tC (.int 0))) (zgu (zac (tOp (rI0 fun i j=>.int (i - j)) (tC (.int 0)) (zab 6)) (zac (zab 7) zao))))) (zbM (tC (.bl false))) zbo) D σ H:=rfl
def zf8 (K:PySem.W.Frag) (a:Ad):TS :=
 (zda (zbd (tOp (ziG K) (tOp (zdJ K) (zaA (zbW a.p_lam) [] E0 (zac (za5 (zbT K (zab 8)) (zai 0) zaq (za5 (zbT K (zab 1)) (zai 0) zaq (tOp (za2 K) (tOp (za2 K) (zab 1) (zab 2)) (zab 0)) [none,some 2,some 0]) [none,some 9,some 3]) zao)) (tC (.int 0))) (zgu (zac (zab 6) (zac (zab 7) zao))))) (zbM (tC (.bl false))) zbo)
theorem zaF (K:PySem.W.Frag) (a:Ad) (D:zcb) (σ:St) (H:Hp):zf8 K a D σ H=(zda (zbd (tOp (ziG K) (tOp (zdJ K) (zaA (zbW a.p_lam) [] E0 (zac (za5 (zbT K (zab 8)) (zai 0) zaq (za5 (zbT K (zab 1)) (zai 0) zaq (tOp (za2 K) (tOp (za2 K) (zab 1) (zab 2)) (zab 0)) [none,some 2,some 0]) [none,some 9,some 3]) zao)) (tC (.int 0))) (zgu (zac (zab 6) (zac (zab 7) zao))))) (zbM (tC (.bl false))) zbo) D σ H:=rfl
def zfP (K:PySem.W.Frag) (a:Ad):TS :=
 (zaM (zaU (zaA (zjF K) [] E0 (zac (zfL (zac (zab 1) zao)) (zac (tC (.int 0)) zao))) (zai 2))
 (zaM (zaU (zaA zhq [] E0 (zac (zab 2) zao)) (zai 3))
 (zaM (zaU (tCB (fun xs H Q=>∃ p ys,xs=[.ref p]∧(SqL K H p ys∨SqT K H p ys)∧Q (.int ys.length) H) (zac (zab 3) zao)) (zai 4))
 (zaM (zaU (tCB (fun xs H Q=>∃ p ys,xs=[.ref p]∧(SqL K H p ys∨SqT K H p ys)∧Q (.int ys.length) H) (zac (tOp (za2 K) (zab 3) (tC (.int 0))) zao)) (zai 5))
 (zaM (zaU (tOp (zdJ K) (zaA (zbW a.p_lam) [] E0 (zac (zaA zg1 [] E0 (zac (zab 3) zao)) zao)) (tC (.int 0))) (zne K 2 (zfm (zai 6) (zfm (zai 7) znl))))
 (zaM (zaU (zaA zgQ [] E0 (zac (zab 2) (zac (zab 4) zao))) (zai 8))
 (zaM (zaU (zaA zgQ [] E0 (zac (zab 2) (zac (zab 5) zao))) (zai 9))
 (zaM (zge (zf8 K a))
 (zaM (zge (zfO K a))
 (zfK K a))))))))))
theorem zaC (K:PySem.W.Frag) (a:Ad) (D:zcb) (σ:St) (H:Hp):zfP K a D σ H=(zaM (zaU (zaA (zjF K) [] E0 (zac (zfL (zac (zab 1) zao)) (zac (tC (.int 0)) zao))) (zai 2))
 (zaM (zaU (zaA zhq [] E0 (zac (zab 2) zao)) (zai 3))
 (zaM (zaU (tCB (fun xs H Q=>∃ p ys,xs=[.ref p]∧(SqL K H p ys∨SqT K H p ys)∧Q (.int ys.length) H) (zac (zab 3) zao)) (zai 4))
 (zaM (zaU (tCB (fun xs H Q=>∃ p ys,xs=[.ref p]∧(SqL K H p ys∨SqT K H p ys)∧Q (.int ys.length) H) (zac (tOp (za2 K) (zab 3) (tC (.int 0))) zao)) (zai 5))
 (zaM (zaU (tOp (zdJ K) (zaA (zbW a.p_lam) [] E0 (zac (zaA zg1 [] E0 (zac (zab 3) zao)) zao)) (tC (.int 0))) (zne K 2 (zfm (zai 6) (zfm (zai 7) znl))))
 (zaM (zaU (zaA zgQ [] E0 (zac (zab 2) (zac (zab 4) zao))) (zai 8))
 (zaM (zaU (zaA zgQ [] E0 (zac (zab 2) (zac (zab 5) zao))) (zai 9))
 (zaM (zge (zf8 K a))
 (zaM (zge (zfO K a))
 (zfK K a)))))))))) D σ H:=rfl
def zmm (K:PySem.W.Frag) (a:Ad):TS :=
 (zaM (zj5 (zbT K (tOp zj8 (zfL (zac (tC (.int 0)) zao)) (tSl (znH K) (zab 0) zeQ (zi7 (tC (.int 63)))))) (zai 1)
 (zfP K a))
 (zbM (tC (.bl true))))
theorem law_6 {H0:Hp} {p tt rl cl:Addr} {c:Int} {rs:List Addr} {rows:List (List Int)} {w:Nat} {W:Rat} {scr cell:Option V} {ns ms:List Nat} (Z:Lw H0 H a.p_lam p tt c rs rows w W) (h1:Off p p H rl=some (.lst (ns.map fun x:Nat=>V.int x))) (h2:Off p p H cl=some (.lst (ms.map fun x:Nat=>V.int x))) (p1:ns.Perm (List.range rows.length)) (p2:ms.Perm (List.range w)) {D:zcb}
  (q:∀ H',Lw H0 H' a.p_lam p tt c rs rows w W→D.nx [scr,cell,some (.ref p),some (.ref tt),some (.int rows.length),some (.int w),some (.int W.num),some (.int (W.den:Int)),some (.ref rl),some (.ref cl),y1,y2,y3,y4,y5,y6] H') :
  zf8 K a D [scr,cell,some (.ref p),some (.ref tt),some (.int rows.length),some (.int w),some (.int W.num),some (.int (W.den:Int)),some (.ref rl),some (.ref cl),y1,y2,y3,y4,y5,y6] H:=by
 have n1:=Z.T.l1
 have l6:=Z.l6
 have w1:=Z.T.w1
 have w6:=Z.w6
 have f1:=zbL _ _ _ _ _ h1
 have f2:=zbL _ _ _ _ _ h2
 have ln:=p1.length_eq
 have lm:=p2.length_eq
 rw [List.length_range] at ln lm
 simp_all only [zaJ,zaK,zaE,zaI,zaD,zaH,zaF,zaC,zab]
 refine ⟨⟨_,SqL.of f1⟩,fun E hE=>?_⟩
 let f:Nat→Nat→Int:=fun i j=>ent rows (ns.getD i 0) (ms.getD j 0)
 refine zfz (rows:=tbl f rows.length w) f1 (by rw [zbP,List.length_map,ln]) (by rw [zbP];omega) hE (fun i x row H1 R hx hr s1 hR=>?_) fun us H1 s1 hE1 lu hu=>?_
 ·obtain ⟨hi,rfl⟩:=zhl hr
  obtain ⟨k,hk,rfl⟩:=zbO hx
  have ek:ns.getD i 0=k:=by rw [List.getD_eq_getElem?_getD,hk];rfl
  have kl:=zdn p1 hi
  rw [ek] at kl
  have T1:=Z.tab.same s1
  have hk2:rs[k]?=some (rs[k]'(by rw [T1.len];exact kl)):=List.getElem?_eq_getElem _
  obtain ⟨rk,e1,e2,e3⟩:=T1.at hk2
  simp_all only [zaJ,zaK,zaE,zaI,zaD,zaH,zaF,zaC,zab]
  refine ⟨⟨_,SqL.of (s1 _ _ f2)⟩,fun F hF=>?_⟩
  refine zcr (s1 _ _ f2) (vs:=((List.range w).map fun j=>f i j).map V.int) (by rw [List.length_map,List.length_map,List.length_range,List.length_map,lm]) (by rw [List.length_map,List.length_map,List.length_range];omega) hF (fun j y v H2 R2 hy hv s2 hR2=>?_) fun H2 s2 hF2=>hR F H2 s2 hF hF2
  obtain ⟨l,hl,rfl⟩:=zbO hy
  have jl:j<w:=by rw [← lm];exact (List.getElem?_eq_some_iff.mp hl).1
  have el:ms.getD j 0=l:=by rw [List.getD_eq_getElem?_getD,hl];rfl
  have ll:=zdn p2 jl
  rw [el] at ll
  rw [List.getElem?_map,List.getElem?_map,List.getElem?_range jl] at hv
  cases hv
  simp_all only [zaJ,zaK,zaE,zaI,zaD,zaH,zaF,zaC,zab]
  refine ⟨_,SqL.of (s2 _ _ T1.ht),_,zbz (by rw [List.getElem?_map,hk2];rfl),_,rfl,_,SqL.of (s2 _ _ e2),_,zbz (by rw [List.getElem?_map,List.getElem?_eq_getElem (by omega)];rfl),?_⟩
  have:rk[l]'(by omega)=f i j:=by
   show _=ent rows (ns.getD i 0) (ms.getD j 0)
   rw [ek,el,zcJ e1,List.getD_eq_getElem?_getD,List.getElem?_eq_getElem (by omega)]
   rfl
  rw [this]
  exact hR2 H2 (.refl _)
 ·obtain ⟨R0,C0,so0⟩:=Z.sol
  have Z1:=Z.grow s1
  have lq:us.length=rows.length:=by rw [lu,zbP]
  refine ⟨E,us,tbl f rows.length w,w,rfl,zhy hE1 lq hu n1 (by omega) w1 (by omega) fun i j hi hj=>(zh8 Z.b98 Z.T.hw (zdn p1 hi) (zdn p2 hj)).mono (by decide),Z1.full,fun r wr rl' cl' V R C H2 bar L2 g1 g2 _ _ so bq=>?_⟩
  have hV:V=W:=zhF so (so0.up.perm p1 p2) (so0.dw.perm p1 p2)
  subst hV
  have Z2:=Z1.worth bar L2
  exact ⟨r,rfl,_,SqT.of g1,_,rfl,by decide,fun b hb=>⟨wr,rfl,[V.num,V.den],SqT.of (zah hb _ _ _ g2),[V.num,V.den],SqT.of zae,zek (fun z=>absurd rfl z) fun _=>q _ (Z2.new hb _)⟩⟩
theorem law_5 {H0:Hp} {p tt:Addr} {c:Int} {rs:List Addr} {rows:List (List Int)} {w:Nat} {W:Rat} {scr cell rl cl y1 y2 y3 y4 y5 y6:Option V} (Z:Lw H0 H a.p_lam p tt c rs rows w W) {D:zcb}
  (q:∀ H',Lw H0 H' a.p_lam p tt c rs rows w W→D.nx [scr,cell,some (.ref p),some (.ref tt),some (.int rows.length),some (.int w),some (.int W.num),some (.int (W.den:Int)),rl,cl,y1,y2,y3,y4,y5,y6] H') :
  zfO K a D [scr,cell,some (.ref p),some (.ref tt),some (.int rows.length),some (.int w),some (.int W.num),some (.int (W.den:Int)),rl,cl,y1,y2,y3,y4,y5,y6] H:=by
 have n1:=Z.T.l1
 have l6:=Z.l6
 have w1:=Z.T.w1
 have w6:=Z.w6
 simp_all only [zaJ,zaK,zaE,zaI,zaD,zaH,zaF,zaC,zab]
 refine ⟨by omega,by omega,fun E hE=>?_⟩
 rw [Int.toNat_natCast]
 let f:Nat→Nat→Int:=fun j i=>0 - ent rows i j
 refine ziq (rows:=tbl f w rows.length) (zbP _ _ _) (by rw [zbP];omega) hE (fun j row H1 R hj hr s1 hR=>?_) fun us H1 s1 hE1 lu hu=>?_
 ·obtain ⟨_,rfl⟩:=zhl hr
  have T1:=Z.tab.same s1
  simp_all only [zaJ,zaK,zaE,zaI,zaD,zaH,zaF,zaC,zab]
  refine ⟨by omega,by omega,fun F hF=>?_⟩
  rw [Int.toNat_natCast]
  refine zhG (vs:=((List.range rows.length).map fun i=>f j i).map V.int) (by rw [List.length_map,List.length_map,List.length_range]) (by rw [List.length_map,List.length_map,List.length_range];omega) hF (fun i v H2 R2 hi hv s2 hR2=>?_) fun H2 s2 hF2=>hR F H2 s2 hF hF2
  rw [List.getElem?_map,List.getElem?_map,List.getElem?_range hi] at hv
  cases hv
  have hk2:rs[i]?=some (rs[i]'(by rw [T1.len];exact hi)):=List.getElem?_eq_getElem _
  obtain ⟨rk,e1,e2,e3⟩:=T1.at hk2
  simp_all only [zaJ,zaK,zaE,zaI,zaD,zaH,zaF,zaC,zab]
  rw [Int.zero_add,Int.zero_add]
  refine ⟨_,SqL.of (s2 _ _ T1.ht),_,zbz (by rw [List.getElem?_map,hk2];rfl),_,rfl,_,SqL.of (s2 _ _ e2),_,zbz (by rw [List.getElem?_map,List.getElem?_eq_getElem (by omega)];rfl),_,rfl,?_⟩
  have:rk[j]'(by omega)=ent rows i j:=by
   rw [zcJ e1,List.getD_eq_getElem?_getD,List.getElem?_eq_getElem (by omega)]
   rfl
  rw [this]
  exact hR2 H2 (.refl _)
 ·obtain ⟨R0,C0,so0⟩:=Z.sol
  have Z1:=Z.grow s1
  have lq:us.length=w:=by rw [lu,zbP]
  refine ⟨E,us,tbl f w rows.length,rows.length,rfl,zhy hE1 lq hu w1 (by omega) n1 (by omega) fun i j hi hj=>?_,Z1.full,fun r wr rl' cl' V R C H2 bar L2 g1 g2 _ _ so bq=>?_⟩
  ·have:=zh8 Z.b98 Z.T.hw hj hi
   show Bd 102 (0 - ent rows j i)
   exact (this.le (by omega)).mono (by decide)
  have hV:V=-W:=zhF so so0.dw.turn so0.up.turn
  subst hV
  have Z2:=Z1.worth bar L2
  refine ⟨r,rfl,_,SqT.of g1,_,rfl,by decide,fun b hb=>⟨wr,rfl,[(-W).num,(-W).den],SqT.of (zah hb _ _ _ g2),[0 - W.num,W.den],SqT.of zae,zek (fun z=>absurd ?_ z) fun _=>q _ (Z2.new hb _)⟩⟩
  rw [Rat.neg_num,Rat.neg_den,Int.zero_sub]
theorem zlc {W:Rat} {p q:Int}:Rat.divInt (p*W.num+q*W.den) W.den=p*W+q:=by
 have e:(W.num:Rat)=W*((W.den:Int):Rat):=by
  have h:=Rat.num_divInt_den W
  rw [Rat.divInt_eq_div] at h
  have z:((W.den:Int):Rat)≠0:=fun z=>zdL W (by exact_mod_cast z)
  generalize ((W.den:Int):Rat)=d' at h z ⊢
  generalize ((W.num:Int):Rat)=n' at h ⊢
  grind
 have z:((W.den:Int):Rat)≠0:=fun z=>zdL W (by exact_mod_cast z)
 rw [Rat.divInt_eq_div,Rat.intCast_add,Rat.intCast_mul,Rat.intCast_mul,e]
 generalize ((W.den:Int):Rat)=d' at z ⊢
 grind
theorem law_3 {H0:Hp} {p tt E:Addr} {c many more:Int} {rs us:List Addr} {rows:List (List Int)} {w:Nat} {W:Rat} {scr cell rl cl y4 y5 y6:Option V} (Z:Lw H0 H a.p_lam p tt c rs rows w W) (m0:0<many) (m1:many<10) (o0:-1001<more) (o1:more<1001) (T:Tb H E us (tbl (fun i j=>many*ent rows i j+more) rows.length w) w) {D:zcb}
  (q:∀ H',Lw H0 H' a.p_lam p tt c rs rows w W→D.nx [scr,cell,some (.ref p),some (.ref tt),some (.int rows.length),some (.int w),some (.int W.num),some (.int (W.den:Int)),rl,cl,some (.int many),some (.int more),some (.ref E),y4,y5,y6] H') :
  zfZ K a D [scr,cell,some (.ref p),some (.ref tt),some (.int rows.length),some (.int w),some (.int W.num),some (.int (W.den:Int)),rl,cl,some (.int many),some (.int more),some (.ref E),y4,y5,y6] H:=by
 obtain ⟨R0,C0,so0⟩:=Z.sol
 simp_all only [zaJ,zaK,zaE,zaI,zaD,zaH,zaF,zaC,zab]
 refine ⟨E,us,_,w,rfl,T,Z.full,fun r wr rl' cl' V R C H2 bar L2 g1 g2 _ _ so bq=>?_⟩
 have hV:V=many*W+more:=zhF so (so0.up.scale m0) (so0.dw.scale m0)
 have Z2:=Z.worth bar L2
 have dp:=zfN W
 have b4:Bd 4 many:=by unfold Bd;omega
 have b10:Bd 10 more:=by unfold Bd;omega
 refine ⟨r,rfl,_,SqT.of g1,_,rfl,zht 4 2801 b4 Z.bq.top,zht 10 2801 b10 Z.bq.bot,_,_,rfl,dp,Z.bq.bot.mono (by decide),fun b H3 s3 hb=>?_⟩
 refine ⟨wr,rfl,b,rfl,[V.num,V.den],SqT.of (s3 _ _ g2),[V.num,V.den],SqT.of ?_,zek (fun z=>absurd rfl z) fun _=>q _ (Z2.grow s3)⟩
 rw [hb,zlc,← hV]
 rfl
theorem zkB {rows:List (List Int)} {row row2:List Int} {k w:Nat} {W V:Rat} {R0 C0 R C:List Int} (so0:Sol rows w W R0 C0) (so:Sol (rows++[row,row2]) w V R C) (ek:rows[k]?=some row) (up:∀ j,j<w→row.getD j 0≤row2.getD j 0):V=W:=by
 have hk:=(List.getElem?_eq_some_iff.mp ek).1
 have ln:(rows++[row,row2]).length=rows.length+2:=by rw [List.length_append];rfl
 have e1:∀ i j,i<rows.length→ent (rows++[row,row2]) i j=ent rows i j:=fun i j hi=>by
  rw [zcJ (List.getElem?_eq_getElem hi),zcJ (by rw [List.getElem?_append_left hi];exact List.getElem?_eq_getElem hi)]
 refine so.one ?_ ?_
 ·rw [ln]
  exact so0.up.rows 2 fun i j hi _=>e1 i j hi
 ·rw [ln]
  refine so0.dw.rows fun i hi=>?_
  by_cases h:i<rows.length
  ·exact ⟨i,h,fun j _=>by rw [e1 i j h];exact Int.le_refl _⟩
  ·refine ⟨k,hk,fun j hj=>?_⟩
   rw [zcJ ek]
   rcases (show i=rows.length∨i=rows.length+1 by omega) with z | z
   ·rw [zcJ (row:=row) (by rw [List.getElem?_append_right (by omega),z,Nat.sub_self];rfl)]
    exact Int.le_refl _
   ·rw [zcJ (row:=row2) (by rw [List.getElem?_append_right (by omega),z,Nat.add_sub_cancel_left];rfl)]
    exact up j hj
def Wid (rows nr:List (List Int)) (j:Nat):Prop:=∀ (k:Nat) r0 row,rows[k]?=some r0→nr[k]?=some row→∃ d:Int,0≤d∧d<3∧row=r0++[r0.getD j 0 - d]
theorem zkF {rows nr:List (List Int)} {w j:Nat} {W V:Rat} {R0 C0 R C:List Int} (so0:Sol rows w W R0 C0) (so:Sol nr (w+1) V R C) (ln:nr.length=rows.length) (hw:∀ row∈rows,row.length=w) (hj:j<w) (h:Wid rows nr j):V=W:=by
 have e:∀ i,i<rows.length→∃ d:Int,0≤d∧(∀ jj,jj<w→ent nr i jj=ent rows i jj)∧ent nr i w=ent rows i j - d:=fun i hi=>by
  have a1:rows[i]?=some rows[i]:=List.getElem?_eq_getElem hi
  have a2:nr[i]?=some (nr[i]'(by omega)):=List.getElem?_eq_getElem (by omega)
  obtain ⟨d,d0,d3,e⟩:=h i _ _ a1 a2
  have l:=hw _ (List.getElem_mem hi)
  refine ⟨d,d0,fun jj hjj=>?_,?_⟩
  ·rw [zcJ a1,zcJ a2,e,List.getD_eq_getElem?_getD,List.getElem?_append_left (by omega)]
   rfl
  ·rw [zcJ a1,zcJ a2,e,List.getD_eq_getElem?_getD,List.getElem?_append_right (by omega),l,Nat.sub_self]
   rfl
 refine so.one ?_ ?_
 ·rw [ln]
  refine so0.up.cols (k:=1) fun jj hjj=>?_
  by_cases z:jj<w
  ·exact ⟨jj,z,fun i hi=>by obtain ⟨d,d0,e1,e2⟩:=e i hi;rw [e1 jj z];exact Int.le_refl _⟩
  ·refine ⟨j,hj,fun i hi=>?_⟩
   obtain ⟨d,d0,e1,e2⟩:=e i hi
   rw [show jj=w by omega,e2]
   omega
 ·rw [ln]
  refine so0.dw.cols 1 fun i jj hi hjj=>?_
  obtain ⟨d,d0,e1,e2⟩:=e i hi
  exact e1 jj hjj
theorem law_1 {H0:Hp} {p tt A r1 r2:Addr} {c:Int} {k:Nat} {rs:List Addr} {rows:List (List Int)} {row row2:List Int} {w:Nat} {W:Rat} {scr cell rl cl x1 x2 x3 x4 y6:Option V} (Z:Lw H0 H a.p_lam p tt c rs rows w W) (ek:rows[k]?=some row) (hA:H A=some (.lst [.ref r1,.ref r2])) (h1:H r1=some (.lst (row.map V.int))) (h2:H r2=some (.lst (row2.map V.int))) (lr:row2.length=w) (br:∀ x∈row2,Bd 102 x) (up:∀ j,j<w→row.getD j 0≤row2.getD j 0) {D:zcb}
  (q:∀ H',Lw H0 H' a.p_lam p tt c rs rows w W→D.nx [scr,cell,some (.ref p),some (.ref tt),some (.int rows.length),some (.int w),some (.int W.num),some (.int (W.den:Int)),rl,cl,x1,x2,x3,x4,some (.ref A),y6] H') :
  zgw K a D [scr,cell,some (.ref p),some (.ref tt),some (.int rows.length),some (.int w),some (.int W.num),some (.int (W.den:Int)),rl,cl,x1,x2,x3,x4,some (.ref A),y6] H:=by
 obtain ⟨R0,C0,so0⟩:=Z.sol
 have l6:=Z.l6
 have n1:=Z.T.l1
 simp_all only [zaJ,zaK,zaE,zaI,zaD,zaH,zaF,zaC,zab]
 refine ⟨tt,rs,rows,w,rfl,Z.tab,fun t' rs' H1 s1 T1=>?_⟩
 have Z1:=Z.grow s1
 have lq:=T1.len
 refine ⟨t',rfl,_,T1.ht,_,s1 _ _ hA,by rw [List.length_map];simp only [List.length_cons,List.length_nil,sizeLine];omega,fun E hE=>?_⟩
 have s2:zaR H1 (upd H1 E (.lst (rs'.map V.ref++[.ref r1,.ref r2]))):=zah hE _
 have ln:(rows++[row,row2]).length=rows.length+2:=by rw [List.length_append];rfl
 have lw:row.length=w:=Z.T.hw _ (List.mem_of_getElem? ek)
 refine ⟨E,rs'++[r1,r2],rows++[row,row2],w,rfl,ziS (by rw [zae,List.map_append];rfl) (by rw [ln,List.length_append,lq];rfl) (fun i r ro i1 i2=>?_) (fun ro h=>?_) (by omega) (by omega) Z.T.w1 Z.T.w6 (fun ro h x hx=>?_),(Z1.grow s2).full,fun r wr rl' cl' V R C H2 bar L2 g1 g2 _ _ so bq=>?_⟩
 ·by_cases hi:i<rows.length
  ·rw [List.getElem?_append_left (by omega)] at i1 i2
   exact s2 _ _ (T1.hr i r ro i1 i2)
  ·rw [List.getElem?_append_right (by omega)] at i1 i2
   rw [lq] at i1
   rcases (show i - rows.length=0∨i - rows.length=1∨2≤i - rows.length by omega) with z | z | z
   ·rw [z] at i1 i2
    cases i1
    cases i2
    exact s2 _ _ (s1 _ _ h1)
   ·rw [z] at i1 i2
    cases i1
    cases i2
    exact s2 _ _ (s1 _ _ h2)
   ·rw [List.getElem?_eq_none (by exact z)] at i1
    cases i1
 ·rcases List.mem_append.mp h with h | h
  ·exact Z.T.hw _ h
  ·rcases List.mem_cons.mp h with rfl | h
   ·exact lw
   ·rw [List.mem_singleton.mp h]
    exact lr
 ·rcases List.mem_append.mp h with h | h
  ·exact Z.T.bd _ h _ hx
  ·rcases List.mem_cons.mp h with rfl | h
   ·exact Z.T.bd _ (List.mem_of_getElem? ek) _ hx
   ·rw [List.mem_singleton.mp h] at hx
    exact br _ hx
 ·have hV:V=W:=zkB so0 so ek up
  subst hV
  have Z2:=(Z1.grow s2).worth bar L2
  exact ⟨r,rfl,_,SqT.of g1,_,rfl,by decide,fun b hb=>⟨wr,rfl,[V.num,V.den],SqT.of (zah hb _ _ _ g2),[V.num,V.den],SqT.of zae,zek (fun z=>absurd rfl z) fun _=>q _ (Z2.new hb _)⟩⟩
theorem law_0 {H0:Hp} {p tt:Addr} {c:Int} {rs:List Addr} {rows:List (List Int)} {w:Nat} {W:Rat} {scr cell rl cl x1 x2 x3 x4 x5 y6:Option V} (Z:Lw H0 H a.p_lam p tt c rs rows w W) (c1:c<1000) {D:zcb}
  (q:∀ (H':Hp) (c':Int) (v:V),Lw H0 H' a.p_lam p tt c' rs rows w W→D.nx [scr,cell,some (.ref p),some (.ref tt),some (.int rows.length),some (.int w),some (.int W.num),some (.int (W.den:Int)),rl,cl,x1,x2,x3,x4,x5,some v] H') :
  zgg K a D [scr,cell,some (.ref p),some (.ref tt),some (.int rows.length),some (.int w),some (.int W.num),some (.int (W.den:Int)),rl,cl,x1,x2,x3,x4,x5,y6] H:=by
 obtain ⟨R0,C0,so0⟩:=Z.sol
 have l6:=Z.l6
 have n1:=Z.T.l1
 have w1:=Z.T.w1
 have w6:=Z.w6
 simp_all only [zaJ,zaK,zaE,zaI,zaD,zaH,zaF,zaC,zab]
 refine ⟨p,c,w,rfl,Z.D,by omega,by omega,by omega,fun j H1 j0 j1 o1 P1=>?_⟩
 have Z1:=Z.draw o1 P1
 refine ⟨⟨_,SqL.of Z1.tab.ht⟩,fun E hE=>?_⟩
 obtain ⟨jn,rfl⟩:∃ jn:Nat,j=(jn:Int):=⟨j.toNat,by omega⟩
 have hj:jn<w:=by omega
 have nE:=P1.new hE
 have c0:=P1.c0
 have fE:Off p p H1 E=none:=zde hE
 refine zbs (K:=K) (xs:=rs.map V.ref) (fun i ys σ H'=>∃ (us:List Addr) (nr:List (List Int)) (u:Int),ys=us.map V.ref∧us.length=i∧Rws (Off p p H') E us nr∧Wid rows nr jn∧Drw H' p u∧u≤c+1+i∧zaR (Off p p H1) (Off p p H')∧∃ x,σ=[x,some (.int jn),some (.ref p)]) ?_ ?_ ?_ ?_
 ·refine ⟨[],[],_,rfl,rfl,.nil,fun k r0 row _ e=>(nomatch e),P1.upd nE,by omega,?_,_,rfl⟩
  rw [zbA nE nE]
  exact zah fE _
 ·rintro i ys σ H' _ ⟨us,nr,u,_,_,_,_,_,_,s,_⟩
  exact SqL.of (zbL _ _ _ _ _ (s _ _ Z1.T.ht))
 ·rintro i x ys σ H2 hx hE2 ⟨us,nr,u,rfl,lu,R2,W2,P2,hu,s2,y,rfl⟩
  obtain ⟨r,hr,rfl⟩:=zbO hx
  obtain ⟨row,e1,e2,e3⟩:=(Z1.T.same s2).at hr
  have i1:=(List.getElem?_eq_some_iff.mp e1).1
  have u0:=P2.c0
  have e2':=zbL _ _ _ _ _ e2
  simp_all only [zaJ,zaK,zaE,zaI,zaD,zaH,zaF,zaC,zab]
  refine ⟨_,SqL.of e2',_,zbz (by rw [List.getElem?_map,List.getElem?_eq_getElem (by omega)];rfl),?_⟩
  refine ⟨p,u,3,rfl,P2,by omega,by omega,by omega,fun d H3 d0 d3 o3 P3=>?_⟩
  refine ⟨_,rfl,_,rfl,by decide,fun F hF=>?_⟩
  have nF:=P3.new hF
  have sF:=zah hF (.lst [.int (row[jn]'(by omega) - d)])
  have hE3:H3 E=some (.lst (us.map V.ref)):=zbL _ _ _ _ _ (by rw [o3,zcn nE nE];exact hE2)
  have hr3:H3 r=some (.lst (row.map V.int)):=zbL _ _ _ _ _ (by rw [o3];exact e2)
  refine ⟨_,sF _ _ hr3,_,zae,by rw [List.length_map,e3];simp only [List.length_cons,List.length_nil,sizeLine];omega,fun G hG=>?_⟩
  have nG:=(P3.upd nF).new hG
  have nGE:=zaG (sF _ _ hE3) hG
  have sG:=zah hG (.lst (row.map V.int++[.int (row[jn]'(by omega) - d)]))
  have s4:=zic p p (sF.trans sG)
  rw [o3] at s4
  have ln:=R2.1
  refine ⟨_,sG _ _ (sF _ _ hE3),by rw [List.length_map];simp only [sizeLine];omega,_,zae,us++[G],by rw [List.map_append];rfl,by rw [List.length_append,lu];rfl,nr++[row++[row.getD jn 0 - d]],R2.put (fun x o nx hx=>?_) nGE.symm ?_,fun k r0 row' k1 k2=>?_,u+1,((P3.upd nF).upd nG).upd nE,by omega,?_⟩
  ·rw [zbA nE nE,zak nx]
   exact s4 _ _ hx
  ·rw [zbA nE nE,zak nGE.symm,zcn nG nG,zae,List.map_append,List.getD_eq_getElem?_getD,List.getElem?_eq_getElem (by omega)]
   rfl
  ·by_cases hk:k<nr.length
   ·rw [List.getElem?_append_left hk] at k2
    exact W2 k r0 row' k1 k2
   ·rw [List.getElem?_append_right (by omega)] at k2
    have zk:k - nr.length=0:=by
     have:=(List.getElem?_eq_some_iff.mp k2).1
     simp only [List.length_cons,List.length_nil] at this
     omega
    rw [zk] at k2
    cases k2
    rw [show k=i by omega,e1] at k1
    cases k1
    exact ⟨d,d0,d3,rfl⟩
  ·rw [zbA nE nE]
   exact (s2.trans s4).put fE
 ·rintro ys σ H2 hE2 ⟨us,nr,u,rfl,lu,R2,W2,P2,hu,s2,y,rfl⟩
  have ln:=R2.1
  rw [List.length_map] at lu
  have lq:=Z.T.len
  have Z2:=Z1.same s2 P2
  have hk:∀ row∈nr,∃ r0∈rows,∃ d:Int,0≤d∧d<3∧row=r0++[r0.getD jn 0 - d]:=fun row h=>by
   obtain ⟨k,hk,e⟩:=List.mem_iff_getElem.mp h
   have a1:rows[k]?=some (rows[k]'(by omega)):=List.getElem?_eq_getElem (by omega)
   have a2:nr[k]?=some row:=by rw [List.getElem?_eq_getElem hk,e]
   exact ⟨_,List.getElem_mem _,W2 k _ _ a1 a2⟩
  refine ⟨E,us,nr,w+1,rfl,ziS hE2 ln (fun k r row k1 k2=>zbL _ _ _ _ _ (R2.2 k r row k1 k2).2) (fun row h=>?_) (by omega) (by omega) (by omega) (by omega) (fun row h x hx=>?_),Z2.full,fun r wr rl' cl' V R C H3 bar L3 g1 g2 _ _ so bq=>?_⟩
  ·obtain ⟨r0,h0,d,_,_,rfl⟩:=hk row h
   rw [List.length_append,Z.T.hw _ h0]
   rfl
  ·obtain ⟨r0,h0,d,d0,d3,rfl⟩:=hk row h
   rcases List.mem_append.mp hx with h | h
   ·exact Z.T.bd _ h0 _ h
   ·rw [List.mem_singleton.mp h]
    have l0:=Z.T.hw _ h0
    have:Bd 98 (r0.getD jn 0):=by
     rw [List.getD_eq_getElem?_getD,List.getElem?_eq_getElem (by omega)]
     exact Z.b98 _ h0 _ (List.getElem_mem _)
    exact (this.sub (y:=d) (Bd.mono (m:=2) (show d.natAbs<2 ^ 2 by omega) (by decide))).mono (by decide)
  ·have hV:V=W:=zkF so0 so (by omega) Z.T.hw hj W2
   subst hV
   have Z3:=Z2.worth bar L3
   exact ⟨r,rfl,_,SqT.of g1,_,rfl,by decide,fun b hb=>⟨wr,rfl,[V.num,V.den],SqT.of (zah hb _ _ _ g2),[V.num,V.den],SqT.of zae,zek (fun z=>absurd rfl z) fun _=>q _ _ _ (Z3.new hb _)⟩⟩
theorem law_2 {H0:Hp} {p tt:Addr} {c:Int} {rs:List Addr} {rows:List (List Int)} {w:Nat} {W:Rat} {scr cell rl cl x1 x2 x3 y4 y5 y6:Option V} (Z:Lw H0 H a.p_lam p tt c rs rows w W) (c1:c<900) {D:zcb}
  (q:∀ (H':Hp) (c':Int) (u v z:V),Lw H0 H' a.p_lam p tt c' rs rows w W→D.nx [scr,cell,some (.ref p),some (.ref tt),some (.int rows.length),some (.int w),some (.int W.num),some (.int (W.den:Int)),rl,cl,x1,x2,x3,some u,some v,some z] H') :
  zf6 K a D [scr,cell,some (.ref p),some (.ref tt),some (.int rows.length),some (.int w),some (.int W.num),some (.int (W.den:Int)),rl,cl,x1,x2,x3,y4,y5,y6] H:=by
 have l6:=Z.l6
 have n1:=Z.T.l1
 have w1:=Z.T.w1
 have w6:=Z.w6
 have lq:=Z.T.len
 rw [zaE]
 simp_all only [zaJ,zaK,zaE,zaI,zaD,zaH,zaF,zaC,zab]
 refine ⟨p,c,rows.length,rfl,Z.D,by omega,by omega,by omega,fun k H1 k0 k1 o1 P1=>?_⟩
 have Z1:=Z.draw o1 P1
 obtain ⟨kn,rfl⟩:∃ kn:Nat,k=(kn:Int):=⟨k.toNat,by omega⟩
 have hk2:rs[kn]?=some (rs[kn]'(by omega)):=List.getElem?_eq_getElem _
 obtain ⟨row,e1,e2,e3⟩:=Z1.T.at hk2
 have e2':=zbL _ _ _ _ _ e2
 refine ⟨_,_,rfl,SqL.of Z1.tab.ht,_,zbz (by rw [List.getElem?_map,hk2];rfl),_,rfl,_,.inl (SqL.of e2'),fun r1 n1'=>?_⟩
 have s1:=zah n1' (.lst (row.map V.int))
 have Z2:=Z1.grow s1
 have hr1:(upd H1 r1 (.lst (row.map V.int))) r1=some (.lst (row.map V.int)):=zae
 have e4:=zic p p s1 _ _ e2
 generalize upd H1 r1 (.lst (row.map V.int))=H2 at Z2 hr1 e4 s1 ⊢
 refine ⟨_,_,rfl,SqL.of Z2.tab.ht,_,zbz (by rw [List.getElem?_map,hk2];rfl),_,rfl,⟨_,SqL.of (s1 _ _ e2')⟩,fun r2 n2=>?_⟩
 have nr:=Z2.D.new n2
 have fr2:Off p p H2 r2=none:=zde n2
 have c0:=Z2.D.c0
 refine zbs (K:=K) (xs:=row.map V.int) (fun i ys σ H'=>∃ (ns:List Int) (u:Int),ys=ns.map V.int∧(ns.length=i∧∀ j,j<i→∃ d:Int,0≤d∧d<3∧ns.getD j 0=row.getD j 0+1+d)∧Drw H' p u∧u≤c+1+i∧zaR (Off p p H2) (Off p p H')∧∃ x,σ=[x,some (.ref p)]) ?_ ?_ ?_ ?_
 ·refine ⟨[],_,rfl,⟨rfl,fun j h=>absurd h (Nat.not_lt_zero j)⟩,Z2.D.upd nr,by omega,?_,_,rfl⟩
  rw [zbA nr nr]
  exact zah fr2 _
 ·rintro i ys σ H' _ ⟨ns,u,_,_,_,_,s,_⟩
  exact SqL.of (zbL _ _ _ _ _ (s _ _ e4))
 ·rintro i x ys σ H3 hx h3 ⟨ns,u,rfl,⟨ln,hn⟩,P3,hu,s3,y,rfl⟩
  obtain ⟨v,hv,rfl⟩:=zbO hx
  have i1:=(List.getElem?_eq_some_iff.mp hv).1
  have u0:=P3.c0
  simp_all only [zaJ,zaK,zaE,zaI,zaD,zaH,zaF,zaC,zab]
  refine ⟨p,u,3,rfl,P3,by omega,by omega,by omega,fun d H4 d0 d3 o4 P4=>?_⟩
  have h4:H4 r2=some (.lst (ns.map V.int)):=zbL _ _ _ _ _ (by rw [o4,zcn nr nr];exact h3)
  refine ⟨_,rfl,_,h4,by rw [List.length_map];simp only [sizeLine];omega,_,zae,ns++[v+1+d],by rw [List.map_append];rfl,by rw [List.length_append,ln];rfl,fun j hj=>?_,u+1,P4.upd nr,by omega,?_⟩
  ·by_cases z:j<i
   ·obtain ⟨d',a1,a2,a3⟩:=hn j z
    refine ⟨d',a1,a2,?_⟩
    rw [← a3,List.getD_eq_getElem?_getD,List.getElem?_append_left (by omega)]
    rfl
   ·refine ⟨d,d0,d3,?_⟩
    rw [show j=i by omega,List.getD_eq_getElem?_getD,List.getElem?_append_right (by omega),ln,Nat.sub_self,List.getD_eq_getElem?_getD,hv]
    rfl
  ·rw [zbA nr nr,o4]
   exact s3.put fr2
 ·rintro ys σ H3 h3 ⟨ns,u,rfl,⟨ln,hn⟩,P3,hu,s3,y,rfl⟩
  rw [List.length_map] at ln
  rw [List.length_map] at hn hu
  refine ⟨by decide,fun A hA=>?_⟩
  have Z3:=Z2.same s3 P3
  have s5:=zah hA (.lst [.ref r1,.ref r2])
  have n12:r1≠p:=by
   obtain ⟨n,f,hp,_⟩:=Z1.D.hp
   exact (zaG hp n1').symm
  have k1':H3 r1=some (.lst (row.map V.int)):=zbL _ _ _ _ _ (s3 _ _ (by rw [zcn n12 n12];exact hr1))
  refine ⟨fun σ' H'=>Lw H0 H' a.p_lam p tt u rs rows w W∧σ'=[scr,cell,some (.ref p),some (.ref tt),some (.int rows.length),some (.int w),some (.int W.num),some (.int (W.den:Int)),rl,cl,x1,x2,x3,some (.int kn),some (.ref A),y6],law_1 (Z3.new hA _) e1 zae (s5 _ _ k1') (s5 _ _ h3) (by omega) (fun x hx=>?_) (fun j hj=>?_) fun H' Z'=>⟨Z',rfl⟩,?_⟩
  ·obtain ⟨j,hj,rfl⟩:=List.mem_iff_getElem.mp hx
   obtain ⟨d,d0,d3,e⟩:=hn j (by omega)
   rw [List.getD_eq_getElem?_getD,List.getElem?_eq_getElem hj,List.getD_eq_getElem?_getD,List.getElem?_eq_getElem (by omega)] at e
   have b:=Z.b98 _ (List.mem_of_getElem? e1) _ (List.getElem_mem (l:=row) (n:=j) (by omega))
   have e':ns[j]=row[j]'(by omega)+(1+d):=by rw [← Int.add_assoc];exact e
   rw [e']
   exact (b.add (y:=1+d) (Bd.mono (m:=3) (show (1+d).natAbs<2 ^ 3 by omega) (by decide))).mono (by decide)
  ·obtain ⟨d,d0,d3,e⟩:=hn j (by omega)
   omega
  ·rintro σ' H' ⟨Z',rfl⟩
   exact law_0 Z' (by omega) fun H5 c' v Z5=>q _ _ _ _ _ Z5
theorem law_4 {H0:Hp} {p tt:Addr} {c:Int} {rs:List Addr} {rows:List (List Int)} {w:Nat} {W:Rat} {scr cell rl cl y1 y2 y3 y4 y5 y6:Option V} (Z:Lw H0 H a.p_lam p tt c rs rows w W) (c1:c<800) {D:zcb}
  (q:∀ (H':Hp) (c':Int) (x1 x2 x3 x4 x5 x6:Option V),Lw H0 H' a.p_lam p tt c' rs rows w W→D.nx [scr,cell,some (.ref p),some (.ref tt),some (.int rows.length),some (.int w),some (.int W.num),some (.int (W.den:Int)),rl,cl,x1,x2,x3,x4,x5,x6] H') :
  zfK K a D [scr,cell,some (.ref p),some (.ref tt),some (.int rows.length),some (.int w),some (.int W.num),some (.int (W.den:Int)),rl,cl,y1,y2,y3,y4,y5,y6] H:=by
 have l6:=Z.l6
 have n1:=Z.T.l1
 have w1:=Z.T.w1
 have w6:=Z.w6
 have lq:=Z.T.len
 rw [zaD]
 simp_all only [zaJ,zaK,zaE,zaI,zaD,zaH,zaF,zaC,zab]
 refine ⟨p,c,9,rfl,Z.D,by omega,by omega,by omega,fun m H1 m0 m1 o1 P1=>?_⟩
 refine ⟨_,rfl,p,c+1,2001,rfl,P1,by have:=P1.c0;omega,by omega,by omega,fun o H2 y0 y1 o2 P2=>?_⟩
 have Z2:=(Z.draw o1 P1).draw o2 P2
 refine ⟨_,rfl,⟨_,SqL.of Z2.tab.ht⟩,fun E hE=>?_⟩
 have fb:∀ i j,i<rows.length→j<w→Bd 102 ((1+m)*ent rows i j+(o - 1000)):=fun i j hi hj=>by
  have b:=zh8 Z.b98 Z.T.hw hi hj
  unfold Bd at b ⊢
  generalize ent rows i j=x at b ⊢
  have h1:((1+m)*x).natAbs≤9*x.natAbs:=by
   rw [Int.natAbs_mul]
   exact Nat.mul_le_mul_right _ (by omega)
  generalize (1+m)*x=y at h1 ⊢
  omega
 refine zfz (rows:=tbl (fun i j=>(1+m)*ent rows i j+(o - 1000)) rows.length w) Z2.tab.ht (by rw [zbP,List.length_map,lq]) (by rw [zbP];omega) hE (fun i x row H3 R hx hr s3 hR=>?_) fun us H3 s3 hE3 lu hu=>?_
 ·obtain ⟨hi,rfl⟩:=zhl hr
  obtain ⟨r,hr2,rfl⟩:=zbO hx
  obtain ⟨row,e1,e2,e3⟩:=(Z2.tab.same s3).at hr2
  simp_all only [zaJ,zaK,zaE,zaI,zaD,zaH,zaF,zaC,zab]
  refine ⟨⟨_,SqL.of e2⟩,fun F hF=>?_⟩
  refine zcr e2 (vs:=((List.range w).map fun j=>(1+m)*ent rows i j+(o - 1000)).map V.int) (by rw [List.length_map,List.length_map,List.length_range,List.length_map,e3]) (by rw [List.length_map,List.length_map,List.length_range];omega) hF (fun j y v H4 R2 hy hv s4 hR2=>?_) fun H4 s4 hF4=>hR F H4 s4 hF hF4
  obtain ⟨l,hl,rfl⟩:=zbO hy
  have jl:j<w:=by rw [← e3];exact (List.getElem?_eq_some_iff.mp hl).1
  rw [List.getElem?_map,List.getElem?_map,List.getElem?_range jl] at hv
  cases hv
  have el:ent rows i j=l:=by rw [zcJ e1,List.getD_eq_getElem?_getD,hl];rfl
  have bl:=zh8 Z.b98 Z.T.hw hi jl
  rw [el] at bl
  simp_all only [zaJ,zaK,zaE,zaI,zaD,zaH,zaF,zaC,zab]
  refine ⟨zht 4 98 (show (1+m).natAbs<2 ^ 4 by omega) bl,?_⟩
  have:=hR2 H4 (.refl _)
  dsimp only at this
  rw [el] at this
  exact this
 ·have lq3:us.length=rows.length:=by rw [lu,zbP]
  refine ⟨fun σ' H'=>Lw H0 H' a.p_lam p tt (c+1+1) rs rows w W∧σ'=[scr,cell,some (.ref p),some (.ref tt),some (.int rows.length),some (.int w),some (.int W.num),some (.int (W.den:Int)),rl,cl,some (.int (1+m)),some (.int (o - 1000)),some (.ref E),y4,y5,y6],law_3 (Z2.grow s3) (by omega) (by omega) (by omega) (by omega) (zhy hE3 lq3 hu n1 (by omega) w1 (by omega) fb) fun H' Z'=>⟨Z',rfl⟩,?_⟩
  rintro σ' H' ⟨Z',rfl⟩
  exact law_2 Z' (by omega) fun H5 c' u v z Z5=>q _ _ _ _ _ _ _ _ Z5
theorem law_7 {H0:Hp} {cell:Int} {scr y0 y1 y2 y3 y4 y5 y6 y7 y8 y9 ya yb yc yd:Option V} (L:LT H0 a.p_lam) (bx:cell.natAbs<2 ^ 2 ^ 20) {D:zcb}
  (q:∀ (H':Hp) (y0 y1 y2 y3 y4 y5 y6 y7 y8 y9 ya yb yc yd:Option V),Bar a.p_lam H0 H'→LT H' a.p_lam→D.nx [scr,some (.int cell),y0,y1,y2,y3,y4,y5,y6,y7,y8,y9,ya,yb,yc,yd] H') :
  zfP K a D [scr,some (.int cell),y0,y1,y2,y3,y4,y5,y6,y7,y8,y9,ya,yb,yc,yd] H0:=by
 rw [zaC]
 simp_all only [zaJ,zaK,zaE,zaI,zaD,zaH,zaF,zaC,zab]
 refine ⟨by decide,fun p1 n1=>⟨p1,cell,rfl,zae,bx,fun p H1 s1 np P1=>?_⟩⟩
 have s0:=(zah n1 _).trans s1
 have np0:H0 p=none:=by
  cases z:H0 p with
  | none=>rfl
  | some o=>rw [zah n1 _ _ _ z] at np;cases np
 have s01:zaR H0 (Off p p H1):=fun x o e=>by
  have nx:x≠p:=fun z=>by rw [z,np0] at e;cases e
  rw [zcn nx nx]
  exact s0 _ _ e
 refine ⟨p,0,rfl,P1,by omega,fun tt rs rows w c' H2 s2 P2 hc T b98 l6 w6=>?_⟩
 have s02:=s01.trans s2
 have T2:=T.same (zbL _ _ _)
 have n1:=T.l1
 have lq:=T.len
 have hk2:rs[0]?=some (rs[0]'(by omega)):=List.getElem?_eq_getElem _
 obtain ⟨row,e1,e2,e3⟩:=T2.at hk2
 refine ⟨tt,rfl,_,.inl (SqL.of T2.ht),tt,rfl,_,SqL.of T2.ht,_,zbz (j:=0) (by rw [List.getElem?_map,hk2];rfl),_,rfl,_,.inl (SqL.of e2),tt,rs,rows,w,rfl,T2,fun t' rs' H3 s3 T3=>?_⟩
 refine ⟨t',rs',rows,w,rfl,T3,(L.same s02).same ((zbL _ _ _).trans s3),fun r wr rl cl W R C H4 bar L4 g1 g2 _ _ so bq=>?_⟩
 have Z2:Lw H0 H2 a.p_lam p tt c' rs rows w W:=⟨P2,L.same s02,T,b98,l6,w6,⟨R,C,so⟩,bq,zaR.bar s02⟩
 have Z4:=(Z2.grow s3).worth bar L4
 rw [List.length_map,List.length_map,lq,e3]
 refine ⟨r,rfl,_,SqT.of g1,_,rfl,wr,rfl,_,SqT.of g2,rfl,_,_,rfl,_,_,rfl,rfl,?_⟩
 refine ⟨p,c',rows.length,rfl,Z4.D,by omega,l6,fun la ns c2 H5 s5 P5 hc2 ha pa=>⟨p,c2,w,rfl,P5,by omega,w6,fun lb ms c3 H6 s6 P6 hc3 hb pb=>?_⟩⟩
 have Z6:=(Z4.same s5 P5).same s6 P6
 refine ⟨fun σ' H'=>Lw H0 H' a.p_lam p tt c3 rs rows w W∧σ'=[scr,some (.int cell),some (.ref p),some (.ref tt),some (.int rows.length),some (.int w),some (.int W.num),some (.int (W.den:Int)),some (.ref la),some (.ref lb),y8,y9,ya,yb,yc,yd],law_6 Z6 (s6 _ _ ha) hb pa pb fun H' Z'=>⟨Z',rfl⟩,?_⟩
 rintro σ' H7 ⟨Z7,rfl⟩
 refine ⟨fun σ' H'=>Lw H0 H' a.p_lam p tt c3 rs rows w W∧σ'=[scr,some (.int cell),some (.ref p),some (.ref tt),some (.int rows.length),some (.int w),some (.int W.num),some (.int (W.den:Int)),some (.ref la),some (.ref lb),y8,y9,ya,yb,yc,yd],law_5 Z7 fun H' Z'=>⟨Z',rfl⟩,?_⟩
 rintro σ' H8 ⟨Z8,rfl⟩
 exact law_4 Z8 (by omega) fun H' c' x1 x2 x3 x4 x5 x6 Z'=>q _ _ _ _ _ _ _ _ _ _ _ _ _ _ _ (fun x o n e=>zbL _ _ _ _ _ (Z'.base x o n e)) Z'.full
open HT in
theorem zlr (ns:List Int):zjd (ns.map V.int) none (some 63)=(ns.take 63).map V.int:=by
 unfold zjd
 rw [zhZ,Nat.sub_zero,List.drop_zero]
 have e:sIx (ns.map V.int).length (ns.map V.int).length (some 63)=min 63 (ns.map V.int).length:=zjx _ _ 63
 rw [e,List.map_take]
 by_cases c:63≤(ns.map V.int).length
 ·rw [Nat.min_eq_left c]
 ·have c':(ns.map V.int).length≤63:=by omega
  rw [Nat.min_eq_right c',List.take_of_length_le (Nat.le_refl _),List.take_of_length_le c']
theorem zof {p0:Addr} {ns:List Int} (hS:SqL K H p0 (ns.map V.int)) (hl:ns.length≤63) (hb:∀ x∈ns,x.natAbs<2 ^ 2 ^ 20) (L:LT H a.p_lam) (q:∀ H',Q (.bl true) H') :
  zmm K a { nx:=fun _ H'=>Q .non H',rt:=Q } (L2.zbb ["_law_script","_law_cell","_law_left_here","_law_table_here","_law_high","_law_wide","_law_top","_law_bottom","_law_rows","_law_columns","_law_many","_law_more","_law_other","_law_k","_law_added_rows","_law_j"] [.ref p0]) H:=by
 unfold zmm
 simp_all only [zaJ,zaK,zaE,zaI,zaD,zaH,zaF,zaC,zab]
 refine ⟨by decide,fun e1 g1=>⟨_,(zah g1 _).seq hS,fun e2 g2=>⟨_,zah g2 _ _ _ zae,_,zae,?_,fun e3 g3=>?_⟩⟩⟩
 ·rw [zlr,List.length_map,List.length_take,List.length_singleton]
  simp only [sizeLine]
  omega
 rw [zlr] at g3 ⊢
 have e:[V.int 0]++(ns.take 63).map V.int=(0::ns.take 63).map V.int:=rfl
 rw [e]
 have hc:∀ x∈0::ns.take 63,x.natAbs<2 ^ 2 ^ 20:=fun x hx=>by
  rcases List.mem_cons.mp hx with rfl | hx
  ·exact Nat.two_pow_pos _
  ·exact hb x (List.mem_of_mem_take hx)
 generalize (0::ns.take 63)=cs at hc ⊢
 have h3:(L2.upd (L2.upd (L2.upd H e1 (.lst [V.int 0])) e2 (.lst ((ns.take 63).map V.int))) e3 (.lst (cs.map V.int))) e3=some (.lst (cs.map V.int)):=zae
 have L3:LT (L2.upd (L2.upd (L2.upd H e1 (.lst [V.int 0])) e2 (.lst ((ns.take 63).map V.int))) e3 (.lst (cs.map V.int))) a.p_lam:=L.same (((zah g1 _).trans (zah g2 _)).trans (zah g3 _))
 generalize L2.upd (L2.upd (L2.upd H e1 (.lst [V.int 0])) e2 (.lst ((ns.take 63).map V.int))) e3 (.lst (cs.map V.int))=H3 at h3 L3 ⊢
 have n3:=L3.neL h3
 refine ⟨⟨_,SqL.of h3⟩,?_⟩
 refine ze9 (K:=K) (xs:=cs.map V.int) (fun i σ H'=>(Bar a.p_lam H3 H'∧LT H' a.p_lam)∧∃ u1 y0 y1 y2 y3 y4 y5 y6 y7 y8 y9 ya yb yc yd,σ=[some (.ref p0),u1,y0,y1,y2,y3,y4,y5,y6,y7,y8,y9,ya,yb,yc,yd]) ⟨⟨fun x o n e=>e,L3⟩,_,_,_,_,_,_,_,_,_,_,_,_,_,_,_,rfl⟩ ?_ ?_ ?_
 ·rintro i σ H' _ ⟨⟨s,_⟩,_⟩
  exact SqL.of (s _ _ n3 h3)
 ·rintro i x σ H4 hi ⟨⟨s4,L4⟩,u1,y0,y1,y2,y3,y4,y5,y6,y7,y8,y9,ya,yb,yc,yd,rfl⟩
  obtain ⟨cell,ec,rfl⟩:=zbO hi
  show zfP K a _ [some (.ref p0),some (.int cell),y0,y1,y2,y3,y4,y5,y6,y7,y8,y9,ya,yb,yc,yd] H4
  exact law_7 L4 (hc cell (ziJ ec)) fun H' y0 y1 y2 y3 y4 y5 y6 y7 y8 y9 ya yb yc yd b l=>⟨⟨zcv s4 b,l⟩,_,_,_,_,_,_,_,_,_,_,_,_,_,_,_,rfl⟩
 ·rintro σ H4 ⟨_,u1,y0,y1,y2,y3,y4,y5,y6,y7,y8,y9,ya,yb,yc,yd,rfl⟩
  simp_all only [zaJ,zaK,zaE,zaI,zaD,zaH,zaF,zaC,zab]
  exact q H4
theorem zcl:zaB ["_law_script","_law_cell","_law_left_here","_law_table_here","_law_high","_law_wide","_law_top","_law_bottom","_law_rows","_law_columns","_law_many","_law_more","_law_other","_law_k","_law_added_rows","_law_j"] ["_law_script"] (zag zeC):=⟨rfl,rfl,rfl,by decide +kernel,rfl,by decide +kernel,by decide +kernel⟩
theorem zny (T:Txt K mg base a):zcG P w K mg base CX0 12 a.f_law a.d_law ["_law_script"] (zkO K a.p_lam):=by
 have G__law_copy:=zg7 (P:=P) (w:=w) (base:=base) T
 have G__law_draw:=zdj (P:=P) (w:=w) (base:=base) T
 have G__law_left:=zha (P:=P) (w:=w) (base:=base) T
 have G__law_lowest:=zfj (P:=P) (w:=w) (base:=base) T
 have G__law_table:=zgh (P:=P) (w:=w) (base:=base) T
 have G__law_turn:=zg0 (P:=P) (w:=w) (base:=base) T
 have G_table_worth:=zfi (P:=P) (w:=w) (base:=base) T
 refine T.F_law.ok zcl (fun vs H Q E h=>?_) (fun cdv A outer s H vs Q E hr h=>?_)
 ·obtain ⟨p0,ns,rfl,hS,hl,hb,L,q⟩:=h
  rfl
 obtain ⟨p0,ns,rfl,hS,hl,hb,L,q⟩:=h
 exact ⟨zmm K a,(zad (zex PassesOwn.never rfl (zbn (zav zft (zc7 (zaa zaj zaf)) (zf7 zhk (pv 0) zhM (zhn zaj)))) (zau (i:=1) zcl.nd rfl (Or.inl rfl))
 (zad (zas (i:=2) zcl.nd rfl (Or.inr rfl) (zap G__law_left (hr.mono (by decide)) rfl T.m__law_left T.F__law_left.kp T.b__law_left .nil zaW (zaa (zc7 (zaa (pv 1) zaf)) (zaa zaj zaf))))
 (zad (zas (i:=3) zcl.nd rfl (Or.inr rfl) (zap G__law_table (hr.mono (by decide)) rfl T.m__law_table T.F__law_table.kp T.b__law_table .nil zaW (zaa (pv 2) zaf)))
 (zad (zas (i:=4) zcl.nd rfl (Or.inr rfl) (zax zar rfl T.z_len PySem.boot_len (zaa (pv 3) zaf)))
 (zad (zas (i:=5) zcl.nd rfl (Or.inl rfl) (zax zar rfl T.z_len PySem.boot_len (zaa (zaw zan (pv 3) zaj (fun _ _=>rfl)) zaf)))
 (zad (zdN (zaw zco (zap G_table_worth (hr.mono (by decide)) rfl T.m_table_worth T.F_table_worth.kp T.b_table_worth .nil zaW (zaa (zap G__law_copy (hr.mono (by decide)) rfl T.m__law_copy T.F__law_copy.kp T.b__law_copy .nil zaW (zaa (pv 3) zaf)) zaf)) zaj (fun _ _=>rfl)) (zjq rfl (zdq (zau (i:=6) zcl.nd rfl (Or.inl rfl)) (zdq (zau (i:=7) zcl.nd rfl (Or.inl rfl)) zho))))
 (zad (zas (i:=8) zcl.nd rfl (Or.inl rfl) (zap G__law_turn (hr.mono (by decide)) rfl T.m__law_turn T.F__law_turn.kp T.b__law_turn .nil zaW (zaa (pv 2) (zaa (pv 4) zaf))))
 (zad (zas (i:=9) zcl.nd rfl (Or.inr rfl) (zap G__law_turn (hr.mono (by decide)) rfl T.m__law_turn T.F__law_turn.kp T.b__law_turn .nil zaW (zaa (pv 2) (zaa (pv 5) zaf))))
 (zad (zcT (zcZ (zbh (zgV hr.units0) (zaw zco (zap G_table_worth (hr.mono (by decide)) rfl T.m_table_worth T.F_table_worth.kp T.b_table_worth .nil zaW (zaa (zhY (sc:=zag zeC) (N:=["_law_script","_law_cell","_law_left_here","_law_table_here","_law_high","_law_wide","_law_top","_law_bottom","_law_rows","_law_columns","_law_many","_law_more","_law_other","_law_k","_law_added_rows","_law_j"]) (Nc:=["_law_i","_law_columns","_law_table_here"]) (cap:=[none,some 9,some 3]) rfl rfl rfl (.of (by decide +kernel)) (zbn (pv 8)) (fun _ _ _ _=>(zau (i:=0) (show List.Nodup (["_law_i","_law_columns","_law_table_here"]:List Str) from by decide) rfl (Or.inr rfl))) (fun _ _ _ _=>za0) (fun _ _ _ _=>(zbx (N:=["_law_i","_law_columns","_law_table_here"]) (Nc:=["_law_j","_law_table_here","_law_i"]) (cap:=[none,some 2,some 0]) rfl (zhA.trans (congrArg (zds _) (rfl:_=zag zeC))) rfl (.of (by decide +kernel)) (zbn (pv 1)) (fun _ _ _ _=>(zau (i:=0) (show List.Nodup (["_law_j","_law_table_here","_law_i"]:List Str) from by decide) rfl (Or.inl rfl))) (fun _ _ _ _=>za0) (fun _ _ _ _=>(zaw zan (zaw zan (pv 1) (pv 2) (fun _ _=>rfl)) (pv 0) (fun _ _=>rfl)))))) zaf)) zaj (fun _ _=>rfl)) (zd5 (zaa (pv 6) (zaa (pv 7) zaf))) (zbp _)) (zam (zaQ zg8)) zbi))
 (zad (zcT (zcZ (zbh (zgV hr.units0) (zaw zco (zap G_table_worth (hr.mono (by decide)) rfl T.m_table_worth T.F_table_worth.kp T.b_table_worth .nil zaW (zaa (zhY (sc:=zag zeC) (N:=["_law_script","_law_cell","_law_left_here","_law_table_here","_law_high","_law_wide","_law_top","_law_bottom","_law_rows","_law_columns","_law_many","_law_more","_law_other","_law_k","_law_added_rows","_law_j"]) (Nc:=["_law_j","_law_high","_law_table_here"]) (cap:=[none,some 4,some 3]) rfl rfl rfl (.of (by decide +kernel)) (zba rfl T.z_range (zaa (pv 5) zaf)) (fun _ _ _ _=>(zau (i:=0) (show List.Nodup (["_law_j","_law_high","_law_table_here"]:List Str) from by decide) rfl (Or.inr rfl))) (fun _ _ _ _=>za0) (fun _ _ _ _=>(zbx (N:=["_law_j","_law_high","_law_table_here"]) (Nc:=["_law_i","_law_j","_law_table_here"]) (cap:=[none,some 0,some 2]) rfl (zhA.trans (congrArg (zds _) (rfl:_=zag zeC))) rfl (.of (by decide +kernel)) (zba rfl T.z_range (zaa (pv 1) zaf)) (fun _ _ _ _=>(zau (i:=0) (show List.Nodup (["_law_i","_law_j","_law_table_here"]:List Str) from by decide) rfl (Or.inl rfl))) (fun _ _ _ _=>za0) (fun _ _ _ _=>(zav zc8 zaj (zaw zan (zaw zan (pv 2) (pv 0) (fun _ _=>rfl)) (pv 1) (fun _ _=>rfl))))))) zaf)) zaj (fun _ _=>rfl)) (zd5 (zaa (zav zc8 zaj (pv 6)) (zaa (pv 7) zaf))) (zbp _)) (zam (zaQ zg8)) zbi))
 (zad (zas (i:=10) zcl.nd rfl (Or.inr rfl) (zav zcm zaj (zap G__law_draw (hr.mono (by decide)) rfl T.m__law_draw T.F__law_draw.kp T.b__law_draw .nil zaW (zaa (pv 2) (zaa zaj zaf)))))
 (zad (zas (i:=11) zcl.nd rfl (Or.inr rfl) (zav zc8 (zap G__law_draw (hr.mono (by decide)) rfl T.m__law_draw T.F__law_draw.kp T.b__law_draw .nil zaW (zaa (pv 2) (zaa zaj zaf))) zaj))
 (zad (zcq (i:=12) zcl.nd rfl rfl (sc:=zag zeC) (N:=["_law_script","_law_cell","_law_left_here","_law_table_here","_law_high","_law_wide","_law_top","_law_bottom","_law_rows","_law_columns","_law_many","_law_more","_law_other","_law_k","_law_added_rows","_law_j"]) (Nc:=["_law_row","_law_more","_law_many"]) (cap:=[none,some 11,some 10]) rfl rfl rfl (.of (by decide +kernel)) (zbn (pv 3)) (fun _ _ _ _=>(zau (i:=0) (show List.Nodup (["_law_row","_law_more","_law_many"]:List Str) from by decide) rfl (Or.inl rfl))) (fun _ _ _ _=>za0) (fun _ _ _ _=>(zbx (N:=["_law_row","_law_more","_law_many"]) (Nc:=["_law_number","_law_more","_law_many"]) (cap:=[none,some 1,some 2]) rfl (znP.trans (congrArg (zds _) (rfl:_=zag zeC))) rfl (.of (by decide +kernel)) (zbn (pv 0)) (fun _ _ _ _=>(zau (i:=0) (show List.Nodup (["_law_number","_law_more","_law_many"]:List Str) from by decide) rfl (Or.inl rfl))) (fun _ _ _ _=>za0) (fun _ _ _ _=>(zav zcm (zav za4 (pv 2) (pv 0)) (pv 1))))))
 (zad (zcT (zcZ (zbh (zgV hr.units0) (zaw zco (zap G_table_worth (hr.mono (by decide)) rfl T.m_table_worth T.F_table_worth.kp T.b_table_worth .nil zaW (zaa (pv 12) zaf)) zaj (fun _ _=>rfl)) (zap G__law_lowest (hr.mono (by decide)) rfl T.m__law_lowest T.F__law_lowest.kp T.b__law_lowest .nil zaW (zaa (zav zcm (zav za4 (pv 10) (pv 6)) (zav za4 (pv 11) (pv 7))) (zaa (pv 7) zaf))) (zbp _)) (zam (zaQ zg8)) zbi))
 (zad (zas (i:=13) zcl.nd rfl (Or.inl rfl) (zap G__law_draw (hr.mono (by decide)) rfl T.m__law_draw T.F__law_draw.kp T.b__law_draw .nil zaW (zaa (pv 2) (zaa (pv 4) zaf))))
 (zad (zas (i:=14) zcl.nd rfl (Or.inl rfl) (zc7 (zaa (zdU zdd rfl T.z_list zcS (zaa (zaw zan (pv 3) (pv 13) (fun _ _=>rfl)) zaf)) (zaa (zbx (sc:=zag zeC) (N:=["_law_script","_law_cell","_law_left_here","_law_table_here","_law_high","_law_wide","_law_top","_law_bottom","_law_rows","_law_columns","_law_many","_law_more","_law_other","_law_k","_law_added_rows","_law_j"]) (Nc:=["_law_number","_law_left_here"]) (cap:=[none,some 2]) rfl rfl rfl (.of (by decide +kernel)) (zbn (zaw zan (pv 3) (pv 13) (fun _ _=>rfl))) (fun _ _ _ _=>(zau (i:=0) (show List.Nodup (["_law_number","_law_left_here"]:List Str) from by decide) rfl (Or.inl rfl))) (fun _ _ _ _=>za0) (fun _ _ _ _=>(zav zcm (zav zcm (pv 0) zaj) (zap G__law_draw (hr.mono (by decide)) rfl T.m__law_draw T.F__law_draw.kp T.b__law_draw .nil zaW (zaa (pv 1) (zaa zaj zaf)))))) zaf))))
 (zad (zcT (zcZ (zbh (zgV hr.units0) (zaw zco (zap G_table_worth (hr.mono (by decide)) rfl T.m_table_worth T.F_table_worth.kp T.b_table_worth .nil zaW (zaa (zav zft (zap G__law_copy (hr.mono (by decide)) rfl T.m__law_copy T.F__law_copy.kp T.b__law_copy .nil zaW (zaa (pv 3) zaf)) (pv 14)) zaf)) zaj (fun _ _=>rfl)) (zd5 (zaa (pv 6) (zaa (pv 7) zaf))) (zbp _)) (zam (zaQ zg8)) zbi))
 (zad (zas (i:=15) zcl.nd rfl (Or.inr rfl) (zap G__law_draw (hr.mono (by decide)) rfl T.m__law_draw T.F__law_draw.kp T.b__law_draw .nil zaW (zaa (pv 2) (zaa (pv 5) zaf))))
 (zam (zcZ (zbh (zgV hr.units0) (zaw zco (zap G_table_worth (hr.mono (by decide)) rfl T.m_table_worth T.F_table_worth.kp T.b_table_worth .nil zaW (zaa (zbx (sc:=zag zeC) (N:=["_law_script","_law_cell","_law_left_here","_law_table_here","_law_high","_law_wide","_law_top","_law_bottom","_law_rows","_law_columns","_law_many","_law_more","_law_other","_law_k","_law_added_rows","_law_j"]) (Nc:=["_law_row","_law_j","_law_left_here"]) (cap:=[none,some 15,some 2]) rfl rfl rfl (.of (by decide +kernel)) (zbn (pv 3)) (fun _ _ _ _=>(zau (i:=0) (show List.Nodup (["_law_row","_law_j","_law_left_here"]:List Str) from by decide) rfl (Or.inl rfl))) (fun _ _ _ _=>za0) (fun _ _ _ _=>(zav zft (pv 0) (zc7 (zaa (zav zc8 (zaw zan (pv 0) (pv 1) (fun _ _=>rfl)) (zap G__law_draw (hr.mono (by decide)) rfl T.m__law_draw T.F__law_draw.kp T.b__law_draw .nil zaW (zaa (pv 2) (zaa zaj zaf)))) zaf))))) zaf)) zaj (fun _ _=>rfl)) (zd5 (zaa (pv 6) (zaa (pv 7) zaf))) (zbp _)) (zam (zaQ zg8)) zbi))))))))))))))))))))
 (zam (zaQ zg8))),
  zof hS hl hb L q⟩
end
theorem zj4 {us:List Value} {n:Nat} (h:us.length=n+1):∃ a t,us=a::t∧t.length=n:=by
 cases us with
 | nil=>cases h
 | cons a t=>exact ⟨a,t,rfl,Nat.succ.inj h⟩
theorem ziF {us:List Value} (h:us.length=1):∃ a0,us=[a0]:=by
 obtain ⟨a0,u0,rfl,h0⟩:=zj4 h
 cases List.eq_nil_of_length_eq_zero h0
 exact ⟨a0,rfl⟩
theorem zhC {us:List Value} (h:us.length=2):∃ a0,∃ a1,us=[a0,a1]:=by
 obtain ⟨a0,u0,rfl,h0⟩:=zj4 h
 obtain ⟨a1,u1,rfl,h1⟩:=zj4 h0
 cases List.eq_nil_of_length_eq_zero h1
 exact ⟨a0,a1,rfl⟩
theorem lst3 {us:List Value} (h:us.length=3):∃ a0,∃ a1,∃ a2,us=[a0,a1,a2]:=by
 obtain ⟨a0,u0,rfl,h0⟩:=zj4 h
 obtain ⟨a1,u1,rfl,h1⟩:=zj4 h0
 obtain ⟨a2,u2,rfl,h2⟩:=zj4 h1
 cases List.eq_nil_of_length_eq_zero h2
 exact ⟨a0,a1,a2,rfl⟩
theorem lst4 {us:List Value} (h:us.length=4):∃ a0,∃ a1,∃ a2,∃ a3,us=[a0,a1,a2,a3]:=by
 obtain ⟨a0,u0,rfl,h0⟩:=zj4 h
 obtain ⟨a1,u1,rfl,h1⟩:=zj4 h0
 obtain ⟨a2,u2,rfl,h2⟩:=zj4 h1
 obtain ⟨a3,u3,rfl,h3⟩:=zj4 h2
 cases List.eq_nil_of_length_eq_zero h3
 exact ⟨a0,a1,a2,a3,rfl⟩
structure Txm (K:PySem.W.Frag) (mg:Str→Option Value) (a:Ad):Prop where
 m:mg "law"=some (.ref a.f_law)
 F:Fun K "law" "law" zeC a.f_law a.d_law
 p:a.p_lam=105
 T:∀ base:Heap,PySem.W.CodeHd base 107 105→base.BuiltinsAt mg 105→Txt (zbB 105 K) mg base a
theorem znT {K:PySem.W.Frag} {mg:Str→Option Value} (hP:K.lookup 105=some (PySem.W.tabObj #[]))
  {f0 f1 f2 f3 f4 f5 f6 f7 f8 f9 f10 f11 f12 f13 f14 f15 f16 f17 f18 f19 f20 f21 f22 f23 f24 f25 f26 f27 f28 f29 f30:Addr} {d0 d1 d2 d3 d4 d5 d6 d7 d8 d9 d10 d11 d12 d13 d14 d15 d16 d17 d18 d19 d20 d21 d22 d23 d24 d25 d26 d27 d28 d29 d30:FuncData}
  {c_Board:Addr}
  (F0:Fun K "divisor" "divisor" ze5 f0 d0) (m0:mg "divisor"=some (.ref f0))
  (F1:Fun K "ratio" "ratio" zhD f1 d1) (m1:mg "ratio"=some (.ref f1))
  (F2:Fun K "plus" "plus" zjV f2 d2) (m2:mg "plus"=some (.ref f2))
  (F3:Fun K "shared_divisor" "shared_divisor" zcg f3 d3) (m3:mg "shared_divisor"=some (.ref f3))
  (F4:Fun K "lowest" "lowest" zeG f4 d4) (m4:mg "lowest"=some (.ref f4))
  (F5:Fun K "is_whole" "is_whole" zes f5 d5) (m5:mg "is_whole"=some (.ref f5))
  (F6:Fun K "is_row" "is_row" zeJ f6 d6) (m6:mg "is_row"=some (.ref f6))
  (F7:Fun K "is_table" "is_table" zcR f7 d7) (m7:mg "is_table"=some (.ref f7))
  (F8:Fun K "look_table" "look_table" zdl f8 d8) (m8:mg "look_table"=some (.ref f8))
  (F9:Fun K "__init__" "Board.__init__" zbE f9 d9)
  (F10:zka K "entering" "Board.entering" zbl f10 d10 107) (ma10:PySem.W.findIn K (.ref c_Board) "entering"=some (some (.ref f10))) (mf10:PySem.W.isFn K (.ref f10)=true)
  (F11:Fun K "steepest" "Board.steepest" zcf f11 d11) (ma11:PySem.W.findIn K (.ref c_Board) "steepest"=some (some (.ref f11))) (mf11:PySem.W.isFn K (.ref f11)=true)
  (F12:Fun K "steepness" "Board.steepness" zbu f12 d12) (ma12:PySem.W.findIn K (.ref c_Board) "steepness"=some (some (.ref f12))) (mf12:PySem.W.isFn K (.ref f12)=true)
  (F13:Fun K "leaving" "Board.leaving" zcy f13 d13) (ma13:PySem.W.findIn K (.ref c_Board) "leaving"=some (some (.ref f13))) (mf13:PySem.W.isFn K (.ref f13)=true)
  (F14:Fun K "is_sooner" "Board.is_sooner" zbY f14 d14) (ma14:PySem.W.findIn K (.ref c_Board) "is_sooner"=some (some (.ref f14))) (mf14:PySem.W.isFn K (.ref f14)=true)
  (F15:Fun K "swap" "Board.swap" zcI f15 d15) (ma15:PySem.W.findIn K (.ref c_Board) "swap"=some (some (.ref f15))) (mf15:PySem.W.isFn K (.ref f15)=true)
  (F16:Fun K "swapped_row" "Board.swapped_row" zbg f16 d16) (ma16:PySem.W.findIn K (.ref c_Board) "swapped_row"=some (some (.ref f16))) (mf16:PySem.W.isFn K (.ref f16)=true)
  (F17:Fun K "first_grid" "first_grid" zbK f17 d17) (m17:mg "first_grid"=some (.ref f17))
  (F18:Fun K "row_weights" "row_weights" zcp f18 d18) (m18:mg "row_weights"=some (.ref f18))
  (F19:Fun K "column_weights" "column_weights" zbF f19 d19) (m19:mg "column_weights"=some (.ref f19))
  (F20:Fun K "solved" "solved" zeM f20 d20) (m20:mg "solved"=some (.ref f20))
  (F21:Fun K "table_worth" "table_worth" zc2 f21 d21) (m21:mg "table_worth"=some (.ref f21))
  (F22:Fun K "_law_mix" "_law_mix" zet f22 d22) (m22:mg "_law_mix"=some (.ref f22))
  (F23:Fun K "_law_cell_at" "_law_cell_at" zcK f23 d23) (m23:mg "_law_cell_at"=some (.ref f23))
  (F24:Fun K "_law_left" "_law_left" zdD f24 d24) (m24:mg "_law_left"=some (.ref f24))
  (F25:Fun K "_law_draw" "_law_draw" zdy f25 d25) (m25:mg "_law_draw"=some (.ref f25))
  (F26:Fun K "_law_table" "_law_table" zcD f26 d26) (m26:mg "_law_table"=some (.ref f26))
  (F27:Fun K "_law_copy" "_law_copy" zc1 f27 d27) (m27:mg "_law_copy"=some (.ref f27))
  (F28:Fun K "_law_lowest" "_law_lowest" zc4 f28 d28) (m28:mg "_law_lowest"=some (.ref f28))
  (F29:Fun K "_law_turn" "_law_turn" zdC f29 d29) (m29:mg "_law_turn"=some (.ref f29))
  (F30:Fun K "law" "law" zeC f30 d30) (m30:mg "law"=some (.ref f30))
  (cl_Board:Cls K c_Board) (K_Board:Mk K c_Board f9) (na_Board_grid:PySem.W.findIn K (.ref c_Board) "grid"=some none) (na_Board_scale:PySem.W.findIn K (.ref c_Board) "scale"=some none) (na_Board_idle:PySem.W.findIn K (.ref c_Board) "idle"=some none) (na_Board_busy:PySem.W.findIn K (.ref c_Board) "busy"=some none) (na_Board_stuck:PySem.W.findIn K (.ref c_Board) "stuck"=some none)
  (z_isinstance:mg "isinstance"=none)
  (z_int:mg "int"=none)
  (z_bool:mg "bool"=none)
  (z_list:mg "list"=none)
  (z_len:mg "len"=none)
  (z_all:mg "all"=none)
  (z_sum:mg "sum"=none)
  (z_min:mg "min"=none)
  (z_enumerate:mg "enumerate"=none)
  (z_range:mg "range"=none)
  (z_abs:mg "abs"=none)
  (ac_Board:mg "Board"=some (.ref c_Board))
  {k_MOST:PySem.Tok} (ak_MOST:mg "MOST"=some (.int 12 k_MOST))
  : Txm K mg ⟨f0,d0,f1,d1,f2,d2,f3,d3,f4,d4,f5,d5,f6,d6,f7,d7,f8,d8,f9,d9,f10,d10,f11,d11,f12,d12,f13,d13,f14,d14,f15,d15,f16,d16,f17,d17,f18,d18,f19,d19,f20,d20,f21,d21,f22,d22,f23,d23,f24,d24,f25,d25,f26,d26,f27,d27,f28,d28,f29,d29,f30,d30,c_Board,k_MOST,105,107⟩:=by
 have G0:=zat hP F0
 have G1:=zat hP F1
 have G2:=zat hP F2
 have G3:=zat hP F3
 have G4:=zat hP F4
 have G5:=zat hP F5
 have G6:=zat hP F6
 have G7:=zat hP F7
 have G8:=zat hP F8
 have G9:=zat hP F9
 have G10:=F10.drop hP
 have G11:=zat hP F11
 have G12:=zat hP F12
 have G13:=zat hP F13
 have G14:=zat hP F14
 have G15:=zat hP F15
 have G16:=zat hP F16
 have G17:=zat hP F17
 have G18:=zat hP F18
 have G19:=zat hP F19
 have G20:=zat hP F20
 have G21:=zat hP F21
 have G22:=zat hP F22
 have G23:=zat hP F23
 have G24:=zat hP F24
 have G25:=zat hP F25
 have G26:=zat hP F26
 have G27:=zat hP F27
 have G28:=zat hP F28
 have G29:=zat hP F29
 have G30:=zat hP F30
 refine ⟨m30,F30,rfl,fun base hC hB=>⟨G0,G0.binds fun _ _ _ _ _ _ us hl=>by obtain ⟨_,_,rfl⟩:=zhC hl;rfl,m0,G1,G1.binds fun _ _ _ _ _ _ us hl=>by obtain ⟨_,_,rfl⟩:=zhC hl;rfl,m1,G2,G2.binds fun _ _ _ _ _ _ us hl=>by obtain ⟨_,_,rfl⟩:=zhC hl;rfl,m2,G3,G3.binds fun _ _ _ _ _ _ us hl=>by obtain ⟨_,rfl⟩:=ziF hl;rfl,m3,G4,G4.binds fun _ _ _ _ _ _ us hl=>by obtain ⟨_,rfl⟩:=ziF hl;rfl,m4,G5,G5.binds fun _ _ _ _ _ _ us hl=>by obtain ⟨_,rfl⟩:=ziF hl;rfl,m5,G6,G6.binds fun _ _ _ _ _ _ us hl=>by obtain ⟨_,rfl⟩:=ziF hl;rfl,m6,G7,G7.binds fun _ _ _ _ _ _ us hl=>by obtain ⟨_,rfl⟩:=ziF hl;rfl,m7,G8,G8.binds fun _ _ _ _ _ _ us hl=>by obtain ⟨_,rfl⟩:=ziF hl;rfl,m8,G9,G9.binds fun _ _ _ _ _ _ us hl=>by obtain ⟨_,_,rfl⟩:=zhC hl;rfl,G10,G10.fun.binds fun _ _ _ _ _ _ us hl=>by obtain ⟨_,rfl⟩:=ziF hl;rfl,(zfr.mk ma10 mf10 F10.kp).drop hP,G11,G11.binds fun _ _ _ _ _ _ us hl=>by obtain ⟨_,_,rfl⟩:=zhC hl;rfl,(zfr.mk ma11 mf11 F11.kp).drop hP,G12,G12.binds fun _ _ _ _ _ _ us hl=>by obtain ⟨_,_,rfl⟩:=zhC hl;rfl,(zfr.mk ma12 mf12 F12.kp).drop hP,G13,G13.binds fun _ _ _ _ _ _ us hl=>by obtain ⟨_,_,rfl⟩:=zhC hl;rfl,(zfr.mk ma13 mf13 F13.kp).drop hP,G14,G14.binds fun _ _ _ _ _ _ us hl=>by obtain ⟨_,_,_,_,rfl⟩:=lst4 hl;rfl,(zfr.mk ma14 mf14 F14.kp).drop hP,G15,G15.binds fun _ _ _ _ _ _ us hl=>by obtain ⟨_,_,_,rfl⟩:=lst3 hl;rfl,(zfr.mk ma15 mf15 F15.kp).drop hP,G16,G16.binds fun _ _ _ _ _ _ us hl=>by obtain ⟨_,_,_,_,rfl⟩:=lst4 hl;rfl,(zfr.mk ma16 mf16 F16.kp).drop hP,G17,G17.binds fun _ _ _ _ _ _ us hl=>by obtain ⟨_,_,rfl⟩:=zhC hl;rfl,m17,G18,G18.binds fun _ _ _ _ _ _ us hl=>by obtain ⟨_,_,rfl⟩:=zhC hl;rfl,m18,G19,G19.binds fun _ _ _ _ _ _ us hl=>by obtain ⟨_,_,_,rfl⟩:=lst3 hl;rfl,m19,G20,G20.binds fun _ _ _ _ _ _ us hl=>by obtain ⟨_,rfl⟩:=ziF hl;rfl,m20,G21,G21.binds fun _ _ _ _ _ _ us hl=>by obtain ⟨_,rfl⟩:=ziF hl;rfl,m21,G22,G22.binds fun _ _ _ _ _ _ us hl=>by obtain ⟨_,_,rfl⟩:=zhC hl;rfl,m22,G23,G23.binds fun _ _ _ _ _ _ us hl=>by obtain ⟨_,_,rfl⟩:=zhC hl;rfl,m23,G24,G24.binds fun _ _ _ _ _ _ us hl=>by obtain ⟨_,_,rfl⟩:=zhC hl;rfl,m24,G25,G25.binds fun _ _ _ _ _ _ us hl=>by obtain ⟨_,_,rfl⟩:=zhC hl;rfl,m25,G26,G26.binds fun _ _ _ _ _ _ us hl=>by obtain ⟨_,rfl⟩:=ziF hl;rfl,m26,G27,G27.binds fun _ _ _ _ _ _ us hl=>by obtain ⟨_,rfl⟩:=ziF hl;rfl,m27,G28,G28.binds fun _ _ _ _ _ _ us hl=>by obtain ⟨_,_,rfl⟩:=zhC hl;rfl,m28,G29,G29.binds fun _ _ _ _ _ _ us hl=>by obtain ⟨_,_,rfl⟩:=zhC hl;rfl,m29,G30,G30.binds fun _ _ _ _ _ _ us hl=>by obtain ⟨_,rfl⟩:=ziF hl;rfl,m30,cl_Board.drop hP,K_Board.drop hP,zbS.drop hP na_Board_grid,zbS.drop hP na_Board_scale,zbS.drop hP na_Board_idle,zbS.drop hP na_Board_busy,zbS.drop hP na_Board_stuck,hC,hB,z_isinstance,z_int,z_bool,z_list,z_len,z_all,z_sum,z_min,z_enumerate,z_range,z_abs,ac_Board,ak_MOST⟩⟩
theorem znA {K:PySem.W.Frag} {w:World} {mg:Str→Option Value} {fa:Addr} {P:Program} (hfa:mg "law"=some (.ref fa)) {a:Ad} (M:Txm K mg a) :
  ∃ fd:FuncData,(∀ (s:Shared) (u:Value),BindsTo s fd ⟨[u],[]⟩ [("_law_script",u)])∧∀ base:Heap,(zbB 105 K).In base→base.Ns mainGlobals mg→PySem.W.CodeHd base 107 105→base.BuiltinsAt mg 105→zcG P w (zbB 105 K) mg base CX0 12 fa fd ["_law_script"] (zkO (zbB 105 K) 105):=by
 have e:=hfa.symm.trans M.m
 cases e
 refine ⟨a.d_law,fun s v=>?_,fun base _ _ hC hB=>?_⟩
 ·obtain ⟨oc,od,kV,doc,pm,an,cdv,ct,osl,e,lk,hcd⟩:=M.F.ex
  rw [e]
  exact .of_eq rfl
 ·have h:=zny (P:=P) (w:=w) (M.T base hC hB)
  rw [M.p] at h
  exact h
theorem walk {l:PySem.W.OpenLaw} {q:Program} {loose:List Str} {XP:(Str→Option Value)→Heap→Prop} {YP:World→Heap→Prop} {d:DefRec} {K:Params→PySem.W.Frag} (hn:l.most=some 63) (hdf:d.params.defaults=[])
  (hY:∀ (w:World) (h:Heap),YP w h→(K w.params).In h) (hPt:∀ w:World,(K w.params).lookup 105=some (PySem.W.tabObj #[])) (hC:∀ (w:World) (h:Heap),(K w.params).In h→PySem.W.CodeHd h 107 105)
  (F:∀ (w:World) (mg:Str→Option Value) (fa:Addr) (h:Heap),(K w.params).In h→h.Ns mainGlobals mg→mg d.name=some (.ref fa) →
   ∃ fd:FuncData,(∀ (s:Shared) (u:Value),BindsTo s fd ⟨[u],[]⟩ [("_law_script",u)])∧∀ base:Heap,(zbB 105 (K w.params)).In base→base.Ns mainGlobals mg→PySem.W.CodeHd base 107 105→base.BuiltinsAt mg 105→zcG l.prog w (zbB 105 (K w.params)) mg base CX0 12 fa fd ["_law_script"] (zkO (zbB 105 (K w.params)) 105)) :
  PySem.W.WalkO q loose XP YP l.row.toRowW d [] (fun f vs=>PySem.call f vs) :=
 L2.zlf (n:=63) (k:=12) (x:="_law_script") (sp:=fun w=>zkO (zbB 105 (K w.params)) 105) hn (by decide) hdf ⟨rfl,by decide,by decide⟩ hY hPt hC F fun _ _ a ns hb hl hP hS=>⟨a,ns,rfl,hS,hl,hb,.first hP,fun _=>rfl⟩
end My
open PySem PySem.W in
theorem My.walk_at {K:Params→Frag} {w:World} {h:Heap} {l:OpenLaw} {q:Program} {loose:List Str} {XP:(Str→Option Value)→Heap→Prop} {d:DefRec} {C:Prop} (_:(K w.params).In h)
  (use:WalkO q loose XP (fun w h=>(K w.params).In h) l.row.toRowW d [] (fun f vs=>PySem.call f vs)→C) (W:WalkO q loose XP (fun w h=>(K w.params).In h) l.row.toRowW d [] (fun f vs=>PySem.call f vs)):C:=use W
noncomputable section
namespace Hd
open PySem PySem.W.Fast
structure Q (α : Type) where
  a : α
  b : α
  c : α
  d : α
  e : α
  f : α
  g : α
  h : α
class X where
  s : Q (Q (Q Str))
  t : Q (Q (Q String))
  r : Q (Q (Q Obj))
  p : Program
  P : Params
def sp (p : Program) (n : Nat) : Stmt := (p.main.body.drop n).headD (.Pass ⟨0, 0, 0, 0⟩)
def st [x : X] (n : Nat) : Stmt := sp x.p n
def cb : Stmt → List Stmt
  | .ClassDef _ _ _ b .. => b
  | _ => []
def sm [x : X] (n k : Nat) : Stmt := ((cb (st n)).drop k).headD (.Pass ⟨0, 0, 0, 0⟩)
def fn (s : Stmt) (q : Str) (g : Addr) (c : List (Str × Addr)) (d k o m : Value) (a : Option Addr) (z t : Value) (b : Addr) : FuncData := match s with
  | .FunctionDef n p y _ _ _ u .. => ⟨n, q, p, .stmts y, u, g, c, d, k, o, m, a, z, t, b⟩
  | _ => default
abbrev z := W.BT.nil
def N (o : Obj) (l r : W.BT) : W.BT := .node o l r
def L (o : Obj) : W.BT := .node o .nil .nil
def e [x : X] (s : Str) (n : Nat) (v : Value) : DictEntry := ⟨PyData.keyHash x.P s, .str s n, v⟩
def vR (n : Nat) : Option Value := some (.ref n)
def vr (n : Nat) : Value := .ref n
def vO : Value := .int 0 0
def vI (n : Int) : Value := .int n 0
def vS (s : Str) (n : Tok) : Value := .str s n
def vY (s : String) : Value := .type s
def vB (s : String) : Value := .builtin s
section
variable [x : X]
def i0 := e x.s.a.a.d 165 (vS x.s.a.a.e 187)
def i1 := e x.s.a.a.f 166 .none
def i2 := e x.s.a.a.g 167 .none
def i3 := e x.s.a.a.h 168 (vB x.t.a.a.e)
def i4 := e x.s.a.b.a 169 .none
def i5 := e x.s.a.b.b 170 (vr 6)
def i6 := e x.s.a.b.c 171 (vr 4)
def i7 := e x.s.a.b.d 173 (vS x.s.a.a.b 172)
def i8 := e x.s.a.b.e 174 .none
def i9 := e x.s.a.b.f 206 (vr 24)
def i10 := e x.s.a.b.g 196 (vS x.s.a.a.e 187)
def i11 := e x.s.a.b.h 198 (vS x.s.a.b.f 197)
def i12 := e x.s.a.c.a 200 (.int 2 199)
def i13 := e x.s.a.c.b 201 (vr 22)
def i14 := e x.s.a.c.c 203 (vr 25)
def i15 := e x.s.a.a.f 204 .none
def i16 := e x.s.a.c.d 222 (vr 37)
def i17 := e x.s.a.b.g 214 (vS x.s.a.a.e 187)
def i18 := e x.s.a.b.h 216 (vS x.s.a.c.d 215)
def i19 := e x.s.a.c.a 218 (.int 4 217)
def i20 := e x.s.a.c.b 219 (vr 35)
def i21 := e x.s.a.a.f 220 .none
def i22 := e x.s.a.a.d 165 (vS x.s.a.c.e 282)
def i23 := e x.s.a.c.f 238 (vr 49)
def i24 := e x.s.a.c.g 249 (vr 58)
def i25 := e x.s.a.c.h 258 (vr 65)
def i26 := e x.s.a.d.a 266 (vr 72)
def i27 := e x.s.a.d.b 275 (vr 79)
def i28 := e x.s.a.d.c 281 (vr 84)
def i29 := e x.s.a.b.g 230 (vS x.s.a.a.e 187)
def i30 := e x.s.a.b.h 232 (vS x.s.a.c.f 231)
def i31 := e x.s.a.c.a 234 (.int 6 233)
def i32 := e x.s.a.c.b 235 (vr 47)
def i33 := e x.s.a.a.f 236 .none
def i34 := e x.s.a.a.d 165 (vS x.s.a.e.e 291)
def i35 := e x.s.a.e.f 290 (vr 91)
def i36 := e x.s.a.e.h 381 (vr 147)
def i37 := e x.s.a.b.g 300 (vS x.s.a.e.e 291)
def i38 := e x.s.a.b.h 302 (vS x.s.a.e.h 301)
def i39 := e x.s.a.c.a 304 (.int 38 303)
def i40 := e x.s.a.f.a 310 (vr 103)
def i41 := e x.s.a.f.b 316 (vr 108)
def i42 := e x.s.a.f.c 328 (vr 115)
def i43 := e x.s.a.f.d 334 (vr 120)
def i44 := e x.s.a.f.e 344 (vr 127)
def i45 := e x.s.a.f.f 356 (vr 134)
def i46 := e x.s.a.f.g 362 (vr 139)
def i47 := e x.s.a.f.h 368 (vr 144)
def i48 := e x.s.a.c.b 374 (vr 145)
def i49 := e x.s.b.a.f 376 (vr 148)
def i50 := e x.s.a.c.c 378 (vr 149)
def i51 := e x.s.a.a.f 379 .none
def i52 := e x.s.a.a.d 165 (vS x.s.b.a.g 436)
def i53 := e x.s.b.a.h 387 (vr 156)
def i54 := e x.s.b.b.a 393 (vr 161)
def i55 := e x.s.b.b.b 399 (vr 166)
def i56 := e x.s.b.b.c 405 (vr 171)
def i57 := e x.s.b.b.d 409 (.int 12 408)
def i58 := e x.s.b.b.e 415 (vr 176)
def i59 := e x.s.b.b.f 421 (vr 181)
def i60 := e x.s.b.b.g 428 (vr 188)
def i61 := e x.s.b.b.h 435 (vr 195)
def i62 := e x.s.b.c.a 446 (vr 202)
def i63 := e x.s.b.c.b 454 (vr 209)
def i64 := e x.s.b.c.c 463 (vr 216)
def i65 := e x.s.b.c.d 473 (vr 223)
def i66 := e x.s.b.c.e 479 (vr 228)
def i67 := e x.s.b.d.h 485 (vr 233)
def i68 := e x.s.b.e.a 492 (vr 240)
def i69 := e x.s.b.e.b 498 (vr 245)
def i70 := e x.s.b.e.c 507 (vr 252)
def i71 := e x.s.b.e.d 513 (vr 257)
def i72 := e x.s.b.e.e 523 (vr 264)
def i73 := e x.s.b.e.f 533 (vr 271)
def i74 := e x.s.b.e.g 539 (vr 276)
def zal : Obj := ⟨(vY x.t.a.a.a), none, (.seq #[] 0), #[]⟩
def zaz : Obj := ⟨.none, none, (.fields #[]), #[]⟩
def zj7 : Obj := ⟨(vY x.t.a.a.b), none, (.fields #[(vS x.s.a.a.a 182), (vS x.s.a.a.a 183), (vS x.s.a.a.b 184), (vI 1), vO, vO, vO, vO, (vr 11), (.bool false), (vI 181), (vr 12), .none, .none, .none, .none, (vI 185), (vI 1), (vS x.s.a.a.b 186)]), #[]⟩
def zj9 : Obj := ⟨(vY x.t.a.a.c), none, .plain, #[(vR 13), (vR 3), (vR 3), none, (some (vS x.s.a.a.c 164)), none, (vR 0)]⟩
def b519 : Obj := ⟨(vY x.t.a.a.d), none, (.dict #[i0, i1, i2, i3, i4, i5, i6, i7, i8, i9] 10), #[]⟩
def b520 : Obj := ⟨.none, none, (.fields #[(vI 2), vO, (vr 20)]), #[]⟩
def zly : Obj := ⟨(vY x.t.a.a.a), none, (.seq #[(vY x.t.a.a.f)] 0), #[]⟩
def zeE : Obj := ⟨(vY x.t.a.a.g), none, (.fields #[(vB x.t.a.a.h), (vY x.t.a.b.a)]), #[]⟩
def zlG : Obj := ⟨(vY x.t.a.a.d), none, (.dict #[i10, i11, i12, i13] 4), #[]⟩
def zlD : Obj := ⟨(vY x.t.a.a.b), none, (.fields #[(vS x.s.a.b.f 191), (vS x.s.a.b.f 192), (vS x.s.a.a.b 193), (vI 2), vO, vO, vO, vO, (vr 18), (.bool false), (vI 181), (vr 19), .none, .none, .none, .none, (vI 194), (vI 2), (vS x.s.a.a.b 195)]), #[]⟩
def zlq : Obj := ⟨(vY x.t.a.a.c), none, .plain, #[(vR 20), (vR 3), (vR 17), none, (some (vS x.s.a.a.e 187)), none, (vR 0)]⟩
def zls : Obj := ⟨(vY x.t.a.a.d), none, (.dict #[i10, i12, i13, i14, i15] 3), #[]⟩
def b530 : Obj := ⟨(vY x.t.a.b.a), none, (.cls ⟨x.s.a.b.f, [(vY x.t.a.a.f)], [(vr 24), (vY x.t.a.a.f), (vY x.t.a.b.b), (vY x.t.a.b.c), (vY x.t.a.b.d)], 23, x.s.a.b.f, true, [], [], false, none, false⟩), #[(vR 15), none, (some (vS x.s.a.b.f 189)), (some (vS x.s.a.b.f 197)), (some (vB x.t.a.b.e)), (some (.bool true))]⟩
def zlk : Obj := ⟨(vY x.t.a.b.f), none, (.fields #[(vS x.s.a.c.c 202), (vr 24), (vB x.t.a.b.g), .none]), #[]⟩
def zlF : Obj := ⟨(vY x.t.a.b.h), none, (.fields #[(vr 24), (vr 24), (vr 24)]), #[]⟩
def zlz : Obj := ⟨(vY x.t.a.a.g), none, (.fields #[(vB x.t.a.c.a), (vr 24)]), #[]⟩
def b534 : Obj := ⟨(vY x.t.a.a.d), none, (.dict #[i0, i1, i2, i3, i4, i5, i6, i7, i8, i9, i16] 11), #[]⟩
def b535 : Obj := ⟨.none, none, (.fields #[(vI 2), vO, (vr 20), (vI 4), vO, (vr 33)]), #[]⟩
def b536 : Obj := ⟨(vY x.t.a.b.a), none, (.cls ⟨x.s.a.b.f, [(vY x.t.a.a.f)], [(vr 24), (vY x.t.a.a.f), (vY x.t.a.b.b), (vY x.t.a.b.c), (vY x.t.a.b.d)], 23, x.s.a.b.f, true, [], [(vr 37)], false, none, false⟩), #[(vR 15), none, (some (vS x.s.a.b.f 189)), (some (vS x.s.a.b.f 197)), (some (vB x.t.a.b.e)), (some (.bool true))]⟩
def zis : Obj := ⟨(vY x.t.a.a.a), none, (.seq #[(vr 24)] 0), #[]⟩
def zms : Obj := ⟨(vY x.t.a.a.d), none, (.dict #[i17, i18, i19, i20] 4), #[]⟩
def zmU : Obj := ⟨(vY x.t.a.a.b), none, (.fields #[(vS x.s.a.c.d 209), (vS x.s.a.c.d 210), (vS x.s.a.a.b 211), (vI 4), vO, vO, vO, vO, (vr 31), (.bool false), (vI 181), (vr 32), .none, .none, .none, .none, (vI 212), (vI 4), (vS x.s.a.a.b 213)]), #[]⟩
def zmW : Obj := ⟨(vY x.t.a.a.c), none, .plain, #[(vR 33), (vR 3), (vR 30), none, (some (vS x.s.a.a.e 187)), none, (vR 0)]⟩
def zmF : Obj := ⟨(vY x.t.a.a.d), none, (.dict #[i17, i19, i20, i21] 2), #[]⟩
def zlM : Obj := ⟨(vY x.t.a.b.a), none, (.cls ⟨x.s.a.c.d, [(vr 24)], [(vr 37), (vr 24), (vY x.t.a.a.f), (vY x.t.a.b.b), (vY x.t.a.b.c), (vY x.t.a.b.d)], 36, x.s.a.c.d, true, [], [], false, none, false⟩), #[(vR 28), none, (some (vS x.s.a.c.d 207)), (some (vS x.s.a.c.d 215)), (some (vB x.t.a.b.e)), (some (.bool true))]⟩
def zmG : Obj := ⟨(vY x.t.a.b.h), none, (.fields #[(vr 37), (vr 37), (vr 37)]), #[]⟩
def zmE : Obj := ⟨(vY x.t.a.a.g), none, (.fields #[(vB x.t.a.c.a), (vr 37)]), #[]⟩
def b549 : Obj := ⟨(vY x.t.a.a.d), none, (.dict #[i22, i1, i2, i3, i4, i5, i6, i7, i8, i9, i16, i23, i24, i25, i26, i27, i28] 17), #[]⟩
def b550 : Obj := ⟨.none, none, (.fields #[(vI 2), vO, (vr 20), (vI 4), vO, (vr 33), (vI 6), vO, (vr 45), (vI 9), vO, (vr 57), (vI 17), vO, (vr 64), (vI 24), vO, (vr 71), (vI 26), vO, (vr 78), (vI 31), vO, (vr 83)]), #[]⟩
def zno : Obj := ⟨(vY x.t.a.b.a), none, (.cls ⟨x.s.a.b.f, [(vY x.t.a.a.f)], [(vr 24), (vY x.t.a.a.f), (vY x.t.a.b.b), (vY x.t.a.b.c), (vY x.t.a.b.d)], 23, x.s.a.b.f, true, [], [(vr 37), (vr 49)], false, none, false⟩), #[(vR 15), none, (some (vS x.s.a.b.f 189)), (some (vS x.s.a.b.f 197)), (some (vB x.t.a.b.e)), (some (.bool true))]⟩
def zmY : Obj := ⟨(vY x.t.a.a.d), none, (.dict #[i29, i30, i31, i32] 4), #[]⟩
def znf : Obj := ⟨(vY x.t.a.a.b), none, (.fields #[(vS x.s.a.c.f 225), (vS x.s.a.c.f 226), (vS x.s.a.a.b 227), (vI 6), vO, vO, vO, vO, (vr 43), (.bool false), (vI 181), (vr 44), .none, .none, .none, .none, (vI 228), (vI 6), (vS x.s.a.a.b 229)]), #[]⟩
def znn : Obj := ⟨(vY x.t.a.a.c), none, .plain, #[(vR 45), (vR 3), (vR 42), none, (some (vS x.s.a.a.e 187)), none, (vR 0)]⟩
def zm1 : Obj := ⟨(vY x.t.a.a.d), none, (.dict #[i29, i31, i32, i33] 2), #[]⟩
def zm6 : Obj := ⟨(vY x.t.a.b.a), none, (.cls ⟨x.s.a.c.f, [(vr 24)], [(vr 49), (vr 24), (vY x.t.a.a.f), (vY x.t.a.b.b), (vY x.t.a.b.c), (vY x.t.a.b.d)], 48, x.s.a.c.f, true, [], [], false, none, false⟩), #[(vR 40), none, (some (vS x.s.a.c.f 223)), (some (vS x.s.a.c.f 231)), (some (vB x.t.a.b.e)), (some (.bool true))]⟩
def znq : Obj := ⟨(vY x.t.a.b.h), none, (.fields #[(vr 49), (vr 49), (vr 49)]), #[]⟩
def zm2 : Obj := ⟨(vY x.t.a.a.g), none, (.fields #[(vB x.t.a.c.a), (vr 49)]), #[]⟩
def zm5 : Obj := ⟨(vY x.t.a.a.a), none, (.seq #[(vS x.s.a.d.d 244), (vS x.s.a.d.e 245), (vS x.s.a.d.f 246)] 0), #[]⟩
def znh : Obj := ⟨.none, none, (.func (fn (st 5) x.s.a.c.g 0 [] .none .none .none .none none .none .none 0)), #[]⟩
def zm3 : Obj := ⟨(vY x.t.a.a.b), none, (.fields #[(vS x.s.a.c.g 241), (vS x.s.a.c.g 242), (vS x.s.a.a.b 243), (vI 9), (vI 2), vO, vO, (vI 3), (vr 52), (.bool true), (vI 181), (vr 53), .none, (vr 54), (vr 55), (vr 56), (vI 247), (vI 9), (vS x.s.a.a.b 248)]), #[]⟩
def znr : Obj := ⟨(vY x.t.a.c.b), none, (.func (fn (st 5) x.s.a.c.g 3 [] .none .none .none (vS x.s.a.d.g 239) none (vr 57) .none 0)), #[]⟩
def znc : Obj := ⟨(vY x.t.a.a.a), none, (.seq #[(vS x.s.a.d.h 253), (vS x.s.a.e.a 254), (vS x.s.a.e.b 255)] 0), #[]⟩
def znm : Obj := ⟨.none, none, (.func (fn (st 6) x.s.a.c.h 0 [] .none .none .none .none none .none .none 0)), #[]⟩
def zm0 : Obj := ⟨(vY x.t.a.a.b), none, (.fields #[(vS x.s.a.c.h 250), (vS x.s.a.c.h 251), (vS x.s.a.a.b 252), (vI 17), (vI 2), vO, vO, (vI 3), (vr 59), (.bool true), (vI 181), (vr 60), .none, (vr 61), (vr 62), (vr 63), (vI 256), (vI 17), (vS x.s.a.a.b 257)]), #[]⟩
def zm7 : Obj := ⟨(vY x.t.a.c.b), none, (.func (fn (st 6) x.s.a.c.h 3 [] .none .none .none (vS x.s.a.d.g 239) none (vr 64) .none 0)), #[]⟩
def zm4 : Obj := ⟨(vY x.t.a.a.a), none, (.seq #[(vS x.s.a.d.d 262), (vS x.s.a.d.e 263)] 0), #[]⟩
def znb : Obj := ⟨.none, none, (.func (fn (st 7) x.s.a.d.a 0 [] .none .none .none .none none .none .none 0)), #[]⟩
def zng : Obj := ⟨(vY x.t.a.a.b), none, (.fields #[(vS x.s.a.d.a 259), (vS x.s.a.d.a 260), (vS x.s.a.a.b 261), (vI 24), (vI 2), vO, vO, (vI 3), (vr 66), (.bool true), (vI 181), (vr 67), .none, (vr 68), (vr 69), (vr 70), (vI 264), (vI 24), (vS x.s.a.a.b 265)]), #[]⟩
def zni : Obj := ⟨(vY x.t.a.c.b), none, (.func (fn (st 7) x.s.a.d.a 3 [] .none .none .none (vS x.s.a.d.g 239) none (vr 71) .none 0)), #[]⟩
def zmZ : Obj := ⟨(vY x.t.a.a.a), none, (.seq #[(vS x.s.a.e.c 270), (vS x.s.a.e.b 271), (vS x.s.a.e.d 272)] 0), #[]⟩
def zm9 : Obj := ⟨.none, none, (.func (fn (st 8) x.s.a.d.b 0 [] .none .none .none .none none .none .none 0)), #[]⟩
def znk : Obj := ⟨(vY x.t.a.a.b), none, (.fields #[(vS x.s.a.d.b 267), (vS x.s.a.d.b 268), (vS x.s.a.a.b 269), (vI 26), (vI 1), vO, vO, (vI 3), (vr 73), (.bool true), (vI 181), (vr 74), .none, (vr 75), (vr 76), (vr 77), (vI 273), (vI 26), (vS x.s.a.a.b 274)]), #[]⟩
def zm8 : Obj := ⟨(vY x.t.a.c.b), none, (.func (fn (st 8) x.s.a.d.b 3 [] .none .none .none (vS x.s.a.d.g 239) none (vr 78) .none 0)), #[]⟩
def znp : Obj := ⟨.none, none, (.func (fn (st 9) x.s.a.d.c 0 [] .none .none .none .none none .none .none 0)), #[]⟩
def zna : Obj := ⟨(vY x.t.a.a.b), none, (.fields #[(vS x.s.a.d.c 276), (vS x.s.a.d.c 277), (vS x.s.a.a.b 278), (vI 31), (vI 1), vO, vO, (vI 3), (vr 80), (.bool true), (vI 181), (vr 81), .none, .none, .none, (vr 82), (vI 279), (vI 31), (vS x.s.a.a.b 280)]), #[]⟩
def znj : Obj := ⟨(vY x.t.a.c.b), none, (.func (fn (st 9) x.s.a.d.c 3 [] .none .none .none (vS x.s.a.d.g 239) none (vr 83) .none 0)), #[]⟩
def b597 : Obj := ⟨(vY x.t.a.a.d), none, (.dict #[i34, i1, i2, i3, i4, i5, i6, i7, i8, i9, i16, i23, i24, i25, i26, i27, i28, i35] 18), #[]⟩
def b598 : Obj := ⟨.none, none, (.fields #[(vI 2), vO, (vr 20), (vI 4), vO, (vr 33), (vI 6), vO, (vr 45), (vI 9), vO, (vr 57), (vI 17), vO, (vr 64), (vI 24), vO, (vr 71), (vI 26), vO, (vr 78), (vI 31), vO, (vr 83), (vI 35), vO, (vr 90)]), #[]⟩
def zog : Obj := ⟨(vY x.t.a.a.a), none, (.seq #[(vS x.s.a.e.g 287)] 0), #[]⟩
def znY : Obj := ⟨.none, none, (.func (fn (st 11) x.s.a.e.f 0 [] .none .none .none .none none .none .none 0)), #[]⟩
def znN : Obj := ⟨(vY x.t.a.a.b), none, (.fields #[(vS x.s.a.e.f 284), (vS x.s.a.e.f 285), (vS x.s.a.a.b 286), (vI 35), (vI 1), vO, vO, (vI 3), (vr 85), (.bool true), (vI 181), (vr 86), .none, (vr 87), (vr 88), (vr 89), (vI 288), (vI 35), (vS x.s.a.a.b 289)]), #[]⟩
def zod : Obj := ⟨(vY x.t.a.c.b), none, (.func (fn (st 11) x.s.a.e.f 3 [] .none .none .none (vS x.s.a.c.e 282) none (vr 90) .none 0)), #[]⟩
def b606 : Obj := ⟨(vY x.t.a.a.d), none, (.dict #[i34, i1, i2, i3, i4, i5, i6, i7, i8, i9, i16, i23, i24, i25, i26, i27, i28, i35, i36] 19), #[]⟩
def b607 : Obj := ⟨.none, none, (.fields #[(vI 2), vO, (vr 20), (vI 4), vO, (vr 33), (vI 6), vO, (vr 45), (vI 9), vO, (vr 57), (vI 17), vO, (vr 64), (vI 24), vO, (vr 71), (vI 26), vO, (vr 78), (vI 31), vO, (vr 83), (vI 35), vO, (vr 90), (vI 38), vO, (vr 97)]), #[]⟩
def b610 : Obj := ⟨(vY x.t.a.a.d), none, (.dict #[i37, i38, i39, i40, i41, i42, i43, i44, i45, i46, i47, i48] 12), #[]⟩
def b612 : Obj := ⟨.none, none, (.fields #[(vI 40), (vI 4), (vr 102), (vI 47), (vI 4), (vr 107), (vI 55), (vI 4), (vr 114), (vI 65), (vI 4), (vr 119), (vI 69), (vI 4), (vr 126), (vI 76), (vI 4), (vr 133), (vI 81), (vI 4), (vr 138), (vI 90), (vI 4), (vr 143)]), #[]⟩
def b613 : Obj := ⟨(vY x.t.a.a.b), none, (.fields #[(vS x.s.a.e.h 295), (vS x.s.a.e.h 296), (vS x.s.a.a.b 297), (vI 38), vO, vO, vO, vO, (vr 95), (.bool false), (vI 181), (vr 96), .none, .none, .none, .none, (vI 298), (vI 38), (vS x.s.a.a.b 299)]), #[]⟩
def b614 : Obj := ⟨(vY x.t.a.a.c), none, .plain, #[(vR 97), (vR 3), (vR 94), none, (some (vS x.s.a.e.e 291)), none, (vR 0)]⟩
def b617 : Obj := ⟨.none, none, (.func (fn (sm 13 0) x.s.a.g.a 0 [] .none .none .none .none none .none .none 0)), #[]⟩
def b618 : Obj := ⟨(vY x.t.a.a.b), none, (.fields #[(vS x.s.a.f.a 305), (vS x.s.a.g.a 306), (vS x.s.a.a.b 307), (vI 40), (vI 2), vO, vO, (vI 3), (vr 99), (.bool true), (vI 181), (vr 100), .none, .none, .none, (vr 101), (vI 308), (vI 40), (vS x.s.a.a.b 309)]), #[]⟩
def b619 : Obj := ⟨(vY x.t.a.c.b), none, (.func (fn (sm 13 0) x.s.a.g.a 3 [] .none .none .none (vS x.s.a.e.e 291) none (vr 102) .none 0)), #[]⟩
def b622 : Obj := ⟨.none, none, (.func (fn (sm 13 1) x.s.a.g.b 0 [] .none .none .none .none none .none .none 0)), #[]⟩
def b623 : Obj := ⟨(vY x.t.a.a.b), none, (.fields #[(vS x.s.a.f.b 311), (vS x.s.a.g.b 312), (vS x.s.a.a.b 313), (vI 47), (vI 1), vO, vO, (vI 3), (vr 104), (.bool true), (vI 181), (vr 105), .none, .none, .none, (vr 106), (vI 314), (vI 47), (vS x.s.a.a.b 315)]), #[]⟩
def b624 : Obj := ⟨(vY x.t.a.c.b), none, (.func (fn (sm 13 1) x.s.a.g.b 3 [] .none .none .none (vS x.s.a.e.e 291) none (vr 107) .none 0)), #[]⟩
def b627 : Obj := ⟨(vY x.t.a.a.a), none, (.seq #[(vS x.s.a.g.c 320), (vS x.s.a.g.d 321), (vS x.s.a.g.e 322), (vS x.s.a.g.f 323), (vS x.s.a.g.g 324), (vS x.s.a.g.h 325)] 0), #[]⟩
def b629 : Obj := ⟨.none, none, (.func (fn (sm 13 2) x.s.a.h.a 0 [] .none .none .none .none none .none .none 0)), #[]⟩
def b630 : Obj := ⟨(vY x.t.a.a.b), none, (.fields #[(vS x.s.a.f.c 317), (vS x.s.a.h.a 318), (vS x.s.a.a.b 319), (vI 55), (vI 2), vO, vO, (vI 3), (vr 109), (.bool true), (vI 181), (vr 110), .none, (vr 111), (vr 112), (vr 113), (vI 326), (vI 55), (vS x.s.a.a.b 327)]), #[]⟩
def b631 : Obj := ⟨(vY x.t.a.c.b), none, (.func (fn (sm 13 2) x.s.a.h.a 3 [] .none .none .none (vS x.s.a.e.e 291) none (vr 114) .none 0)), #[]⟩
def b634 : Obj := ⟨.none, none, (.func (fn (sm 13 3) x.s.a.h.b 0 [] .none .none .none .none none .none .none 0)), #[]⟩
def b635 : Obj := ⟨(vY x.t.a.a.b), none, (.fields #[(vS x.s.a.f.d 329), (vS x.s.a.h.b 330), (vS x.s.a.a.b 331), (vI 65), (vI 2), vO, vO, (vI 3), (vr 116), (.bool true), (vI 181), (vr 117), .none, .none, .none, (vr 118), (vI 332), (vI 65), (vS x.s.a.a.b 333)]), #[]⟩
def b636 : Obj := ⟨(vY x.t.a.c.b), none, (.func (fn (sm 13 3) x.s.a.h.b 3 [] .none .none .none (vS x.s.a.e.e 291) none (vr 119) .none 0)), #[]⟩
def b639 : Obj := ⟨(vY x.t.a.a.a), none, (.seq #[(vS x.s.a.g.c 338), (vS x.s.a.h.c 339), (vS x.s.a.g.e 340), (vS x.s.a.g.g 341)] 0), #[]⟩
def b641 : Obj := ⟨.none, none, (.func (fn (sm 13 4) x.s.a.h.d 0 [] .none .none .none .none none .none .none 0)), #[]⟩
def b642 : Obj := ⟨(vY x.t.a.a.b), none, (.fields #[(vS x.s.a.f.e 335), (vS x.s.a.h.d 336), (vS x.s.a.a.b 337), (vI 69), (vI 2), vO, vO, (vI 3), (vr 121), (.bool true), (vI 181), (vr 122), .none, (vr 123), (vr 124), (vr 125), (vI 342), (vI 69), (vS x.s.a.a.b 343)]), #[]⟩
def b643 : Obj := ⟨(vY x.t.a.c.b), none, (.func (fn (sm 13 4) x.s.a.h.d 3 [] .none .none .none (vS x.s.a.e.e 291) none (vr 126) .none 0)), #[]⟩
def b646 : Obj := ⟨(vY x.t.a.a.a), none, (.seq #[(vS x.s.a.g.c 348), (vS x.s.a.g.g 349), (vS x.s.a.g.e 350), (vS x.s.a.h.c 351), (vS x.s.a.g.h 352), (vS x.s.a.h.e 353)] 0), #[]⟩
def b648 : Obj := ⟨.none, none, (.func (fn (sm 13 5) x.s.a.h.f 0 [] .none .none .none .none none .none .none 0)), #[]⟩
def b649 : Obj := ⟨(vY x.t.a.a.b), none, (.fields #[(vS x.s.a.f.f 345), (vS x.s.a.h.f 346), (vS x.s.a.a.b 347), (vI 76), (vI 4), vO, vO, (vI 3), (vr 128), (.bool true), (vI 181), (vr 129), .none, (vr 130), (vr 131), (vr 132), (vI 354), (vI 76), (vS x.s.a.a.b 355)]), #[]⟩
def b650 : Obj := ⟨(vY x.t.a.c.b), none, (.func (fn (sm 13 5) x.s.a.h.f 3 [] .none .none .none (vS x.s.a.e.e 291) none (vr 133) .none 0)), #[]⟩
def b653 : Obj := ⟨.none, none, (.func (fn (sm 13 6) x.s.a.h.g 0 [] .none .none .none .none none .none .none 0)), #[]⟩
def b654 : Obj := ⟨(vY x.t.a.a.b), none, (.fields #[(vS x.s.a.f.g 357), (vS x.s.a.h.g 358), (vS x.s.a.a.b 359), (vI 81), (vI 3), vO, vO, (vI 3), (vr 135), (.bool true), (vI 181), (vr 136), .none, .none, .none, (vr 137), (vI 360), (vI 81), (vS x.s.a.a.b 361)]), #[]⟩
def b655 : Obj := ⟨(vY x.t.a.c.b), none, (.func (fn (sm 13 6) x.s.a.h.g 3 [] .none .none .none (vS x.s.a.e.e 291) none (vr 138) .none 0)), #[]⟩
def b658 : Obj := ⟨.none, none, (.func (fn (sm 13 7) x.s.a.h.h 0 [] .none .none .none .none none .none .none 0)), #[]⟩
def b659 : Obj := ⟨(vY x.t.a.a.b), none, (.fields #[(vS x.s.a.f.h 363), (vS x.s.a.h.h 364), (vS x.s.a.a.b 365), (vI 90), (vI 4), vO, vO, (vI 3), (vr 140), (.bool true), (vI 181), (vr 141), .none, .none, .none, (vr 142), (vI 366), (vI 90), (vS x.s.a.a.b 367)]), #[]⟩
def b660 : Obj := ⟨(vY x.t.a.c.b), none, (.func (fn (sm 13 7) x.s.a.h.h 3 [] .none .none .none (vS x.s.a.e.e 291) none (vr 143) .none 0)), #[]⟩
def b661 : Obj := ⟨(vY x.t.a.a.a), none, (.seq #[(vS x.s.b.a.a 369), (vS x.s.b.a.b 370), (vS x.s.b.a.c 371), (vS x.s.b.a.d 372), (vS x.s.b.a.e 373)] 0), #[]⟩
def b662 : Obj := ⟨(vY x.t.a.a.d), none, (.dict #[i37, i39, i40, i41, i42, i43, i44, i45, i46, i47, i48, i49, i50, i51] 4), #[]⟩
def b663 : Obj := ⟨(vY x.t.a.b.a), none, (.cls ⟨x.s.a.e.h, [(vY x.t.a.b.d)], [(vr 147), (vY x.t.a.b.d)], 146, x.s.a.e.h, true, [], [], false, none, false⟩), #[none, none, (some (vS x.s.a.e.h 293)), (some (vS x.s.a.e.h 301)), (some (vB x.t.a.c.c)), (some (.bool true))]⟩
def b664 : Obj := ⟨(vY x.t.a.b.f), none, (.fields #[(vS x.s.b.a.f 375), (vr 147), (vB x.t.a.c.d), (vB x.t.a.c.e)]), #[]⟩
def b665 : Obj := ⟨(vY x.t.a.b.f), none, (.fields #[(vS x.s.a.c.c 377), (vr 147), (vB x.t.a.b.g), .none]), #[]⟩
def b666 : Obj := ⟨(vY x.t.a.b.h), none, (.fields #[(vr 147), (vr 147), (vr 147)]), #[]⟩
def b667 : Obj := ⟨(vY x.t.a.a.g), none, (.fields #[(vB x.t.a.c.a), (vr 147)]), #[]⟩
def b668 : Obj := ⟨(vY x.t.a.a.d), none, (.dict #[i52, i1, i2, i3, i4, i5, i6, i7, i8, i9, i16, i23, i24, i25, i26, i27, i28, i35, i36, i53, i54, i55, i56, i57, i58, i59, i60, i61, i62, i63, i64, i65, i66] 33), #[]⟩
def b669 : Obj := ⟨.none, none, (.fields #[(vI 2), vO, (vr 20), (vI 4), vO, (vr 33), (vI 6), vO, (vr 45), (vI 9), vO, (vr 57), (vI 17), vO, (vr 64), (vI 24), vO, (vr 71), (vI 26), vO, (vr 78), (vI 31), vO, (vr 83), (vI 35), vO, (vr 90), (vI 38), vO, (vr 97), (vI 100), vO, (vr 155), (vI 103), vO, (vr 160), (vI 109), vO, (vr 165), (vI 115), vO, (vr 170), (vI 127), vO, (vr 175), (vI 129), vO, (vr 180), (vI 133), vO, (vr 187), (vI 136), vO, (vr 194), (vI 140), vO, (vr 201), (vI 143), vO, (vr 208), (vI 147), vO, (vr 215), (vI 152), vO, (vr 222), (vI 160), vO, (vr 227)]), #[]⟩
def b672 : Obj := ⟨.none, none, (.func (fn (st 14) x.s.b.a.h 0 [] .none .none .none .none none .none .none 0)), #[]⟩
def b673 : Obj := ⟨(vY x.t.a.a.b), none, (.fields #[(vS x.s.b.a.h 382), (vS x.s.b.a.h 383), (vS x.s.a.a.b 384), (vI 100), (vI 2), vO, vO, (vI 3), (vr 152), (.bool true), (vI 181), (vr 153), .none, .none, .none, (vr 154), (vI 385), (vI 100), (vS x.s.a.a.b 386)]), #[]⟩
def b674 : Obj := ⟨(vY x.t.a.c.b), none, (.func (fn (st 14) x.s.b.a.h 3 [] .none .none .none (vS x.s.a.e.e 291) none (vr 155) .none 0)), #[]⟩
def b677 : Obj := ⟨.none, none, (.func (fn (st 15) x.s.b.b.a 0 [] .none .none .none .none none .none .none 0)), #[]⟩
def b678 : Obj := ⟨(vY x.t.a.a.b), none, (.fields #[(vS x.s.b.b.a 388), (vS x.s.b.b.a 389), (vS x.s.a.a.b 390), (vI 103), (vI 2), vO, vO, (vI 3), (vr 157), (.bool true), (vI 181), (vr 158), .none, .none, .none, (vr 159), (vI 391), (vI 103), (vS x.s.a.a.b 392)]), #[]⟩
def b679 : Obj := ⟨(vY x.t.a.c.b), none, (.func (fn (st 15) x.s.b.b.a 3 [] .none .none .none (vS x.s.a.e.e 291) none (vr 160) .none 0)), #[]⟩
def b682 : Obj := ⟨.none, none, (.func (fn (st 16) x.s.b.b.b 0 [] .none .none .none .none none .none .none 0)), #[]⟩
def b683 : Obj := ⟨(vY x.t.a.a.b), none, (.fields #[(vS x.s.b.b.b 394), (vS x.s.b.b.b 395), (vS x.s.a.a.b 396), (vI 109), (vI 3), vO, vO, (vI 3), (vr 162), (.bool true), (vI 181), (vr 163), .none, .none, .none, (vr 164), (vI 397), (vI 109), (vS x.s.a.a.b 398)]), #[]⟩
def b684 : Obj := ⟨(vY x.t.a.c.b), none, (.func (fn (st 16) x.s.b.b.b 3 [] .none .none .none (vS x.s.a.e.e 291) none (vr 165) .none 0)), #[]⟩
def b687 : Obj := ⟨.none, none, (.func (fn (st 17) x.s.b.b.c 0 [] .none .none .none .none none .none .none 0)), #[]⟩
def b688 : Obj := ⟨(vY x.t.a.a.b), none, (.fields #[(vS x.s.b.b.c 400), (vS x.s.b.b.c 401), (vS x.s.a.a.b 402), (vI 115), (vI 1), vO, vO, (vI 3), (vr 167), (.bool true), (vI 181), (vr 168), .none, .none, .none, (vr 169), (vI 403), (vI 115), (vS x.s.a.a.b 404)]), #[]⟩
def b689 : Obj := ⟨(vY x.t.a.c.b), none, (.func (fn (st 17) x.s.b.b.c 3 [] .none .none .none (vS x.s.a.e.e 291) none (vr 170) .none 0)), #[]⟩
def b692 : Obj := ⟨.none, none, (.func (fn (st 20) x.s.b.b.e 0 [] .none .none .none .none none .none .none 0)), #[]⟩
def b693 : Obj := ⟨(vY x.t.a.a.b), none, (.fields #[(vS x.s.b.b.e 410), (vS x.s.b.b.e 411), (vS x.s.a.a.b 412), (vI 127), (vI 1), vO, vO, (vI 3), (vr 172), (.bool true), (vI 181), (vr 173), .none, .none, .none, (vr 174), (vI 413), (vI 127), (vS x.s.a.a.b 414)]), #[]⟩
def b694 : Obj := ⟨(vY x.t.a.c.b), none, (.func (fn (st 20) x.s.b.b.e 3 [] .none .none .none (vS x.s.b.c.f 406) none (vr 175) .none 0)), #[]⟩
def b697 : Obj := ⟨.none, none, (.func (fn (st 21) x.s.b.b.f 0 [] .none .none .none .none none .none .none 0)), #[]⟩
def b698 : Obj := ⟨(vY x.t.a.a.b), none, (.fields #[(vS x.s.b.b.f 416), (vS x.s.b.b.f 417), (vS x.s.a.a.b 418), (vI 129), (vI 1), vO, vO, (vI 3), (vr 177), (.bool true), (vI 181), (vr 178), .none, .none, .none, (vr 179), (vI 419), (vI 129), (vS x.s.a.a.b 420)]), #[]⟩
def b699 : Obj := ⟨(vY x.t.a.c.b), none, (.func (fn (st 21) x.s.b.b.f 3 [] .none .none .none (vS x.s.b.c.f 406) none (vr 180) .none 0)), #[]⟩
def b702 : Obj := ⟨(vY x.t.a.a.a), none, (.seq #[(vS x.s.b.c.g 425)] 0), #[]⟩
def b704 : Obj := ⟨.none, none, (.func (fn (st 22) x.s.b.b.g 0 [] .none .none .none .none none .none .none 0)), #[]⟩
def b705 : Obj := ⟨(vY x.t.a.a.b), none, (.fields #[(vS x.s.b.b.g 422), (vS x.s.b.b.g 423), (vS x.s.a.a.b 424), (vI 133), (vI 1), vO, vO, (vI 3), (vr 182), (.bool true), (vI 181), (vr 183), .none, (vr 184), (vr 185), (vr 186), (vI 426), (vI 133), (vS x.s.a.a.b 427)]), #[]⟩
def b706 : Obj := ⟨(vY x.t.a.c.b), none, (.func (fn (st 22) x.s.b.b.g 3 [] .none .none .none (vS x.s.b.c.f 406) none (vr 187) .none 0)), #[]⟩
def b709 : Obj := ⟨(vY x.t.a.a.a), none, (.seq #[(vS x.s.b.c.g 432)] 0), #[]⟩
def b711 : Obj := ⟨.none, none, (.func (fn (st 23) x.s.b.b.h 0 [] .none .none .none .none none .none .none 0)), #[]⟩
def b712 : Obj := ⟨(vY x.t.a.a.b), none, (.fields #[(vS x.s.b.b.h 429), (vS x.s.b.b.h 430), (vS x.s.a.a.b 431), (vI 136), (vI 1), vO, vO, (vI 3), (vr 189), (.bool true), (vI 181), (vr 190), .none, (vr 191), (vr 192), (vr 193), (vI 433), (vI 136), (vS x.s.a.a.b 434)]), #[]⟩
def b713 : Obj := ⟨(vY x.t.a.c.b), none, (.func (fn (st 23) x.s.b.b.h 3 [] .none .none .none (vS x.s.b.c.f 406) none (vr 194) .none 0)), #[]⟩
def b716 : Obj := ⟨(vY x.t.a.a.a), none, (.seq #[(vS x.s.b.c.h 441), (vS x.s.b.d.a 442), (vS x.s.b.d.b 443)] 0), #[]⟩
def b718 : Obj := ⟨.none, none, (.func (fn (st 25) x.s.b.c.a 0 [] .none .none .none .none none .none .none 0)), #[]⟩
def b719 : Obj := ⟨(vY x.t.a.a.b), none, (.fields #[(vS x.s.b.c.a 438), (vS x.s.b.c.a 439), (vS x.s.a.a.b 440), (vI 140), (vI 2), vO, vO, (vI 3), (vr 196), (.bool true), (vI 181), (vr 197), .none, (vr 198), (vr 199), (vr 200), (vI 444), (vI 140), (vS x.s.a.a.b 445)]), #[]⟩
def b720 : Obj := ⟨(vY x.t.a.c.b), none, (.func (fn (st 25) x.s.b.c.a 3 [] .none .none .none (vS x.s.b.a.g 436) none (vr 201) .none 0)), #[]⟩
def b723 : Obj := ⟨(vY x.t.a.a.a), none, (.seq #[(vS x.s.b.d.c 450), (vS x.s.b.d.a 451)] 0), #[]⟩
def b725 : Obj := ⟨.none, none, (.func (fn (st 26) x.s.b.c.b 0 [] .none .none .none .none none .none .none 0)), #[]⟩
def b726 : Obj := ⟨(vY x.t.a.a.b), none, (.fields #[(vS x.s.b.c.b 447), (vS x.s.b.c.b 448), (vS x.s.a.a.b 449), (vI 143), (vI 2), vO, vO, (vI 3), (vr 203), (.bool true), (vI 181), (vr 204), .none, (vr 205), (vr 206), (vr 207), (vI 452), (vI 143), (vS x.s.a.a.b 453)]), #[]⟩
def b727 : Obj := ⟨(vY x.t.a.c.b), none, (.func (fn (st 26) x.s.b.c.b 3 [] .none .none .none (vS x.s.b.a.g 436) none (vr 208) .none 0)), #[]⟩
def b730 : Obj := ⟨(vY x.t.a.a.a), none, (.seq #[(vS x.s.b.d.c 458), (vS x.s.b.d.a 459), (vS x.s.b.d.d 460)] 0), #[]⟩
def b732 : Obj := ⟨.none, none, (.func (fn (st 27) x.s.b.c.c 0 [] .none .none .none .none none .none .none 0)), #[]⟩
def b733 : Obj := ⟨(vY x.t.a.a.b), none, (.fields #[(vS x.s.b.c.c 455), (vS x.s.b.c.c 456), (vS x.s.a.a.b 457), (vI 147), (vI 2), vO, vO, (vI 3), (vr 210), (.bool true), (vI 181), (vr 211), .none, (vr 212), (vr 213), (vr 214), (vI 461), (vI 147), (vS x.s.a.a.b 462)]), #[]⟩
def b734 : Obj := ⟨(vY x.t.a.c.b), none, (.func (fn (st 27) x.s.b.c.c 3 [] .none .none .none (vS x.s.b.a.g 436) none (vr 215) .none 0)), #[]⟩
def b737 : Obj := ⟨(vY x.t.a.a.a), none, (.seq #[(vS x.s.b.d.e 467), (vS x.s.b.d.f 468), (vS x.s.b.d.b 469), (vS x.s.b.d.g 470)] 0), #[]⟩
def b739 : Obj := ⟨.none, none, (.func (fn (st 28) x.s.b.c.d 0 [] .none .none .none .none none .none .none 0)), #[]⟩
def b740 : Obj := ⟨(vY x.t.a.a.b), none, (.fields #[(vS x.s.b.c.d 464), (vS x.s.b.c.d 465), (vS x.s.a.a.b 466), (vI 152), (vI 2), vO, vO, (vI 3), (vr 217), (.bool true), (vI 181), (vr 218), .none, (vr 219), (vr 220), (vr 221), (vI 471), (vI 152), (vS x.s.a.a.b 472)]), #[]⟩
def b741 : Obj := ⟨(vY x.t.a.c.b), none, (.func (fn (st 28) x.s.b.c.d 3 [] .none .none .none (vS x.s.b.a.g 436) none (vr 222) .none 0)), #[]⟩
def b744 : Obj := ⟨.none, none, (.func (fn (st 29) x.s.b.c.e 0 [] .none .none .none .none none .none .none 0)), #[]⟩
def b745 : Obj := ⟨(vY x.t.a.a.b), none, (.fields #[(vS x.s.b.c.e 474), (vS x.s.b.c.e 475), (vS x.s.a.a.b 476), (vI 160), (vI 1), vO, vO, (vI 3), (vr 224), (.bool true), (vI 181), (vr 225), .none, .none, .none, (vr 226), (vI 477), (vI 160), (vS x.s.a.a.b 478)]), #[]⟩
def b746 : Obj := ⟨(vY x.t.a.c.b), none, (.func (fn (st 29) x.s.b.c.e 3 [] .none .none .none (vS x.s.b.a.g 436) none (vr 227) .none 0)), #[]⟩
def b747 : Obj := ⟨(vY x.t.a.a.d), none, (.dict #[i52, i1, i2, i3, i4, i5, i6, i7, i8, i9, i16, i23, i24, i25, i26, i27, i28, i35, i36, i53, i54, i55, i56, i57, i58, i59, i60, i61, i62, i63, i64, i65, i66, i67, i68, i69, i70, i71, i72, i73, i74] 41), #[]⟩
def b748 : Obj := ⟨.none, none, (.fields #[(vI 2), vO, (vr 20), (vI 4), vO, (vr 33), (vI 6), vO, (vr 45), (vI 9), vO, (vr 57), (vI 17), vO, (vr 64), (vI 24), vO, (vr 71), (vI 26), vO, (vr 78), (vI 31), vO, (vr 83), (vI 35), vO, (vr 90), (vI 38), vO, (vr 97), (vI 100), vO, (vr 155), (vI 103), vO, (vr 160), (vI 109), vO, (vr 165), (vI 115), vO, (vr 170), (vI 127), vO, (vr 175), (vI 129), vO, (vr 180), (vI 133), vO, (vr 187), (vI 136), vO, (vr 194), (vI 140), vO, (vr 201), (vI 143), vO, (vr 208), (vI 147), vO, (vr 215), (vI 152), vO, (vr 222), (vI 160), vO, (vr 227), (vI 168), vO, (vr 232), (vI 170), vO, (vr 239), (vI 172), vO, (vr 244), (vI 176), vO, (vr 251), (vI 183), vO, (vr 256), (vI 195), vO, (vr 263), (vI 201), vO, (vr 270), (vI 206), vO, (vr 275)]), #[]⟩
def b751 : Obj := ⟨.none, none, (.func (fn (st 30) x.s.b.d.h 0 [] .none .none .none .none none .none .none 0)), #[]⟩
def b752 : Obj := ⟨(vY x.t.a.a.b), none, (.fields #[(vS x.s.b.d.h 480), (vS x.s.b.d.h 481), (vS x.s.a.a.b 482), (vI 168), (vI 1), vO, vO, (vI 3), (vr 229), (.bool true), (vI 181), (vr 230), .none, .none, .none, (vr 231), (vI 483), (vI 168), (vS x.s.a.a.b 484)]), #[]⟩
def b753 : Obj := ⟨(vY x.t.a.c.b), none, (.func (fn (st 30) x.s.b.d.h 3 [] .none .none .none (vS x.s.b.a.g 436) none (vr 232) .none 0)), #[]⟩
def b756 : Obj := ⟨(vY x.t.a.a.a), none, (.seq #[(vS x.s.b.e.h 489)] 0), #[]⟩
def b758 : Obj := ⟨.none, none, (.func (fn (st 31) x.s.b.e.a 0 [] .none .none .none .none none .none .none 0)), #[]⟩
def b759 : Obj := ⟨(vY x.t.a.a.b), none, (.fields #[(vS x.s.b.e.a 486), (vS x.s.b.e.a 487), (vS x.s.a.a.b 488), (vI 170), (vI 1), vO, vO, (vI 3), (vr 234), (.bool true), (vI 181), (vr 235), .none, (vr 236), (vr 237), (vr 238), (vI 490), (vI 170), (vS x.s.a.a.b 491)]), #[]⟩
def b760 : Obj := ⟨(vY x.t.a.c.b), none, (.func (fn (st 31) x.s.b.e.a 3 [] .none .none .none (vS x.s.b.a.g 436) none (vr 239) .none 0)), #[]⟩
def b763 : Obj := ⟨.none, none, (.func (fn (st 32) x.s.b.e.b 0 [] .none .none .none .none none .none .none 0)), #[]⟩
def b764 : Obj := ⟨(vY x.t.a.a.b), none, (.fields #[(vS x.s.b.e.b 493), (vS x.s.b.e.b 494), (vS x.s.a.a.b 495), (vI 172), (vI 2), vO, vO, (vI 3), (vr 241), (.bool true), (vI 181), (vr 242), .none, .none, .none, (vr 243), (vI 496), (vI 172), (vS x.s.a.a.b 497)]), #[]⟩
def b765 : Obj := ⟨(vY x.t.a.c.b), none, (.func (fn (st 32) x.s.b.e.b 3 [] .none .none .none (vS x.s.b.a.g 436) none (vr 244) .none 0)), #[]⟩
def b768 : Obj := ⟨(vY x.t.a.a.a), none, (.seq #[(vS x.s.b.e.h 502), (vS x.s.b.f.a 503), (vS x.s.b.f.b 504)] 0), #[]⟩
def b770 : Obj := ⟨.none, none, (.func (fn (st 33) x.s.b.e.c 0 [] .none .none .none .none none .none .none 0)), #[]⟩
def b771 : Obj := ⟨(vY x.t.a.a.b), none, (.fields #[(vS x.s.b.e.c 499), (vS x.s.b.e.c 500), (vS x.s.a.a.b 501), (vI 176), (vI 1), vO, vO, (vI 3), (vr 246), (.bool true), (vI 181), (vr 247), .none, (vr 248), (vr 249), (vr 250), (vI 505), (vI 176), (vS x.s.a.a.b 506)]), #[]⟩
def b772 : Obj := ⟨(vY x.t.a.c.b), none, (.func (fn (st 33) x.s.b.e.c 3 [] .none .none .none (vS x.s.b.a.g 436) none (vr 251) .none 0)), #[]⟩
def b775 : Obj := ⟨.none, none, (.func (fn (st 34) x.s.b.e.d 0 [] .none .none .none .none none .none .none 0)), #[]⟩
def b776 : Obj := ⟨(vY x.t.a.a.b), none, (.fields #[(vS x.s.b.e.d 508), (vS x.s.b.e.d 509), (vS x.s.a.a.b 510), (vI 183), (vI 4), vO, vO, (vI 3), (vr 253), (.bool true), (vI 181), (vr 254), .none, .none, .none, (vr 255), (vI 511), (vI 183), (vS x.s.a.a.b 512)]), #[]⟩
def b777 : Obj := ⟨(vY x.t.a.c.b), none, (.func (fn (st 34) x.s.b.e.d 3 [] .none .none .none (vS x.s.b.a.g 436) none (vr 256) .none 0)), #[]⟩
def b780 : Obj := ⟨(vY x.t.a.a.a), none, (.seq #[(vS x.s.b.f.c 517), (vS x.s.b.f.d 518), (vS x.s.b.f.a 519), (vS x.s.b.f.b 520)] 0), #[]⟩
def b782 : Obj := ⟨.none, none, (.func (fn (st 35) x.s.b.e.e 0 [] .none .none .none .none none .none .none 0)), #[]⟩
def b783 : Obj := ⟨(vY x.t.a.a.b), none, (.fields #[(vS x.s.b.e.e 514), (vS x.s.b.e.e 515), (vS x.s.a.a.b 516), (vI 195), (vI 2), vO, vO, (vI 3), (vr 258), (.bool true), (vI 181), (vr 259), .none, (vr 260), (vr 261), (vr 262), (vI 521), (vI 195), (vS x.s.a.a.b 522)]), #[]⟩
def b784 : Obj := ⟨(vY x.t.a.c.b), none, (.func (fn (st 35) x.s.b.e.e 3 [] .none .none .none (vS x.s.b.a.g 436) none (vr 263) .none 0)), #[]⟩
def b787 : Obj := ⟨(vY x.t.a.a.a), none, (.seq #[(vS x.s.b.d.e 527), (vS x.s.b.f.e 528), (vS x.s.b.f.f 529), (vS x.s.b.d.a 530)] 0), #[]⟩
def b789 : Obj := ⟨.none, none, (.func (fn (st 36) x.s.b.e.f 0 [] .none .none .none .none none .none .none 0)), #[]⟩
def b790 : Obj := ⟨(vY x.t.a.a.b), none, (.fields #[(vS x.s.b.e.f 524), (vS x.s.b.e.f 525), (vS x.s.a.a.b 526), (vI 201), (vI 2), vO, vO, (vI 3), (vr 265), (.bool true), (vI 181), (vr 266), .none, (vr 267), (vr 268), (vr 269), (vI 531), (vI 201), (vS x.s.a.a.b 532)]), #[]⟩
def b791 : Obj := ⟨(vY x.t.a.c.b), none, (.func (fn (st 36) x.s.b.e.f 3 [] .none .none .none (vS x.s.b.a.g 436) none (vr 270) .none 0)), #[]⟩
def b794 : Obj := ⟨.none, none, (.func (fn (st 37) x.s.b.e.g 0 [] .none .none .none .none none .none .none 0)), #[]⟩
def b795 : Obj := ⟨(vY x.t.a.a.b), none, (.fields #[(vS x.s.b.e.g 534), (vS x.s.b.e.g 535), (vS x.s.a.a.b 536), (vI 206), (vI 1), vO, vO, (vI 3), (vr 272), (.bool true), (vI 181), (vr 273), .none, .none, .none, (vr 274), (vI 537), (vI 206), (vS x.s.a.a.b 538)]), #[]⟩
def b796 : Obj := ⟨(vY x.t.a.c.b), none, (.func (fn (st 37) x.s.b.e.g 3 [] .none .none .none (vS x.s.b.a.g 436) none (vr 275) .none 0)), #[]⟩
def m516 : Heap := ⟨⟨[x.r.a.a.a, x.r.a.a.b, x.r.a.a.c, x.r.a.a.d, x.r.a.a.e, x.r.a.a.f, x.r.a.a.g, x.r.a.a.h, x.r.a.b.a, x.r.a.b.b, x.r.a.b.c, zal, zaz, zj7, zj9]⟩, ⟨[], [], [], 0, [], [], false, #[], [], 0, false, false, false, 0, [2000, 10, 10], false, 0, true, [], [], 0, false⟩⟩
def m517 : W.BT := (N x.r.a.a.a (N x.r.a.a.b (N x.r.a.a.d (L x.r.a.a.h) (L zal)) (N x.r.a.a.f (L x.r.a.b.b) (L zj7))) (N x.r.a.a.c (N x.r.a.a.e (L x.r.a.b.a) (L zaz)) (N x.r.a.a.g (L x.r.a.b.c) (L zj9))))
def m533 : W.BT := (N x.r.a.a.a (N x.r.a.a.b (N b519 (N x.r.a.a.h (L zly) (L zls)) (N zal (L zaz) (L zlz))) (N x.r.a.a.f (N x.r.a.b.b (L zlG) (L zlk)) (N zj7 (L zlq) z))) (N x.r.a.a.c (N x.r.a.a.e (N x.r.a.b.a (L zeE) (L b530)) (N b520 (L zlD) z)) (N x.r.a.a.g (N x.r.a.b.c (L zal) (L zlF)) (N zj9 (L zal) z))))
def m548 : W.BT := (N x.r.a.a.a (N x.r.a.a.b (N b534 (N x.r.a.a.h (N zly (L zal) z) (N zls (L zmE) z)) (N zal (N zaz (L zal) z) (L zlz))) (N x.r.a.a.f (N x.r.a.b.b (N zlG (L zmU) z) (L zlk)) (N zj7 (N zlq (L zlM) z) (L zeE)))) (N x.r.a.a.c (N x.r.a.a.e (N x.r.a.b.a (N zeE (L zaz) z) (L b536)) (N b535 (N zlD (L zmF) z) (L zis))) (N x.r.a.a.g (N x.r.a.b.c (N zal (L zmW) z) (L zlF)) (N zj9 (N zal (L zmG) z) (L zms)))))
def m596 : W.BT := (N x.r.a.a.a (N x.r.a.a.b (N b549 (N x.r.a.a.h (N zly (N zal (L znm) z) (N zal (L zm8) z)) (N zls (N zmE (L zng) z) (L zal))) (N zal (N zaz (N zal (L zaz) z) (N zm2 (L zna) z)) (N zlz (N zal (L zmZ) z) (L zal)))) (N x.r.a.a.f (N x.r.a.b.b (N zlG (N zmU (L zm7) z) (N zm6 (L zaz) z)) (N zlk (N zeE (L zal) z) (L zm3))) (N zj7 (N zlq (N zlM (L zal) z) (L zaz)) (N zeE (N znf (L zm9) z) (L znc))))) (N x.r.a.a.c (N x.r.a.a.e (N x.r.a.b.a (N zeE (N zaz (L zm0) z) (N zm1 (L zal) z)) (N zno (N zis (L zni) z) (L znh))) (N b550 (N zlD (N zmF (L zm4) z) (N zal (L znj) z)) (N zis (N zaz (L zal) z) (L zaz)))) (N x.r.a.a.g (N x.r.a.b.c (N zal (N zmW (L zal) z) (N znq (L znp) z)) (N zlF (N zmY (L zaz) z) (L znr))) (N zj9 (N zal (N zmG (L znb) z) (L zm5)) (N zms (N znn (L znk) z) (L zal))))))
def m605 : W.BT := (N x.r.a.a.a (N x.r.a.a.b (N b597 (N x.r.a.a.h (N zly (N zal (L znm) z) (N zal (L zm8) z)) (N zls (N zmE (L zng) z) (N zal (L zog) z))) (N zal (N zaz (N zal (L zaz) z) (N zm2 (L zna) z)) (N zlz (N zal (L zmZ) z) (N zal (L zod) z)))) (N x.r.a.a.f (N x.r.a.b.b (N zlG (N zmU (L zm7) z) (N zm6 (L zaz) z)) (N zlk (N zeE (L zal) z) (N zm3 (L znY) z))) (N zj7 (N zlq (N zlM (L zal) z) (N zaz (L zal) z)) (N zeE (N znf (L zm9) z) (L znc))))) (N x.r.a.a.c (N x.r.a.a.e (N x.r.a.b.a (N zeE (N zaz (L zm0) z) (N zm1 (L zal) z)) (N zno (N zis (L zni) z) (N znh (L zal) z))) (N b598 (N zlD (N zmF (L zm4) z) (N zal (L znj) z)) (N zis (N zaz (L zal) z) (L zaz)))) (N x.r.a.a.g (N x.r.a.b.c (N zal (N zmW (L zal) z) (N znq (L znp) z)) (N zlF (N zmY (L zaz) z) (N znr (L znN) z))) (N zj9 (N zal (N zmG (L znb) z) (N zm5 (L zaz) z)) (N zms (N znn (L znk) z) (L zal))))))
def m667 : W.BT := (N x.r.a.a.a (N x.r.a.a.b (N b606 (N x.r.a.a.h (N zly (N zal (N znm (L b643) z) (L zal)) (N zal (N zm8 (L b659) z) (L b627))) (N zls (N zmE (N zng (L zal) z) (L b619)) (N zal (N zog (L b667) z) (L b635)))) (N zal (N zaz (N zal (N zaz (L zal) z) (L zal)) (N zm2 (N zna (L b663) z) (L b631))) (N zlz (N zal (N zmZ (L b655) z) (L b623)) (N zal (L zod) (L b639))))) (N x.r.a.a.f (N x.r.a.b.b (N zlG (N zmU (N zm7 (L zaz) z) (L b613)) (N zm6 (N zaz (L b661) z) (L b629))) (N zlk (N zeE (N zal (L b653) z) (L zaz)) (N zm3 (L znY) (L zal)))) (N zj7 (N zlq (N zlM (N zal (L b649) z) (L b617)) (N zaz (N zal (L b665) z) (L zaz))) (N zeE (N znf (N zm9 (L zaz) z) (L zal)) (N znc (L zeE) (L b641)))))) (N x.r.a.a.c (N x.r.a.a.e (N x.r.a.b.a (N zeE (N zaz (N zm0 (L zal) z) (L b612)) (N zm1 (N zal (L b660) z) (L zal))) (N zno (N zis (N zni (L zaz) z) (L zal)) (N znh (L zal) (L b636)))) (N b607 (N zlD (N zmF (N zm4 (L b648) z) (L zaz)) (N zal (N znj (L b664) z) (L zal))) (N zis (N zaz (N zal (L zal) z) (L b624)) (N zaz (L zal) (L zal))))) (N x.r.a.a.g (N x.r.a.b.c (N zal (N zmW (N zal (L b646) z) (L b614)) (N znq (N znp (L b662) z) (L b630))) (N zlF (N zmY (N zaz (L b654) z) (L b622)) (N znr (L znN) (L zaz)))) (N zj9 (N zal (N zmG (N znb (L b650) z) (L b618)) (N zm5 (N zaz (L b666) z) (L b634))) (N zms (N znn (N znk (L b658) z) (L zaz)) (N zal (L b610) (L b642)))))))
def m746 : W.BT := (N x.r.a.a.a (N x.r.a.a.b (N b668 (N x.r.a.a.h (N zly (N zal (N znm (L b643) (L b709)) (N zal (L b677) (L b741))) (N zal (N zm8 (L b659) (L b725)) (N b627 (L b693) z))) (N zls (N zmE (N zng (L zal) (L zal)) (N b619 (L zal) z)) (N zal (N zog (L b667) (L b733)) (N b635 (L zaz) z)))) (N zal (N zaz (N zal (N zaz (L zal) (L b713)) (N zal (L zaz) (L b745))) (N zm2 (N zna (L b663) (L zaz)) (N b631 (L b697) z))) (N zlz (N zal (N zmZ (L b655) (L zal)) (N b623 (L b689) z)) (N zal (N zod (L b673) (L b737)) (N b639 (L b705) z))))) (N x.r.a.a.f (N x.r.a.b.b (N zlG (N zmU (N zm7 (L zaz) (L b711)) (N b613 (L b679) (L zaz))) (N zm6 (N zaz (L b661) (L b727)) (N b629 (L zal) z))) (N zlk (N zeE (N zal (L b653) (L b719)) (N zaz (L b687) z)) (N zm3 (N znY (L zaz) (L zal)) (N zal (L zal) z)))) (N zj7 (N zlq (N zlM (N zal (L b649) (L zaz)) (N b617 (L b683) z)) (N zaz (N zal (L b665) (L zal)) (N zaz (L b699) z))) (N zeE (N znf (N zm9 (L zaz) (L b723)) (N zal (L zaz) z)) (N znc (N zeE (L zal) (L b739)) (N b641 (L zal) z)))))) (N x.r.a.a.c (N x.r.a.a.e (N x.r.a.b.a (N zeE (N zaz (N zm0 (L zal) (L zal)) (N b612 (L b678) (L zal))) (N zm1 (N zal (L b660) (L b726)) (N zal (L b694) z))) (N zno (N zis (N zni (L zaz) (L b718)) (N zal (L zaz) z)) (N znh (N zal (L zal) (L b734)) (N b636 (L b702) z)))) (N b669 (N zlD (N zmF (N zm4 (L b648) (L zal)) (N zaz (L b682) (L b746))) (N zal (N znj (L b664) (L b730)) (N zal (L b698) z))) (N zis (N zaz (N zal (L zal) (L zaz)) (N b624 (L zal) z)) (N zaz (N zal (L b674) (L zal)) (N zal (L b706) z))))) (N x.r.a.a.g (N x.r.a.b.c (N zal (N zmW (N zal (L b646) (L b712)) (N b614 (L zal) (L b744))) (N znq (N znp (L b662) (L zal)) (N b630 (L zaz) z))) (N zlF (N zmY (N zaz (L b654) (L b720)) (N b622 (L b688) z)) (N znr (N znN (L b672) (L zaz)) (N zaz (L b704) z)))) (N zj9 (N zal (N zmG (N znb (L b650) (L b716)) (N b618 (L b684) z)) (N zm5 (N zaz (L b666) (L b732)) (N b634 (L zal) z))) (N zms (N znn (N znk (L b658) (L zal)) (N zaz (L b692) z)) (N zal (N b610 (L zaz) (L b740)) (N b642 (L zaz) z)))))))
def m796 : W.BT := (N x.r.a.a.a (N x.r.a.a.b (N b747 (N x.r.a.a.h (N zly (N zal (N znm (N b643 (L b775) z) (L b709)) (N zal (L b677) (L b741))) (N zal (N zm8 (N b659 (L b791) z) (L b725)) (N b627 (L b693) (L b759)))) (N zls (N zmE (N zng (N zal (L b783) z) (L zal)) (N b619 (L zal) (L b751))) (N zal (N zog (L b667) (L b733)) (N b635 (L zaz) (L zaz))))) (N zal (N zaz (N zal (N zaz (N zal (L zaz) z) (L b713)) (N zal (L zaz) (L b745))) (N zm2 (N zna (N b663 (L b795) z) (L zaz)) (N b631 (L b697) (L b763)))) (N zlz (N zal (N zmZ (N b655 (L b787) z) (L zal)) (N b623 (L b689) (L zaz))) (N zal (N zod (L b673) (L b737)) (N b639 (L b705) (L b771)))))) (N x.r.a.a.f (N x.r.a.b.b (N zlG (N zmU (N zm7 (N zaz (L b777) z) (L b711)) (N b613 (L b679) (L zaz))) (N zm6 (N zaz (N b661 (L zaz) z) (L b727)) (N b629 (L zal) (L zal)))) (N zlk (N zeE (N zal (N b653 (L zal) z) (L b719)) (N zaz (L b687) (L b753))) (N zm3 (N znY (L zaz) (L zal)) (N zal (L zal) (L zal))))) (N zj7 (N zlq (N zlM (N zal (N b649 (L zal) z) (L zaz)) (N b617 (L b683) (L zal))) (N zaz (N zal (L b665) (L zal)) (N zaz (L b699) (L b765)))) (N zeE (N znf (N zm9 (N zaz (L b789) z) (L b723)) (N zal (L zaz) (L zal))) (N znc (N zeE (L zal) (L b739)) (N b641 (L zal) (L zal))))))) (N x.r.a.a.c (N x.r.a.a.e (N x.r.a.b.a (N zeE (N zaz (N zm0 (N zal (L b776) z) (L zal)) (N b612 (L b678) (L zal))) (N zm1 (N zal (N b660 (L zal) z) (L b726)) (N zal (L b694) (L b760)))) (N zno (N zis (N zni (N zaz (L b784) z) (L b718)) (N zal (L zaz) (L b752))) (N znh (N zal (L zal) (L b734)) (N b636 (L b702) (L b768))))) (N b748 (N zlD (N zmF (N zm4 (N b648 (L b780) z) (L zal)) (N zaz (L b682) (L b746))) (N zal (N znj (N b664 (L b796) z) (L b730)) (N zal (L b698) (L b764)))) (N zis (N zaz (N zal (N zal (L zal) z) (L zaz)) (N b624 (L zal) (L b756))) (N zaz (N zal (L b674) (L zal)) (N zal (L b706) (L b772)))))) (N x.r.a.a.g (N x.r.a.b.c (N zal (N zmW (N zal (N b646 (L zal) z) (L b712)) (N b614 (L zal) (L b744))) (N znq (N znp (N b662 (L b794) z) (L zal)) (N b630 (L zaz) (L zaz)))) (N zlF (N zmY (N zaz (N b654 (L zaz) z) (L b720)) (N b622 (L b688) (L zal))) (N znr (N znN (L b672) (L zaz)) (N zaz (L b704) (L b770))))) (N zj9 (N zal (N zmG (N znb (N b650 (L b782) z) (L b716)) (N b618 (L b684) (L zaz))) (N zm5 (N zaz (L b666) (L b732)) (N b634 (L zal) (L zal)))) (N zms (N znn (N znk (N b658 (L b790) z) (L zal)) (N zaz (L b692) (L b758))) (N zal (N b610 (L zaz) (L b740)) (N b642 (L zaz) (L zaz))))))))
def m797 : Heap := ⟨⟨[x.r.a.a.a, x.r.a.a.b, x.r.a.a.c, b747, x.r.a.a.e, x.r.a.a.f, x.r.a.a.g, x.r.a.a.h, x.r.a.b.a, x.r.a.b.b, x.r.a.b.c, zal, b748, zj7, zj9, zly, zeE, zlG, zal, zaz, zlD, zlq, zal, zls, zno, zlk, zlF, zlz, zis, zeE, zms, zal, zaz, zmU, zmW, zal, zmF, zlM, zmG, zmE, zis, zeE, zmY, zal, zaz, znf, znn, zal, zm1, zm6, znq, zm2, zal, zaz, zm5, zal, znh, zm3, znr, zal, zaz, znc, zal, znm, zm0, zm7, zal, zaz, zm4, zal, znb, zng, zni, zal, zaz, zmZ, zal, zm9, znk, zm8, zal, zaz, znp, zna, znj, zal, zaz, zog, zal, znY, znN, zod, zal, zeE, b610, zal, b612, b613, b614, zal, zaz, b617, b618, b619, zal, zaz, b622, b623, b624, zal, zaz, b627, zal, b629, b630, b631, zal, zaz, b634, b635, b636, zal, zaz, b639, zal, b641, b642, b643, zal, zaz, b646, zal, b648, b649, b650, zal, zaz, b653, b654, b655, zal, zaz, b658, b659, b660, b661, b662, b663, b664, b665, b666, b667, zal, zaz, b672, b673, b674, zal, zaz, b677, b678, b679, zal, zaz, b682, b683, b684, zal, zaz, b687, b688, b689, zal, zaz, b692, b693, b694, zal, zaz, b697, b698, b699, zal, zaz, b702, zal, b704, b705, b706, zal, zaz, b709, zal, b711, b712, b713, zal, zaz, b716, zal, b718, b719, b720, zal, zaz, b723, zal, b725, b726, b727, zal, zaz, b730, zal, b732, b733, b734, zal, zaz, b737, zal, b739, b740, b741, zal, zaz, b744, b745, b746, zal, zaz, b751, b752, b753, zal, zaz, b756, zal, b758, b759, b760, zal, zaz, b763, b764, b765, zal, zaz, b768, zal, b770, b771, b772, zal, zaz, b775, b776, b777, zal, zaz, b780, zal, b782, b783, b784, zal, zaz, b787, zal, b789, b790, b791, zal, zaz, b794, b795, b796]⟩, ⟨[], [], [], 0, [], [], false, #[], [], 0, false, false, false, 0, [2000, 10, 10], false, 0, true, [], [], 0, false⟩⟩
end
def m509v (p : Program) : Program := { p with main := { p.main with body := [sp p 1, sp p 2, sp p 3, sp p 5, sp p 6, sp p 7, sp p 8, sp p 9, sp p 11, sp p 13, sp p 14, sp p 15, sp p 16, sp p 17, sp p 19, sp p 20, sp p 21, sp p 22, sp p 23, sp p 25, sp p 26, sp p 27, sp p 28, sp p 29, sp p 30, sp p 31, sp p 32, sp p 33, sp p 34, sp p 35, sp p 36, sp p 37] } }
def m519s (p : Program) : List Stmt := [sp p 0, sp p 1]
def m534s (p : Program) : List Stmt := [sp p 2]
def m549s (p : Program) : List Stmt := [sp p 3, sp p 4, sp p 5, sp p 6, sp p 7, sp p 8, sp p 9, sp p 10]
def m597s (p : Program) : List Stmt := [sp p 11, sp p 12]
def m606s (p : Program) : List Stmt := [sp p 13]
def m668s (p : Program) : List Stmt := [sp p 14, sp p 15, sp p 16, sp p 17, sp p 18, sp p 19, sp p 20, sp p 21, sp p 22, sp p 23, sp p 24, sp p 25, sp p 26, sp p 27, sp p 28, sp p 29]
def m747s (p : Program) : List Stmt := [sp p 30, sp p 31, sp p 32, sp p 33, sp p 34, sp p 35, sp p 36, sp p 37]
def u0 : Q Str := ⟨Str.ofString "<module>", Str.ofString "/claim/cut.py", Str.ofString "__main__", Str.ofString "__name__", Str.ofString "hideworth.errors", Str.ofString "__doc__", Str.ofString "__package__", Str.ofString "__loader__"⟩
def u1 : Q Str := ⟨Str.ofString "__spec__", Str.ofString "__annotations__", Str.ofString "__builtins__", Str.ofString "__file__", Str.ofString "__cached__", Str.ofString "HideError", Str.ofString "__module__", Str.ofString "__qualname__"⟩
def u2 : Q Str := ⟨Str.ofString "__firstlineno__", Str.ofString "__static_attributes__", Str.ofString "__weakref__", Str.ofString "NoNumber", Str.ofString "hideworth.checks", Str.ofString "NoTable", Str.ofString "divisor", Str.ofString "ratio"⟩
def u3 : Q Str := ⟨Str.ofString "plus", Str.ofString "shared_divisor", Str.ofString "lowest", Str.ofString "one", Str.ofString "other", Str.ofString "rest", Str.ofString "hideworth.ratios", Str.ofString "top"⟩
def u4 : Q Str := ⟨Str.ofString "bottom", Str.ofString "shared", Str.ofString "numbers", Str.ofString "number", Str.ofString "hideworth.pivots", Str.ofString "is_whole", Str.ofString "thing", Str.ofString "Board"⟩
def u5 : Q Str := ⟨Str.ofString "__init__", Str.ofString "entering", Str.ofString "steepest", Str.ofString "steepness", Str.ofString "leaving", Str.ofString "is_sooner", Str.ofString "swap", Str.ofString "swapped_row"⟩
def u6 : Q Str := ⟨Str.ofString "Board.__init__", Str.ofString "Board.entering", Str.ofString "self", Str.ofString "columns", Str.ofString "best", Str.ofString "most", Str.ofString "k", Str.ofString "here"⟩
def u7 : Q Str := ⟨Str.ofString "Board.steepest", Str.ofString "Board.steepness", Str.ofString "column", Str.ofString "Board.leaving", Str.ofString "there", Str.ofString "Board.is_sooner", Str.ofString "Board.swap", Str.ofString "Board.swapped_row"⟩
def u8 : Q Str := ⟨Str.ofString "busy", Str.ofString "grid", Str.ofString "idle", Str.ofString "scale", Str.ofString "stuck", Str.ofString "__dict__", Str.ofString "law_hideworth_k13_whole_tables_told_otherwis", Str.ofString "first_grid"⟩
def u9 : Q Str := ⟨Str.ofString "row_weights", Str.ofString "column_weights", Str.ofString "solved", Str.ofString "MOST", Str.ofString "is_row", Str.ofString "is_table", Str.ofString "look_table", Str.ofString "table_worth"⟩
def u10 : Q Str := ⟨Str.ofString "_law_mix", Str.ofString "_law_cell_at", Str.ofString "_law_left", Str.ofString "_law_draw", Str.ofString "_law_table", Str.ofString "hideworth.tables", Str.ofString "table", Str.ofString "_law_number"⟩
def u11 : Q Str := ⟨Str.ofString "_law_k", Str.ofString "_law_mixed", Str.ofString "_law_script", Str.ofString "_law_cell", Str.ofString "_law_left_here", Str.ofString "_law_base", Str.ofString "_law_digit", Str.ofString "_law_copy"⟩
def u12 : Q Str := ⟨Str.ofString "_law_whole", Str.ofString "_law_weights", Str.ofString "_law_fraction", Str.ofString "_law_judged", Str.ofString "_law_lowest", Str.ofString "_law_turn", Str.ofString "law", Str.ofString "_law_thing"⟩
def u13 : Q Str := ⟨Str.ofString "_law_one", Str.ofString "_law_other", Str.ofString "_law_top", Str.ofString "_law_bottom", Str.ofString "_law_many", Str.ofString "_law_turn_here", Str.ofString "_law_turn_here", Str.ofString "_law_turn_here"⟩
def v0 : Q String := ⟨"tuple", "code", "frame", "dict", "__main__.__loader__#opaque", "ValueError", "builtin_function_or_method", "type.__prepare__"⟩
def v1 : Q String := ⟨"type", "Exception", "BaseException", "object", "ValueError.__new__", "getset_descriptor", "ExceptionGroup.__weakref__", "super"⟩
def v2 : Q String := ⟨"object.__init_subclass__", "function", "object.__new__", "function.__dict__", "function.__dict__#set", "function.__dict__#set", "function.__dict__#set", "function.__dict__#set"⟩
def w0 (P : Params) : Q Obj := ⟨W.boot_o_0 P, W.boot_o_1 P, W.boot_o_2 P, W.boot_o_3 P, W.boot_o_4 P, W.boot_o_5 P, W.boot_o_6 P, W.boot_o_7 P⟩
def w1 (P : Params) : Q Obj := ⟨W.boot_o_8 P, W.boot_o_9 P, W.boot_o_10 P, W.boot_o_10 P, W.boot_o_10 P, W.boot_o_10 P, W.boot_o_10 P, W.boot_o_10 P⟩
lay_quick u0 u1 u2 u3 u4 u5 u6 u7 u8 u9 u10 u11 u12 u13 v0 v1 v2 w0 w1 PySem.Challenge.pw_hideworth_k13_whole_tables_told_otherwis
def K (a' b' c' d' e' f' g' h' i' j' k' l' m' n' : Q Str) (o' p' q' : Q String) (r' s' : Params → Q Obj) (t' : Program) (P : Params) : X := ⟨⟨⟨a',b',c',d',e',f',g',h'⟩,⟨i',j',k',l',m',n',n',n'⟩,⟨i',j',k',l',m',n',n',n'⟩,⟨i',j',k',l',m',n',n',n'⟩,⟨i',j',k',l',m',n',n',n'⟩,⟨i',j',k',l',m',n',n',n'⟩,⟨i',j',k',l',m',n',n',n'⟩,⟨i',j',k',l',m',n',n',n'⟩⟩,⟨⟨o',p',q',q',q',q',q',q'⟩,⟨o',p',q',q',q',q',q',q'⟩,⟨o',p',q',q',q',q',q',q'⟩,⟨o',p',q',q',q',q',q',q'⟩,⟨o',p',q',q',q',q',q',q'⟩,⟨o',p',q',q',q',q',q',q'⟩,⟨o',p',q',q',q',q',q',q'⟩,⟨o',p',q',q',q',q',q',q'⟩⟩,⟨⟨r' P,s' P,s' P,s' P,s' P,s' P,s' P,s' P⟩,⟨r' P,s' P,s' P,s' P,s' P,s' P,s' P,s' P⟩,⟨r' P,s' P,s' P,s' P,s' P,s' P,s' P,s' P⟩,⟨r' P,s' P,s' P,s' P,s' P,s' P,s' P,s' P⟩,⟨r' P,s' P,s' P,s' P,s' P,s' P,s' P,s' P⟩,⟨r' P,s' P,s' P,s' P,s' P,s' P,s' P,s' P⟩,⟨r' P,s' P,s' P,s' P,s' P,s' P,s' P,s' P⟩,⟨r' P,s' P,s' P,s' P,s' P,s' P,s' P,s' P⟩⟩,t',P⟩
def k0 := K u0 u1 u2 u3 u4 u5 u6 u7 u8 u9 u10 u11 u12 u13 v0 v1 v2 w0 w1 PySem.Challenge.pw_hideworth_k13_whole_tables_told_otherwis
def k1 := K tw13894225608423057668 tw17531079430653816501 tw13809737476558091540 tw2367299412457286945 tw1912701158020654693 tw2188347355606102534 tw16368670287772101220 tw14842115654739255404 tw4717311838995323452 tw594758545415977400 tw10895325593200808953 tw10037743213843438893 tw10009084784789568687 tw5084553986333570498 tw15633551313878501473 tw10735261366311057212 tw13734974896645664886 tw1278260381020688717 tw13492767390215788210 tw2588889003791399743
theorem ke : k0 = k1 := by
  unfold k0 k1
  rw [te13894225608423057668, te17531079430653816501, te13809737476558091540, te2367299412457286945, te1912701158020654693, te2188347355606102534, te16368670287772101220, te14842115654739255404, te4717311838995323452, te594758545415977400, te10895325593200808953, te10037743213843438893, te10009084784789568687, te5084553986333570498, te15633551313878501473, te10735261366311057212, te13734974896645664886, te1278260381020688717, te13492767390215788210, te2588889003791399743]
theorem kE {β : Type _} (f : X → β) : (fun P => f (k0 P)) = fun P => f (k1 P) := congrArg (fun y P => f (y P)) ke
end Hd
namespace PySem.W.Fast
def tw9668238057041564283 : Program := Hd.m509v tw2588889003791399743
theorem te9668238057041564283 : Hd.m509v PySem.Challenge.pw_hideworth_k13_whole_tables_told_otherwis = tw9668238057041564283 := congrArg Hd.m509v te2588889003791399743
def tw363499996975069013 (P : Params) : Heap := @Hd.m516 (Hd.k1 P)
theorem te363499996975069013 : (fun P => @Hd.m516 (Hd.k0 P)) = tw363499996975069013 := Hd.kE @Hd.m516
def tw553953030307875450 (P : Params) : BT := @Hd.m517 (Hd.k1 P)
theorem te553953030307875450 : (fun P => @Hd.m517 (Hd.k0 P)) = tw553953030307875450 := Hd.kE @Hd.m517
def tw828379356220248407 : List Stmt := Hd.m519s tw2588889003791399743
theorem te828379356220248407 : Hd.m519s PySem.Challenge.pw_hideworth_k13_whole_tables_told_otherwis = tw828379356220248407 := congrArg Hd.m519s te2588889003791399743
def tw9612038023231095823 (P : Params) : BT := @Hd.m533 (Hd.k1 P)
theorem te9612038023231095823 : (fun P => @Hd.m533 (Hd.k0 P)) = tw9612038023231095823 := Hd.kE @Hd.m533
def tw15465948075843418653 : List Stmt := Hd.m534s tw2588889003791399743
theorem te15465948075843418653 : Hd.m534s PySem.Challenge.pw_hideworth_k13_whole_tables_told_otherwis = tw15465948075843418653 := congrArg Hd.m534s te2588889003791399743
def tw1650604057830731166 (P : Params) : BT := @Hd.m548 (Hd.k1 P)
theorem te1650604057830731166 : (fun P => @Hd.m548 (Hd.k0 P)) = tw1650604057830731166 := Hd.kE @Hd.m548
def tw9001070406055622507 : List Stmt := Hd.m549s tw2588889003791399743
theorem te9001070406055622507 : Hd.m549s PySem.Challenge.pw_hideworth_k13_whole_tables_told_otherwis = tw9001070406055622507 := congrArg Hd.m549s te2588889003791399743
def tw2796956408031782178 (P : Params) : BT := @Hd.m596 (Hd.k1 P)
theorem te2796956408031782178 : (fun P => @Hd.m596 (Hd.k0 P)) = tw2796956408031782178 := Hd.kE @Hd.m596
def tw12567128220638285350 : List Stmt := Hd.m597s tw2588889003791399743
theorem te12567128220638285350 : Hd.m597s PySem.Challenge.pw_hideworth_k13_whole_tables_told_otherwis = tw12567128220638285350 := congrArg Hd.m597s te2588889003791399743
def tw3166601088527736070 (P : Params) : BT := @Hd.m605 (Hd.k1 P)
theorem te3166601088527736070 : (fun P => @Hd.m605 (Hd.k0 P)) = tw3166601088527736070 := Hd.kE @Hd.m605
def tw15344868851607761506 : List Stmt := Hd.m606s tw2588889003791399743
theorem te15344868851607761506 : Hd.m606s PySem.Challenge.pw_hideworth_k13_whole_tables_told_otherwis = tw15344868851607761506 := congrArg Hd.m606s te2588889003791399743
def tw16937515399583984782 (P : Params) : BT := @Hd.m667 (Hd.k1 P)
theorem te16937515399583984782 : (fun P => @Hd.m667 (Hd.k0 P)) = tw16937515399583984782 := Hd.kE @Hd.m667
def tw12290760471441304204 : List Stmt := Hd.m668s tw2588889003791399743
theorem te12290760471441304204 : Hd.m668s PySem.Challenge.pw_hideworth_k13_whole_tables_told_otherwis = tw12290760471441304204 := congrArg Hd.m668s te2588889003791399743
def tw6640610987731259657 (P : Params) : BT := @Hd.m746 (Hd.k1 P)
theorem te6640610987731259657 : (fun P => @Hd.m746 (Hd.k0 P)) = tw6640610987731259657 := Hd.kE @Hd.m746
def tw10312396017944847405 : List Stmt := Hd.m747s tw2588889003791399743
theorem te10312396017944847405 : Hd.m747s PySem.Challenge.pw_hideworth_k13_whole_tables_told_otherwis = tw10312396017944847405 := congrArg Hd.m747s te2588889003791399743
def tw14989753206579640411 (P : Params) : BT := @Hd.m796 (Hd.k1 P)
theorem te14989753206579640411 : (fun P => @Hd.m796 (Hd.k0 P)) = tw14989753206579640411 := Hd.kE @Hd.m796
def tw13193158047846491834 (P : Params) : Heap := @Hd.m797 (Hd.k1 P)
theorem te13193158047846491834 : (fun P => @Hd.m797 (Hd.k0 P)) = tw13193158047846491834 := Hd.kE @Hd.m797
end PySem.W.Fast
end
open PySem PySem.W PyProof.Rows PySem.W.X PySem.W.ZRun
set_option maxRecDepth 100000 in
set_option maxHeartbeats 0 in
theorem PySem.Challenge.cw_hideworth_k13_whole_tables_told_otherwis_holds : PySem.Challenge.rw_hideworth_k13_whole_tables_told_otherwis.Holds := by
 w_on;o_law;z_head;(case hw=>w_witness2)
 k_fill
 intro w s0 s1 m0 m1 G Y fa o pm cd doc dV kV ho hd hc hD hm hg xs vs as L h1 h2 h3 h4 h5
 z_open Y L KX ZH ZN ZT
 refine My.walk_at (l:=PySem.Challenge.rw_hideworth_k13_whole_tables_told_otherwis) KX (fun W=>W w s0 s1 m0 m1 G KX fa o pm cd doc dV kV ho hd hc hD hm hg xs vs as h1 h2 h3 h4 h5) (My.walk (l:=PySem.Challenge.rw_hideworth_k13_whole_tables_told_otherwis) rfl rfl (fun _ _ h=>h) ?hPt ?hC ?F)
 case hPt =>
  intro w
  k_is
 case hC =>
  intro w h KX
  refine' L2.zmJ KX ?lc (by decide)
  (case lc=>k_is)
 case F =>
  intro w mg fa h KX G hmg
  refine' My.znA hmg (My.znT ?hP (L2.za3 ?l0 ?c0 ?k0) (mg_of KX G ?a0) (L2.za3 ?l1 ?c1 ?k1) (mg_of KX G ?a1) (L2.za3 ?l2 ?c2 ?k2) (mg_of KX G ?a2) (L2.za3 ?l3 ?c3 ?k3) (mg_of KX G ?a3) (L2.za3 ?l4 ?c4 ?k4) (mg_of KX G ?a4) (L2.za3 ?l5 ?c5 ?k5) (mg_of KX G ?a5) (L2.za3 ?l6 ?c6 ?k6) (mg_of KX G ?a6) (L2.za3 ?l7 ?c7 ?k7) (mg_of KX G ?a7) (L2.za3 ?l8 ?c8 ?k8) (mg_of KX G ?a8) (L2.za3 ?l9 ?c9 ?k9) (L2.zlQ ?l10 ?c10 ?k10) ?ma10 ?mf10 (L2.za3 ?l11 ?c11 ?k11) ?ma11 ?mf11 (L2.za3 ?l12 ?c12 ?k12) ?ma12 ?mf12 (L2.za3 ?l13 ?c13 ?k13) ?ma13 ?mf13 (L2.za3 ?l14 ?c14 ?k14) ?ma14 ?mf14 (L2.za3 ?l15 ?c15 ?k15) ?ma15 ?mf15 (L2.za3 ?l16 ?c16 ?k16) ?ma16 ?mf16 (L2.za3 ?l17 ?c17 ?k17) (mg_of KX G ?a17) (L2.za3 ?l18 ?c18 ?k18) (mg_of KX G ?a18) (L2.za3 ?l19 ?c19 ?k19) (mg_of KX G ?a19) (L2.za3 ?l20 ?c20 ?k20) (mg_of KX G ?a20) (L2.za3 ?l21 ?c21 ?k21) (mg_of KX G ?a21) (L2.za3 ?l22 ?c22 ?k22) (mg_of KX G ?a22) (L2.za3 ?l23 ?c23 ?k23) (mg_of KX G ?a23) (L2.za3 ?l24 ?c24 ?k24) (mg_of KX G ?a24) (L2.za3 ?l25 ?c25 ?k25) (mg_of KX G ?a25) (L2.za3 ?l26 ?c26 ?k26) (mg_of KX G ?a26) (L2.za3 ?l27 ?c27 ?k27) (mg_of KX G ?a27) (L2.za3 ?l28 ?c28 ?k28) (mg_of KX G ?a28) (L2.za3 ?l29 ?c29 ?k29) (mg_of KX G ?a29) (L2.za3 ?l30 ?c30 ?k30) (mg_of KX G ?a30) ⟨?cp_Board,?ch_Board,?co_Board,?cs_Board⟩ ⟨?Km_Board,?Ki_Board,?Kf_Board,?Kk_Board⟩ ?na_Board_grid ?na_Board_scale ?na_Board_idle ?na_Board_busy ?na_Board_stuck (mg_none_of KX G ?z_isinstance) (mg_none_of KX G ?z_int) (mg_none_of KX G ?z_bool) (mg_none_of KX G ?z_list) (mg_none_of KX G ?z_len) (mg_none_of KX G ?z_all) (mg_none_of KX G ?z_sum) (mg_none_of KX G ?z_min) (mg_none_of KX G ?z_enumerate) (mg_none_of KX G ?z_range) (mg_none_of KX G ?z_abs) (mg_of KX G ?ac_Board) (mg_of KX G ?ak_MOST))
  (case hP=>k_is)
  (case ac_Board=>k_is)
  (case a0=>k_is)
  (case a1=>k_is)
  (case a2=>k_is)
  (case a3=>k_is)
  (case a4=>k_is)
  (case a5=>k_is)
  (case a6=>k_is)
  (case a7=>k_is)
  (case a8=>k_is)
  (case ma10=>k_is)
  (case ma11=>k_is)
  (case ma12=>k_is)
  (case ma13=>k_is)
  (case ma14=>k_is)
  (case ma15=>k_is)
  (case ma16=>k_is)
  (case a17=>k_is)
  (case a18=>k_is)
  (case a19=>k_is)
  (case a20=>k_is)
  (case a21=>k_is)
  (case a22=>k_is)
  (case a23=>k_is)
  (case a24=>k_is)
  (case a25=>k_is)
  (case a26=>k_is)
  (case a27=>k_is)
  (case a28=>k_is)
  (case a29=>k_is)
  (case a30=>k_is)
  (case Ki_Board=>k_is)
  (case l0=>k_is)
  (case c0=>k_is)
  (case k0=>k_is)
  (case l1=>k_is)
  (case c1=>k_is)
  (case k1=>k_is)
  (case l2=>k_is)
  (case c2=>k_is)
  (case k2=>k_is)
  (case l3=>k_is)
  (case c3=>k_is)
  (case k3=>k_is)
  (case l4=>k_is)
  (case c4=>k_is)
  (case k4=>k_is)
  (case l5=>k_is)
  (case c5=>k_is)
  (case k5=>k_is)
  (case l6=>k_is)
  (case c6=>k_is)
  (case k6=>k_is)
  (case l7=>k_is)
  (case c7=>k_is)
  (case k7=>k_is)
  (case l8=>k_is)
  (case c8=>k_is)
  (case k8=>k_is)
  (case l9=>k_is)
  (case c9=>k_is)
  (case k9=>k_is)
  (case mf10=>k_is)
  (case l10=>k_is)
  (case c10=>k_is)
  (case k10=>k_is)
  (case mf11=>k_is)
  (case l11=>k_is)
  (case c11=>k_is)
  (case k11=>k_is)
  (case mf12=>k_is)
  (case l12=>k_is)
  (case c12=>k_is)
  (case k12=>k_is)
  (case mf13=>k_is)
  (case l13=>k_is)
  (case c13=>k_is)
  (case k13=>k_is)
  (case mf14=>k_is)
  (case l14=>k_is)
  (case c14=>k_is)
  (case k14=>k_is)
  (case mf15=>k_is)
  (case l15=>k_is)
  (case c15=>k_is)
  (case k15=>k_is)
  (case mf16=>k_is)
  (case l16=>k_is)
  (case c16=>k_is)
  (case k16=>k_is)
  (case l17=>k_is)
  (case c17=>k_is)
  (case k17=>k_is)
  (case l18=>k_is)
  (case c18=>k_is)
  (case k18=>k_is)
  (case l19=>k_is)
  (case c19=>k_is)
  (case k19=>k_is)
  (case l20=>k_is)
  (case c20=>k_is)
  (case k20=>k_is)
  (case l21=>k_is)
  (case c21=>k_is)
  (case k21=>k_is)
  (case l22=>k_is)
  (case c22=>k_is)
  (case k22=>k_is)
  (case l23=>k_is)
  (case c23=>k_is)
  (case k23=>k_is)
  (case l24=>k_is)
  (case c24=>k_is)
  (case k24=>k_is)
  (case l25=>k_is)
  (case c25=>k_is)
  (case k25=>k_is)
  (case l26=>k_is)
  (case c26=>k_is)
  (case k26=>k_is)
  (case l27=>k_is)
  (case c27=>k_is)
  (case k27=>k_is)
  (case l28=>k_is)
  (case c28=>k_is)
  (case k28=>k_is)
  (case l29=>k_is)
  (case c29=>k_is)
  (case k29=>k_is)
  (case l30=>k_is)
  (case c30=>k_is)
  (case k30=>k_is)
  (case cp_Board=>k_is)
  (case ch_Board=>k_is)
  (case co_Board=>k_is)
  (case cs_Board=>k_is)
  (case Km_Board=>k_is)
  (case Kf_Board=>k_is)
  (case Kk_Board=>k_is)
  (case na_Board_grid=>k_is)
  (case na_Board_scale=>k_is)
  (case na_Board_idle=>k_is)
  (case na_Board_busy=>k_is)
  (case na_Board_stuck=>k_is)
  (case z_isinstance=>k_is)
  (case z_int=>k_is)
  (case z_bool=>k_is)
  (case z_list=>k_is)
  (case z_len=>k_is)
  (case z_all=>k_is)
  (case z_sum=>k_is)
  (case z_min=>k_is)
  (case z_enumerate=>k_is)
  (case z_range=>k_is)
  (case z_abs=>k_is)
  (case ak_MOST=>k_is)
