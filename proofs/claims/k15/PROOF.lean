import PyProof.Rows.All
import Wide.All
import OpenK.AllK
import Wide.FinOn
import Lean
import PyProof.EqAt
import PyProof.EqKinds
import PyProof.TupleCall
import KE.IntBitsLaws
import PyProof.NeKinds
import KE.KIsAll
import PyProof.ExcAttrAll.ValueError
import KE.RegKIsAll
import OpenK.KOwn
import PyProof.ConsumeWalk
import PyProof.SumWalkG
import PyProof.Rows.SeqCalls
import PyProof.Rows.SeqGen
import PyProof.ZipIter
import PyProof.Rows.ZipGen
import PyProof.Rows.FactsT2
import PyProof.WalkInts
import PyProof.SeqI3
import PyProof.AutoSeq1
import PyProof.WalksEnum
import PyProof.EnumMake
import PyProof.ListRange
import PyProof.ExcInit
import PyProof.InstStoreFacts
import KE.KLam
import KE.KMinKey
import KE.KEqDict
import OpenK.ZGo
import PySem.Challenge.RW_hideworth_k15_no_tables_refused
set_option Elab.async false
set_option linter.all false
set_option maxRecDepth 100000
namespace L2
open PySem PySem.Spec PyProof.Rows
abbrev Key:=Sum Int Str
def zvb:Key→Value→Bool
 | .inl k,v=>Value.isInt k v
 | .inr x,v=>Value.isStrOf x v
def keyH (w:World):Key→Int
 | .inl k=>hashInt k
 | .inr x=>hashStr w x
theorem zbx:∀ {k:Key} {v:Value},zvb k v=true→(∃ i t,k=Sum.inl i∧v=Value.int i t)∨(∃ x t,k=Sum.inr x∧v=Value.str x t)
 | .inl i,v,h=>by
  obtain ⟨t,e⟩:=Value.isInt_shape (k:=i) (v:=v) h
  exact .inl ⟨i,t,rfl,e⟩
 | .inr x,v,h=>by
  obtain ⟨t,e⟩:=Value.isStrOf_shape (x:=x) (v:=v) h
  exact .inr ⟨x,t,rfl,e⟩
theorem zt5 (a b:Int):decide ((Sum.inl a:Key)=Sum.inl b)=(a == b):=by
 by_cases e:a=b
 ·subst e;simp
 ·have h:¬ (Sum.inl a:Key)=Sum.inl b:=fun q=>e (Sum.inl.inj q)
  rw [decide_eq_false h]
  exact (beq_eq_false_iff_ne.mpr e).symm
theorem zuz (a b:Str):decide ((Sum.inr a:Key)=Sum.inr b)=decide (a=b):=by
 by_cases e:a=b
 ·subst e;simp
 ·have h:¬ (Sum.inr a:Key)=Sum.inr b:=fun q=>e (Sum.inr.inj q)
  rw [decide_eq_false h,decide_eq_false e]
theorem zuW (a:Int) (b:Str):decide ((Sum.inl a:Key)=Sum.inr b)=false:=decide_eq_false (fun q=>nomatch q)
theorem ztK (a:Str) (b:Int):decide ((Sum.inr a:Key)=Sum.inl b)=false:=decide_eq_false (fun q=>nomatch q)
def zmm (prog:Program) (w:World):PySem.KeyKind prog w Key where
 is:=zvb
 hash:=keyH w
 inj:=fun v a b ha hb=>by
  rcases zbx ha with ⟨i,t,rfl,rfl⟩ | ⟨x,t,rfl,rfl⟩
  ·rcases zbx hb with ⟨j,u,rfl,e⟩ | ⟨y,u,rfl,e⟩
   ·injection e with e1 _;rw [e1]
   ·exact nomatch e
  ·rcases zbx hb with ⟨j,u,rfl,e⟩ | ⟨y,u,rfl,e⟩
   ·exact nomatch e
   ·injection e with e1 _;rw [e1]
 byValue:=fun k v h=>by
  rcases zbx h with ⟨i,t,rfl,rfl⟩ | ⟨x,t,rfl,rfl⟩ <;> rfl
 pyHash:=fun hv h=>by
  rcases zbx hv with ⟨i,t,rfl,rfl⟩ | ⟨x,t,rfl,rfl⟩
  ·exact wpAny_pyHash_int h
  ·exact wpAny_pyHash_str h
 eqBool:=fun hu hv h=>by
  rcases zbx hu with ⟨i,t,rfl,rfl⟩ | ⟨x,t,rfl,rfl⟩
  ·rcases zbx hv with ⟨j,u,rfl,rfl⟩ | ⟨y,u,rfl,rfl⟩
   ·rw [zt5] at h;exact wpAny_eqBool_int h
   ·rw [zuW] at h;exact SeqAt.EqAt.int_str i t y u _ _ _ _ h
  ·rcases zbx hv with ⟨j,u,rfl,rfl⟩ | ⟨y,u,rfl,rfl⟩
   ·rw [ztK] at h;exact SeqAt.EqAt.str_int x t j u _ _ _ _ h
   ·rw [zuz] at h;exact wpAny_eqBool_str h
 «strs»:=fun k x t v h=>by
  rcases zbx h with ⟨i,u,rfl,e⟩ | ⟨y,u,rfl,e⟩
  ·exact nomatch e
  ·injection e with e1 _
   subst e1
   cases v <;> rfl
end L2
namespace L2
open PySem PySem.Spec PyProof.Rows
inductive V where
 | non | bl (b:Bool) | int (i:Int) | str (x:Str) | byt (b:Array UInt8) | flt (b:UInt64) | ref (a:Addr) | ty (n:String)
 deriving DecidableEq
def zbT:V→Value→Prop
 | .non,u=>u=Value.none
 | .bl b,u=>u=Value.bool b
 | .int i,u=>∃ t,u=Value.int i t
 | .str x,u=>∃ t,u=Value.str x t
 | .byt b,u=>∃ t,u=Value.bytes b t
 | .flt b,u=>∃ t,u=Value.float b t
 | .ref a,u=>u=Value.ref a
 | .ty n,u=>u=Value.type n
abbrev zbs:List V→List Value→Prop:=Paired zbT
theorem zbs.length {xs:List V} {us:List Value} (r:zbs xs us):xs.length=us.length:=Paired.length r
theorem zbs.get:∀ {xs:List V} {us:List Value} {i:Nat} {x:V},zbs xs us→xs[i]?=some x→∃ u,us[i]?=some u∧zbT x u
 | _,_,_,_,.nil,e=>by simp at e
 | _,_,0,_,.cons r _,e=>by simp at e;subst e;exact ⟨_,rfl,r⟩
 | _,_,i+1,x,.cons _ t,e=>by
  obtain ⟨u,h1,h2⟩:=zbs.get (i:=i) (x:=x) t (by simpa using e)
  exact ⟨u,by simpa using h1,h2⟩
theorem zbs.set {x:V} {u:Value} (r:zbT x u):∀ {xs:List V} {us:List Value} (i:Nat),zbs xs us→zbs (xs.set i x) (us.set i u)
 | _,_,_,.nil=>.nil
 | _,_,0,.cons _ t=>.cons r t
 | _,_,i+1,.cons q t=>.cons q (zbs.set r i t)
theorem zbs.append:∀ {xs ys:List V} {us ws:List Value},zbs xs us→zbs ys ws→zbs (xs++ys) (us++ws)
 | _,_,_,_,.nil,s=>s
 | _,_,_,_,.cons r t,s=>.cons r (zbs.append t s)
theorem zbs.take:∀ {xs:List V} {us:List Value} (n:Nat),zbs xs us→zbs (xs.take n) (us.take n)
 | _,_,0,_=>.nil
 | _,_,_+1,.nil=>.nil
 | _,_,n+1,.cons r t=>.cons r (zbs.take n t)
theorem zbs.drop:∀ {xs:List V} {us:List Value} (n:Nat),zbs xs us→zbs (xs.drop n) (us.drop n)
 | _,_,0,r=>r
 | _,_,_+1,.nil=>.nil
 | _,_,n+1,.cons _ t=>zbs.drop n t
def zpp:Option V→Option Value→Prop
 | some v,some u=>zbT v u
 | none,none=>True
 | _,_=>False
def KV {κ:Type}:List (κ×V)→List (κ×Value)→Prop:=Paired fun (p:κ×V) (q:κ×Value)=>p.1=q.1∧zbT p.2 q.2
def kV:Key→V
 | .inl i=>.int i
 | .inr x=>.str x
inductive HO where
  | lst (xs:List V)
  | tup (xs:List V)
  | dK (kvs:List (Key×V)) | dT (kvs:List (List Key×V))
  | set (S:Int→Bool) (n:Nat)
  | ins (C dx:Addr) (fs:List (Str×V))
  | own (x:Addr)
  | xd (fs:List (Str×V))
  | met (f x:Addr)
  | rng (lo hi:Int)
  | frz (o:Obj) (u:HO)
  | tbl (ps:Array Value)
  | ext (φ:Heap→Prop)
abbrev Hp:=Addr→Option HO
def upd (H:Hp) (a:Addr) (o:HO):Hp:=fun b=>if b=a then some o else H b
theorem zag {H:Hp} {a:Addr} {o:HO}:upd H a o a=some o:=by unfold upd;rw [if_pos rfl]
theorem zal {H:Hp} {a b:Addr} {o:HO} (h:b≠a):upd H a o b=H b:=by unfold upd;rw [if_neg h]
theorem zj7 {H:Hp} {a:Addr} {o u:HO}:upd (upd H a o) a u=upd H a u:=by
 funext b;unfold upd;split <;> rfl
theorem zaV {H:Hp} {a b:Addr} {o:HO} (h:H a=some o) (h':H b=none):a≠b:=by
 intro e;subst e;rw [h] at h';cases h'
section
variable (P:Program) (w:World)
def zca (H:Hp) (h:Heap) (a:Addr):HO→Prop
 | .lst xs=>xs.length≤sizeLine∧∃ (its:List Value) (n:Nat),zbs xs its∧h.get? a=some { cls:=.type "list",data:=.seq its.toArray n }
 | .tup xs=>xs.length≤sizeLine∧∃ its:List Value,zbs xs its∧IsTup h a its.toArray
 | .dK kvs=>kvs.length≤sizeLine∧(a == sysModules)=false∧∃ vs,KV kvs vs∧h.DictOf (zmm P w) a vs
 | .dT kvs=>kvs.length≤sizeLine∧(a == sysModules)=false∧∃ xs:List (List Key×Addr×Value),
   Paired (fun (p:List Key×V) (q:List Key×Addr×Value)=>p.1=q.1∧H q.2.1=some (.tup (p.1.map kV))∧zbT p.2 q.2.2) kvs xs ∧
   ∃ o es ep,h.get? a=some o∧o.ExactDict∧o.data=.dict es ep∧es.toList=xs.map (entryOfKey (tupleKind (zmm P w)))∧(xs.map (·.1)).Nodup
 | .set S n=>h.SetOf (intKind P w) a S n
 | .ins C dx fs=>H dx=some (.own a)∧fs.length≤1000∧dx≠a∧h.get? a=some (PySem.W.instObj C dx) ∧
   ∃ mA,h.Ns1 dx mA∧(∀ f,zpp (fs.lookup f) (mA f))∧PySem.Within mA (fs.map (·.1))
 | .own _=>∃ o,h.get? a=some o
 | .xd fs=>∃ mA,h.Ns1 a mA∧∀ f,zpp (fs.lookup f) (mA f)
 | .rng lo hi=>∃ t u v,h.get? a=some { cls:=.type "range",data:=.fields #[.int lo t,.int hi u,.int 1 v] }
 | .frz o u=>h.get? a=some o∧zca H h a u
 | .tbl ps=>h.get? a=some { cls:=.none,data:=.fields ps }
 | .met f x=>h.get? a=some (PySem.W.methodObj (.ref f) (.ref x))
 | .ext φ=>φ h∧(∃ o,h.get? a=some o)∧∀ h1 h2:Heap,φ h1→(∀ o,h1.get? a=some o→h2.get? a=some o)→φ h2
def HOk (H:Hp) (h:Heap):Prop:=∀ a o,H a=some o→zca P w H h a o
end
section
variable {P:Program} {w:World} {H H':Hp} {h h':Heap} {a:Addr} {o:HO}
theorem zca.lt (x:zca P w H h a o):a<h.objs.size:=by
 cases o with
 | lst xs=>obtain ⟨_,_,_,_,e⟩:=x;exact Heap.lt_size e
 | tup xs=>obtain ⟨_,_,_,p⟩:=x;exact p.lt
 | dK kvs=>obtain ⟨_,_,_,_,o,_,_,e,_⟩:=x;exact Heap.lt_size e
 | dT kvs=>obtain ⟨_,_,_,_,o,_,_,e,_⟩:=x;exact Heap.lt_size e
 | set S n=>obtain ⟨o,_,_,_,e,_⟩:=x;exact Heap.lt_size e
 | ins C dx fs=>obtain ⟨_,_,_,e,_⟩:=x;exact Heap.lt_size e
 | own y=>obtain ⟨_,e⟩:=x;exact Heap.lt_size e
 | xd fs=>obtain ⟨_,⟨_,_,_,e,_⟩,_⟩:=x;exact Heap.lt_size e
 | rng lo hi=>obtain ⟨_,_,_,e⟩:=x;exact Heap.lt_size e
 | frz ob u=>obtain ⟨e,_⟩:=x;exact Heap.lt_size e
 | tbl ps=>exact Heap.lt_size (show h.get? a=some _ from x)
 | met f y=>exact Heap.lt_size (show h.get? a=some _ from x)
 | ext φ=>obtain ⟨_,⟨_,e⟩,_⟩:=x;exact Heap.lt_size e
theorem Paired.mapP {α β:Type} {F G:α→β→Prop}:∀ {l₁:List α} {l₂:List β},Paired F l₁ l₂→(∀ a b,F a b→G a b)→Paired G l₁ l₂
 | _,_,.nil,_=>.nil
 | _,_,.cons r t,f=>.cons (f _ _ r) (Paired.mapP t f)
theorem zca.stay (x:zca P w H h a o) (k:∀ b u,(b=a∨H b=some (.own a))→h.get? b=some u→h'.get? b=some u)
  (ho:∀ b,H b=some (.own a)→H' b=some (.own a)) (ht:∀ b xs,H b=some (.tup xs)→H' b=some (.tup xs)):zca P w H' h' a o:=by
 induction o with
 | lst xs=>obtain ⟨z,its,n,r,e⟩:=x;exact ⟨z,its,n,r,k _ _ (.inl rfl) e⟩
 | tup xs=>obtain ⟨z,its,r,ob,e,c⟩:=x;exact ⟨z,its,r,ob,k _ _ (.inl rfl) e,c⟩
 | dK kvs=>obtain ⟨z,y,vs,r,ob,es,ep,e,c⟩:=x;exact ⟨z,y,vs,r,ob,es,ep,k _ _ (.inl rfl) e,c⟩
 | dT kvs =>
  obtain ⟨z,y,xs,r,ob,es,ep,e,c⟩:=x
  exact ⟨z,y,xs,Paired.mapP r fun p q z=>⟨z.1,ht _ _ z.2.1,z.2.2⟩,ob,es,ep,k _ _ (.inl rfl) e,c⟩
 | set S n=>obtain ⟨ob,es,ep,t,e,c⟩:=x;exact ⟨ob,es,ep,t,k _ _ (.inl rfl) e,c⟩
 | ins C dx fs =>
  obtain ⟨d,z,ne,e,mA,⟨od,es,ep,e2,c⟩,r⟩:=x
  exact ⟨ho _ d,z,ne,k _ _ (.inl rfl) e,mA,⟨od,es,ep,k _ _ (.inr d) e2,c⟩,r⟩
 | own y=>obtain ⟨ob,e⟩:=x;exact ⟨ob,k _ _ (.inl rfl) e⟩
 | xd fs=>obtain ⟨mA,⟨od,es,ep,e,c⟩,r⟩:=x;exact ⟨mA,⟨od,es,ep,k _ _ (.inl rfl) e,c⟩,r⟩
 | rng lo hi=>obtain ⟨t,u,v,e⟩:=x;exact ⟨t,u,v,k _ _ (.inl rfl) e⟩
 | frz ob u ih=>obtain ⟨e,q⟩:=x;exact ⟨k _ _ (.inl rfl) e,ih q⟩
 | tbl ps =>
  have e:h.get? a=some { cls:=.none,data:=.fields ps }:=x
  show h'.get? a=some { cls:=.none,data:=.fields ps }
  exact k a _ (.inl rfl) e
 | met f y =>
  have e:h.get? a=some (PySem.W.methodObj (.ref f) (.ref y)):=x
  show h'.get? a=some (PySem.W.methodObj (.ref f) (.ref y))
  exact k a _ (.inl rfl) e
 | ext φ=>obtain ⟨p,⟨o,e⟩,st⟩:=x;exact ⟨st _ _ p fun o q=>k _ _ (.inl rfl) q,⟨o,k _ _ (.inl rfl) e⟩,st⟩
theorem HOk.lt (x:HOk P w H h) (e:H a=some o):a<h.objs.size:=(x a o e).lt
theorem HOk.fresh (x:HOk P w H h) (e:h.objs.size≤a):H a=none:=by
 cases q:H a with
 | none=>rfl
 | some u=>exact absurd (Nat.lt_of_lt_of_le (x.lt q) e) (Nat.lt_irrefl _)
theorem HOk.kept (x:HOk P w H h) (k:∀ b u,h.get? b=some u→h'.get? b=some u):HOk P w H h':=fun a o e =>
 (x a o e).stay (fun b u _ q=>k b u q) (fun _ q=>q) fun _ _ q=>q
theorem HOk.laid (x:HOk P w H h) (k:∀ b u,h.get? b=some u→h'.get? b=some u) (hp:h.objs.size≤a) (new:zca P w (upd H a o) h' a o):HOk P w (upd H a o) h':=fun b u e=>by
 have hn:=x.fresh hp
 by_cases hb:b=a
 ·subst hb;rw [zag] at e;cases e;exact new
 ·rw [zal hb] at e
  exact (x b u e).stay (fun c v _ q=>k c v q) (fun c q=>by rw [zal (zaV q hn)];exact q) fun c xs q=>by rw [zal (zaV q hn)];exact q
end
def Rd (H:Hp) (a:Addr) (u:HO):Prop:=H a=some u∨∃ o,H a=some (.frz o u)
theorem Rd.ok {P:Program} {w:World} {H:Hp} {h:Heap} {a:Addr} {u:HO} (r:Rd H a u) (x:HOk P w H h):zca P w H h a u:=by
 rcases r with r | ⟨o,r⟩
 ·exact x a u r
 ·obtain ⟨_,q⟩:=x a _ r
  exact q
def Mut:Option HO→Prop
 | some (.lst _)=>True
 | some (.dK _)=>True
 | some (.dT _)=>True
 | some (.set _ _)=>True
 | some (.ins _ _ _)=>True
 | some (.ext _)=>True
 | _=>False
section
variable {P:Program} {w:World} {H:Hp} {h h':Heap} {x e:Addr} {o':HO}
theorem HOk.write (ok:HOk P w H h) (mu:Mut (H x)) (he:e=x∨H e=some (.own x)) (k:∀ b u,b≠e→h.get? b=some u→h'.get? b=some u) (heo:∃ u,h'.get? e=some u)
  (new:zca P w (upd H x o') h' x o'):HOk P w (upd H x o') h':=fun b u q=>by
 have nown:∀ c y,H c=some (.own y)→c≠x:=fun c y r z=>by subst z;rw [r] at mu;exact mu
 have ntup:∀ c xs,H c=some (.tup xs)→c≠x:=fun c xs r z=>by subst z;rw [r] at mu;exact mu
 by_cases hb:b=x
 ·subst hb;rw [zag] at q;cases q;exact new
 ·rw [zal hb] at q
  by_cases hbe:b=e
  ·have q':H b=some (.own x):=by
    rcases he with z | z
    ·exact absurd (hbe.trans z) hb
    ·rw [hbe];exact z
   rw [q] at q';cases q'
   obtain ⟨v,hv⟩:=heo
   exact ⟨v,by rw [hbe];exact hv⟩
  ·refine (ok b u q).stay (fun c v hc r=>k c v ?_ r) (fun c r=>by rw [zal (nown c b r)];exact r) fun c xs r=>by rw [zal (ntup c xs r)];exact r
   rcases hc with rfl | hc
   ·exact hbe
   ·rintro rfl
    rcases he with z | z
    ·exact nown c b hc z
    ·rw [hc] at z;cases z;exact hb rfl
end
structure Un (fs ex:List Addr) (H H':Hp) (h h':Heap):Prop where
 keep:∀ b o,h.get? b=some o→H b=none→b∉fs→b∉ex→h'.get? b=some o
 slot:∀ b o,h.get? b=some o→H b=none→b∈fs→b∉ex→∃ sl,h'.get? b=some { o with slots:=sl }
 free:∀ b o,h.get? b=some o→H b=none→b∉ex→H' b=none
 there:∀ b o,h.get? b=some o→b∉ex→∃ o',h'.get? b=some o'
 tups:∀ b xs,H b=some (.tup xs)→H' b=some (.tup xs)
 frzs:∀ b o u,H b=some (.frz o u)→H' b=some (.frz o u)
 tbls:∀ b ps,H b=some (.tbl ps)→∃ more,H' b=some (.tbl (ps++more))
section
variable {fs fs' ex ex':List Addr} {H H1 H2:Hp} {h h1 h2 h':Heap} {a x e:Addr} {o:HO}
theorem Un.any (u:Un fs ex H H1 h h1) {b:Addr} {ob:Obj} (q:h.get? b=some ob) (n:H b=none) (hx:b∉ex):∃ sl,h1.get? b=some { ob with slots:=sl }:=by
 by_cases hb:b∈fs
 ·exact u.slot b ob q n hb hx
 ·exact ⟨ob.slots,u.keep b ob q n hb hx⟩
theorem Un.kept (k:∀ b u,h.get? b=some u→h'.get? b=some u):Un fs ex H H h h' :=
 ⟨fun b ob q _ _ _=>k b ob q,fun b ob q _ _ _=>⟨ob.slots,k b ob q⟩,fun _ _ _ n _=>n,fun b ob q _=>⟨ob,k b ob q⟩,fun _ _ q=>q,fun _ _ _ q=>q,fun _ ps q=>⟨#[],by rw [q];simp⟩⟩
theorem Un.refl:Un fs ex H H h h:=Un.kept fun _ _ q=>q
theorem Un.laid (k:∀ b u,h.get? b=some u→h'.get? b=some u) (hp:h.objs.size≤a) (hn:H a=none):Un fs ex H (upd H a o) h h' where
 keep:=fun b u q _ _ _=>k b u q
 slot:=fun b u q _ _ _=>⟨u.slots,k b u q⟩
 free:=fun b u q n _=>by rw [zal (Nat.ne_of_lt (Nat.lt_of_lt_of_le (Heap.lt_size q) hp))];exact n
 there:=fun b u q _=>⟨u,k b u q⟩
 tups:=fun b xs q=>by rw [zal (zaV q hn)];exact q
 frzs:=fun b u xs q=>by rw [zal (zaV q hn)];exact q
 tbls:=fun b ps q=>⟨#[],by rw [zal (zaV q hn),q];simp⟩
theorem Un.write (mu:Mut (H x)) (he:e=x∨H e=some (.own x)) (k:∀ b u,b≠e→h.get? b=some u→h'.get? b=some u) (heo:∃ u,h'.get? e=some u):Un fs ex H (upd H x o) h h':=by
 have hx:∀ b,H b=none→b≠x:=fun b n z=>by subst z;rw [n] at mu;exact mu
 have hb:∀ b,H b=none→b≠e:=fun b n z=>by
  subst z
  rcases he with r | r
  ·exact hx b n r
  ·rw [n] at r;cases r
 have hm:∀ b u,H b=some u→¬ Mut (some u)→b≠x:=fun b u q nm z=>by subst z;rw [q] at mu;exact nm mu
 refine ⟨fun b u q n _ _=>k b u (hb b n) q,fun b u q n _ _=>⟨u.slots,k b u (hb b n) q⟩,fun b u q n _=>by rw [zal (hx b n)];exact n,fun b u q _=>?_,
  fun b xs q=>by rw [zal (hm b _ q fun z=>z)];exact q,fun b u xs q=>by rw [zal (hm b _ q fun z=>z)];exact q,fun b ps q=>⟨#[],by rw [zal (hm b _ q fun z=>z),q];simp⟩⟩
 by_cases hbe:b=e
 ·subst hbe;exact heo
 ·exact ⟨u,k b u hbe q⟩
end
def trk (h:Heap) (H:Hp):List Addr:=(List.range h.objs.size).filter fun a=>(H a).isSome
def zoJ (h:Heap) (H:Hp):Heap:=PySem.W.hideAll h (trk h H)
theorem zo0 (h:Heap) (H:Hp):(zoJ h H).objs.size=h.objs.size:=PySem.W.hideAll_size _ _
theorem zqX {h:Heap} {H:Hp} {b:Addr} {o:Obj} (e:h.get? b=some o) (n:H b=none):(zoJ h H).get? b=some o :=
 PySem.W.hideAll_get _ e fun hm=>by
  have q:(H b).isSome=true:=(List.mem_filter.mp hm).2
  rw [n] at q;simp at q
theorem zsN {h:Heap} {H:Hp} {b:Addr} {o:Obj} (e:(zoJ h H).get? b=some o):h.get? b=some o∧H b=none:=by
 have e':h.get? b=some o:=PySem.W.of_hideAll (trk h H) e
 refine ⟨e',?_⟩
 cases q:H b with
 | none=>rfl
 | some x =>
  have hm:b∈trk h H:=List.mem_filter.mpr ⟨List.mem_range.mpr (Heap.lt_size e'),by simp [q]⟩
  have z:(zoJ h H).get? b=none:=PySem.W.hideAll_none (trk h H) hm
  rw [z] at e;cases e
def zsl (g h:Heap) (L:Addr):List (Addr×Obj):=(List.range h.objs.size).filterMap fun a=>if a=L∨(g.get? a).isSome=true then none else (h.get? a).map fun o=>(a,o)
def rest (g h:Heap) (L d:Addr):List (Addr×Obj):=(zsl g h L).filter fun p=>decide (p.1≠d)
end L2
namespace L2
open PySem PySem.Spec PyProof.Rows
structure Mod (K:PySem.W.Frag) (mg:Str→Option Value) (base:Heap):Prop where
 kin:K.In base
 glob:base.Ns mainGlobals mg
 blt:∃ mb,base.Ns builtinsNs mb∧∀ x:Str,x≠"__name__"→mb x=bootBuiltins x
 nolimit:base.NoLimit
structure Cx where
 prog:Program
 w:World
 K:PySem.W.Frag
 mg:Str→Option Value
 base:Heap
 A:Around
 N:List Str
 s₀:Shared
 H₀:Hp
 env:Env
 outer:List Env
 stack:List Env
 ex:List Addr
 fn:Str→Bool
 calm:Bool
 pn:List (Addr×Obj)
 xe:Value→Shared→Prop
def frs (l:List Env):List Addr:=l.filterMap (·.frame)
abbrev Cx.fs (X:Cx):List Addr:=frs X.outer
def Vis (sc:Scope) (x:Str):Prop:=sc.names.lookup x=some .local∨sc.names.lookup x=some .cell∨sc.names.lookup x=some .free
def Loc (sc:Scope) (x:Str):Prop:=sc.names.lookup x=some .local∨sc.names.lookup x=some .cell
def Look (env:Env) (h:Heap) (m:Str→Option Value) (x:Str) (u:Value):Prop :=
 (env.kindOf x=some .local∧m x=some u)∨((env.kindOf x=some .cell∨env.kindOf x=some .free)∧∃ c,env.cells.lookup x=some c∧h.IsCell c (some u))
structure Cx.Ok (X:Cx):Prop where
 mod:Mod X.K X.mg X.base
 kind:X.env.scope.kind=.function
 glob:X.env.globals=mainGlobals
 blt:X.env.builtins=builtinsNs
 above:X.s₀.heap.objs.size≤X.env.locals
 inj:∀ x y c,X.env.cells.lookup x=some c→X.env.cells.lookup y=some c→x=y
 has:∀ x,(X.env.kindOf x=some .cell∨X.env.kindOf x=some .free)→∃ c,X.env.cells.lookup x=some c
 cab:∀ x c,X.fn x=true→X.env.cells.lookup x=some c→X.s₀.heap.objs.size≤c
 hd:X.calm=true→X.A.handled=none
 frames:X.A.frames=some X.stack
 stk:X.stack=X.outer∨(X.stack=X.env::X.outer∧X.env.frame=some X.env.locals)
 exf:∀ b∈X.ex,b≠X.env.locals∧∀ x c,X.env.cells.lookup x=some c→c≠b
 bs:∀ b o,X.base.get? b=some o→X.s₀.heap.get? b=some o∧X.H₀ b=none
 bsz:X.base.objs.size≤X.s₀.heap.objs.size
 noex:∀ b o,X.base.get? b=some o→b∉X.ex
 exfs:∀ b∈X.ex,b∉X.fs
 funs:X.s₀.heap.FunFrames X.base X.outer
 frf:∀ b∈X.fs,X.H₀ b=none
structure Inv (X:Cx) (pins:List (Addr×Obj)) (σ:List (Option V)) (H:Hp) (s:Shared):Prop where
 ok:X.Ok
 os:s.os=X.s₀.os
 bare:AllBare s.gens
 base:Un X.fs X.ex X.H₀ H X.s₀.heap s.heap
 loc:∃ m,s.heap.Ns X.env.locals m∧∀ (i:Nat) (x:Str) (v:V),X.N[i]?=some x→σ[i]?=some (some v)→Vis X.env.scope x→∃ u,zbT v u∧Look X.env s.heap m x u
 cell:∀ x c,X.env.cells.lookup x=some c→∃ v,s.heap.IsCell c v
 free:H X.env.locals=none
 freeC:∀ x c,X.env.cells.lookup x=some c→H c=none
 pin:∀ p∈X.pn++pins,s.heap.get? p.1=some p.2∧H p.1=none∧p.1≠X.env.locals∧p.1∉X.fs∧∀ v,p.2.data≠.cell v
 hok:HOk X.prog X.w H s.heap
 len:σ.length=X.N.length
section
variable {X:Cx} {pins:List (Addr×Obj)} {σ:List (Option V)} {H H':Hp} {s:Shared} {h':Heap}
theorem Cx.Ok.nofr (ok:X.Ok) {b:Addr} {o:Obj} (e:X.base.get? b=some o):b∉X.fs:=fun hb=>by
 have:=(ok.funs.mem hb).1
 rw [e] at this;cases this
theorem Inv.bs (I:Inv X pins σ H s):∀ b o,X.base.get? b=some o→s.heap.get? b=some o∧H b=none:=fun b o e =>
 ⟨I.base.keep b o (I.ok.bs b o e).1 (I.ok.bs b o e).2 (I.ok.nofr e) (I.ok.noex b o e),I.base.free b o (I.ok.bs b o e).1 (I.ok.bs b o e).2 (I.ok.noex b o e)⟩
theorem Inv.bk (I:Inv X pins σ H s):∀ b o,X.base.get? b=some o→s.heap.get? b=some o:=fun b o e=>(I.bs b o e).1
theorem Inv.mod (I:Inv X pins σ H s):Mod X.K X.mg X.base:=I.ok.mod
theorem Inv.kIn (I:Inv X pins σ H s):X.K.In s.heap:=I.ok.mod.kin.keeps I.bk
theorem Inv.lt (I:Inv X pins σ H s):X.env.locals<s.heap.objs.size:=let ⟨_,hn,_⟩:=I.loc;hn.lt
theorem Inv.sz (I:Inv X pins σ H s):X.s₀.heap.objs.size≤s.heap.objs.size:=Nat.le_trans I.ok.above (Nat.le_of_lt I.lt)
theorem Inv.nofs (I:Inv X pins σ H s) {a:Addr} (h:s.heap.objs.size≤a):a∉X.fs:=fun hb=>by
 obtain ⟨_,o,ho,_⟩:=I.ok.funs.mem hb
 exact absurd (Nat.lt_of_lt_of_le (Heap.lt_size ho) (Nat.le_trans I.sz h)) (Nat.lt_irrefl _)
theorem Inv.cne (I:Inv X pins σ H s):∀ x c,X.env.cells.lookup x=some c→c≠X.env.locals:=fun x c e z=>by
 obtain ⟨v,o,ho,hd⟩:=I.cell x c e
 obtain ⟨m,⟨o',es,ep,ho',hd',_⟩,_⟩:=I.loc
 rw [z,ho'] at ho;cases ho;rw [hd'] at hd;cases hd
theorem Inv.funs (I:Inv X pins σ H s):s.heap.FunFrames X.base X.outer:=by
 have all:∀ (l:List Env),(∀ b∈frs l,b∈X.fs)→X.s₀.heap.FunFrames X.base l→s.heap.FunFrames X.base l:=by
  intro l
  induction l with
  | nil=>intro _ _;trivial
  | cons env r ih =>
   intro hs hl
   obtain ⟨hk,⟨L,o,hf,hn,ho,hd⟩,hr⟩:=hl
   have hL:L∈X.fs:=hs L (by unfold frs;rw [List.filterMap_cons,hf];exact List.mem_cons_self)
   obtain ⟨sl,e⟩:=I.base.slot L o ho (I.ok.frf L hL) hL fun z=>I.ok.exfs L z hL
   exact ⟨hk,⟨L,_,hf,hn,e,hd⟩,ih (fun b hb=>hs b (by unfold frs;rw [List.filterMap_cons,hf];exact List.mem_cons_of_mem _ hb)) hr⟩
 exact all X.outer (fun _ hb=>hb) I.ok.funs
theorem Inv.stack (I:Inv X pins σ H s):s.heap.FunFrames X.base X.stack:=by
 rcases I.ok.stk with e | ⟨e,hf⟩
 ·rw [e];exact I.funs
 ·rw [e]
  obtain ⟨m,hn,_⟩:=I.loc
  refine .cons (by rw [I.ok.kind];decide) hf hn ?_ I.funs
  exact Heap.get?_none_of_le (Nat.le_trans I.ok.bsz I.ok.above)
theorem Inv.stkSub (I:Inv X pins σ H s):∀ b∈frs X.stack,b∈X.env.locals::X.fs:=fun b hb=>by
 rcases I.ok.stk with e | ⟨e,hf⟩
 ·rw [e] at hb;exact List.mem_cons_of_mem _ hb
 ·rw [e] at hb
  unfold frs at hb
  rw [List.filterMap_cons,hf] at hb
  exact hb
theorem Inv.stkFree (I:Inv X pins σ H s):∀ b∈frs X.stack,H b=none:=fun b hb=>by
 rcases List.mem_cons.mp (I.stkSub b hb) with e | hb
 ·rw [e];exact I.free
 ·obtain ⟨_,o,ho,_⟩:=I.ok.funs.mem hb
  exact I.base.free b o ho (I.ok.frf b hb) fun z=>I.ok.exfs b z hb
theorem Inv.step {g':Array GenState} {t':Nat} {d':Drawn} {ch:List Addr} (I:Inv X pins σ H s)
  (hch:∀ b∈ch,(b∈X.ex∨X.s₀.heap.objs.size≤b)∧b≠X.env.locals∧(∀ x c,X.env.cells.lookup x=some c→c≠b)∧∀ p∈X.pn++pins,p.1≠b)
  (keep:∀ b o,b≠X.env.locals→b∉X.fs→b∉ch→s.heap.get? b=some o→H b=none→h'.get? b=some o)
  (slot:∀ b o,b≠X.env.locals→b∈X.fs→b∉ch→s.heap.get? b=some o→H b=none→∃ sl,h'.get? b=some { o with slots:=sl }) (free:∀ b o,b∉ch→s.heap.get? b=some o→H b=none→H' b=none)
  (there:∀ b o,b∉ch→s.heap.get? b=some o→∃ o',h'.get? b=some o')
  (tups:∀ b xs,H b=some (.tup xs)→H' b=some (.tup xs)) (frzs:∀ b o u,H b=some (.frz o u)→H' b=some (.frz o u)) (tbls:∀ b ps,H b=some (.tbl ps)→∃ more,H' b=some (.tbl (ps++more)))
  (ns:∀ m,s.heap.Ns X.env.locals m→h'.Ns X.env.locals m) (hok:HOk X.prog X.w H' h') (hg:AllBare g') :
  Inv X pins σ H' { s with heap:=h',gens:=g',drawn:=d',toks:=t' }:=by
 have neL:∀ b o,X.s₀.heap.get? b=some o→b≠X.env.locals:=fun b o e=>Nat.ne_of_lt (Nat.lt_of_lt_of_le (Heap.lt_size e) I.ok.above)
 have neC:∀ b o,X.s₀.heap.get? b=some o→b∉X.ex→b∉ch:=fun b o e hx hb=>by
  rcases (hch b hb).1 with z | z
  ·exact hx z
  ·exact absurd (Nat.lt_of_lt_of_le (Heap.lt_size e) z) (Nat.lt_irrefl _)
 have cellK:∀ x c,X.env.cells.lookup x=some c→∀ v,s.heap.IsCell c v→h'.IsCell c v:=fun x c e v ⟨o,ho,hd⟩=>by
  have nch:c∉ch:=fun z=>(hch c z).2.2.1 x c e rfl
  by_cases hc:c∈X.fs
  ·obtain ⟨sl,q⟩:=slot c o (I.cne x c e) hc nch ho (I.freeC x c e)
   exact ⟨_,q,hd⟩
  ·exact ⟨o,keep c o (I.cne x c e) hc nch ho (I.freeC x c e),hd⟩
 refine ⟨I.ok,I.os,hg,⟨fun b o e n hb hx=>?_,fun b o e n hb hx=>?_,fun b o e n hx=>?_,fun b o e hx=>?_,fun b xs e=>tups b xs (I.base.tups b xs e),fun b o xs e=>frzs b o xs (I.base.frzs b o xs e),fun b ps e=>?_⟩,?_,fun x c e=>?_,?_,fun x c e=>?_,fun p hp=>?_,hok,I.len⟩
 ·exact keep b o (neL b o e) hb (neC b o e hx) (I.base.keep b o e n hb hx) (I.base.free b o e n hx)
 ·obtain ⟨sl,e1⟩:=I.base.slot b o e n hb hx
  obtain ⟨sl',e2⟩:=slot b _ (neL b o e) hb (neC b o e hx) e1 (I.base.free b o e n hx)
  exact ⟨sl',e2⟩
 ·obtain ⟨o',e1⟩:=I.base.there b o e hx
  exact free b o' (neC b o e hx) e1 (I.base.free b o e n hx)
 ·obtain ⟨o',e1⟩:=I.base.there b o e hx
  exact there b o' (neC b o e hx) e1
 ·obtain ⟨m1,e1⟩:=I.base.tbls b ps e
  obtain ⟨m2,e2⟩:=tbls b _ e1
  exact ⟨m1++m2,by rw [e2,Array.append_assoc]⟩
 ·obtain ⟨m,hn,hl⟩:=I.loc
  refine ⟨m,ns m hn,fun i x v e1 e2 e3=>?_⟩
  obtain ⟨u,r,l⟩:=hl i x v e1 e2 e3
  refine ⟨u,r,?_⟩
  rcases l with l | ⟨k,c,e,z⟩
  ·exact .inl l
  ·exact .inr ⟨k,c,e,cellK x c e _ z⟩
 ·obtain ⟨v,z⟩:=I.cell x c e
  exact ⟨v,cellK x c e v z⟩
 ·obtain ⟨m,⟨o,_,_,ho,_⟩,_⟩:=I.loc
  exact free _ o (fun z=>(hch _ z).2.1 rfl) ho I.free
 ·obtain ⟨v,o,ho,hd⟩:=I.cell x c e
  exact free c o (fun z=>(hch c z).2.2.1 x c e rfl) ho (I.freeC x c e)
 ·obtain ⟨e,n,ne,nf,d⟩:=I.pin p hp
  have nch:p.1∉ch:=fun z=>(hch p.1 z).2.2.2 p hp rfl
  exact ⟨keep p.1 p.2 ne nf nch e n,free p.1 p.2 nch e n,ne,nf,d⟩
theorem Inv.un {t':Nat} (I:Inv X pins σ H s) (u:Un X.fs [] H H' s.heap h') (hok:HOk X.prog X.w H' h'):Inv X pins σ H' { s with heap:=h',toks:=t' }:=by
 obtain ⟨m,⟨o,es,ep,ho,r⟩,_⟩:=id I.loc
 obtain ⟨sl,hL⟩:=u.any ho I.free (by simp)
 exact I.step (g':=s.gens) (d':=s.drawn) (ch:=[]) (fun _ z=>nomatch z) (fun b o _ hb _ e n=>u.keep b o e n hb (by simp)) (fun b o _ hb _ e n=>u.slot b o e n hb (by simp)) (fun b o _ e n=>u.free b o e n (by simp)) (fun b o _ e=>u.there b o e (by simp)) u.tups u.frzs u.tbls (fun m' hm=>by
  obtain ⟨o',es',ep',ho',r'⟩:=hm
  rw [ho] at ho';cases ho'
  exact ⟨_,es',ep',hL,r'⟩) hok I.bare
theorem Inv.call {g':Array GenState} {t':Nat} {d':Drawn} {ch:List Addr} (I:Inv X pins σ H s) (u:Un (frs X.stack) ch H H' s.heap h') (hok:HOk X.prog X.w H' h') (hg:AllBare g')
  (hch:∀ b∈ch,(b∈X.ex∨X.s₀.heap.objs.size≤b)∧b≠X.env.locals∧(∀ x c,X.env.cells.lookup x=some c→c≠b)∧∀ p∈X.pn++pins,p.1≠b) :
  Inv X pins σ H' { s with heap:=h',gens:=g',drawn:=d',toks:=t' }:=by
 obtain ⟨m,⟨o,es,ep,ho,r⟩,_⟩:=id I.loc
 obtain ⟨sl,hL⟩:=u.any ho I.free fun z=>(hch _ z).2.1 rfl
 exact I.step (ch:=ch) hch (fun b o hL hb hc e n=>u.keep b o e n (fun z=>(List.mem_cons.mp (I.stkSub b z)).elim hL hb) hc) (fun b o _ _ hc e n=>u.any e n hc) (fun b o hc e n=>u.free b o e n hc) (fun b o hc e=>u.there b o e hc) u.tups u.frzs u.tbls (fun m' hm=>by
  obtain ⟨o',es',ep',ho',r'⟩:=hm
  rw [ho] at ho';cases ho'
  exact ⟨_,es',ep',hL,r'⟩) hok hg
theorem Inv.turned {t':Nat} {it:Addr} (I:Inv X pins σ H s) (k:∀ b o,b≠it→s.heap.get? b=some o→h'.get? b=some o) (hn:H it=none) (hL:it≠X.env.locals)
  (h1:it∈X.ex∨X.s₀.heap.objs.size≤it) (h2:∀ x c,X.env.cells.lookup x=some c→c≠it) (h3:∀ p∈X.pn++pins,p.1≠it):Inv X pins σ H { s with heap:=h',toks:=t' }:=by
 have nit:∀ b u,H b=some u→b≠it:=fun b u e z=>by rw [z,hn] at e;cases e
 refine I.step (g':=s.gens) (d':=s.drawn) (ch:=[it]) (fun b hb=>?_) (fun b o _ _ hc e _=>k b o (fun z=>hc (by simp [z])) e) (fun b o _ _ hc e _=>⟨o.slots,k b o (fun z=>hc (by simp [z])) e⟩) (fun _ _ _ _ n=>n)
  (fun b o hc e=>⟨o,k b o (fun z=>hc (by simp [z])) e⟩) (fun _ _ e=>e) (fun _ _ _ e=>e) (fun b ps e=>⟨#[],by rw [e];simp⟩) (fun m hm=>?_) (fun b u e=>?_) I.bare
 ·have e:b=it:=by simpa using hb
  subst e
  exact ⟨h1,hL,h2,h3⟩
 ·obtain ⟨o,es,ep,ho,r⟩:=hm
  exact ⟨o,es,ep,k _ o (Ne.symm hL) ho,r⟩
 ·refine (I.hok b u e).stay (fun c v hc q=>k c v ?_ q) (fun _ q=>q) fun _ _ q=>q
  rcases hc with z | z
  ·rw [z];exact nit b u e
  ·exact nit c _ z
theorem Inv.tok (I:Inv X pins σ H s) (t:Nat):Inv X pins σ H { s with toks:=t }:=I.un (h':=s.heap) (t':=t) Un.refl I.hok
theorem Inv.kept {t':Nat} (I:Inv X pins σ H s) (k:∀ b u,s.heap.get? b=some u→h'.get? b=some u):Inv X pins σ H { s with heap:=h',toks:=t' }:=I.un (Un.kept k) (I.hok.kept k)
theorem Inv.laid {a:Addr} {o:HO} {t':Nat} (I:Inv X pins σ H s) (k:∀ b u,s.heap.get? b=some u→h'.get? b=some u) (hp:s.heap.objs.size≤a) (new:zca X.prog X.w (upd H a o) h' a o) :
  Inv X pins σ (upd H a o) { s with heap:=h',toks:=t' }:=I.un (Un.laid k hp (I.hok.fresh hp)) (I.hok.laid k hp new)
theorem Inv.write {x e:Addr} {o:HO} {t':Nat} (I:Inv X pins σ H s) (mu:Mut (H x)) (he:e=x∨H e=some (.own x)) (k:∀ b u,b≠e→s.heap.get? b=some u→h'.get? b=some u) (heo:∃ u,h'.get? e=some u)
  (new:zca X.prog X.w (upd H x o) h' x o):Inv X pins σ (upd H x o) { s with heap:=h',toks:=t' }:=I.un (Un.write mu he k heo) (I.hok.write mu he k heo new)
theorem Inv.pins_of {pins':List (Addr×Obj)} (I:Inv X pins σ H s) (h:∀ p∈pins',s.heap.get? p.1=some p.2∧H p.1=none∧p.1≠X.env.locals∧p.1∉X.fs∧∀ v,p.2.data≠.cell v):Inv X pins' σ H s :=
 ⟨I.ok,I.os,I.bare,I.base,I.loc,I.cell,I.free,I.freeC,fun p hp=>(List.mem_append.mp hp).elim (fun z=>I.pin p (List.mem_append_left _ z)) (h p),I.hok,I.len⟩
theorem zjz {N:List Str} (hN:N.Nodup) {i j:Nat} {x:Str} (a:N[i]?=some x) (b:N[j]?=some x):i=j:=by
 obtain ⟨h1,e1⟩:=List.getElem?_eq_some_iff.mp a
 obtain ⟨h2,e2⟩:=List.getElem?_eq_some_iff.mp b
 exact (List.getElem_inj hN).mp (e1.trans e2.symm)
theorem zic {M:Model} {A:Around} {E:Value→Shared→Prop} {i:Nat} {x:Str} {v:V} {u:Value} {Q:Unit→Shared→Prop} (I:Inv X pins σ H s) (hN:X.N.Nodup) (hi:X.N[i]?=some x) (hx:Loc X.env.scope x) (r:zbT v u)
  (h:∀ s',Inv X pins (σ.set i (some v)) H s'→(∃ a,Heap.SameBut a s.heap s'.heap∧(a=X.env.locals∨X.env.cells.lookup x=some a))→Q () s') (hf:X.fn x=true∨X.env.scope.names.lookup x=some .local:=by first | exact .inl rfl | exact .inr rfl | assumption):wpAny M A (storeName X.env x u) Q E s:=by
 obtain ⟨m,hn,hl⟩:=id I.loc
 have hcls:(X.env.scope.kind == .class || (X.env.scope.kind == .module&&X.env.locals != X.env.globals))=false:=by rw [I.ok.kind];rfl
 have hiσ:i<σ.length:=by rw [I.len];exact (List.getElem?_eq_some_iff.mp hi).1
 have cne:=I.cne
 have tracked:∀ {a:Addr} {h':Heap},(∃ o,s.heap.get? a=some o∧H a=none)→Heap.SameBut a s.heap h'→HOk X.prog X.w H h':=fun {a h'} ha hs b ob e=>by
  obtain ⟨_,_,hfree⟩:=ha
  refine (I.hok b ob e).stay (fun c w' hc q=>(hs.2 c ?_).trans q) (fun _ q=>q) fun _ _ q=>q
  rintro rfl
  rcases hc with rfl | hc
  ·rw [hfree] at e;cases e
  ·rw [hfree] at hc;cases hc
 rcases hx with hk | hk
 ·refine wpAny_storeName_local hk hn (fun h' hn' hs=>?_) hcls
  obtain ⟨oL,_,_,hoL,_⟩:=id hn
  refine h _ ⟨I.ok,I.os,I.bare,⟨fun b o e n hb hx=>?_,fun b o e n hb hx=>?_,I.base.free,fun b o e hx=>?_,I.base.tups,I.base.frzs,I.base.tbls⟩,⟨_,hn',fun j y v' e1 e2 e3=>?_⟩,fun y c e=>?_,I.free,I.freeC,fun p hp=>?_,tracked ⟨oL,hoL,I.free⟩ hs,by simpa using I.len⟩ ⟨_,hs,.inl rfl⟩
  ·exact (hs.2 b (Nat.ne_of_lt (Nat.lt_of_lt_of_le (Heap.lt_size e) I.ok.above))).trans (I.base.keep b o e n hb hx)
  ·obtain ⟨sl,e1⟩:=I.base.slot b o e n hb hx
   exact ⟨sl,(hs.2 b (Nat.ne_of_lt (Nat.lt_of_lt_of_le (Heap.lt_size e) I.ok.above))).trans e1⟩
  ·obtain ⟨o',e1⟩:=I.base.there b o e hx
   exact ⟨o',(hs.2 b (Nat.ne_of_lt (Nat.lt_of_lt_of_le (Heap.lt_size e) I.ok.above))).trans e1⟩
  ·by_cases hj:j=i
   ·subst hj
    rw [hi] at e1;cases e1
    rw [List.getElem?_set_self hiσ] at e2
    cases e2
    exact ⟨u,r,.inl ⟨hk,by simp⟩⟩
   ·rw [List.getElem?_set_ne (Ne.symm hj)] at e2
    obtain ⟨u',r',q⟩:=hl j y v' e1 e2 e3
    refine ⟨u',r',?_⟩
    rcases q with ⟨k,e⟩ | ⟨k,c,e,z⟩
    ·refine .inl ⟨k,?_⟩
     have:y≠x:=fun e=>hj (zjz hN e1 (e ▸ hi))
     simp [this,e]
    ·exact .inr ⟨k,c,e,z.sameBut hs (cne y c e)⟩
  ·obtain ⟨w',z⟩:=I.cell y c e
   exact ⟨w',z.sameBut hs (cne y c e)⟩
  ·obtain ⟨e,n,ne,nf,d⟩:=I.pin p hp
   exact ⟨(hs.2 p.1 ne).trans e,n,ne,nf,d⟩
 ·have hfn:X.fn x=true:=by
   rcases hf with z | z
   ·exact z
   ·rw [z] at hk;cases hk
  obtain ⟨c,hc⟩:=I.ok.has x (.inl hk)
  obtain ⟨w',z⟩:=I.cell x c hc
  refine wpAny_storeName_cell I.ok.kind hk hc z (fun h' hc' hs=>?_)
  obtain ⟨oc,hoc,hocd⟩:=id z
  refine h { s with heap:=h' } ⟨I.ok,I.os,I.bare,⟨fun b o e n hb hx=>?_,fun b o e n hb hx=>?_,I.base.free,fun b o e hx=>?_,I.base.tups,I.base.frzs,I.base.tbls⟩,⟨m,hn.sameBut hs (Ne.symm (cne x c hc)),fun j y v' e1 e2 e3=>?_⟩,fun y c' e=>?_,I.free,I.freeC,fun p hp=>?_,tracked ⟨oc,hoc,I.freeC x c hc⟩ hs,by simpa using I.len⟩ ⟨c,hs,.inr hc⟩
  ·exact (hs.2 b (Nat.ne_of_lt (Nat.lt_of_lt_of_le (Heap.lt_size e) (I.ok.cab x c hfn hc)))).trans (I.base.keep b o e n hb hx)
  ·obtain ⟨sl,e1⟩:=I.base.slot b o e n hb hx
   exact ⟨sl,(hs.2 b (Nat.ne_of_lt (Nat.lt_of_lt_of_le (Heap.lt_size e) (I.ok.cab x c hfn hc)))).trans e1⟩
  ·obtain ⟨o',e1⟩:=I.base.there b o e hx
   exact ⟨o',(hs.2 b (Nat.ne_of_lt (Nat.lt_of_lt_of_le (Heap.lt_size e) (I.ok.cab x c hfn hc)))).trans e1⟩
  ·by_cases hj:j=i
   ·subst hj
    rw [hi] at e1;cases e1
    rw [List.getElem?_set_self hiσ] at e2
    cases e2
    exact ⟨u,r,.inr ⟨.inl hk,c,hc,hc'⟩⟩
   ·rw [List.getElem?_set_ne (Ne.symm hj)] at e2
    obtain ⟨u',r',q⟩:=hl j y v' e1 e2 e3
    refine ⟨u',r',?_⟩
    rcases q with q | ⟨k,c',e,z'⟩
    ·exact .inl q
    ·refine .inr ⟨k,c',e,z'.sameBut hs ?_⟩
     rintro rfl
     exact hj (zjz hN e1 (I.ok.inj _ _ _ e hc ▸ hi))
  ·by_cases hcc:c'=c
   ·subst hcc;exact ⟨_,hc'⟩
   ·obtain ⟨w2,z2⟩:=I.cell y c' e
    exact ⟨w2,z2.sameBut hs hcc⟩
  ·obtain ⟨e,n,ne,nf,d⟩:=I.pin p hp
   refine ⟨(hs.2 p.1 ?_).trans e,n,ne,nf,d⟩
   intro q
   rw [q,hoc] at e
   have q':oc=p.2:=Option.some.inj e
   exact d w' (by rw [← q'];exact hocd)
theorem zkp {M:Model} {A:Around} {E:Value→Shared→Prop} {i:Nat} {x:Str} {v:V} {u:Value} {Q:Unit→Shared→Prop} (I:Inv X pins σ H s) (hN:X.N.Nodup) (hi:X.N[i]?=some x) (hx:Loc X.env.scope x) (r:zbT v u)
  (h:∀ s',Inv X pins (σ.set i (some v)) H s'→Q () s') (hf:X.fn x=true∨X.env.scope.names.lookup x=some .local:=by first | exact .inl rfl | exact .inr rfl | assumption):wpAny M A (storeName X.env x u) Q E s :=
 zic I hN hi hx r (fun s' I' _=>h s' I') hf
theorem Inv.call' {s':Shared} {ch:List Addr} (I:Inv X pins σ H s) (ho:s'.os=s.os) (u:Un (frs X.stack) ch H H' s.heap s'.heap) (hok:HOk X.prog X.w H' s'.heap) (hg:AllBare s'.gens)
  (hch:∀ b∈ch,(b∈X.ex∨X.s₀.heap.objs.size≤b)∧b≠X.env.locals∧(∀ x c,X.env.cells.lookup x=some c→c≠b)∧∀ p∈X.pn++pins,p.1≠b):Inv X pins σ H' s':=by
 obtain ⟨h',g',d',t',o'⟩:=s'
 have e:o'=s.os:=ho
 subst e
 exact I.call (g':=g') (t':=t') (d':=d') u hok hg hch
end
abbrev XK:=Value→Option Addr→Hp→Prop
abbrev St:=List (Option V)
abbrev VK:=V→Hp→Prop
abbrev TE:=St→Hp→VK→Prop
abbrev TT:=St→Hp→(Bool→Hp→Prop)→Prop
abbrev TA:=St→Hp→(List V→Hp→Prop)→Prop
structure zbO where
 nx:St→Hp→Prop
 rt:VK
 bk:St→Hp→Prop:=fun _ _=>False
 ct:St→Hp→Prop:=fun _ _=>False
abbrev TS:=zbO→St→Hp→Prop
def EP (X:Cx) (pins:List (Addr×Obj)) (σ:St) (Q:VK) (u:Value) (s':Shared):Prop:=∃ v H',Inv X pins σ H' s'∧zbT v u∧Q v H'
def TP (X:Cx) (pins:List (Addr×Obj)) (σ:St) (Q:Bool→Hp→Prop) (b:Bool) (s':Shared):Prop:=∃ H',Inv X pins σ H' s'∧Q b H'
def AP (X:Cx) (pins:List (Addr×Obj)) (σ:St) (Q:List V→Hp→Prop) (us:List Value) (s':Shared):Prop:=∃ vs H',Inv X pins σ H' s'∧zbs vs us∧Q vs H'
def SP (X:Cx) (pins:List (Addr×Obj)) (D:zbO) (f:Flow) (s':Shared):Prop :=
 match f with
 | .next=>∃ σ' H',Inv X pins σ' H' s'∧D.nx σ' H'
 | .brk=>∃ σ' H',Inv X pins σ' H' s'∧D.bk σ' H'
 | .cont=>∃ σ' H',Inv X pins σ' H' s'∧D.ct σ' H'
 | .ret u=>∃ v σ' H',Inv X pins σ' H' s'∧zbT v u∧D.rt v H'
def PE (X:Cx) (e:Expr) (t:TE):Prop :=
 ∀ (pins:List (Addr×Obj)) (s:Shared) (σ:St) (H:Hp) (Q:VK),Inv X pins σ H s→t σ H Q→wpAny (model X.prog X.w) X.A (eval e X.env) (EP X pins σ Q) X.xe s
def PT (X:Cx) (e:Expr) (t:TT):Prop :=
 ∀ (pins:List (Addr×Obj)) (s:Shared) (σ:St) (H:Hp) (Q:Bool→Hp→Prop),Inv X pins σ H s→t σ H Q→wpAny (model X.prog X.w) X.A (isTrue e X.env (eval e X.env)) (TP X pins σ Q) X.xe s
def PW (X:Cx) (e:Expr) (t:TT):Prop :=
 ∀ (whole:Sem Value) (pins:List (Addr×Obj)) (s:Shared) (σ:St) (H:Hp) (Q:Bool→Hp→Prop),Inv X pins σ H s→t σ H Q→wpAny (model X.prog X.w) X.A (isTrue e X.env whole) (TP X pins σ Q) X.xe s
theorem PW.pt {X:Cx} {e:Expr} {t:TT} (h:PW X e t):PT X e t:=h _
def PA (X:Cx) (es:List Expr) (t:TA):Prop :=
 ∀ (pos:Pos) (pins:List (Addr×Obj)) (s:Shared) (σ:St) (H:Hp) (Q:List V→Hp→Prop),Inv X pins σ H s→t σ H Q→wpAny (model X.prog X.w) X.A (spliced (backTo pos (starEach es X.env))) (AP X pins σ Q) X.xe s
def PS (X:Cx) (st:Stmt) (t:TS):Prop :=
 ∀ (pins:List (Addr×Obj)) (s:Shared) (σ:St) (H:Hp) (D:zbO),Inv X pins σ H s→t D σ H→wpAny (model X.prog X.w) X.A (exec st X.env) (SP X pins D) X.xe s
def PSs (X:Cx) (st:List Stmt) (t:TS):Prop :=
 ∀ (pins:List (Addr×Obj)) (s:Shared) (σ:St) (H:Hp) (D:zbO),Inv X pins σ H s→t D σ H→wpAny (model X.prog X.w) X.A (execs st X.env) (SP X pins D) X.xe s
theorem thn {α:Type} {t:Sem α} {Q Q':α→Shared→Prop} {M:Model} {A:Around} {E:Value→Shared→Prop} {s:Shared} (h:wpAny M A t Q E s) (hQ:∀ a s,Q a s→Q' a s):wpAny M A t Q' E s:=wpAny_mono h hQ fun _ _ x=>x
end L2
namespace L2
open PySem PySem.Spec PyProof.Rows
section
variable {X:Cx}
def zad (i:Nat):TE:=fun σ H Q=>∃ v,σ[i]?=some (some v)∧Q v H
def tC (v:V):TE:=fun _ H Q=>Q v H
theorem zum {i:Nat} {x:Str} {pos:Pos} (hN:X.N[i]?=some x) (hv:Vis X.env.scope x) (hd:(x == ("__debug__":Str))=false:=by decide) (hcd:(x == ("__classdict__":Str))=false:=by decide):PE X (.Name x pos) (zad i):=by
 intro pins s σ H Q I h
 obtain ⟨v,e,h⟩:=h
 obtain ⟨m,hn,hl⟩:=I.loc
 obtain ⟨u,r,l⟩:=hl i x v hN e hv
 have fin:EP X pins σ Q u s:=⟨v,H,I,r,h⟩
 rcases l with ⟨hk,hm⟩ | ⟨hk,c,hc,hcell⟩
 ·exact wpAny_Name (wpAny_loadName_local I.ok.kind hk hn hm fin) hd
 ·rcases hk with hk | hk
  ·exact wpAny_Name (wpAny_loadName_cell I.ok.kind hk hc hcell fin) hd
  ·exact wpAny_Name (wpAny_loadName_free I.ok.kind hk hc hcell fin hcd) hd
theorem zai {i j pos}:PE X (.Constant (.int i) j pos) (tC (.int i)):=fun _ _ _ H _ I h=>wpAny_Constant_int ⟨.int i,H,I.tok _,⟨_,rfl⟩,h⟩
theorem zft {b j pos}:PE X (.Constant (.bool b) j pos) (tC (.bl b)):=fun _ _ _ H _ I h=>Constant_bool ⟨.bl b,H,I,rfl,h⟩
theorem zd2 {j pos}:PE X (.Constant .none j pos) (tC .non):=fun _ _ _ H _ I h=>Constant_none ⟨.non,H,I,rfl,h⟩
theorem zgM {x j pos}:PE X (.Constant (.str x) j pos) (tC (.str x)):=fun _ _ _ H _ I h=>Calls.Constant_str ⟨.str x,H,I.tok _,⟨_,rfl⟩,h⟩
def Gl (X:Cx) (x:Str):Prop:=X.env.kindOf x=some .globalImplicit
theorem zgF {E:Value→Shared→Prop} {pins:List (Addr×Obj)} {s:Shared} {σ:St} {H:Hp} {x:Str} {u:Value} {pos:Pos} {Q:Value→Shared→Prop} (I:Inv X pins σ H s) (hg:Gl X x) (hm:X.mg x=some u) (h:Q u s)
  (hd:(x == ("__debug__":Str))=false:=by decide):wpAny (model X.prog X.w) X.A (eval (.Name x pos) X.env) Q E s :=
 Calls.Name_function_global I.ok.kind hg (Calls.loadGlobal_global (by rw [I.ok.glob];exact I.mod.glob.keeps I.bk) hm h) hd
theorem zhG {E:Value→Shared→Prop} {pins:List (Addr×Obj)} {s:Shared} {σ:St} {H:Hp} {x:Str} {u:Value} {pos:Pos} {Q:Value→Shared→Prop} (I:Inv X pins σ H s) (hg:Gl X x) (hm:X.mg x=none) (hv:bootBuiltins x=some u) (h:Q u s)
  (hn:x≠"__name__":=by decide) (hd:(x == ("__debug__":Str))=false:=by decide):wpAny (model X.prog X.w) X.A (eval (.Name x pos) X.env) Q E s:=by
 obtain ⟨mb,h1,h2⟩:=I.mod.blt
 exact Calls.Name_function_global I.ok.kind hg (Calls.loadGlobal_builtin (by rw [I.ok.glob];exact I.mod.glob.keeps I.bk) hm (by rw [I.ok.blt];exact h1.keeps I.bk) ((h2 x hn).trans hv) h) hd
theorem zbr {x:Str} {v:V} {u:Value} {pos:Pos} (hg:Gl X x) (hm:X.mg x=some u) (r:zbT v u) (hd:(x == ("__debug__":Str))=false:=by decide):PE X (.Name x pos) (tC v) :=
 fun _ _ _ H _ I h=>zgF I hg hm ⟨v,H,I,r,h⟩ hd
theorem zdI {x:Str} {v:V} {u:Value} {pos:Pos} (hg:Gl X x) (hm:X.mg x=none) (hv:bootBuiltins x=some u) (r:zbT v u) (hn:x≠"__name__":=by decide) (hd:(x == ("__debug__":Str))=false:=by decide):PE X (.Name x pos) (tC v) :=
 fun _ _ _ H _ I h=>zhG I hg hm hv ⟨v,H,I,r,h⟩ hn hd
variable {a b:Expr} {ta tb:TE} {pos:Pos}
def tB (t:TE):TT:=fun σ H Q=>t σ H fun x H1=>∃ c,x=.bl c∧Q c H1
theorem zc5 {e:Expr} {t:TE} (h:PE X e t) (he:∀ whole,isTrue e X.env whole=(do let v ← whole;standAt e.pos;holding [v] (truthy v)):=by intro _;rfl):PT X e (tB t):=by
 intro pins s σ H Q I hw
 refine isTrue_plain (thn (h pins s σ H _ I hw) fun v s1 hQ'=>?_) (he _)
 obtain ⟨x,H1,I1,r1,q1⟩:=hQ'
 obtain ⟨d,rfl,q⟩:=q1
 cases r1
 exact wpAny_truthy_bool ⟨H1,I1,q⟩
variable {tA tB':TT} {rest:List Expr}
def tAnd (t u:TT):TT:=fun σ H Q=>t σ H fun c H1=>if c=true then u σ H1 Q else Q false H1
def tOr (t u:TT):TT:=fun σ H Q=>t σ H fun c H1=>if c=true then Q true H1 else u σ H1 Q
def ziw (t:TT):TT:=fun σ H Q=>t σ H fun c H1=>Q (!c) H1
theorem zse (ha:PT X a tA):PW X (.BoolOp .And [a] pos) tA:=by
 intro wh pins s σ H Q I h
 refine isTrue_and (thn (ha pins s σ H Q I h) fun c s1 e=>?_)
 cases c with
 | true=>exact isTrue_and_nil e
 | false=>exact e
theorem zk4 (ha:PT X a tA):PW X (.BoolOp .Or [a] pos) tA:=by
 intro wh pins s σ H Q I h
 refine isTrue_or (thn (ha pins s σ H Q I h) fun c s1 e=>?_)
 cases c with
 | false=>exact isTrue_or_nil e
 | true=>exact e
theorem ztG (ha:PT X a tA) (hb:PW X (.BoolOp .And (b::rest) pos) tB'):PW X (.BoolOp .And (a::b::rest) pos) (tAnd tA tB'):=by
 intro wh pins s σ H Q I h
 refine isTrue_and (thn (ha pins s σ H _ I h) fun c s1 hQ'=>?_)
 obtain ⟨H1,I1,q1⟩:=hQ'
 cases c with
 | true=>exact hb wh pins s1 σ H1 Q I1 q1
 | false=>exact ⟨H1,I1,q1⟩
theorem zkN (ha:PT X a tA) (hb:PW X (.BoolOp .Or (b::rest) pos) tB'):PW X (.BoolOp .Or (a::b::rest) pos) (tOr tA tB'):=by
 intro wh pins s σ H Q I h
 refine isTrue_or (thn (ha pins s σ H _ I h) fun c s1 hQ'=>?_)
 obtain ⟨H1,I1,q1⟩:=hQ'
 cases c with
 | true=>exact ⟨H1,I1,q1⟩
 | false=>exact hb wh pins s1 σ H1 Q I1 q1
theorem zet (ha:PT X a tA):PT X (.UnaryOp .Not a pos) (ziw tA):=by
 intro pins s σ H Q I h
 exact isTrue_not (ha pins s σ H (fun c H1=>Q (!c) H1) I h)
def ziU (ta tb:TE):TE:=fun σ H Q=>ta σ H fun x H1=>∃ c,x=.bl c∧if c=true then tb σ H1 Q else Q (.bl false) H1
def tOrV (ta tb:TE):TE:=fun σ H Q=>ta σ H fun x H1=>∃ c,x=.bl c∧if c=true then Q (.bl true) H1 else tb σ H1 Q
def zs2 (ta:TE):TE:=fun σ H Q=>ta σ H fun x H1=>∃ c,x=.bl c∧Q (.bl (!c)) H1
theorem zja {op} {t:TE} (h:PE X a t):PE X (.BoolOp op [a] pos) t:=fun pins s σ H Q I hw=>BoolOp_one (h pins s σ H Q I hw)
theorem zje (ha:PE X a ta) (hb:PE X (.BoolOp .And (b::rest) pos) tb):PE X (.BoolOp .And (a::b::rest) pos) (ziU ta tb):=by
 intro pins s σ H Q I h
 refine BoolOp_and (thn (ha pins s σ H _ I h) fun v s1 hQ'=>?_)
 obtain ⟨x,H1,I1,r1,q1⟩:=hQ'
 obtain ⟨c,rfl,q1⟩:=q1
 cases r1
 refine wpAny_truthy_bool ?_
 cases c with
 | true=>exact hb pins s1 σ H1 Q I1 q1
 | false=>exact ⟨.bl false,H1,I1,rfl,q1⟩
theorem pe_or (ha:PE X a ta) (hb:PE X (.BoolOp .Or (b::rest) pos) tb):PE X (.BoolOp .Or (a::b::rest) pos) (tOrV ta tb):=by
 intro pins s σ H Q I h
 refine BoolOp_or (thn (ha pins s σ H _ I h) fun v s1 hQ'=>?_)
 obtain ⟨x,H1,I1,r1,q1⟩:=hQ'
 obtain ⟨c,rfl,q1⟩:=q1
 cases r1
 refine wpAny_truthy_bool ?_
 cases c with
 | false=>exact hb pins s1 σ H1 Q I1 q1
 | true=>exact ⟨.bl true,H1,I1,rfl,q1⟩
theorem ztT (ha:PE X a ta):PE X (.UnaryOp .Not a pos) (zs2 ta):=by
 intro pins s σ H Q I h
 refine UnaryOp_ (thn (ha pins s σ H _ I h) fun v s1 hQ'=>?_)
 obtain ⟨x,H1,I1,r1,q1⟩:=hQ'
 obtain ⟨c,rfl,q1⟩:=q1
 cases r1
 exact not_of (wpAny_truthy_bool ⟨.bl (!c),H1,I1,rfl,q1⟩)
end
end L2
namespace L2
open PySem PySem.Spec PyProof.Rows
def SqL (K:PySem.W.Frag) (H:Hp) (a:Addr) (xs:List V):Prop :=
 Rd H a (.lst xs) ∨
  ∃ (o:Obj) (its:Array Value) (n:Nat),K.lookup a=some o∧o.cls=.type "list"∧o.dict=none∧o.data=.seq its n∧its.size≤sizeLine∧zbs xs its.toList
def SqT (K:PySem.W.Frag) (H:Hp) (a:Addr) (xs:List V):Prop :=
 Rd H a (.tup xs) ∨
  ∃ (o:Obj) (its:Array Value) (n:Nat),K.lookup a=some o∧o.cls=.type "tuple"∧o.data=.seq its n∧its.size≤sizeLine∧zbs xs its.toList
def absV:Value→Option V
 | .none=>some .non
 | .bool b=>some (.bl b)
 | .int i _=>some (.int i)
 | .str x _=>some (.str x)
 | .bytes b _=>some (.byt b)
 | .float b _=>some (.flt b)
 | .ref a=>some (.ref a)
 | .type n=>some (.ty n)
 | _=>none
theorem zbT.abs {x:V} {u:Value} (r:zbT x u):absV u=some x:=by
 cases x with
 | non=>cases r;rfl
 | bl _=>cases r;rfl
 | int _=>obtain ⟨t,rfl⟩:=r;rfl
 | str _=>obtain ⟨t,rfl⟩:=r;rfl
 | byt _=>obtain ⟨t,rfl⟩:=r;rfl
 | flt _=>obtain ⟨t,rfl⟩:=r;rfl
 | ref _=>cases r;rfl
 | ty _=>cases r;rfl
theorem zbT.inj {x y:V} {u:Value} (r:zbT x u) (q:zbT y u):x=y:=Option.some.inj (r.abs.symm.trans q.abs)
theorem zbs.inj:∀ {xs ys:List V} {us:List Value},zbs xs us→zbs ys us→xs=ys
 | _,_,_,.nil,.nil=>rfl
 | _,_,_,.cons r t,.cons r' t'=>by rw [r.inj r',zbs.inj t t']
section
variable {X:Cx} {pins:List (Addr×Obj)} {σ:St} {H:Hp} {s:Shared} {a:Addr} {xs ys:List V}
theorem SqL.of {K:PySem.W.Frag} (h:H a=some (.lst xs)):SqL K H a xs:=.inl (.inl h)
theorem SqT.of {K:PySem.W.Frag} (h:H a=some (.tup xs)):SqT K H a xs:=.inl (.inl h)
theorem Inv.list (I:Inv X pins σ H s) (h:SqL X.K H a xs):∃ its:List Value,zbs xs its∧PlainL s.heap a its.toArray∧xs.length≤sizeLine:=by
 rcases h with h | ⟨o,its,n,hk,hc,hd,hs,hz,r⟩
 ·obtain ⟨z,its,n,r,e⟩:=h.ok I.hok
  exact ⟨its,r,⟨_,n,e,rfl,rfl,rfl⟩,z⟩
 ·refine ⟨its.toList,r,⟨o,n,I.kIn a o hk,hc,hd,by simpa using hs⟩,?_⟩
  have e:=r.length
  simp only [Array.length_toList] at e
  (first|lia|omega)
theorem Inv.tuple (I:Inv X pins σ H s) (h:SqT X.K H a xs):∃ its:List Value,zbs xs its∧IsTup s.heap a its.toArray∧xs.length≤sizeLine:=by
 rcases h with h | ⟨o,its,n,hk,hc,hs,hz,r⟩
 ·obtain ⟨z,its,r,p⟩:=h.ok I.hok
  exact ⟨its,r,p,z⟩
 ·refine ⟨its.toList,r,⟨o,I.kIn a o hk,hc,n,by simpa using hs⟩,?_⟩
  have e:=r.length
  simp only [Array.length_toList] at e
  (first|lia|omega)
theorem Inv.list_inj (I:Inv X pins σ H s) (h:SqL X.K H a xs) (h':SqL X.K H a ys):xs=ys:=by
 obtain ⟨its,r,⟨o,n,e,_,_,d⟩,_⟩:=I.list h
 obtain ⟨its',r',⟨o',n',e',_,_,d'⟩,_⟩:=I.list h'
 rw [e] at e';cases e'
 rw [d] at d'
 injection d' with d1 _
 have:its=its':=by simpa using congrArg Array.toList d1
 subst this
 exact r.inj r'
end
abbrev Cx.wish (X:Cx) (E:Value→Shared→Prop):Cx:={ X with xe:=E }
abbrev Cx.nox (X:Cx):Cx:=X.wish fun _ _=>False
theorem Cx.Ok.wish {X:Cx} (ok:X.Ok) (E:Value→Shared→Prop):(X.wish E).Ok :=
 ⟨ok.mod,ok.kind,ok.glob,ok.blt,ok.above,ok.inj,ok.has,ok.cab,ok.hd,ok.frames,ok.stk,ok.exf,ok.bs,ok.bsz,ok.noex,ok.exfs,ok.funs,ok.frf⟩
theorem Cx.Ok.unwish {X:Cx} {E:Value→Shared→Prop} (ok:(X.wish E).Ok):X.Ok :=
 ⟨ok.mod,ok.kind,ok.glob,ok.blt,ok.above,ok.inj,ok.has,ok.cab,ok.hd,ok.frames,ok.stk,ok.exf,ok.bs,ok.bsz,ok.noex,ok.exfs,ok.funs,ok.frf⟩
section
variable {X:Cx} {pins:List (Addr×Obj)} {σ:St} {H:Hp} {s:Shared} {E:Value→Shared→Prop}
theorem Inv.wish (I:Inv X pins σ H s) (E:Value→Shared→Prop):Inv (X.wish E) pins σ H s:=⟨I.ok.wish E,I.os,I.bare,I.base,I.loc,I.cell,I.free,I.freeC,I.pin,I.hok,I.len⟩
theorem Inv.unwish (I:Inv (X.wish E) pins σ H s):Inv X pins σ H s:=⟨I.ok.unwish,I.os,I.bare,I.base,I.loc,I.cell,I.free,I.freeC,I.pin,I.hok,I.len⟩
theorem SP.unwish {D:zbO} {f:Flow} {s':Shared} (h:SP (X.wish E) pins D f s'):SP X pins D f s':=by
 cases f with
 | next=>obtain ⟨σ',H',I,q⟩:=h;exact ⟨σ',H',I.unwish,q⟩
 | brk=>obtain ⟨σ',H',I,q⟩:=h;exact ⟨σ',H',I.unwish,q⟩
 | cont=>obtain ⟨σ',H',I,q⟩:=h;exact ⟨σ',H',I.unwish,q⟩
 | ret u=>obtain ⟨v,σ',H',I,r,q⟩:=h;exact ⟨v,σ',H',I.unwish,r,q⟩
theorem PSs.nox {st:List Stmt} {t:TS} (h:PSs X.nox st t):PSs X st t:=fun pins s σ H D I hw =>
 wpAny_mono (h pins s σ H D (I.wish _) hw) (fun _ _ q=>q.unwish) fun _ _ z=>False.elim z
end
section
variable {X:Cx} {st:Stmt} {rest:List Stmt} {t u:TS} {e:Expr} {te:TE} {pos:Pos}
def zaR:TS:=fun D σ H=>D.nx σ H
def zaM (t u:TS):TS:=fun D σ H=>t { D with nx:=u D } σ H
theorem zaN:PSs X [] zaR:=fun _ _ σ H _ I h=>wpAny_execs_nil ⟨σ,H,I,h⟩
theorem zaf (h1:PS X st t) (h2:PSs X rest u):PSs X (st::rest) (zaM t u):=by
 intro pins s σ H D I h
 refine wpAny_execs_cons (thn (h1 pins s σ H { D with nx:=u D } I h) fun f s1 q=>?_)
 cases f with
 | next =>
  obtain ⟨σ',H',I',q⟩:=q
  exact h2 pins s1 σ' H' D I' q
 | ret v=>exact q
 | brk=>exact q
 | cont=>exact q
theorem zak (h1:PS X st t):PSs X [st] t:=by
 intro pins s σ H D I h
 refine wpAny_execs_cons (thn (h1 pins s σ H D I h) fun f s1 q=>?_)
 cases f with
 | next=>exact wpAny_execs_nil q
 | ret v=>exact q
 | brk=>exact q
 | cont=>exact q
theorem Inv.quiet {pins:List (Addr×Obj)} {σ:St} {H:Hp} {s:Shared} (I:Inv X pins σ H s):interactive X.env=false:=by simp [interactive,I.ok.kind]
def zfH (te:TE):TS:=fun D σ H=>te σ H fun _ H1=>D.nx σ H1
theorem zdo (he:PE X e te) (hs:swapsWith e none pos.line X.env=pure false:=by rfl):PS X (.Expr e pos) (zfH te):=by
 intro pins s σ H D I h
 exact wpAny_Expr_any (thn (he pins s σ H _ I h) fun v s1 ⟨x,H1,I1,r1,q1⟩=>⟨σ,H1,I1,q1⟩) I.quiet hs
def zbo (te:TE):TS:=fun D σ H=>te σ H D.rt
theorem zaJ (he:PE X e te):PS X (.Return (some e) pos) (zbo te):=by
 intro pins s σ H D I h
 exact wpAny_Return_some (thn (he pins s σ H _ I h) fun v s1 ⟨x,H1,I1,r1,q1⟩=>⟨x,σ,H1,I1,r1,q1⟩)
def zbE (c:TT) (t u:TS):TS:=fun D σ H=>c σ H fun b H1=>if b=true then t D σ H1 else u D σ H1
theorem zbD {c:Expr} {a b:List Stmt} {tc:TT} (hc:PT X c tc) (ha:PSs X a t) (hb:PSs X b u):PS X (.If c a b pos) (zbE tc t u):=by
 intro pins s σ H D I h
 refine wpAny_If (thn (hc pins s σ H _ I h) fun d s1 hQ'=>?_)
 obtain ⟨H1,I1,q1⟩:=hQ'
 cases d with
 | true=>exact ha pins s1 σ H1 D I1 q1
 | false=>exact hb pins s1 σ H1 D I1 q1
def zrC:TS:=fun _ _ _=>False
theorem zra:PS X st zrC:=fun _ _ _ _ _ _ h=>h.elim
end
abbrev TG:=V→St→Hp→(St→Hp→Prop)→Prop
abbrev TGs:=List V→St→Hp→(St→Hp→Prop)→Prop
def PG (X:Cx) (target:Expr) (t:TG):Prop :=
 ∀ (pins:List (Addr×Obj)) (s:Shared) (σ:St) (H:Hp) (v:V) (u:Value) (Q:St→Hp→Prop),Inv X pins σ H s→zbT v u→t v σ H Q →
  wpAny (model X.prog X.w) X.A (assign target X.env u) (fun _ s'=>∃ σ' H',Inv X pins σ' H' s'∧Q σ' H') X.xe s
def PGs (X:Cx) (ts:List Expr) (t:TGs):Prop :=
 ∀ (pins:List (Addr×Obj)) (s:Shared) (σ:St) (H:Hp) (vs:List V) (us:List Value) (Q:St→Hp→Prop),Inv X pins σ H s→zbs vs us→t vs σ H Q →
  wpAny (model X.prog X.w) X.A (assignInOrder ((assignEach ts X.env).map (·.2)) us) (fun _ s'=>∃ σ' H',Inv X pins σ' H' s'∧Q σ' H') X.xe s
abbrev TSet:=V→V→V→Hp→(Hp→Prop)→Prop
def PSet (X:Cx) (t:TSet):Prop :=
 ∀ (pins:List (Addr×Obj)) (s:Shared) (σ:St) (H:Hp) (o i v:V) (ov iv u:Value) (Q:Hp→Prop),Inv X pins σ H s→zbT o ov→zbT i iv→zbT v u→t o i v H Q →
  wpAny (model X.prog X.w) X.A (setItem ov iv u) (fun _ s'=>∃ H',Inv X pins σ H' s'∧Q H') X.xe s
section
variable {X:Cx} {pos:Pos}
def zao (i:Nat):TG:=fun v σ H Q=>Q (σ.set i (some v)) H
theorem zaW {i:Nat} {x:Str} (hN:X.N.Nodup) (hi:X.N[i]?=some x) (hx:Loc X.env.scope x) (hf:X.fn x=true∨X.env.scope.names.lookup x=some .local:=by first | exact .inl rfl | exact .inr rfl | assumption):PG X (.Name x pos) (zao i):=by
 intro pins s σ H v u Q I r h
 exact wpAny_assign_Name (zkp I hN hi hx r (fun s' I'=>⟨_,H,I',h⟩) hf)
def zrA:TGs:=fun vs σ H Q=>vs=[]∧Q σ H
def zfS (t:TG) (u:TGs):TGs:=fun vs σ H Q=>∃ v r,vs=v::r∧t v σ H fun σ' H'=>u r σ' H' Q
theorem zju:PGs X [] zrA:=by
 intro pins s σ H vs us Q I r h
 obtain ⟨e,h⟩:=h
 subst e
 cases r
 exact assignInOrder_nil ⟨σ,H,I,h⟩
theorem zdd {e:Expr} {es:List Expr} {t:TG} {u:TGs} (h1:PG X e t) (h2:PGs X es u)
  (hs:(assignEach (e::es) X.env).map (·.2)=assign e X.env::(assignEach es X.env).map (·.2):=by rfl):PGs X (e::es) (zfS t u):=by
 intro pins s σ H vs us Q I r h
 obtain ⟨v,vr,e1,h⟩:=h
 subst e1
 cases r with
 | cons r rr =>
  rw [hs]
  refine assignInOrder_cons (thn (h1 pins s σ H _ _ _ I r h) fun _ s1 hQ'=>?_)
  obtain ⟨σ1,H1,I1,q1⟩:=hQ'
  exact h2 pins s1 σ1 H1 _ _ Q I1 rr q1
def zrl (K:PySem.W.Frag) (n:Nat) (t:TGs):TG:=fun v σ H Q=>∃ a xs,v=.ref a∧SqT K H a xs∧xs.length=n∧t xs σ H Q
theorem zmN {es:List Expr} {k:Nat} {t:TGs} {n:Nat} (hc:X.calm=true) (h:PGs X es t)
  (hn:(assignEach es X.env).length=n:=by rfl) (hst:(assignEach es X.env).findIdx? (·.1)=none:=by rfl):PG X (.Tuple es k pos) (zrl X.K n t):=by
 intro pins s σ H v u Q I r hw
 obtain ⟨a,xs,e1,hq,hl,hw⟩:=hw
 subst e1
 cases r
 obtain ⟨its,rv,ht,hz⟩:=I.tuple hq
 refine assign_Tuple_tuple (I.ok.hd hc) ht (by simp [hn,← hl,rv.length]) hst fun h' hx=>?_
 have I1:Inv X pins σ H { s with heap:=h' }:=I.kept (t':=s.toks) fun b o e=>hx b o (Nat.ne_of_lt (Heap.lt_size e)) e
 exact h pins _ σ H xs _ Q I1 (by simpa using rv) hw
def zj5 (to ti:TE) (t:TSet):TG:=fun v σ H Q=>to σ H fun o H1=>ti σ H1 fun i H2=>t o i v H2 fun H3=>Q σ H3
theorem zeS {o i:Expr} {to ti:TE} {t:TSet} (ho:PE X o to) (hi:PE X i ti) (hs:PSet X t)
  (ha:∀ v,assign (.Subscript o i pos) X.env v=(do
   let ov ← holding [v] (eval o X.env)
   let iv ← holding [v,ov] (eval i X.env)
   standAt pos
   holding [v,ov,iv] (setItem ov iv v)
   release [v,ov,iv] []):=by intro _;rfl):PG X (.Subscript o i pos) (zj5 to ti t):=by
 intro pins s σ H v u Q I r h
 rw [ha]
 refine wpAny_bind (wpAny_holding (thn (ho pins s σ H _ I h) fun ov s1 hQ'=>?_))
 obtain ⟨x,H1,I1,r1,q1⟩:=hQ'
 refine wpAny_bind (wpAny_holding (thn (hi pins s1 σ H1 _ I1 q1) fun iv s2 hQ'=>?_))
 obtain ⟨y,H2,I2,r2,q2⟩:=hQ'
 refine wpAny_bind (wpAny_standAt (wpAny_bind (wpAny_holding (thn (hs pins s2 σ H2 x y v ov iv u _ I2 r1 r2 r q2) fun _ s3 hQ'=>?_))))
 obtain ⟨H3,I3,q3⟩:=hQ'
 exact wpAny_release ⟨σ,H3,I3,q3⟩
def za6 (te:TE) (g:TG):TS:=fun D σ H=>te σ H fun x H1=>g x σ H1 D.nx
theorem zeR {tg e:Expr} {te:TE} {g:TG} (he:PE X e te) (hg:PG X tg g) (hs:swapsWithSole [tg] e pos.line X.env=pure false:=by rfl) (hw:swappedStores [tg] e X.env=pure none:=by rfl)
  (h1:(assignEach [tg] X.env).map (·.2)=[assign tg X.env]:=by rfl):PS X (.Assign [tg] e pos) (za6 te g):=by
 intro pins s σ H D I h
 refine wpAny_Assign_stores (thn (he pins s σ H _ I h) fun v s1 hQ'=>?_) hs hw
 obtain ⟨x,H1,I1,r1,q1⟩:=hQ'
 rw [h1]
 exact thn (hg pins s1 σ H1 x v _ I1 r1 q1) fun _ s2 q=>q
theorem zaL {i:Nat} {x:Str} {e:Expr} {te:TE} {pos':Pos} (hN:X.N.Nodup) (hi:X.N[i]?=some x) (hx:Loc X.env.scope x) (he:PE X e te) (hs:swapsWith e (some (.Name x pos')) pos.line X.env=pure false:=by rfl) (hf:X.fn x=true∨X.env.scope.names.lookup x=some .local:=by first | exact .inl rfl | exact .inr rfl | assumption) :
  PS X (.Assign [.Name x pos'] e pos) (za6 te (zao i)):=by
 intro pins s σ H D I h
 refine wpAny_Assign_Name (thn (he pins s σ H _ I h) fun v s1 hQ'=>?_) hs
 obtain ⟨y,H1,I1,r1,q1⟩:=hQ'
 exact zkp I1 hN hi hx r1 (fun s2 I2=>⟨_,H1,I2,q1⟩) hf
end
section
variable {X:Cx} {pos:Pos}
def zjh (c:TT) (tb:TS):TS:=fun D σ H=>∃ W:Nat→St→Hp→Prop,(∃ m,W m σ H)∧∀ m σ H,W m σ H →
 c σ H fun b H1=>if b=true then ∃ N:St→Hp→Prop,(∀ σ' H',N σ' H'→∃ m',m'<m∧W m' σ' H')∧tb { D with nx:=N,ct:=N,bk:=D.nx } σ H1 else D.nx σ H1
theorem zmt {c:Expr} {body:List Stmt} {tc:TT} {tb:TS} (hp:PassesOwn (model X.prog X.w) X.A X.env X.xe) (hc:PT X c tc) (hb:PSs X body tb):PS X (.While c body [] pos) (zjh tc tb):=by
 intro pins s σ H D I h
 obtain ⟨W,⟨m0,w0⟩,turn⟩:=h
 refine wpAny_While (codeAny_whileLoop (fun n s'=>∃ σ' H',Inv X pins σ' H' s'∧W n σ' H') ?_ m0 ⟨σ,H,I,w0⟩)
 rintro n s1 ⟨σ1,H1,I1,w1⟩
 refine wpAny_passesOwn hp (thn (hc pins s1 σ1 H1 _ I1 (turn n σ1 H1 w1)) fun b s2 hQ'=>?_)
 obtain ⟨H2,I2,q2⟩:=hQ'
 cases b with
 | true =>
  obtain ⟨N,hN,q2⟩:=q2
  rw [if_pos rfl]
  refine wpAny_passesOwn hp (thn (hb pins s2 σ1 H2 _ I2 q2) fun f s3 q3=>?_)
  cases f with
  | next =>
   obtain ⟨σ3,H3,I3,n3⟩:=q3
   obtain ⟨m',hm,w3⟩:=hN σ3 H3 n3
   exact ⟨m',hm,σ3,H3,I3,w3⟩
  | cont =>
   obtain ⟨σ3,H3,I3,n3⟩:=q3
   obtain ⟨m',hm,w3⟩:=hN σ3 H3 n3
   exact ⟨m',hm,σ3,H3,I3,w3⟩
  | brk=>exact q3
  | ret v=>exact q3
 | false =>
  rw [if_neg Bool.false_ne_true]
  exact wpAny_execs_nil ⟨σ1,H2,I2,q2⟩
end
structure It where
 go:Nat→Hp→Prop
 yld:Nat→Hp→V→Hp→Prop
 stop:Nat→Hp→Prop
def zhq (X:Cx) (pins:List (Addr×Obj)) (H:Hp) (b:Addr):Prop :=
 H b=none∧b≠X.env.locals∧b∉X.fs∧(b∈X.ex∨X.s₀.heap.objs.size≤b)∧(∀ x c,X.env.cells.lookup x=some c→c≠b)∧∀ p∈X.pn++pins,p.1≠b
theorem Inv.fpOk {X:Cx} {pins:List (Addr×Obj)} {σ:St} {H H':Hp} {s:Shared} {b:Addr} (I:Inv X pins σ H s) (hb:s.heap.objs.size≤b) (hn:H' b=none):zhq X pins H' b:=by
 refine ⟨hn,Nat.ne_of_gt (Nat.lt_of_lt_of_le I.lt hb),I.nofs hb,.inr (Nat.le_trans I.sz hb),fun x c e z=>?_,fun p hp z=>?_⟩
 ·obtain ⟨v,q⟩:=I.cell x c e
  exact absurd (Nat.lt_of_lt_of_le q.lt (by rw [z];exact hb)) (Nat.lt_irrefl _)
 ·exact absurd (Nat.lt_of_lt_of_le (Heap.lt_size (I.pin p hp).1) (by rw [z];exact hb)) (Nat.lt_irrefl _)
structure Turn (P:Program) (w:World) (K:PySem.W.Frag) (tg:Expr) (J:It) (fp:List Addr) (it:Addr) (tn:Nat→Heap→Prop):Prop where
 mem:it∈fp
 obj:∀ i h,tn i h→∀ b∈fp,∃ o,h.get? b=some o∧∀ v,o.data≠.cell v
 keep:∀ i h h',tn i h→(∀ b∈fp,∀ o,h.get? b=some o→h'.get? b=some o)→tn i h'
 item:∀ (X:Cx),X.prog=P→X.w=w→X.K=K→X.calm=true→∀ (i:Nat) (pins:List (Addr×Obj)) (s:Shared) (σ:St) (H:Hp) (E:Value→Shared→Prop),Inv X pins σ H s→(∀ b∈fp,zhq X pins H b)→tn i s.heap→J.go i H →
  wpAny (model P w) X.A (pyNext (.ref it)) (fun r s1=>∃ u,r=some u ∧
   wpAny (model P w) X.A (letOwnedTupleGo tg (.ref it) u) (fun _ s2=>∃ x H',Inv X pins σ H' s2∧zbT x u∧J.yld i H x H'∧tn (i+1) s2.heap∧∀ b∈fp,H' b=none) E s1) E s
 done:∀ (X:Cx),X.prog=P→X.w=w→X.K=K→X.calm=true→∀ (i:Nat) (pins:List (Addr×Obj)) (s:Shared) (σ:St) (H:Hp) (E:Value→Shared→Prop),Inv X pins σ H s→(∀ b∈fp,zhq X pins H b)→tn i s.heap→J.stop i H →
  wpAny (model P w) X.A (pyNext (.ref it)) (fun r s1=>r=none∧Inv X pins σ H s1) E s
 self:∀ (A:Around) (i:Nat) (s:Shared) (Q:Value→Shared→Prop) (E:Value→Shared→Prop),tn i s.heap→Q (.ref it) s→wpAny (model P w) A (pyIter (.ref it)) Q E s
abbrev TI:=St→Hp→(It→Hp→Prop)→Prop
def PIE (X:Cx) (pins:List (Addr×Obj)) (σ:St) (tg:Expr) (R:It→Hp→Prop) (itv:Value) (s2:Shared):Prop :=
 ∃ (it:Addr) (fp:List Addr) (tn:Nat→Heap→Prop) (J:It) (H':Hp),itv=.ref it∧Inv X pins σ H' s2∧Turn X.prog X.w X.K tg J fp it tn∧tn 0 s2.heap∧(∀ b∈fp,zhq X pins H' b)∧R J H'
def PI (X:Cx) (tg iter:Expr) (wi:TI):Prop :=
 ∀ (pins:List (Addr×Obj)) (s:Shared) (σ:St) (H:Hp) (R:It→Hp→Prop),Inv X pins σ H s→wi σ H R →
  wpAny (model X.prog X.w) X.A (eval iter X.env) (fun v s1=>wpAny (model X.prog X.w) X.A (pyIter v) (PIE X pins σ tg R) X.xe s1) X.xe s
theorem zu8 {M:Model} {A:Around} {E:Value→Shared→Prop} {s:Shared} {tg:Expr} {it:Addr} {u:Value} {o:Obj} {n:String} {vs:Array Value} {Q:Unit→Shared→Prop} (ho:s.heap.get? it=some o) (hc:o.cls=.type n) (hd:o.data=.fields vs)
  (hn:["enumerate","zip","dict_itemiterator","dict_reverseitemiterator","odict_iterator","itertools.zip_longest","itertools.pairwise"].contains n=false) (hQ:Q () s):wpAny M A (letOwnedTupleGo tg (.ref it) u) Q E s:=by
 unfold letOwnedTupleGo
 cases tg <;> first
  | exact wpAny_pure hQ
  | (cases u <;> first
    | exact wpAny_pure hQ
    | (refine wpAny_bind (wpAny_load ho ?_)
       rw [hc,hd]
       show wpAny M A (if (["enumerate","zip","dict_itemiterator","dict_reverseitemiterator","odict_iterator","itertools.zip_longest","itertools.pairwise"].contains n&&vs[0]? == some (rawInt _))=true then _ else _) Q E s
       rw [if_neg (by intro h;rw [hn,Bool.false_and] at h;cases h)]
       exact wpAny_pure hQ))
def Itl (K:PySem.W.Frag) (a:Addr):It :=
 ⟨fun i H=>∃ xs x,SqL K H a xs∧xs[i]?=some x,fun i H x H'=>H'=H∧∀ xs,SqL K H a xs→xs[i]?=some x,fun i H=>∃ xs,SqL K H a xs∧xs.length≤i⟩
def Itr (lo:Int) (n:Nat):It:=⟨fun i _=>i<n,fun i H x H'=>H'=H∧x=.int (lo+i),fun i _=>n≤i⟩
theorem zoV {P:Program} {w:World} {K:PySem.W.Frag} {tg:Expr} (a it:Addr):Turn P w K tg (Itl K a) [it] it (fun i h=>h.IsListIter it a i) where
 mem:=by simp
 obj:=fun i h st b hb=>by
  have e:b=it:=by simpa using hb
  subst e
  obtain ⟨o,e,c,d⟩:=st
  exact ⟨o,e,fun v z=>by rw [d] at z;cases z⟩
 keep:=fun i h h' st k=>st.at fun o e=>k it (by simp) o e
 item:=by
  intro X hP hw hK hc i pins s σ H E I hf st hg
  subst hP hw hK
  obtain ⟨xs,x,hq,hx⟩:=hg
  obtain ⟨its,rv,p,hz⟩:=I.list hq
  obtain ⟨u,hu,ru⟩:=rv.get hx
  obtain ⟨f0,f1,f2,f3,f4,f5⟩:=hf it (by simp)
  refine wpAny_pyNext_list_item st p.isList (x:=u) (by simpa using hu) fun h' st' sb=>?_
  have I1:Inv X pins σ H { s with heap:=h' }:=I.turned (t':=s.toks) (fun b o hb e=>(sb.2 b hb).trans e) f0 f1 f3 f4 f5
  obtain ⟨o,e,c,d⟩:=id st'
  exact ⟨u,rfl,zu8 (s:={ s with heap:=h' }) e c d (by decide) ⟨x,H,I1,ru,⟨rfl,fun ys hy=>by rw [I.list_inj hy hq];exact hx⟩,st',fun b hb=>(hf b hb).1⟩⟩
 done:=by
  intro X hP hw hK hc i pins s σ H E I hf st hg
  subst hP hw hK
  obtain ⟨xs,hq,hx⟩:=hg
  obtain ⟨its,rv,p,hz⟩:=I.list hq
  obtain ⟨f0,f1,f2,f3,f4,f5⟩:=hf it (by simp)
  have hl:=rv.length
  exact wpAny_pyNext_list_end (I.ok.hd hc) st p.isList (by simp;(first|lia|omega)) fun h' eb=>⟨rfl,I.turned (t':=s.toks) (fun b o hb e=>eb b o hb e) f0 f1 f3 f4 f5⟩
 self:=fun _ _ _ _ _ st h=>wpAny_pyIter_listiter st h
theorem zm0 {P:Program} {w:World} {K:PySem.W.Frag} {tg:Expr} (it:Addr) (lo:Int) (n:Nat):Turn P w K tg (Itr lo n) [it] it (fun i h=>IsRangeIter h it (lo+(i:Nat)*1) ((n:Int) - (i:Nat)) 1) where
 mem:=by simp
 obj:=fun i h st b hb=>by
  have e:b=it:=by simpa using hb
  subst e
  exact ⟨_,st,fun v z=>by
   have z':Data.fields _=Data.cell v:=z
   cases z'⟩
 keep:=fun i h h' st k=>k it (by simp) _ st
 item:=by
  intro X hP hw hK hc i pins s σ H E I hf st hg
  subst hP hw hK
  obtain ⟨f0,f1,f2,f3,f4,f5⟩:=hf it (by simp)
  have W:=Walks.range (prog:=X.prog) (w:=X.w) (I.ok.hd hc) it lo 1 n
  refine W.item i s _ _ hg st fun v h' tk hv st' kk=>?_
  obtain ⟨t,rfl⟩:=hv
  have I1:Inv X pins σ H { s with heap:=h',toks:=tk }:=I.turned (fun b o hb e=>kk b o (by simpa using hb) e) f0 f1 f3 f4 f5
  refine ⟨_,rfl,zu8 (s:={ s with heap:=h',toks:=tk }) (n:="range_iterator") st' rfl rfl (by decide) ⟨.int (lo+i),H,I1,⟨t,?_⟩,⟨rfl,rfl⟩,st',fun b hb=>(hf b hb).1⟩⟩
  rw [Int.mul_one]
 done:=by
  intro X hP hw hK hc i pins s σ H E I hf st hg
  subst hP hw hK
  obtain ⟨f0,f1,f2,f3,f4,f5⟩:=hf it (by simp)
  exact wpAny_pyNext_range_end (I.ok.hd hc) st (by have:n≤i:=hg;(first|lia|omega)) fun h' eb=>⟨rfl,I.turned (t':=s.toks) (fun b o hb e=>eb b o hb e) f0 f1 f3 f4 f5⟩
 self:=fun _ _ _ _ _ st h=>wpAny_pyIter_rangeiter st h
end L2
namespace L2
open PySem PySem.Spec PyProof.Rows
section
variable {X:Cx} {tg:Expr}
def zdJ (K:PySem.W.Frag) (tl:TE):TI:=fun σ H R=>tl σ H fun x H1=>∃ a,x=.ref a∧(∃ xs,SqL K H1 a xs)∧R (Itl K a) H1
theorem zci {l:Expr} {tl:TE} (hl:PE X l tl):PI X tg l (zdJ X.K tl):=by
 intro pins s σ H R I h
 refine thn (hl pins s σ H _ I h) fun v s1 hQ'=>?_
 obtain ⟨x,H1,I1,r1,q1⟩:=hQ'
 obtain ⟨a,e,⟨xs,hq⟩,q⟩:=q1
 subst e
 cases r1
 obtain ⟨its,rv,p,hz⟩:=I1.list hq
 refine wpAny_pyIter_list p.isList ?_
 refine ⟨s1.heap.objs.size,[s1.heap.objs.size],_,_,H1,rfl,I1.kept (t':=s1.toks) fun b o e=>Heap.get?_push_of_some _ e,zoV a _,⟨_,Heap.get?_push_size _ rfl,rfl,rfl⟩,fun b hb=>?_,q⟩
 have e:b=s1.heap.objs.size:=by simpa using hb
 subst e
 exact I1.fpOk (Nat.le_refl _) (I1.hok.fresh (Nat.le_refl _))
theorem zpV {pins:List (Addr×Obj)} {σ:St} {H:Hp} {s:Shared} {R:It→Hp→Prop} {E:Value→Shared→Prop} {lo hi:Int} {t u v:Tok} {tk:Nat} (I:Inv X pins σ H s) (h1:-(2 ^ 62)≤lo) (h2:lo<2 ^ 62) (h3:-(2 ^ 62)≤hi) (h4:hi<2 ^ 62)
  (q:R (Itr lo (hi - lo).toNat) H):wpAny (model X.prog X.w) X.A (pyIter (.ref s.heap.objs.size)) (PIE X pins σ tg R) E { s with heap:=s.heap.push { cls:=.type "range",data:=.fields #[.int lo t,.int hi u,.int 1 v] },toks:=tk }:=by
 refine wpAny_pyIter_range (IsRange.new ..) (small_one h1 h2 h3 h4) ?_
 have I1:Inv X pins σ H { s with heap:=s.heap.push { cls:=.type "range",data:=.fields #[.int lo t,.int hi u,.int 1 v] },toks:=tk }:=I.kept fun b o e=>Heap.get?_push_of_some _ e
 refine ⟨(s.heap.push { cls:=.type "range",data:=.fields #[.int lo t,.int hi u,.int 1 v] }).objs.size,[(s.heap.push { cls:=.type "range",data:=.fields #[.int lo t,.int hi u,.int 1 v] }).objs.size],_,_,H,rfl,
  I1.kept (t':=tk) fun b o e=>Heap.get?_push_of_some _ e,zm0 _ lo (hi - lo).toNat,?_,fun b hb=>?_,q⟩
 ·have e1:lo+((0:Nat):Int)*1=lo:=by simp
  have e2:(((hi - lo).toNat:Nat):Int) - ((0:Nat):Int)=Builtin.Range.rangeSize lo hi 1:=by rw [rangeSize_one];split <;> (first|lia|omega)
  show IsRangeIter _ _ (lo+((0:Nat):Int)*1) ((((hi - lo).toNat:Nat):Int) - ((0:Nat):Int)) 1
  rw [e1,e2]
  exact Heap.get?_push_size _ rfl
 ·have e:b=(s.heap.push { cls:=.type "range",data:=.fields #[.int lo t,.int hi u,.int 1 v] }).objs.size:=by simpa using hb
  subst e
  exact I1.fpOk (Nat.le_refl _) (I1.hok.fresh (Nat.le_refl _))
def zeh (ta:TA):TI:=fun σ H R=>ta σ H fun vs H1=>∃ j:Int,vs=[.int j]∧-(2 ^ 62)≤j∧j<2 ^ 62∧R (Itr 0 j.toNat) H1
theorem zbF {a:Expr} {ta:TA} {p pos:Pos} (hg:Gl X "range") (hm:X.mg "range"=none) (ha:PA X [a] ta) (hs:starEach [a] X.env=[(false,eval a X.env)]:=by rfl):PI X tg (.Call (.Name "range" p) [a] [] pos) (zeh ta):=by
 intro pins s σ H R I h
 refine Call_ (zhG I hg hm boot_range (PyProof.Rows.callWith_type1 (thn (ha pos pins s σ H _ I h) fun us s1 hQ'=>?_) hs rfl))
 obtain ⟨vs,H1,I1,r1,q1⟩:=hQ'
 obtain ⟨j,e,q1,q2,q⟩:=q1
 subst e
 cases r1 with
 | cons r rr =>
  cases rr
  obtain ⟨t,rfl⟩:=r
  exact call_range_1 (zpV I1 (by (first|lia|omega)) (by (first|lia|omega)) q1 q2 (by simpa using q))
def zmu (wi:TI) (g:TG) (tb:TS):TS:=fun D σ H=>wi σ H fun J H1=>∃ W:Nat→Nat→St→Hp→Prop,(∃ m,W 0 m σ H1)∧∀ i m σ H,W i m σ H →
 (J.stop i H∧D.nx σ H)∨(J.go i H∧∃ N:St→Hp→Prop,(∀ σ' H',N σ' H'→∃ m',m'<m∧W (i+1) m' σ' H')∧∀ x H',J.yld i H x H'→g x σ H' fun σ2 H2=>tb { D with nx:=N,ct:=N,bk:=D.nx } σ2 H2)
def zjr (fp:List Addr) (h:Heap):List (Addr×Obj):=fp.filterMap fun b=>(h.get? b).map fun o=>(b,o)
theorem zcU {fp:List Addr} {h:Heap} {b:Addr} {o:Obj} (hb:b∈fp) (e:h.get? b=some o):(b,o)∈zjr fp h:=List.mem_filterMap.mpr ⟨b,hb,by rw [e];rfl⟩
theorem znV {fp:List Addr} {h:Heap} {p:Addr×Obj} (hp:p∈zjr fp h):p.1∈fp∧h.get? p.1=some p.2:=by
 obtain ⟨b,hb,e⟩:=List.mem_filterMap.mp hp
 cases q:h.get? b with
 | none=>rw [q] at e;cases e
 | some o =>
  rw [q] at e
  have e':(b,o)=p:=Option.some.inj e
  subst e'
  exact ⟨hb,q⟩
theorem Inv.pinned {pins:List (Addr×Obj)} {σ:St} {H:Hp} {s:Shared} {fp:List Addr} (I:Inv X pins σ H s) (hf:∀ b∈fp,zhq X pins H b) (ho:∀ b∈fp,∃ o,s.heap.get? b=some o∧∀ v,o.data≠.cell v):Inv X (pins++zjr fp s.heap) σ H s :=
 I.pins_of fun p hp=>(List.mem_append.mp hp).elim (fun z=>I.pin p (List.mem_append_right _ z)) fun z=>by
  obtain ⟨hb,e⟩:=znV z
  obtain ⟨f0,f1,f2,_⟩:=hf p.1 hb
  obtain ⟨o,e',d⟩:=ho p.1 hb
  rw [e] at e';cases e'
  exact ⟨e,f0,f1,f2,d⟩
theorem Inv.unpinned {pins pl:List (Addr×Obj)} {σ:St} {H:Hp} {s:Shared} (I:Inv X (pins++pl) σ H s):Inv X pins σ H s:=I.pins_of fun p hp=>I.pin p (List.mem_append_right _ (List.mem_append_left _ hp))
theorem zfP {iter:Expr} {body:List Stmt} {wi:TI} {g:TG} {tb:TS} {pos:Pos} (hp:PassesOwn (model X.prog X.w) X.A X.env X.xe) (hc:X.calm=true) (hi:PI X tg iter wi) (hg:PG X tg g) (hb:PSs X body tb)
  (hs:∀ x,foldedSetIterable iter X.env x=pure x:=by intro _;rfl):PS X (.For tg iter body [] pos) (zmu wi g tb):=by
 intro pins s σ H D I h
 refine wpAny_For (thn (hi pins s σ H _ I h) fun v s1 h1=>thn h1 fun itv s2 h2=>?_) hs
 obtain ⟨it,fp,tn,J,H2,e,I2,T,st2,f2,W,⟨m0,w0⟩,turn⟩:=h2
 subst e
 have stat:∀ {H':Hp},(∀ b∈fp,H' b=none)→∀ b∈fp,zhq X pins H' b:=fun hn b hb=>⟨hn b hb,(f2 b hb).2⟩
 refine codeAny_forLoop_any (fun n s'=>∃ i σ' H',Inv X pins σ' H' s'∧tn i s'.heap∧(∀ b∈fp,H' b=none)∧W i n σ' H') ?_ m0 ⟨0,σ,H2,I2,st2,fun b hb=>(f2 b hb).1,w0⟩
 rintro n s3 ⟨i,σ3,H3,I3,st3,fr3,w3⟩
 rcases turn i n σ3 H3 w3 with ⟨stop,qn⟩ | ⟨go,N,hN,step⟩
 ·refine wpAny_passesOwn hp (thn (T.done X rfl rfl rfl hc i pins s3 σ3 H3 X.xe I3 (stat fr3) st3 stop) fun r s4 hQ'=>?_)
  obtain ⟨hr,I4⟩:=hQ'
  subst hr
  exact wpAny_execs_nil ⟨σ3,H3,I4,qn⟩
 ·refine wpAny_passesOwn hp (thn (T.item X rfl rfl rfl hc i pins s3 σ3 H3 X.xe I3 (stat fr3) st3 go) fun r s4 hQ'=>?_)
  obtain ⟨u,hr,h4⟩:=hQ'
  subst hr
  refine wpAny_passesOwn hp (thn h4 fun _ s5 hQ'=>?_)
  obtain ⟨x,H5,I5,r5,y5,st5,fr5⟩:=hQ'
  have I5':=I5.pinned (stat fr5) (T.obj _ _ st5)
  refine wpAny_passesOwn hp (thn (hg _ s5 σ3 H5 x u _ I5' r5 (step x H5 y5)) fun _ s6 hQ'=>?_)
  obtain ⟨σ6,H6,I6,q6⟩:=hQ'
  refine wpAny_passesOwn hp (thn (hb _ s6 σ6 H6 _ I6 q6) fun f s7 q7=>?_)
  have again:∀ {σ7:St} {H7:Hp},Inv X (pins++zjr fp s5.heap) σ7 H7 s7→N σ7 H7→∃ m,m<n∧∃ i σ' H',Inv X pins σ' H' s7∧tn i s7.heap∧(∀ b∈fp,H' b=none)∧W i m σ' H':=fun {σ7 H7} I7 n7=>by
   obtain ⟨m',hm,w7⟩:=hN σ7 H7 n7
   refine ⟨m',hm,i+1,σ7,H7,I7.unpinned,T.keep _ _ _ st5 fun b hb o e=>(I7.pin (b,o) (List.mem_append_right _ (List.mem_append_right _ (zcU hb e)))).1,fun b hb=>?_,w7⟩
   obtain ⟨o,e,d⟩:=T.obj _ _ st5 b hb
   exact (I7.pin (b,o) (List.mem_append_right _ (List.mem_append_right _ (zcU hb e)))).2.1
  cases f with
  | next=>obtain ⟨σ7,H7,I7,n7⟩:=q7;exact again I7 n7
  | cont=>obtain ⟨σ7,H7,I7,n7⟩:=q7;exact again I7 n7
  | brk=>obtain ⟨σ7,H7,I7,q7⟩:=q7;exact ⟨σ7,H7,I7.unpinned,q7⟩
  | ret v=>obtain ⟨x7,σ7,H7,I7,r7,q7⟩:=q7;exact ⟨x7,σ7,H7,I7.unpinned,r7,q7⟩
end
theorem zqC {K:PySem.W.Frag} {a:Addr} {xs:List V} {g:TG} {tb:TS} {D:zbO} {σ:St} {H:Hp} (Pv:Nat→St→Hp→Prop) (h0:Pv 0 σ H) (hl:∀ i σ H,i≤xs.length→Pv i σ H→SqL K H a xs)
  (hs:∀ i x σ H,xs[i]?=some x→Pv i σ H→g x σ H fun σ2 H2=>tb { D with nx:=Pv (i+1),ct:=Pv (i+1),bk:=D.nx } σ2 H2) (hd:∀ σ H,Pv xs.length σ H→D.nx σ H) :
  ∃ W:Nat→Nat→St→Hp→Prop,(∃ m,W 0 m σ H)∧∀ i m σ H,W i m σ H →
   ((Itl K a).stop i H∧D.nx σ H)∨((Itl K a).go i H∧∃ N:St→Hp→Prop,(∀ σ' H',N σ' H'→∃ m',m'<m∧W (i+1) m' σ' H')∧∀ x H',(Itl K a).yld i H x H'→g x σ H' fun σ2 H2=>tb { D with nx:=N,ct:=N,bk:=D.nx } σ2 H2):=by
 refine ⟨fun i m σ H=>m=xs.length - i∧i≤xs.length∧Pv i σ H,⟨xs.length,by simp,Nat.zero_le _,h0⟩,?_⟩
 rintro i m σ H ⟨rfl,hi,p⟩
 have q:=hl i σ H hi p
 by_cases hlt:i<xs.length
 ·refine .inr ⟨⟨xs,xs[i],q,by simp [hlt]⟩,Pv (i+1),fun σ' H' p'=>⟨xs.length - (i+1),by (first|lia|omega),rfl,hlt,p'⟩,fun x H' y=>?_⟩
  obtain ⟨e,y⟩:=y
  subst e
  exact hs i x σ _ (y xs q) p
 ·have e:i=xs.length:=by (first|lia|omega)
  subst e
  exact .inl ⟨⟨xs,q,Nat.le_refl _⟩,hd σ H p⟩
theorem zn5 {lo:Int} {n:Nat} {g:TG} {tb:TS} {D:zbO} {σ:St} {H:Hp} (Pv:Nat→St→Hp→Prop) (h0:Pv 0 σ H)
  (hs:∀ i σ H,i<n→Pv i σ H→g (.int (lo+i)) σ H fun σ2 H2=>tb { D with nx:=Pv (i+1),ct:=Pv (i+1),bk:=D.nx } σ2 H2) (hd:∀ σ H,Pv n σ H→D.nx σ H) :
  ∃ W:Nat→Nat→St→Hp→Prop,(∃ m,W 0 m σ H)∧∀ i m σ H,W i m σ H →
   ((Itr lo n).stop i H∧D.nx σ H)∨((Itr lo n).go i H∧∃ N:St→Hp→Prop,(∀ σ' H',N σ' H'→∃ m',m'<m∧W (i+1) m' σ' H')∧∀ x H',(Itr lo n).yld i H x H'→g x σ H' fun σ2 H2=>tb { D with nx:=N,ct:=N,bk:=D.nx } σ2 H2):=by
 refine ⟨fun i m σ H=>m=n - i∧i≤n∧Pv i σ H,⟨n,by simp,Nat.zero_le _,h0⟩,?_⟩
 rintro i m σ H ⟨rfl,hi,p⟩
 by_cases hlt:i<n
 ·refine .inr ⟨hlt,Pv (i+1),fun σ' H' p'=>⟨n - (i+1),by (first|lia|omega),rfl,hlt,p'⟩,fun x H' y=>?_⟩
  obtain ⟨e,y⟩:=y
  subst e y
  exact hs i σ _ hlt p
 ·have e:i=n:=by (first|lia|omega)
  subst e
  exact .inl ⟨Nat.le_refl _,hd σ H p⟩
theorem zp3 {c:TT} {tb:TS} {D:zbO} {σ:St} {H:Hp} (Pv:St→Hp→Prop) (μ:St→Hp→Nat) (h0:Pv σ H)
  (hs:∀ σ H,Pv σ H→c σ H fun b H1=>if b=true then tb { D with nx:=fun σ' H'=>Pv σ' H'∧μ σ' H'<μ σ H,ct:=fun σ' H'=>Pv σ' H'∧μ σ' H'<μ σ H,bk:=D.nx } σ H1 else D.nx σ H1)
  (mono:∀ σ H Q Q',(∀ b H1,Q b H1→Q' b H1)→c σ H Q→c σ H Q'):zjh c tb D σ H:=by
 refine ⟨fun m σ H=>m=μ σ H∧Pv σ H,⟨_,rfl,h0⟩,?_⟩
 rintro m σ H ⟨rfl,p⟩
 refine mono σ H _ _ (fun b H1 q=>?_) (hs σ H p)
 cases b with
 | true=>exact ⟨_,fun σ' H' ⟨p',l⟩=>⟨_,l,rfl,p'⟩,q⟩
 | false=>exact q
end L2
namespace L2
open PySem PySem.Spec PyProof.Rows
abbrev R2:=V→V→Hp→VK→Prop
def OpR (X:Cx) (f:Value→Value→Sem Value) (r:R2):Prop :=
 ∀ (pins:List (Addr×Obj)) (s:Shared) (σ:St) (H:Hp) (x y:V) (v u:Value) (Q:VK),Inv X pins σ H s→zbT x v→zbT y u→r x y H Q →
  wpAny (model X.prog X.w) X.A (f v u) (EP X pins σ Q) X.xe s
def UnR (X:Cx) (f:Value→Sem Value) (r:V→Hp→VK→Prop):Prop :=
 ∀ (pins:List (Addr×Obj)) (s:Shared) (σ:St) (H:Hp) (x:V) (v:Value) (Q:VK),Inv X pins σ H s→zbT x v→r x H Q →
  wpAny (model X.prog X.w) X.A (f v) (EP X pins σ Q) X.xe s
def zgD (X:Cx) (f:Value) (r:List V→Hp→VK→Prop):Prop :=
 ∀ (pins:List (Addr×Obj)) (s:Shared) (σ:St) (H:Hp) (xs:List V) (us:List Value) (Q:VK),Inv X pins σ H s→zbs xs us→r xs H Q →
  wpAny (model X.prog X.w) X.A (call f us) (EP X pins σ Q) X.xe s
def TruR (X:Cx) (r:V→Hp→(Bool→Hp→Prop)→Prop):Prop :=
 ∀ (pins:List (Addr×Obj)) (s:Shared) (σ:St) (H:Hp) (x:V) (v:Value) (Q:Bool→Hp→Prop),Inv X pins σ H s→zbT x v→r x H Q →
  wpAny (model X.prog X.w) X.A (truthy v) (TP X pins σ Q) X.xe s
def tOp (r:R2) (ta tb:TE):TE:=fun σ H Q=>ta σ H fun x H1=>tb σ H1 fun y H2=>r x y H2 Q
def tUn (r:V→Hp→VK→Prop) (ta:TE):TE:=fun σ H Q=>ta σ H fun x H1=>r x H1 Q
def rI (C:Int→Int→Prop) (g:Int→Int→V):R2:=fun x y H Q=>∃ i j,x=.int i∧y=.int j∧C i j∧Q (g i j) H
def rI0 (g:Int→Int→V):R2:=fun x y H Q=>∃ i j,x=.int i∧y=.int j∧Q (g i j) H
def rU (g:Int→V):V→Hp→VK→Prop:=fun x H Q=>∃ i,x=.int i∧Q (g i) H
section
variable {X:Cx} {a b c:Expr} {ta tb tc:TE} {pos:Pos}
theorem binT (ha:PE X a ta) (hb:PE X b tb) {pins:List (Addr×Obj)} {s:Shared} {σ:St} {H:Hp} {R:V→V→Hp→Prop} (I:Inv X pins σ H s)
  (h:ta σ H fun x H1=>tb σ H1 fun y H2=>R x y H2) {Q:Value→Shared→Prop} {f:Value→Value→Sem Value}
  (hf:∀ v u s2 x y H2,Inv X pins σ H2 s2→zbT x v→zbT y u→R x y H2→wpAny (model X.prog X.w) X.A (f v u) Q X.xe s2) :
  wpAny (model X.prog X.w) X.A (eval a X.env) (fun v s₁=>wpAny (model X.prog X.w) X.A (eval b X.env) (fun u s₂=>wpAny (model X.prog X.w) X.A (f v u) Q X.xe s₂) X.xe s₁) X.xe s:=by
 refine thn (ha pins s σ H _ I h) fun v s1 hQ'=>?_
 obtain ⟨x,H1,I1,r1,q1⟩:=hQ'
 refine thn (hb pins s1 σ H1 _ I1 q1) fun u s2 hQ'=>?_
 obtain ⟨y,H2,I2,r2,q2⟩:=hQ'
 exact hf v u s2 x y H2 I2 r1 r2 q2
theorem zaP {op:Operator} {r:R2} (ho:OpR X (binaryOp op) r) (ha:PE X a ta) (hb:PE X b tb):PE X (.BinOp a op b pos) (tOp r ta tb):=by
 intro pins s σ H Q I h
 exact wpAny_BinOp (binT ha hb I h fun v u s2 x y H2 I2 rx ry q=>ho pins s2 σ H2 x y v u Q I2 rx ry q)
theorem ze6 {op:UnaryOp} {r:V→Hp→VK→Prop} (ho:UnR X (unaryOp op) r) (ha:PE X a ta):PE X (.UnaryOp op a pos) (tUn r ta):=by
 intro pins s σ H Q I h
 exact UnaryOp_ (thn (ha pins s σ H _ I h) fun v s1 ⟨x,H1,I1,r1,q1⟩=>ho pins s1 σ H1 x v Q I1 r1 q1)
theorem opI {f:Value→Value→Sem Value} {C:Int→Int→Prop} {g:Int→Int→Int}
  (rule:∀ (i j:Int) (t u:Tok) (s:Shared) (Q:Value→Shared→Prop) (E:Value→Shared→Prop),C i j→Q (.int (g i j) s.toks) { s with toks:=s.toks+1 }→wpAny (model X.prog X.w) X.A (f (.int i t) (.int j u)) Q E s) :
  OpR X f (rI C fun i j=>.int (g i j)):=by
 intro pins s σ H x y v u Q I rx ry h
 obtain ⟨i,j,rfl,rfl,hc,q⟩:=h
 obtain ⟨t,rfl⟩:=rx
 obtain ⟨t',rfl⟩:=ry
 exact rule i j t t' s _ _ hc ⟨.int (g i j),H,I.tok _,⟨_,rfl⟩,q⟩
theorem opI0 {f:Value→Value→Sem Value} {g:Int→Int→Int}
  (rule:∀ (i j:Int) (t u:Tok) (s:Shared) (Q:Value→Shared→Prop) (E:Value→Shared→Prop),Q (.int (g i j) s.toks) { s with toks:=s.toks+1 }→wpAny (model X.prog X.w) X.A (f (.int i t) (.int j u)) Q E s) :
  OpR X f (rI0 fun i j=>.int (g i j)):=by
 intro pins s σ H x y v u Q I rx ry h
 obtain ⟨i,j,rfl,rfl,q⟩:=h
 obtain ⟨t,rfl⟩:=rx
 obtain ⟨t',rfl⟩:=ry
 exact rule i j t t' s _ _ ⟨.int (g i j),H,I.tok _,⟨_,rfl⟩,q⟩
theorem opB0 {f:Value→Value→Sem Value} {g:Int→Int→Bool}
  (rule:∀ (i j:Int) (t u:Tok) (s:Shared) (Q:Value→Shared→Prop) (E:Value→Shared→Prop),Q (.bool (g i j)) s→wpAny (model X.prog X.w) X.A (f (.int i t) (.int j u)) Q E s) :
  OpR X f (rI0 fun i j=>.bl (g i j)):=by
 intro pins s σ H x y v u Q I rx ry h
 obtain ⟨i,j,rfl,rfl,q⟩:=h
 obtain ⟨t,rfl⟩:=rx
 obtain ⟨t',rfl⟩:=ry
 exact rule i j t t' s _ _ ⟨.bl (g i j),H,I,rfl,q⟩
def ztE (i j:Int):Prop:=0≤j∧j≤1000000∧i.natAbs<2 ^ 64
theorem zdV:OpR X (binaryOp .Add) (rI0 fun i j=>.int (i+j)):=opI0 fun _ _ _ _ _ _ _ q=>add_int q
theorem zgK:OpR X (binaryOp .Sub) (rI0 fun i j=>.int (i - j)):=opI0 fun _ _ _ _ _ _ _ q=>sub_int q
theorem zkA:OpR X (binaryOp .Mod) (rI (fun _ j=>0<j) fun i j=>.int (i % j)):=opI fun i j _ _ _ _ _ hc q=>by
 have h1:(0:Int)<j:=hc
 exact mod_int' (by (first|lia|omega)) (by rw [Int.fmod_eq_emod_of_nonneg i (by (first|lia|omega))];exact q)
theorem ztz:OpR X (binaryOp .Mod) (rI (fun _ j=>j≠0) fun i j=>.int (i.fmod j)):=opI fun _ _ _ _ _ _ _ hc q=>mod_int' hc q
theorem zrk:OpR X (binaryOp .Pow) (rI ztE fun i j=>.int (i ^ j.toNat)):=opI fun _ _ _ _ _ _ _ hc q=>pow_int_small hc.1 hc.2.1 hc.2.2 q
theorem unI {f:Value→Sem Value} {g:Int→Int}
  (rule:∀ (i:Int) (t:Tok) (s:Shared) (Q:Value→Shared→Prop) (E:Value→Shared→Prop),Q (.int (g i) s.toks) { s with toks:=s.toks+1 }→wpAny (model X.prog X.w) X.A (f (.int i t)) Q E s) :
  UnR X f (rU fun i=>.int (g i)):=by
 intro pins s σ H x v Q I rx h
 obtain ⟨i,rfl,q⟩:=h
 obtain ⟨t,rfl⟩:=rx
 exact rule i t s _ _ ⟨.int (g i),H,I.tok _,⟨_,rfl⟩,q⟩
theorem zc7:UnR X (unaryOp .USub) (rU fun i=>.int (-i)):=unI fun _ _ _ _ _ q=>neg_int q
end
def zuT:V→V→Bool
 | .non,.non=>true | .non,.int _=>true | .int _,.non=>true | .non,.bl _=>true | .bl _,.non=>true | .non,.str _=>true | .str _,.non=>true
 | .int _,.int _=>true | .bl _,.bl _=>true | .str _,.str _=>true | .byt _,.byt _=>true
 | .int _,.str _=>true | .str _,.int _=>true | .bl _,.str _=>true | .str _,.bl _=>true
 | _,_=>false
def rEq:R2:=fun x y H Q=>zuT x y=true∧Q (.bl (decide (x=y))) H
def rNe:R2:=fun x y H Q=>zuT x y=true∧Q (.bl (!decide (x=y))) H
theorem zop {i j:Int}:decide (V.int i=V.int j)=(i == j):=by
 rw [Bool.eq_iff_iff]
 simp
theorem zrd {i j:Bool}:decide (V.bl i=V.bl j)=(i == j):=by
 rw [Bool.eq_iff_iff]
 simp
theorem zph {i j:Str}:decide (V.str i=V.str j)=(i == j):=by
 rw [Bool.eq_iff_iff]
 simp
theorem zoe {i j:Array UInt8}:decide (V.byt i=V.byt j)=(i.toList == j.toList):=by
 rw [Bool.eq_iff_iff]
 cases i
 cases j
 simp
section
variable {X:Cx} {a b c:Expr} {ta tb tc:TE} {pos:Pos}
theorem zbe {pins:List (Addr×Obj)} {σ:St} {H:Hp} {s:Shared} {Q:VK} {k k':Bool} (I:Inv X pins σ H s) (q:Q (.bl k) H) (e:k=k'):EP X pins σ Q (.bool k') s:=by
 subst e
 exact ⟨.bl k,H,I,rfl,q⟩
theorem zgh:OpR X (compareOp .Eq) rEq:=by
 intro pins s σ H x y v u Q I rx ry h
 obtain ⟨hs,q⟩:=h
 cases x with
 | non =>
  cases rx
  cases y with
  | non=>cases ry;exact PySem.EqNone.eq_none_none (zbe I q (by simp))
  | bl j=>cases ry;exact PySem.EqNone.eq_none_bool (zbe I q (by simp))
  | int j=>obtain ⟨t',rfl⟩:=ry;exact PySem.EqNone.eq_none_int (zbe I q (by simp))
  | str j=>obtain ⟨t',rfl⟩:=ry;exact PySem.EqNone.eq_none_str (zbe I q (by simp))
  | _=>exact absurd (show false=true from hs) Bool.false_ne_true
 | bl i =>
  cases rx
  cases y with
  | non=>cases ry;exact PySem.EqNone.eq_bool_none (zbe I q (by simp))
  | bl j=>cases ry;exact eq_bool (zbe I q zrd)
  | str j=>obtain ⟨t',rfl⟩:=ry;exact PySem.EqMixed.eq_bool_str (zbe I q (by simp))
  | _=>exact absurd (show false=true from hs) Bool.false_ne_true
 | int i =>
  obtain ⟨t,rfl⟩:=rx
  cases y with
  | non=>cases ry;exact PySem.EqNone.eq_int_none (zbe I q (by simp))
  | int j=>obtain ⟨t',rfl⟩:=ry;exact eq_int (zbe I q zop)
  | str j=>obtain ⟨t',rfl⟩:=ry;exact PySem.EqMixed.eq_int_str (zbe I q (by simp))
  | _=>exact absurd (show false=true from hs) Bool.false_ne_true
 | str i =>
  obtain ⟨t,rfl⟩:=rx
  cases y with
  | non=>cases ry;exact PySem.EqNone.eq_str_none (zbe I q (by simp))
  | bl j=>cases ry;exact PySem.EqMixed.eq_str_bool (zbe I q (by simp))
  | int j=>obtain ⟨t',rfl⟩:=ry;exact PySem.EqMixed.eq_str_int (zbe I q (by simp))
  | str j=>obtain ⟨t',rfl⟩:=ry;exact eq_str (zbe I q zph)
  | _=>exact absurd (show false=true from hs) Bool.false_ne_true
 | byt i =>
  obtain ⟨t,rfl⟩:=rx
  cases y with
  | byt j=>obtain ⟨t',rfl⟩:=ry;exact PySem.W.eq_bytes (zbe I q zoe)
  | _=>exact absurd (show false=true from hs) Bool.false_ne_true
 | _=>cases y <;> exact absurd (show false=true from hs) Bool.false_ne_true
theorem zs5:OpR X (compareOp .NotEq) rNe:=by
 intro pins s σ H x y v u Q I rx ry h
 obtain ⟨hs,q⟩:=h
 cases x with
 | non =>
  cases rx
  cases y with
  | non=>cases ry;exact PySem.EqNone.ne_none_none (zbe I q (by simp))
  | bl j=>cases ry;exact PySem.EqNone.ne_none_bool (zbe I q (by simp))
  | int j=>obtain ⟨t',rfl⟩:=ry;exact PySem.EqNone.ne_none_int (zbe I q (by simp))
  | str j=>obtain ⟨t',rfl⟩:=ry;exact PySem.EqNone.ne_none_str (zbe I q (by simp))
  | _=>exact absurd (show false=true from hs) Bool.false_ne_true
 | bl i =>
  cases rx
  cases y with
  | non=>cases ry;exact PySem.EqNone.ne_bool_none (zbe I q (by simp))
  | bl j=>cases ry;exact ne_bool (zbe I q (congrArg not zrd))
  | str j=>obtain ⟨t',rfl⟩:=ry;exact PySem.EqMixed.ne_bool_str (zbe I q (by simp))
  | _=>exact absurd (show false=true from hs) Bool.false_ne_true
 | int i =>
  obtain ⟨t,rfl⟩:=rx
  cases y with
  | non=>cases ry;exact PySem.EqNone.ne_int_none (zbe I q (by simp))
  | int j=>obtain ⟨t',rfl⟩:=ry;exact ne_int (zbe I q (congrArg not zop))
  | str j=>obtain ⟨t',rfl⟩:=ry;exact PySem.EqMixed.ne_int_str (zbe I q (by simp))
  | _=>exact absurd (show false=true from hs) Bool.false_ne_true
 | str i =>
  obtain ⟨t,rfl⟩:=rx
  cases y with
  | non=>cases ry;exact PySem.EqNone.ne_str_none (zbe I q (by simp))
  | bl j=>cases ry;exact PySem.EqMixed.ne_str_bool (zbe I q (by simp))
  | int j=>obtain ⟨t',rfl⟩:=ry;exact PySem.EqMixed.ne_str_int (zbe I q (by simp))
  | str j=>obtain ⟨t',rfl⟩:=ry;exact ne_str (zbe I q (congrArg not zph))
  | _=>exact absurd (show false=true from hs) Bool.false_ne_true
 | byt i =>
  obtain ⟨t,rfl⟩:=rx
  cases y with
  | byt j=>obtain ⟨t',rfl⟩:=ry;exact PySem.W.ne_bytes (zbe I q (congrArg not zoe))
  | _=>exact absurd (show false=true from hs) Bool.false_ne_true
 | _=>cases y <;> exact absurd (show false=true from hs) Bool.false_ne_true
theorem zhQ:OpR X (compareOp .Lt) (rI0 fun i j=>.bl (decide (i<j))):=opB0 fun _ _ _ _ _ _ _ q=>lt_int q
theorem zq6:OpR X (compareOp .LtE) (rI0 fun i j=>.bl (decide (i≤j))):=opB0 fun _ _ _ _ _ _ _ q=>le_int q
theorem zqz:OpR X (compareOp .Gt) (rI0 fun i j=>.bl (decide (j<i))):=opB0 fun _ _ _ _ _ _ _ q=>gt_int q
theorem op_ge:OpR X (compareOp .GtE) (rI0 fun i j=>.bl (decide (j≤i))):=opB0 fun _ _ _ _ _ _ _ q=>ge_int q
theorem zub:OpR X (compareOp .Is) (fun x y H Q=>y=.non∧Q (.bl (decide (x=.non))) H):=by
 intro pins s σ H x y v u Q I rx ry h
 obtain ⟨rfl,q⟩:=h
 cases ry
 refine is_none_gen (zbe I q ?_)
 cases x <;> first
  | (cases rx;rfl)
  | (obtain ⟨t,rfl⟩:=rx;rfl)
theorem zl2:OpR X (compareOp .IsNot) (fun x y H Q=>y=.non∧Q (.bl (!decide (x=.non))) H):=by
 intro pins s σ H x y v u Q I rx ry h
 obtain ⟨rfl,q⟩:=h
 cases ry
 refine isnot_none_gen (zbe I q ?_)
 cases x <;> first
  | (cases rx;rfl)
  | (obtain ⟨t,rfl⟩:=rx;rfl)
theorem za4 (b:Expr) {op:CmpOp} (h:op≠.In:=by decide) (h2:op≠.NotIn:=by decide):behindInMarks op b=false:=by
 have e1:(op == CmpOp.In)=false:=by cases op <;> first | rfl | exact absurd rfl h
 have e2:(op == CmpOp.NotIn)=false:=by cases op <;> first | rfl | exact absurd rfl h2
 cases b <;> simp [behindInMarks,e1,e2]
theorem zhS {op:CmpOp} {r:R2} (ho:OpR X (compareOp op) r) (ha:PE X a ta) (hb:PE X b tb) (hm:behindInMarks op b=false):PE X (.Compare a [op] [b] pos) (tOp r ta tb):=by
 intro pins s σ H Q I h
 exact wpAny_Compare1 (binT ha hb I h fun v u s2 x y H2 I2 rx ry q=>ho pins s2 σ H2 x y v u Q I2 rx ry q) hm
def zaQ (t:TE):TT:=fun σ H Q=>t σ H fun x H'=>∃ k,x=.bl k∧Q k H'
theorem zaU {op:CmpOp} {r:R2} (ho:OpR X (compareOp op) r) (ha:PE X a ta) (hb:PE X b tb) (hm:behindInMarks op b=false):PT X (.Compare a [op] [b] pos) (zaQ (tOp r ta tb)):=by
 intro pins s σ H Q I h
 refine wpAny_isTrue_Compare1 (thn (ha pins s σ H _ I h) fun v s1 ⟨x,H1,I1,r1,q1⟩=>thn (hb pins s1 σ H1 _ I1 q1) fun u s2 ⟨y,H2,I2,r2,q2⟩ =>
  thn (ho pins s2 σ H2 x y v u _ I2 r1 r2 q2) fun c s3 ⟨z,H3,I3,r3,k,e,q3⟩=>?_) hm
 subst e
 cases r3
 exact wpAny_truthy_bool ⟨H3,I3,q3⟩
def zjq (r r':R2) (ta tb tc:TE):TE:=fun σ H Q=>ta σ H fun x H1=>tb σ H1 fun y H2=>r x y H2 fun z H3=>∃ k,z=.bl k ∧
 (if k=true then tc σ H3 fun w' H4=>r' y w' H4 Q else Q (.bl false) H3)
theorem zqu {op op':CmpOp} {r r':R2} (ho:OpR X (compareOp op) r) (ho':OpR X (compareOp op') r') (ha:PE X a ta) (hb:PE X b tb) (hc:PE X c tc)
  (hm:lastMarks [op,op'] [b,c]=false:=by with_unfolding_all rfl):PE X (.Compare a [op,op'] [b,c] pos) (zjq r r' ta tb tc):=by
 intro pins s σ H Q I h
 refine Compare_chain (thn (ha pins s σ H _ I h) fun v s1 ⟨x,H1,I1,r1,q1⟩=>chain_link (thn (hb pins s1 σ H1 _ I1 q1) fun u s2 ⟨y,H2,I2,r2,q2⟩ =>
  thn (ho pins s2 σ H2 x y v u _ I2 r1 r2 q2) fun d s3 ⟨z,H3,I3,r3,k,e,q3⟩=>?_)) hm
 subst e
 cases r3
 refine wpAny_truthy_bool ?_
 cases k with
 | false=>exact ite_ff ⟨.bl false,H3,I3,rfl,q3⟩
 | true=>exact ite_tt (chain_last (thn (hc pins s3 σ H3 _ I3 q3) fun w' s4 ⟨z',H4,I4,r4,q4⟩=>ho' pins s4 σ H4 y z' u w' Q I4 r2 r4 q4))
theorem zpO {op op':CmpOp} {r r':R2} (ho:OpR X (compareOp op) r) (ho':OpR X (compareOp op') r') (ha:PE X a ta) (hb:PE X b tb) (hc:PE X c tc)
  (hm:lastMarks [op,op'] [b,c]=false:=by with_unfolding_all rfl):PT X (.Compare a [op,op'] [b,c] pos) (zaQ (zjq r r' ta tb tc)):=by
 intro pins s σ H Q I h
 refine isTrue_chain (thn (ha pins s σ H _ I h) fun v s1 ⟨x,H1,I1,r1,q1⟩=>test_link (thn (hb pins s1 σ H1 _ I1 q1) fun u s2 ⟨y,H2,I2,r2,q2⟩ =>
  thn (ho pins s2 σ H2 x y v u _ I2 r1 r2 q2) fun d s3 ⟨z,H3,I3,r3,k,e,q3⟩=>?_)) hm
 subst e
 cases r3
 refine wpAny_truthy_bool ?_
 cases k with
 | false =>
  obtain ⟨k',e',q'⟩:=q3
  cases e'
  exact ite_ff ⟨H3,I3,q'⟩
 | true =>
  refine ite_tt (test_last (thn (hc pins s3 σ H3 _ I3 q3) fun w' s4 ⟨z',H4,I4,r4,q4⟩=>thn (ho' pins s4 σ H4 y z' u w' _ I4 r2 r4 q4) fun d' s5 hQ'=>?_))
  obtain ⟨z2,H5,I5,r5,k2,e2,q5⟩:=hQ'
  subst e2
  cases r5
  exact wpAny_truthy_bool ⟨H5,I5,q5⟩
def zu2 (K:PySem.W.Frag) (x:V) (H:Hp) (k:Bool):Prop :=
 match x with
 | .non=>k=false
 | .bl b=>k=b
 | .int i=>k=(i != 0)
 | .str y=>y.length≤sizeLine∧k=((y.length:Int) != 0)
 | .byt y=>y.size≤sizeLine∧k=((y.size:Int) != 0)
 | .ref p=>(∃ xs,SqL K H p xs∧k=!xs.isEmpty)∨(∃ xs,SqT K H p xs∧k=!xs.isEmpty)∨∃ kvs,H p=some (.dK kvs)∧k=!kvs.isEmpty
 | _=>False
theorem znu {κ:Type} {kvs:List (κ×V)} {vs:List (κ×Value)} (r:KV kvs vs):(!vs.isEmpty)=!kvs.isEmpty:=by
 cases r <;> rfl
theorem zjk {xs:List V} {its:List Value} (r:zbs xs its):(!its.toArray.isEmpty)=!xs.isEmpty:=by
 cases r <;> simp
theorem zkV:(sizeLine:Nat)<2 ^ 63:=by rw [sizeLine_eq];decide
theorem ztL:TruR X (fun x H Q=>∃ k,zu2 X.K x H k∧Q k H):=by
 intro pins s σ H x v Q I rx h
 obtain ⟨k,e,q⟩:=h
 have hl:=zkV
 have hs:sizeLine=16777216:=sizeLine_eq
 cases x with
 | non =>
  cases rx
  have e':k=false:=e
  subst e'
  exact truthy_none ⟨H,I,q⟩
 | bl b =>
  cases rx
  have e':k=b:=e
  subst e'
  exact wpAny_truthy_bool ⟨H,I,q⟩
 | int i =>
  obtain ⟨t,rfl⟩:=rx
  have e':k=(i != 0):=e
  subst e'
  exact PySem.P.truthy_int ⟨H,I,q⟩
 | str y =>
  obtain ⟨t,rfl⟩:=rx
  obtain ⟨hy,e'⟩:y.length≤sizeLine∧k=((y.length:Int) != 0):=e
  subst e'
  exact PySem.P.truthy_str (by (first|lia|omega)) ⟨H,I.tok _,q⟩
 | byt y =>
  obtain ⟨t,rfl⟩:=rx
  obtain ⟨hy,e'⟩:y.size≤sizeLine∧k=((y.size:Int) != 0):=e
  subst e'
  exact PySem.W.truthy_bytes (by (first|lia|omega)) ⟨H,I.tok _,q⟩
 | ref p =>
  cases rx
  have e':(∃ xs,SqL X.K H p xs∧k=!xs.isEmpty)∨(∃ xs,SqT X.K H p xs∧k=!xs.isEmpty)∨∃ kvs,H p=some (.dK kvs)∧k=!kvs.isEmpty:=e
  rcases e' with ⟨xs,hx,e'⟩ | ⟨xs,hx,e'⟩ | ⟨kvs,hx,e'⟩
  ·subst e'
   obtain ⟨its,r,pl,hz⟩:=I.list hx
   have hlen:=r.length
   exact wpAny_truthy_list pl.isList (by simp only [List.size_toArray];(first|lia|omega)) ⟨H,I.tok _,by rw [zjk r];exact q⟩
  ·subst e'
   obtain ⟨its,r,pl,hz⟩:=I.tuple hx
   have hlen:=r.length
   exact truthy_tuple pl (by simp only [List.size_toArray];(first|lia|omega)) ⟨H,I.tok _,by rw [zjk r];exact q⟩
  ·subst e'
   obtain ⟨hz,hS,vs,r,m⟩:kvs.length≤sizeLine∧(p == sysModules)=false∧∃ vs,KV kvs vs∧s.heap.DictOf (zmm X.prog X.w) p vs:=I.hok p _ hx
   have hlen:kvs.length=vs.length:=Paired.length r
   exact wpAny_truthy_dict hS m (by (first|lia|omega)) ⟨H,I.tok _,by rw [znu r];exact q⟩
 | _=>exact (show False from e).elim
theorem zmP (ha:PE X a ta) (he:∀ whole,isTrue a X.env whole=(do let v ← whole;standAt a.pos;holding [v] (truthy v))) :
  PT X a (fun σ H Q=>ta σ H fun x H'=>∃ k,zu2 X.K x H' k∧Q k H'):=by
 intro pins s σ H Q I h
 exact isTrue_plain (thn (ha pins s σ H _ I h) fun v s1 ⟨x,H1,I1,r1,q1⟩=>ztL pins s1 σ H1 x v Q I1 r1 q1) (he _)
theorem zmV {x:V} {us:List Value} (r:zbs [x] us):∃ u,us=[u]∧zbT x u:=by
 cases r with
 | cons r1 r2=>cases r2;exact ⟨_,rfl,r1⟩
theorem zuw {x y:V} {us:List Value} (r:zbs [x,y] us):∃ u w',us=[u,w']∧zbT x u∧zbT y w':=by
 cases r with
 | cons r1 r2 =>
  cases r2 with
  | cons r3 r4=>cases r4;exact ⟨_,_,rfl,r1,r3⟩
theorem zmG:zgD X (.builtin "abs") (fun xs H Q=>∃ i,xs=[.int i]∧Q (.int (if i<0 then -i else i)) H):=by
 intro pins s σ H xs us Q I r h
 obtain ⟨i,rfl,q⟩:=h
 obtain ⟨u,rfl,t,rfl⟩:=zmV r
 exact call_abs_int fun u tk=>⟨.int (if i<0 then -i else i),H,I.tok _,⟨_,rfl⟩,q⟩
end
end L2
namespace L2
open PySem PySem.Spec PyProof.Rows
structure zsy (h:Heap) (x dx C:Addr) (mA:Str→Option Value):Prop where
 obj:h.get? x=some (PySem.W.instObj C dx)
 ns:h.Ns1 dx mA
 ne:dx≠x
theorem zoI {h:Heap} {dx:Addr} {mA:Str→Option Value} (n:h.Ns1 dx mA):∃ od,h.get? dx=some od∧∀ name,PySem.W.lookIn name od=some (mA name):=by
 obtain ⟨o,es,ep,ho,hd,hk,_,hm⟩:=n
 refine ⟨o,ho,fun name=>?_⟩
 have e:=hm name
 unfold nsFind findBy at e
 rw [← Array.find?_toList] at e
 unfold PySem.W.lookIn
 rw [hd]
 dsimp only
 split
 ·rename_i y q
  rw [q] at e
  exact congrArg some e
 ·rename_i q
  rw [q] at e
  have a:es.toList.any (·.refKey)=false:=by
   rw [List.any_eq_false]
   intro y hy
   obtain ⟨z,t,hkey⟩:=hk y (Array.mem_toList_iff.mp hy)
   simp [DictEntry.refKey,hkey]
  have a':¬ es.toList.any (·.refKey)=true:=by rw [a];exact Bool.false_ne_true
  rw [if_neg a']
  exact congrArg some e
theorem zsy.look {h:Heap} {x dx C:Addr} {mA:Str→Option Value} (I:zsy h x dx C mA):∃ od,PySem.W.InstAt h x (PySem.W.instObj C dx) C (some od)∧∀ name,PySem.W.lookIn name od=some (mA name) :=
 let ⟨od,ho,hl⟩:=zoI I.ns
 ⟨od,⟨I.obj,rfl,rfl,ho⟩,hl⟩
section
variable {prog:Program} {w:World} {A:Around} {E:Value→Shared→Prop} {s:Shared} {K:PySem.W.Frag} {x dx C f:Addr} {mA:Str→Option Value} {name:Str} {v:Value}
theorem zsw {expr:Bool} {Q:Value→Shared→Prop} (X:K.In s.heap) (I:zsy s.heap x dx C mA) (hg:PySem.W.plainGet K C name=true) (hh:PySem.W.hasDictIn K C=true)
  (ha:PySem.W.findIn K (.ref C) name=some none) (hv:mA name=some v) (hv':PySem.W.handedIn v=true) (h:Q v { s with toks:=s.toks+1 }) :
  wpAny (model prog w) A (getAttr (.ref x) name expr) Q E s:=by
 obtain ⟨od,J,hl⟩:=I.look
 exact PySem.W.get_value X J (PySem.W.plainGet_of hg).1 (PySem.W.findObj_own hh ha rfl (by rw [hl,hv])) hv' h
theorem zqy {pl:Sem Bool} {Q:Value×List Value→Shared→Prop} (X:K.In s.heap) (I:zsy s.heap x dx C mA) (hg:PySem.W.plainGet K C name=true)
  (hf:PySem.W.findIn K (.ref C) name=some (some (.ref f))) (ht:PySem.W.isFn K (.ref f)=true) (hv:mA name=none) (h:Q (.ref f,[.ref x]) s) :
  wpAny (model prog w) A (getMethod (.ref x) name pl) Q E s:=by
 obtain ⟨od,J,hl⟩:=I.look
 exact PySem.W.method_fn X J (PySem.W.plainGet_of hg).1 (PySem.W.plainGet_of hg).2 hf (beq_iff_eq.mp ht) (by show (PySem.W.lookIn name od).map (·.isSome)=some false;rw [hl,hv];rfl) h
theorem zsD {ns:List Str} {Q:Unit→Shared→Prop} (X:K.In s.heap) (I:zsy s.heap x dx C mA)
  (hs:PySem.W.findIn K (.ref C) "__setattr__"=some (some (.builtin "object.__setattr__"))) (hp:PySem.W.plainOver K C=true) (ht:PySem.W.takerIn K C name=some none) (hh:PySem.W.hasDictIn K C=true)
  (hw:PySem.Within mA ns) (hsz:ns.length≤sizeLine)
  (h:∀ h',zsy h' x dx C (fun y=>if y=name then some v else mA y)→Heap.SameBut dx s.heap h'→Q () { s with heap:=h',toks:=s.toks+2 }) :
  wpAny (model prog w) A (setAttr (.ref x) name v) Q E s:=by
 obtain ⟨od,J,hl⟩:=I.look
 refine PySem.W.set_plain X J hs (PySem.W.osa_open (s:={ s with toks:=s.toks+1 }) (r:=none) X J hp ht fun b=>?_)
 obtain ⟨cd,hc,hd'⟩:=PySem.W.any_some hh
 have hx:s.heap.get? x=some ⟨.ref C,some dx,.plain,#[]⟩:=I.obj
 refine wpAny_bind (wpAny_pure (wpAny_bind (wpAny_bind (wpAny_loadPart hx (wpAny_bind (PySem.W.Looks.here (s:={ s with toks:=s.toks+1 }) (PySem.W.looks_clsIn X hc) ?_))))))
 rw [hd']
 refine wpAny_pure (a:=some dx) (wpAny_bind (wpAny_pure (wpAny_bind ?_)))
 refine wpAny_nsSet1 (s:={ s with toks:=s.toks+1 }) I.ns fun h' hn2 hs2=>?_
 obtain ⟨oD,esD,epD,hoD,hdD,hcD⟩:=hn2.count (PySem.Within.cons name v hw)
 refine wpAny_bind (wpAny_lookBehind hoD (by rw [hdD];exact pastItsLine_dict (Nat.le_trans hcD (by rw [List.length_cons];(first|lia|omega)))) ?_)
 exact wpAny_pure (h _ ⟨(hs2.2 _ (Ne.symm I.ne)).trans I.obj,hn2,I.ne⟩ hs2)
theorem zqK {R:Result→Shared→Prop} {vs:List Value} {kw:List (Str×Value)} (X:K.In s.heap) (hm:PySem.W.makesIn K C=true)
  (hi:PySem.W.findIn K (.ref C) "__init__"=some (some (.ref f))) (hf:PySem.W.typeIn K (.ref f)=some (.type "function"))
  (h:codeAny (model prog w) (A.under (.builtin "type.__call__" ⟨.ref C::vs,kw⟩)) (.call (.ref f) ⟨.ref (s.heap.objs.size+1)::vs,kw⟩) (PySem.W.InitBack (s.heap.objs.size+1) R)
   { s with heap:=(s.heap.push PySem.W.emptyDict).push (PySem.W.instObj C s.heap.objs.size) }) :
  codeAny (model prog w) A (.call (.ref C) ⟨vs,kw⟩) R s:=by
 obtain ⟨hh,g,d,t,os⟩:=s
 exact PySem.W.make_core (PySem.W.makes_of X hm) (PySem.W.looks_findIn X hi) (fun self=>PySem.W.bind_fn X self hf) (.inl rfl) h
end
def zho (f:Str) (v:V):List (Str×V)→List (Str×V)
 | []=>[(f,v)]
 | (g,x)::r=>if g=f then (g,v)::r else (g,x)::zho f v r
theorem zil (f g:Str) (v:V):∀ fs:List (Str×V),(zho f v fs).lookup g=if g=f then some v else fs.lookup g
 | []=>by
  show List.lookup g [(f,v)]=_
  by_cases h:g=f
  ·have hb:(g == f)=true:=beq_iff_eq.mpr h
   simp only [List.lookup,hb,if_pos h]
  ·have hb:(g == f)=false:=beq_eq_false_iff_ne.mpr h
   simp only [List.lookup,hb,if_neg h]
 | (k,x)::r=>by
  have ih:=zil f g v r
  rw [show zho f v ((k,x)::r)=(if k=f then (k,v)::r else (k,x)::zho f v r) from rfl]
  by_cases hk:k=f
  ·rw [if_pos hk]
   by_cases h:g=k
   ·have hb:(g == k)=true:=beq_iff_eq.mpr h
    simp only [List.lookup,hb,if_pos (h.trans hk)]
   ·have hb:(g == k)=false:=beq_eq_false_iff_ne.mpr h
    simp only [List.lookup,hb,if_neg (fun e:g=f=>h (e.trans hk.symm))]
  ·rw [if_neg hk]
   by_cases h:g=k
   ·have hb:(g == k)=true:=beq_iff_eq.mpr h
    simp only [List.lookup,hb,if_neg (fun e:g=f=>hk (h.symm.trans e))]
   ·have hb:(g == k)=false:=beq_eq_false_iff_ne.mpr h
    simp only [List.lookup,hb]
    exact ih
theorem zhH (f:Str) (v:V):∀ fs:List (Str×V),f∈(zho f v fs).map (·.1)∧∀ g,g∈fs.map (·.1)→g∈(zho f v fs).map (·.1)
 | []=>⟨by simp [zho],fun g h=>by simp at h⟩
 | (k,x)::r=>by
  obtain ⟨i1,i2⟩:=zhH f v r
  rw [show zho f v ((k,x)::r)=(if k=f then (k,v)::r else (k,x)::zho f v r) from rfl]
  by_cases hk:k=f
  ·rw [if_pos hk]
   subst hk
   exact ⟨by simp,fun g h=>by simpa using h⟩
  ·rw [if_neg hk]
   refine ⟨?_,fun g h=>?_⟩
   ·rw [List.map_cons]
    exact List.mem_cons_of_mem _ i1
   ·rw [List.map_cons] at h ⊢
    rcases List.mem_cons.mp h with e | e
    ·exact List.mem_cons.mpr (.inl e)
    ·exact List.mem_cons_of_mem _ (i2 g e)
theorem zid (f:Str) (v:V):∀ fs:List (Str×V),(zho f v fs).length≤fs.length+1
 | []=>by simp [zho]
 | (k,x)::r=>by
  have ih:=zid f v r
  rw [show zho f v ((k,x)::r)=(if k=f then (k,v)::r else (k,x)::zho f v r) from rfl]
  by_cases hk:k=f
  ·rw [if_pos hk,List.length_cons,List.length_cons];(first|lia|omega)
  ·rw [if_neg hk,List.length_cons,List.length_cons];(first|lia|omega)
theorem zpp.some_of {v:V} {o:Option Value} (r:zpp (some v) o):∃ u,o=some u∧zbT v u:=by
 cases o with
 | none=>exact (show False from r).elim
 | some u=>exact ⟨u,rfl,r⟩
theorem zpp.none_of {o:Option Value} (r:zpp none o):o=none:=by
 cases o with
 | none=>rfl
 | some u=>exact (show False from r).elim
theorem zon {v:V} {u:Value} (r:zbT v u):PySem.W.handedIn u=true:=by
 cases v with
 | non=>cases (show u=Value.none from r);rfl
 | bl b=>cases (show u=Value.bool b from r);rfl
 | int i=>obtain ⟨t,e⟩:=(show ∃ t,u=Value.int i t from r);cases e;rfl
 | str x=>obtain ⟨t,e⟩:=(show ∃ t,u=Value.str x t from r);cases e;rfl
 | byt b=>obtain ⟨t,e⟩:=(show ∃ t,u=Value.bytes b t from r);cases e;rfl
 | flt b=>obtain ⟨t,e⟩:=(show ∃ t,u=Value.float b t from r);cases e;rfl
 | ref a=>cases (show u=Value.ref a from r);rfl
 | ty n=>cases (show u=Value.type n from r);rfl
section
variable {P:Program} {w:World} {H H':Hp} {h h':Heap} {a C dx:Addr} {fs fs':List (Str×V)}
theorem zke (hok:HOk P w H h) (e:H a=some (.ins C dx fs)):∃ mA,zsy h a dx C mA∧(∀ f,zpp (fs.lookup f) (mA f))∧PySem.Within mA (fs.map (·.1))∧fs.length≤1000∧H dx=some (.own a):=by
 obtain ⟨d,z,ne,ob,mA,n,r,q⟩:=(show zca P w H h a (.ins C dx fs) from hok a _ e)
 exact ⟨mA,⟨ob,n,ne⟩,r,q,z,d⟩
end
structure Cls (K:PySem.W.Frag) (C:Addr):Prop where
 pg:PySem.W.plainGet K C Str.empty=true
 hd:PySem.W.hasDictIn K C=true
 po:PySem.W.plainOver K C=true
 sa:PySem.W.findIn K (.ref C) "__setattr__"=some (some (.builtin "object.__setattr__"))
theorem Cls.get {K:PySem.W.Frag} {C:Addr} (c:Cls K C) (f:Str):PySem.W.plainGet K C f=true:=c.pg
def zcd (K:PySem.W.Frag) (C:Addr) (f:Str):Prop:=PySem.W.findIn K (.ref C) f=some none
theorem zcd.taker {K:PySem.W.Frag} {C:Addr} {f:Str} (n:zcd K C f):PySem.W.takerIn K C f=some none:=by
 unfold PySem.W.takerIn
 rw [show PySem.W.findIn K (.ref C) f=some none from n]
 rfl
structure zjd (K:PySem.W.Frag) (C:Addr) (m:Str) (f:Addr):Prop where
 at_:PySem.W.findIn K (.ref C) m=some (some (.ref f))
 fn:PySem.W.isFn K (.ref f)=true
 kp:PySem.W.keepIn K (.ref f)=true
section
variable {X:Cx} {pins:List (Addr×Obj)} {σ:St} {H:Hp} {s:Shared} {a C dx:Addr} {fs:List (Str×V)} {f:Str} {v:V} {A:Around} {E:Value→Shared→Prop}
theorem zm4 {b:Bool} {Q:Value→Shared→Prop} (I:Inv X pins σ H s) (e:H a=some (.ins C dx fs)) (c:Cls X.K C) (n:zcd X.K C f) (l:fs.lookup f=some v)
  (h:∀ u s',Inv X pins σ H s'→zbT v u→Q u s'):wpAny (model X.prog X.w) A (getAttr (.ref a) f b) Q E s:=by
 obtain ⟨mA,O,r,_,_,_⟩:=zke I.hok e
 obtain ⟨u,hu,ru⟩:=zpp.some_of (v:=v) (o:=mA f) (by rw [← l];exact r f)
 exact zsw I.kIn O (c.get f) c.hd n hu (zon ru) (h u _ (I.tok _) ru)
theorem zi2 {m:Str} {g:Addr} {pl:Sem Bool} {Q:Value×List Value→Shared→Prop} (I:Inv X pins σ H s) (e:H a=some (.ins C dx fs)) (c:Cls X.K C) (k:zjd X.K C m g) (l:fs.lookup m=none)
  (h:Q (.ref g,[.ref a]) s):wpAny (model X.prog X.w) A (getMethod (.ref a) m pl) Q E s:=by
 obtain ⟨mA,O,r,_,_,_⟩:=zke I.hok e
 have hn:mA m=none:=zpp.none_of (by rw [← l];exact r m)
 exact zqy I.kIn O (c.get m) k.at_ k.fn hn h
theorem zm6 {y:V} {u:Value} {Q:Unit→Shared→Prop} (I:Inv X pins σ H s) (e:H a=some (.ins C dx fs)) (c:Cls X.K C) (n:zcd X.K C f) (hl:fs.length<1000) (ry:zbT y u)
  (h:∀ s',Inv X pins σ (upd H a (.ins C dx (zho f y fs))) s'→Q () s'):wpAny (model X.prog X.w) A (setAttr (.ref a) f u) Q E s:=by
 obtain ⟨mA,O,r,wi,_,ho⟩:=zke I.hok e
 have hz:(fs.map (·.1)).length≤sizeLine:=by rw [List.length_map,sizeLine_eq];(first|lia|omega)
 refine zsD I.kIn O c.sa c.po n.taker c.hd wi hz fun h' O' sb=>h _ ?_
 have hd:∃ o,h'.get? dx=some o:=let ⟨o,_,_,e',_⟩:=O'.ns;⟨o,e'⟩
 refine I.write (x:=a) (e:=dx) (by rw [e];exact True.intro) (.inr ho) (fun b q hb z=>(sb.2 b hb).trans z) hd ?_
 refine ⟨by rw [zal O.ne];exact ho,?_,O.ne,O'.obj,_,O'.ns,fun g=>?_,fun g hg=>?_⟩
 ·have:=zid f y fs;(first|lia|omega)
 ·show zpp ((zho f y fs).lookup g) (if g=f then some u else mA g)
  rw [zil]
  by_cases q:g=f
  ·rw [if_pos q,if_pos q];exact ry
  ·rw [if_neg q,if_neg q];exact r g
 ·by_cases q:g=f
  ·rw [q];exact (zhH f y fs).1
  ·refine (zhH f y fs).2 g (wi g fun z=>hg ?_)
   show (if g=f then some u else mA g)=none
   rw [if_neg q];exact z
theorem Inv.made (I:Inv X pins σ H s):Inv X pins σ (upd (upd H s.heap.objs.size (.own (s.heap.objs.size+1))) (s.heap.objs.size+1) (.ins C s.heap.objs.size []))
  { s with heap:=(s.heap.push PySem.W.emptyDict).push (PySem.W.instObj C s.heap.objs.size) }:=by
 have e1:(s.heap.push PySem.W.emptyDict).get? s.heap.objs.size=some PySem.W.emptyDict:=Heap.get?_push_size s.heap rfl
 have e2:((s.heap.push PySem.W.emptyDict).push (PySem.W.instObj C s.heap.objs.size)).get? (s.heap.objs.size+1)=some (PySem.W.instObj C s.heap.objs.size):=by
  have:=Heap.get?_push_size (s.heap.push PySem.W.emptyDict) (o:=PySem.W.instObj C s.heap.objs.size) rfl
  rwa [Heap.size_push] at this
 have e3:(s.heap.push PySem.W.emptyDict).Ns s.heap.objs.size (fun _=>none):=⟨PySem.W.emptyDict,#[],_,e1,rfl,(fun e he=>absurd he (by simp)),fun _=>rfl⟩
 have I1:=I.laid (a:=s.heap.objs.size) (o:=.own (s.heap.objs.size+1)) (h':=s.heap.push PySem.W.emptyDict) (t':=s.toks) (fun b u q=>Heap.get?_push_of_some _ q) (Nat.le_refl _) ⟨_,e1⟩
 refine I1.laid (a:=s.heap.objs.size+1) (o:=.ins C s.heap.objs.size []) (t':=s.toks) (fun b u q=>Heap.get?_push_of_some _ q) (Nat.le_of_eq (Heap.size_push _ _)) ?_
 have ne:s.heap.objs.size≠s.heap.objs.size+1:=Nat.ne_of_lt (Nat.lt_succ_self _)
 refine ⟨by rw [zal ne,zag],Nat.zero_le _,ne,e2,fun _=>none,(Heap.Ns1.of_empty e3).at fun o q=>Heap.get?_push_of_some _ q,fun _=>True.intro,fun y hy=>absurd rfl hy⟩
theorem zrR {prog:Program} {w:World} {env:Env} {e:Expr} {f:Str} {pos:Pos} {s:Shared} {Q:Value→Shared→Prop} (hb:attributeBase e f env (eval e env)=eval e env)
  (h:wpAny (model prog w) A (eval e env) (fun o s₁=>wpAny (model prog w) A (getAttr o f true) Q E s₁) E s):wpAny (model prog w) A (eval (.Attribute e f pos) env) Q E s :=
 Attribute_any_ h (by rw [arm_eval_Attribute,hb])
end
section
variable {X:Cx} {o e value:Expr} {f:Str} {pos pos' tpos:Pos} {ta tv:TE}
end
section
variable {X:Cx} {pins:List (Addr×Obj)} {σ:St} {H:Hp} {s:Shared} {A:Around} {E:Value→Shared→Prop} {Q:Value→Shared→Prop} {c:Value} {b:Bool}
inductive zmK (K:PySem.W.Frag) (H:Hp):V→Value→Prop where
 | non:zmK K H .non (.type "NoneType")
 | bl (x:Bool):zmK K H (.bl x) (.type "bool")
 | int (i:Int):zmK K H (.int i) (.type "int")
 | str (x:Str):zmK K H (.str x) (.type "str")
 | flt (x:UInt64):zmK K H (.flt x) (.type "float")
 | lst {a:Addr} {xs:List V} (e:H a=some (.lst xs)):zmK K H (.ref a) (.type "list")
 | frz {a:Addr} {o:Obj} {xs:List V} (e:H a=some (.frz o (.lst xs))):zmK K H (.ref a) (.type "list")
 | tup {a:Addr} {xs:List V} (e:H a=some (.tup xs)):zmK K H (.ref a) (.type "tuple")
 | dK {a:Addr} {kvs:List (Key×V)} (e:H a=some (.dK kvs)):zmK K H (.ref a) (.type "dict")
 | dT {a:Addr} {kvs:List (List Key×V)} (e:H a=some (.dT kvs)):zmK K H (.ref a) (.type "dict")
 | ins {a C dx:Addr} {fs:List (Str×V)} (e:H a=some (.ins C dx fs)) (cl:Cls K C) (ha:PySem.W.findIn K (.ref C) "__class__"=some (some (.builtin "object.__class__")))
   (hn:PySem.W.specialIn K (.builtin "object.__class__") "__get__"=some (some (.builtin "getset_descriptor.__get__"))) (htk:PySem.W.takesIn K (.builtin "object.__class__")=some true)
   (hm:PySem.W.mroIn K C (.type "object")=some true):zmK K H (.ref a) (.ref C)
theorem zoa {x:V} {u t:Value} (I:Inv X pins σ H s) (rx:zbT x u) (ty:zmK X.K H x t) (e:PySem.W.kitOne X.K t c=some b) (h:∀ tk,Q (.bool b) { s with toks:=tk }) :
  wpAny (model X.prog X.w) A (call (.builtin "isinstance") [u,c]) Q E s:=by
 cases ty with
 | non=>cases (show u=Value.none from rx);exact PySem.W.kia_one PySem.W.kitx_none I.kIn True.intro e (fun z=>nomatch z) h
 | bl y=>cases (show u=Value.bool y from rx);exact PySem.W.kia_one PySem.W.kitx_bool I.kIn True.intro e (fun z=>nomatch z) h
 | int i=>obtain ⟨t,q⟩:=(show ∃ t,u=Value.int i t from rx);cases q;exact PySem.W.kia_one PySem.W.kitx_int I.kIn True.intro e (fun z=>nomatch z) h
 | str y=>obtain ⟨t,q⟩:=(show ∃ t,u=Value.str y t from rx);cases q;exact PySem.W.kia_one PySem.W.kitx_str I.kIn True.intro e (fun z=>nomatch z) h
 | flt y=>obtain ⟨t,q⟩:=(show ∃ t,u=Value.float y t from rx);cases q;exact PySem.W.kia_one PySem.W.kitx_float I.kIn True.intro e (fun z=>nomatch z) h
 | @lst a xs ea =>
  cases (show u=Value.ref a from rx)
  obtain ⟨_,_,n,_,h1⟩:=(show zca X.prog X.w H s.heap a (.lst xs) from I.hok a _ ea)
  exact PySem.W.kia_one PySem.W.kitx_list I.kIn ⟨_,h1,rfl⟩ e (fun z=>nomatch z) h
 | @frz a ob xs ea =>
  cases (show u=Value.ref a from rx)
  obtain ⟨_,_,_,n,_,h1⟩:=(show zca X.prog X.w H s.heap a (.frz ob (.lst xs)) from I.hok a _ ea)
  exact PySem.W.kia_one PySem.W.kitx_list I.kIn ⟨_,h1,rfl⟩ e (fun z=>nomatch z) h
 | @tup a xs ea =>
  cases (show u=Value.ref a from rx)
  obtain ⟨_,_,_,p⟩:=(show zca X.prog X.w H s.heap a (.tup xs) from I.hok a _ ea)
  obtain ⟨o,h1,h2,_⟩:=p
  exact PySem.W.kia_one PySem.W.kitx_tuple I.kIn ⟨o,h1,h2⟩ e (fun z=>nomatch z) h
 | @dK a kvs ea =>
  cases (show u=Value.ref a from rx)
  obtain ⟨_,_,vs,_,p⟩:=(show zca X.prog X.w H s.heap a (.dK kvs) from I.hok a _ ea)
  obtain ⟨o,es,ep,h1,h2,_⟩:=p
  exact PySem.W.kia_one PySem.W.kitx_dict I.kIn ⟨o,h1,h2.1⟩ e (fun z=>nomatch z) h
 | @dT a kvs ea =>
  cases (show u=Value.ref a from rx)
  obtain ⟨_,_,xs,_,o,es,ep,h1,h2,_⟩:=(show zca X.prog X.w H s.heap a (.dT kvs) from I.hok a _ ea)
  exact PySem.W.kia_one PySem.W.kitx_dict I.kIn ⟨o,h1,h2.1⟩ e (fun z=>nomatch z) h
 | @ins a C dx fs ea cl ha hn htk hm =>
  cases (show u=Value.ref a from rx)
  obtain ⟨mA,O,_⟩:=zke I.hok ea
  obtain ⟨od,J,_⟩:=O.look
  exact PySem.W.kia_one (PySem.W.kitx_own (cl.get _) cl.hd ha hn htk hm) I.kIn J e (fun z=>nomatch z) h
end
end L2
namespace L2
open PySem PySem.Spec PyProof.Rows
structure zeD (k:Nat) (A:Around):Prop where
 hd:A.handled=none
 dp:A.depth+3*k+5<recursionLimit
 un:A.units+16*k+200<cLine
theorem zeD.mono {j k:Nat} {A:Around} (r:zeD k A) (h:j≤k):zeD j A:=⟨r.hd,by have:=r.dp;(first|lia|omega),by have:=r.un;(first|lia|omega)⟩
theorem zeD.deeper {k:Nat} {A:Around} (r:zeD (k+1) A) (env:Env):zeD k (A.deeper env) :=
 ⟨r.hd,by have:=r.dp;show A.depth+1+3*k+5<_;(first|lia|omega),by have:=r.un;show A.units+3+16*k+200<_;(first|lia|omega)⟩
theorem zeD.in1 {k:Nat} {A:Around} (r:zeD (k+1) A):zeD k A.in1 :=
 ⟨r.hd,by have:=r.dp;show A.depth+3*k+5<_;(first|lia|omega),by have:=r.un;show A.units+1+16*k+200<_;(first|lia|omega)⟩
theorem znF {A:Around} {C:Addr} {us:List Value} {kw:List (Str×Value)}:(A.under (.builtin "type.__call__" ⟨.ref C::us,kw⟩)).depth=A.depth+1:=by
 first | rfl | simp [Around.under,Code.weight,Code.isCreation,Code.isGuard,Code.isCaller,Code.frames,Code.isFrame,guardIds]
theorem znr {A:Around} {C:Addr} {us:List Value} {kw:List (Str×Value)}:(A.under (.builtin "type.__call__" ⟨.ref C::us,kw⟩)).units=A.units+1:=by
 first | rfl | simp [Around.under,Code.cUnits,Code.frames,Code.isFrame]
theorem zeD.make {k:Nat} {A:Around} (r:zeD (k+1) A) (C:Addr) (us:List Value) (kw:List (Str×Value)):zeD k (A.under (.builtin "type.__call__" ⟨.ref C::us,kw⟩)) :=
 ⟨r.hd,by have:=r.dp;rw [znF];(first|lia|omega),by have:=r.un;rw [znr];(first|lia|omega)⟩
theorem zeD.depth {k:Nat} {A:Around} (r:zeD k A):A.depth<recursionLimit:=by have:=r.dp;(first|lia|omega)
theorem zeD.units {k:Nat} {A:Around} (r:zeD k A):A.units+64<cLine:=by have:=r.un;(first|lia|omega)
theorem zeD.units0 {k:Nat} {A:Around} (r:zeD k A):A.units<cLine:=by have:=r.un;(first|lia|omega)
def zam:TA:=fun _ H Q=>Q [] H
def zab (ta:TE) (tr:TA):TA:=fun σ H Q=>ta σ H fun x H1=>tr σ H1 fun xs H2=>Q (x::xs) H2
section
variable {X:Cx} {e:Expr} {es:List Expr} {te:TE} {t:TA} {pos:Pos}
theorem zae:PA X [] zam:=fun _ _ _ _ H Q I h=>Calls.spliced_nil ⟨[],H,I,.nil,h⟩
theorem zaa (ha:PE X e te) (hr:PA X es t) (hs:starEach (e::es) X.env=(false,eval e X.env)::starEach es X.env:=by rfl):PA X (e::es) (zab te t):=by
 intro pos pins s σ H Q I h
 rw [hs]
 show wpAny _ _ (spliced ((false,eval e X.env)::backTo pos (starEach es X.env))) _ _ s
 refine Calls.spliced_cons (thn (ha pins s σ H _ I h) fun u s1 hQ'=>?_)
 obtain ⟨x,H1,I1,r1,q1⟩:=hQ'
 exact thn (hr pos pins s1 σ H1 _ I1 q1) fun us s2 ⟨xs,H2,I2,r2,q2⟩=>⟨x::xs,H2,I2,.cons r1 r2,q2⟩
def zgS (t:TA):TE:=fun σ H Q=>t σ H fun xs H1=>xs.length≤sizeLine∧∀ p,H1 p=none→Q (.ref p) (upd H1 p (.tup xs))
def zb5 (t:TA):TE:=fun σ H Q=>t σ H fun xs H1=>xs.length≤sizeLine∧∀ p,H1 p=none→Q (.ref p) (upd H1 p (.lst xs))
theorem zdY {x1} (h:PA X es t):PE X (.Tuple es x1 pos) (zgS t):=by
 intro pins s σ H Q I hq
 refine wpAny_Tuple_spliced (thn (h pos pins s σ H _ I hq) fun us s1 ⟨xs,H1,I1,r,z,q⟩=>⟨by rw [← r.length];exact z,?_⟩)
 have hf:H1 s1.heap.objs.size=none:=I1.hok.fresh (Nat.le_refl _)
 refine ⟨.ref s1.heap.objs.size,upd H1 s1.heap.objs.size (.tup xs),I1.laid (t':=s1.toks) (fun b u e=>Heap.get?_push_of_some _ e) (Nat.le_refl _) ?_,rfl,q _ hf⟩
 exact ⟨z,us,r,⟨_,Heap.get?_push_size _ rfl,rfl,_,rfl⟩⟩
theorem za9 (h:PA X es t):PE X (.List es pos) (zb5 t):=by
 intro pins s σ H Q I hq
 refine wpAny_List_spliced (thn (h pos pins s σ H _ I hq) fun us s1 ⟨xs,H1,I1,r,z,q⟩=>⟨by rw [← r.length];exact z,?_⟩)
 have hf:H1 s1.heap.objs.size=none:=I1.hok.fresh (Nat.le_refl _)
 refine ⟨.ref s1.heap.objs.size,upd H1 s1.heap.objs.size (.lst xs),I1.laid (t':=s1.toks) (fun b u e=>Heap.get?_push_of_some _ e) (Nat.le_refl _) ?_,rfl,q _ hf⟩
 exact ⟨z,us,0,r,Heap.get?_push_size _ rfl⟩
end
abbrev Sp:=List V→Hp→VK→XK→Prop
abbrev CXT:=List Env→Hp→Shared→XK→Value→Shared→Prop
structure zok (P:Program) (w:World) (K:PySem.W.Frag) (mg:Str→Option Value) (base:Heap) (A:Around) (outer:List Env) (s:Shared) (H:Hp):Prop where
 frames:A.frames=some outer
 mod:Mod K mg base
 bs:∀ b o,base.get? b=some o→s.heap.get? b=some o∧H b=none
 bsz:base.objs.size≤s.heap.objs.size
 funs:s.heap.FunFrames base outer
 frf:∀ b∈frs outer,H b=none
 hok:HOk P w H s.heap
 bare:AllBare s.gens
def CE (outer:List Env) (P:Program) (w:World) (H:Hp) (s:Shared) (Q:VK) (u:Value) (s':Shared):Prop :=
 ∃ v H',s'.os=s.os∧AllBare s'.gens∧Un (frs outer) [] H H' s.heap s'.heap∧HOk P w H' s'.heap∧zbT v u∧Q v H'
def CR (CX:CXT) (outer:List Env) (P:Program) (w:World) (H:Hp) (s:Shared) (Q:VK) (E:XK) (r:Result) (s':Shared):Prop :=
 match r with
 | .ok (.ret u)=>CE outer P w H s Q u s'
 | .ok _=>False
 | .error e=>CX outer H s E e s'
structure zcw (P:Program) (w:World) (K:PySem.W.Frag) (mg:Str→Option Value) (base:Heap) (CX:CXT) (k:Nat) (f:Addr) (fd:FuncData) (ps:List Str) (sp:Sp):Prop where
 len:∀ vs H Q E,sp vs H Q E→vs.length=ps.length
 run:∀ (A:Around) (outer:List Env) (s:Shared) (H:Hp) (args:Args) (us:List Value) (vs:List V) (Q:VK) (E:XK),zeD k A→zok P w K mg base A outer s H→BindsTo s fd args (ps.zip us)→zbs vs us→sp vs H Q E →
  codeAny (model P w) A (.call (.ref f) args) (CR CX outer P w H s Q E) s
theorem zok.make {P:Program} {w:World} {K:PySem.W.Frag} {mg:Str→Option Value} {base:Heap} {A:Around} {outer:List Env} {s:Shared} {H:Hp} (e:zok P w K mg base A outer s H) (C:Addr) (us:List Value) (kw:List (Str×Value)) :
  zok P w K mg base (A.under (.builtin "type.__call__" ⟨.ref C::us,kw⟩)) outer s H:=⟨by first | exact e.frames | (simpa [Around.under,Code.envs,Code.isFrame,pushEnvs] using e.frames),e.mod,e.bs,e.bsz,e.funs,e.frf,e.hok,e.bare⟩
theorem zok.in1 {P:Program} {w:World} {K:PySem.W.Frag} {mg:Str→Option Value} {base:Heap} {A:Around} {outer:List Env} {s:Shared} {H:Hp} (e:zok P w K mg base A outer s H) :
  zok P w K mg base A.in1 outer s H:=⟨e.frames,e.mod,e.bs,e.bsz,e.funs,e.frf,e.hok,e.bare⟩
section
variable {X:Cx} {pins:List (Addr×Obj)} {σ:St} {H:Hp} {s s':Shared}
theorem Inv.env0 (I:Inv X pins σ H s):zok X.prog X.w X.K X.mg X.base X.A X.stack s H :=
 ⟨I.ok.frames,I.ok.mod,I.bs,Nat.le_trans I.ok.bsz I.sz,I.stack,I.stkFree,I.hok,I.bare⟩
theorem Inv.after {Q:VK} {u:Value} (I:Inv X pins σ H s) (h:CE X.stack X.prog X.w H s Q u s'):EP X pins σ Q u s':=by
 obtain ⟨v,H',os,bare,un,hok,r,q⟩:=h
 obtain ⟨hh,g,d,t,os'⟩:=s'
 obtain rfl:os'=s.os:=os
 exact ⟨v,H',I.call (h':=hh) (g':=g) (d':=d) (t':=t) (ch:=[]) un hok bare (fun b z=>absurd z (by simp)),r,q⟩
end
def zaK (sp:Sp) (dvs:List V) (E:XK) (t:TA):TE:=fun σ H Q=>t σ H fun vs H1=>sp (vs++dvs) H1 Q E
def zeq (C:Addr) (m:Str) (sp:Sp) (dvs:List V) (E:XK) (ta:TE) (t:TA):TE:=fun σ H Q=>ta σ H fun x H1=>∃ a dx fs,x=.ref a∧H1 a=some (.ins C dx fs)∧fs.lookup m=none ∧
 t σ H1 fun vs H2=>sp (x::(vs++dvs)) H2 Q E
def zsv (C:Addr) (sp:Sp) (dvs:List V) (E:XK) (t:TA):TE:=fun σ H Q=>t σ H fun vs H1=>∀ x dx,H1 x=none→H1 dx=none→dx≠x →
 sp (.ref x::(vs++dvs)) (upd (upd H1 dx (.own x)) x (.ins C dx [])) (fun v H2=>v=.non∧Q (.ref x) H2) E
def zbg (K:PySem.W.Frag) (fd:FuncData) (ps:List Str) (ds:List Value):Prop :=
 ∀ (s:Shared) (us:List Value),K.In s.heap→(us++ds).length=ps.length→BindsTo s fd ⟨us,[]⟩ (ps.zip (us++ds))
theorem zbg.all {K:PySem.W.Frag} {fd:FuncData} {ps:List Str} (h:∀ us:List Value,us.length=ps.length→bindArgs fd ⟨us,[]⟩=pure (ps.zip us)):zbg K fd ps []:=fun s us _ hl=>by
 rw [List.append_nil] at hl ⊢
 exact .of_eq (h us hl)
def zfs (CX:CXT) (X:Cx) (E:XK):Prop:=∀ (pins:List (Addr×Obj)) (σ:St) (H:Hp) (s:Shared) (e:Value) (s':Shared),Inv X pins σ H s→CX X.stack H s E e s'→X.xe e s'
section
variable {X:Cx} {CX:CXT} {k:Nat} {f C:Addr} {fd:FuncData} {ps:List Str} {sp:Sp} {dvs:List V} {ds:List Value} {E:XK} {x m:Str} {p pos apos:Pos} {e o:Expr} {es:List Expr} {ta:TE} {t:TA}
theorem zpj {pins:List (Addr×Obj)} {σ:St} {H:Hp} {s:Shared} {Q:VK} {us:List Value} {vs:List V} (F:zcw X.prog X.w X.K X.mg X.base CX k f fd ps sp) (hr:zeD k X.A) (hb:zbg X.K fd ps ds) (hd:zbs dvs ds) (hx:zfs CX X E)
  (I:Inv X pins σ H s) (r:zbs vs us) (h:sp (vs++dvs) H Q E):wpAny (model X.prog X.w) X.A (call (.ref f) us) (EP X pins σ Q) X.xe s:=by
 have r2:zbs (vs++dvs) (us++ds):=r.append hd
 have hl:(us++ds).length=ps.length:=by rw [← r2.length];exact F.len _ _ _ _ h
 refine wpAny_call (codeAny_mono (F.run X.A X.stack s H ⟨us,[]⟩ (us++ds) (vs++dvs) Q E hr I.env0 (hb s us I.kIn hl) r2 h) fun r s' hq=>?_)
 cases r with
 | error e=>exact hx pins σ H s e s' I hq
 | ok fl =>
  cases fl with
  | ret u=>exact I.after hq
  | next=>exact False.elim hq
  | brk=>exact False.elim hq
  | cont=>exact False.elim hq
theorem zaG (F:zcw X.prog X.w X.K X.mg X.base CX k f fd ps sp) (hr:zeD k X.A) (hg:Gl X x) (hm:X.mg x=some (.ref f)) (hk:PySem.W.keepIn X.K (.ref f)=true) (hb:zbg X.K fd ps ds) (hd:zbs dvs ds) (hx:zfs CX X E)
  (ha:PA X (e::es) t) (hdb:(x == ("__debug__":Str))=false:=by decide) (he:starEach (e::es) X.env=(false,eval e X.env)::starEach es X.env:=by rfl) (hpl:(backTo pos (starEach es X.env)).any (·.1)=false:=by rfl) :
  PE X (.Call (.Name x p) (e::es) [] pos) (zaK sp dvs E t):=by
 intro pins s σ H Q I h
 refine wpAny_Call_Name_kw (zgF I hg hm ?_ hdb)
 refine PySem.W.callWith_K (h₀:=X.base) I.ok.mod.kin hk (thn (ha pos pins s σ H _ I h) fun us s1 ⟨vs,H1,I1,r,q⟩=>⟨I1.kIn,?_⟩) he hpl
 exact zpj F hr hb hd hx I1 r q
theorem ze1 {pl:Sem Bool} (he:PE X o ta) (c:Cls X.K C) (hm:zjd X.K C m f) (F:zcw X.prog X.w X.K X.mg X.base CX k f fd ps sp) (hr:zeD k X.A) (hb:zbg X.K fd ps ds) (hd:zbs dvs ds) (hx:zfs CX X E) (ha:PA X (e::es) t)
  (hst:starEach (e::es) X.env=(false,eval e X.env)::starEach es X.env:=by rfl) (hpl:(backTo pos (starEach es X.env)).any (·.1)=false:=by rfl)
  (ht:eval (.Call (.Attribute o m apos) (e::es) [] pos) X.env=(do
   let ov ← eval o X.env
   standAt apos.atName
   let (f,first) ← holding [ov] (getMethod ov m pl)
   callWith pos f first (backTo pos (starEach (e::es) X.env)) (backToKw pos (keywordEach [] X.env))):=by rfl) :
  PE X (.Call (.Attribute o m apos) (e::es) [] pos) (zeq C m sp dvs E ta t):=by
 intro pins s σ H Q I h
 refine PySem.W.methodCall_KW (pl:=pl) (thn (he pins s σ H _ I h) fun u s1 hQ'=>?_) ht
 obtain ⟨x,H1,I1,rx,a,dx,fs,ex,ea,l,q⟩:=hQ'
 subst ex
 obtain rfl:u=Value.ref a:=rx
 refine zi2 I1 ea c hm l ?_
 refine PySem.W.callWith_K (first:=[.ref a]) (h₀:=X.base) I.ok.mod.kin hm.kp (thn (ha pos pins s1 σ H1 _ I1 q) fun us s2 ⟨vs,H2,I2,r,q2⟩=>⟨I2.kIn,?_⟩) hst hpl
 exact zpj (us:=.ref a::us) (vs:=.ref a::vs) F hr hb hd hx I2 (.cons rfl r) q2
theorem zmB {pl:Sem Bool} (he:PE X o ta) (c:Cls X.K C) (hm:zjd X.K C m f) (F:zcw X.prog X.w X.K X.mg X.base CX k f fd ps sp) (hr:zeD k X.A) (hb:zbg X.K fd ps ds) (hd:zbs dvs ds) (hx:zfs CX X E)
  (ht:eval (.Call (.Attribute o m apos) [] [] pos) X.env=(do
   let ov ← eval o X.env
   standAt apos.atName
   let (f,first) ← holding [ov] (getMethod ov m pl)
   callWith pos f first (backTo pos (starEach [] X.env)) (backToKw pos (keywordEach [] X.env))):=by rfl) :
  PE X (.Call (.Attribute o m apos) [] [] pos) (zeq C m sp dvs E ta zam):=by
 intro pins s σ H Q I h
 refine PySem.W.methodCall_KW (pl:=pl) (thn (he pins s σ H _ I h) fun u s1 hQ'=>?_) ht
 obtain ⟨x,H1,I1,rx,a,dx,fs,ex,ea,l,q⟩:=hQ'
 subst ex
 obtain rfl:u=Value.ref a:=rx
 refine zi2 I1 ea c hm l ?_
 exact PySem.W.callWith_K0 (first:=[.ref a]) I1.kIn hm.kp (zpj (us:=[.ref a]) (vs:=[.ref a]) F hr hb hd hx I1 (.cons rfl .nil) q)
structure Mk (K:PySem.W.Frag) (C f:Addr):Prop where
 makes:PySem.W.makesIn K C=true
 init:PySem.W.findIn K (.ref C) "__init__"=some (some (.ref f))
 fn:PySem.W.isFn K (.ref f)=true
 kp:PySem.W.keepIn K (.ref C)=true
theorem zp2 {pins:List (Addr×Obj)} {σ:St} {H:Hp} {s:Shared} {Q:VK} {us:List Value} {vs:List V} (M:Mk X.K C f) (F:zcw X.prog X.w X.K X.mg X.base CX k f fd ps sp) (hr:zeD (k+1) X.A) (hb:zbg X.K fd ps ds) (hd:zbs dvs ds)
  (hx:zfs CX X E) (I:Inv X pins σ H s) (r:zbs vs us)
  (h:∀ x dx,H x=none→H dx=none→dx≠x→sp (.ref x::(vs++dvs)) (upd (upd H dx (.own x)) x (.ins C dx [])) (fun v H2=>v=.non∧Q (.ref x) H2) E) :
  wpAny (model X.prog X.w) X.A (call (.ref C) us) (EP X pins σ Q) X.xe s:=by
 have hq:=h (s.heap.objs.size+1) s.heap.objs.size (I.hok.fresh (Nat.le_succ _)) (I.hok.fresh (Nat.le_refl _)) (Nat.ne_of_lt (Nat.lt_succ_self _))
 have I2:=Inv.made (C:=C) I
 have r2:zbs (V.ref (s.heap.objs.size+1)::(vs++dvs)) (Value.ref (s.heap.objs.size+1)::(us++ds)):=.cons rfl (r.append hd)
 have hl:(Value.ref (s.heap.objs.size+1)::us++ds).length=ps.length:=by
  have e:=r2.length
  rw [F.len _ _ _ _ hq] at e
  exact e.symm
 refine wpAny_call (zqK (f:=f) I.kIn M.makes M.init (beq_iff_eq.mp M.fn) (codeAny_mono (F.run _ X.stack _ _ ⟨Value.ref (s.heap.objs.size+1)::us,[]⟩ (Value.ref (s.heap.objs.size+1)::(us++ds)) _ _ E (hr.make C us [])
  (I2.env0.make C us []) (hb _ (Value.ref (s.heap.objs.size+1)::us) I2.kIn hl) r2 hq) fun r s' hq'=>?_))
 cases r with
 | error e=>exact hx pins σ _ _ e s' I2 hq'
 | ok fl =>
  cases fl with
  | ret u =>
   obtain ⟨v,H',I3,rv,ev,q3⟩:=I2.after hq'
   subst ev
   exact ⟨rv,⟨V.ref (s.heap.objs.size+1),H',I3,rfl,q3⟩⟩
  | next=>exact False.elim hq'
  | brk=>exact False.elim hq'
  | cont=>exact False.elim hq'
theorem zr2 (M:Mk X.K C f) (F:zcw X.prog X.w X.K X.mg X.base CX k f fd ps sp) (hr:zeD (k+1) X.A) (hg:Gl X x) (hm:X.mg x=some (.ref C)) (hb:zbg X.K fd ps ds) (hd:zbs dvs ds) (hx:zfs CX X E)
  (ha:PA X (e::es) t) (hdb:(x == ("__debug__":Str))=false:=by decide) (he:starEach (e::es) X.env=(false,eval e X.env)::starEach es X.env:=by rfl) (hpl:(backTo pos (starEach es X.env)).any (·.1)=false:=by rfl) :
  PE X (.Call (.Name x p) (e::es) [] pos) (zsv C sp dvs E t):=by
 intro pins s σ H Q I h
 refine wpAny_Call_Name_kw (zgF I hg hm ?_ hdb)
 refine PySem.W.callWith_K (h₀:=X.base) I.ok.mod.kin M.kp (thn (ha pos pins s σ H _ I h) fun us s1 ⟨vs,H1,I1,r,q⟩=>⟨I1.kIn,?_⟩) he hpl
 exact zp2 M F hr hb hd hx I1 r q
end
section
variable {X:Cx} {CX:CXT} {k:Nat} {f C:Addr} {fd:FuncData} {ps ks:List Str} {sp:Sp} {E:XK} {x m:Str} {p pos apos kpos:Pos} {e o:Expr} {es:List Expr} {kws:List Keyword} {te ta:TE} {t tk:TA} {nm:Option Str}
variable {g:List Value→List Value→List Value} {gV:List V→List V→List V}
end
structure zaI (N P:List Str) (sc:Scope):Prop where
 kind:sc.kind=.function
 co:sc.isCoroutine=false
 gen:sc.isGenerator=false
 nd:N.Nodup
 pre:N.take P.length=P
 par:∀ x∈P,sc.names.lookup x=some .local∨sc.names.lookup x=some .cell
 nofree:∀ y∈sc.names,y.2≠.free
theorem zlp {kindOf:Str→Option NameKind} {x:Str}:∀ {binds:List (Str×Value)} {m:Str→Option Value},(∀ v,(x,v)∉binds)→bindL kindOf binds m x=m x
 | [],_,_=>rfl
 | (n,v)::r,m,h=>by
  unfold bindL
  rw [zlp fun w hw=>h w (List.mem_cons_of_mem _ hw)]
  split
  ·have:x≠n:=by rintro rfl;exact h v List.mem_cons_self
   simp [this]
  ·rfl
theorem zli {kindOf:Str→Option NameKind} {x:Str}:∀ {binds:List (Str×Value)} {m:Str→Option Value},(∀ v,(x,v)∉binds)→bindC kindOf binds m x=m x
 | [],_,_=>rfl
 | (n,v)::r,m,h=>by
  unfold bindC
  rw [zli fun w hw=>h w (List.mem_cons_of_mem _ hw)]
  split
  ·rfl
  ·have:x≠n:=by rintro rfl;exact h v List.mem_cons_self
   simp [this]
theorem zkI {kindOf:Str→Option NameKind} {x:Str} {v:Value}:∀ {P:List Str} {vs:List Value} {i:Nat} {m:Str→Option Value},P.Nodup→P[i]?=some x→vs[i]?=some v→kindOf x=some .local →
  bindL kindOf (P.zip vs) m x=some v
 | [],_,_,_,_,h,_,_=>by simp at h
 | _::_,[],_,_,_,_,h,_=>by simp at h
 | p::P,w::vs,0,m,nd,h1,h2,hk=>by
  simp at h1 h2;subst h1;subst h2
  show bindL kindOf ((p,w)::P.zip vs) m p=_
  unfold bindL
  rw [zlp fun v hv=>(List.nodup_cons.mp nd).1 (List.of_mem_zip hv).1,if_pos hk]
  simp
 | p::P,w::vs,i+1,m,nd,h1,h2,hk=>by
  show bindL kindOf ((p,w)::P.zip vs) m x=_
  unfold bindL
  exact zkI (i:=i) (List.nodup_cons.mp nd).2 (by simpa using h1) (by simpa using h2) hk
theorem zkE {kindOf:Str→Option NameKind} {x:Str} {v:Value}:∀ {P:List Str} {vs:List Value} {i:Nat} {m:Str→Option Value},P.Nodup→P[i]?=some x→vs[i]?=some v→kindOf x≠some .local →
  bindC kindOf (P.zip vs) m x=some v
 | [],_,_,_,_,h,_,_=>by simp at h
 | _::_,[],_,_,_,_,h,_=>by simp at h
 | p::P,w::vs,0,m,nd,h1,h2,hk=>by
  simp at h1 h2;subst h1;subst h2
  show bindC kindOf ((p,w)::P.zip vs) m p=_
  unfold bindC
  rw [zli fun v hv=>(List.nodup_cons.mp nd).1 (List.of_mem_zip hv).1,if_neg hk]
  simp
 | p::P,w::vs,i+1,m,nd,h1,h2,hk=>by
  show bindC kindOf ((p,w)::P.zip vs) m x=_
  unfold bindC
  exact zkE (i:=i) (List.nodup_cons.mp nd).2 (by simpa using h1) (by simpa using h2) hk
def zbi (N:List Str) (vs:List V):St:=vs.map some++List.replicate (N.length - vs.length) none
def zpo (CX:CXT) (P:Program) (w:World) (K:PySem.W.Frag) (mg:Str→Option Value) (base:Heap) (N:List Str) (qual:Str) (scope:Scope) (f:Addr) (cd:Value) (A:Around) (outer:List Env) (s:Shared) (H:Hp) (E:XK):Cx where
 prog:=P
 w:=w
 K:=K
 mg:=mg
 base:=base
 A:=A.deeper (envOfC qual scope s.heap.objs.size f cd)
 N:=N
 s₀:=s
 H₀:=H
 env:=envOfC qual scope s.heap.objs.size f cd
 outer:=outer
 stack:=envOfC qual scope s.heap.objs.size f cd::outer
 ex:=[]
 calm:=true
 fn:=fun _=>true
 pn:=[]
 xe:=fun e s'=>wpAny (model P w) (A.deeper (envOfC qual scope s.heap.objs.size f cd)) (leaving (envOfC qual scope s.heap.objs.size f cd) e) (fun _ s''=>CX outer H s E e s'') (fun e' s''=>CX outer H s E e' s'') s'
theorem zhd {sc:Scope} {n:Nat} {x:Str} (h:sc.names.lookup x=some .cell):∃ c,(cellsFrom n sc.names []).lookup x=some c:=by
 have q:=PySem.W.cellsFrom_some sc.names n [] (.inl h)
 exact Option.isSome_iff_exists.mp q
theorem znW {CX:CXT} {P:Program} {w:World} {K:PySem.W.Frag} {mg:Str→Option Value} {base:Heap} {N ps:List Str} {qual:Str} {scope:Scope} {f:Addr} {cd:Value} {A:Around} {outer:List Env} {s s1:Shared} {H:Hp} {E:XK} {us:List Value} {vs:List V}
  (S:zaI N ps scope) (hd:A.handled=none) (e0:zok P w K mg base A outer s H) (hl:vs.length=ps.length) (r:zbs vs us)
  (x:InCallC s s.heap.objs.size (bindL (envOfC qual scope s.heap.objs.size f cd).kindOf (ps.zip us) fun _=>none) (cellsFrom (s.heap.objs.size+1) scope.names []) (bindC (envOfC qual scope s.heap.objs.size f cd).kindOf (ps.zip us) fun _=>none) s1) :
  Inv (zpo CX P w K mg base N qual scope f cd A outer s H E) [] (zbi N vs) H s1:=by
 have hpl:ps.length≤N.length:=by have:=congrArg List.length S.pre;rw [List.length_take] at this;(first|lia|omega)
 obtain ⟨h1,tk,rfl,hk⟩:=x.done
 have noA:∀ b:Addr,b∉(zpo CX P w K mg base N qual scope f cd A outer s H E).ex:=fun b z=>absurd (show b∈([]:List Addr) from z) (by simp)
 refine ⟨⟨e0.mod,S.kind,rfl,rfl,Nat.le_refl _,fun y z c h1 h2=>?_,fun y hy=>?_,fun y c _ h=>?_,fun _=>hd,Around.frames_deeper e0.frames,.inr ⟨rfl,rfl⟩,fun b z=>absurd z (noA b),e0.bs,e0.bsz,fun b _ _=>noA b,fun b z=>absurd z (noA b),e0.funs,e0.frf⟩,
  rfl,e0.bare,Un.kept hk,⟨_,x.toInCall.ns,fun i y v h1 h2 h3=>?_⟩,fun y c h=>⟨_,x.cell y c h⟩,e0.hok.fresh (Nat.le_refl _),fun y c h=>?_,fun p hp=>absurd (show p∈([]:List (Addr×Obj)) from hp) (by simp),e0.hok.kept hk,?_⟩
 ·exact name_of_addr x.apart (PySem.mem_of_lookup h1) (PySem.mem_of_lookup h2)
 ·have hy:scope.names.lookup y=some .cell∨scope.names.lookup y=some .free:=hy
  rcases hy with hy | hy
  ·exact zhd hy
  ·exact absurd rfl (S.nofree _ (PySem.mem_of_lookup hy))
 ·exact Nat.le_of_lt (x.above y c (PySem.mem_of_lookup h))
 ·have hi:i<vs.length:=by
   unfold zbi at h2
   by_cases hi:i<vs.length
   ·exact hi
   ·rw [List.getElem?_append_right (by simpa using hi)] at h2
    rw [List.getElem?_replicate] at h2
    split at h2 <;> cases h2
  have ha:vs[i]?=some v:=by
   unfold zbi at h2
   rw [List.getElem?_append_left (by simpa using hi),List.getElem?_map] at h2
   cases e:vs[i]? with
   | none=>rw [e] at h2;cases h2
   | some a=>rw [e] at h2;cases h2;rfl
  obtain ⟨u,hu,rv⟩:=r.get ha
  have hp:ps[i]?=some y:=by
   rw [← S.pre,List.getElem?_take_of_lt (by (first|lia|omega))];exact h1
  have ndP:ps.Nodup:=by rw [← S.pre];exact S.nd.sublist (List.take_sublist _ _)
  refine ⟨u,rv,?_⟩
  rcases S.par y (List.mem_of_getElem? hp) with k | k
  ·exact .inl ⟨k,zkI ndP hp hu k⟩
  ·obtain ⟨c,e⟩:=zhd (n:=s.heap.objs.size+1) k
   refine .inr ⟨.inl k,c,e,?_⟩
   have q:=x.cell y c e
   rw [zkE ndP hp hu (by show scope.names.lookup y≠_;rw [k];decide)] at q
   exact q
 ·exact e0.hok.fresh (Nat.le_of_lt (x.above y c (PySem.mem_of_lookup h)))
 ·unfold zbi
  show _=N.length
  rw [List.length_append,List.length_map,List.length_replicate]
  (first|lia|omega)
theorem zst {CX:CXT} {P:Program} {w:World} {K:PySem.W.Frag} {mg:Str→Option Value} {base:Heap} {k:Nat} {f:Addr} {name qual:Str} {params:Arguments} {body:List Stmt} {scope:Scope} {dV kV doc pm cdv ct oc:Value} {an od:Option Addr}
  {osl:Array (Option Value)} {N ps:List Str} {sp:Sp} (lk:K.lookup f=some ⟨oc,od,.func (PySem.W.fnOf name qual params body scope dV kV doc pm an cdv ct),osl⟩) (hcd:PySem.W.codeIn K cdv qual=true) (S:zaI N ps scope)
  (len:∀ vs H Q E,sp vs H Q E→vs.length=ps.length)
  (hbody:∀ (A:Around) (outer:List Env) (s:Shared) (H:Hp) (vs:List V) (Q:VK) (E:XK),zeD k (A.deeper (envOfC qual scope s.heap.objs.size f cdv))→sp vs H Q E →
   ∃ t,PSs (zpo CX P w K mg base N qual scope f cdv A outer s H E) body t∧t { nx:=fun _ H'=>Q .non H',rt:=Q } (zbi N vs) H) :
  zcw P w K mg base CX (k+1) f (PySem.W.fnOf name qual params body scope dV kV doc pm an cdv ct) ps sp:=by
 refine ⟨len,fun A outer s H args us vs Q E hr e0 hb r hsp=>?_⟩
 have hl:=len _ _ _ _ hsp
 have KX:K.In s.heap:=e0.mod.kin.keeps fun b o e=>(e0.bs b o e).1
 have lim:s.heap.NoLimit:=e0.mod.nolimit.keeps fun b o e=>(e0.bs b o e).1
 have hkind:∀ y∈ps.zip us,scope.names.lookup y.1=some .local∨(scope.names.lookup y.1=some .cell∧((cellsFrom (s.heap.objs.size+1) scope.names []).lookup y.1).isSome=true):=fun ⟨n,v⟩ hy=>by
  rcases S.par n (List.of_mem_zip hy).1 with q | q
  ·exact .inl q
  ·exact .inr ⟨q,PySem.W.cellsFrom_some _ _ _ (.inl q)⟩
 refine codeAny_call_function hr.depth (KX _ _ lk) rfl S.co S.gen rfl (PySem.W.codeRec_of KX hcd) (hb _ _ _ _ ?_)
 refine wpAny_newFunctionEnv_cells S.kind hkind fun env he s1 x=>?_
 subst he
 refine ⟨lim.keeps x.toInCall.keep,codeAny_func ?_⟩
 obtain ⟨t,ht,hq⟩:=hbody A outer s H vs Q E (hr.deeper _) hsp
 have I:Inv (zpo CX P w K mg base N qual scope f cdv A outer s H E) [] (zbi N vs) H s1:=znW S hr.hd e0 hl r x
 refine wpAny_mono (ht [] s1 (zbi N vs) H _ I hq) (fun fl s' hs=>?_) fun e s' hs=>hs
 have fin:∀ {σ':St} {H':Hp} {v:V} {u:Value},Inv (zpo CX P w K mg base N qual scope f cdv A outer s H E) [] σ' H' s'→zbT v u→Q v H'→CE outer P w H s Q u s' :=
  fun {σ' H' v u} J rv q=>⟨v,H',J.os,J.bare,J.base,J.hok,rv,q⟩
 cases fl with
 | ret u =>
  obtain ⟨v,σ',H',J,rv,q⟩:=hs
  exact fin J rv q
 | next =>
  obtain ⟨σ',H',J,q⟩:=hs
  exact fin (v:=V.non) (u:=Value.none) J rfl q
 | brk =>
  obtain ⟨_,_,_,q⟩:=hs
  exact False.elim q
 | cont =>
  obtain ⟨_,_,_,q⟩:=hs
  exact False.elim q
end L2
namespace L2
open PySem PySem.Spec PyProof.Rows
section
variable {X:Cx} {x:Str} {p pos:Pos} {e:Expr} {es:List Expr} {t:TA} {id T:String} {r:List V→Hp→VK→Prop}
def tCB (r:List V→Hp→VK→Prop) (t:TA):TE:=fun σ H Q=>t σ H fun vs H1=>r vs H1 Q
theorem zas (hc:zgD X (.builtin id) r) (hg:Gl X x) (hm:X.mg x=none) (hv:bootBuiltins x=some (.builtin id)) (ha:PA X (e::es) t) (hn:x≠"__name__":=by decide) (hdb:(x == ("__debug__":Str))=false:=by decide)
  (he:starEach (e::es) X.env=(false,eval e X.env)::starEach es X.env:=by rfl) (hpl:(backTo pos (starEach es X.env)).any (·.1)=false:=by rfl):PE X (.Call (.Name x p) (e::es) [] pos) (tCB r t):=by
 intro pins s σ H Q I h
 refine wpAny_Call_Name_kw (zhG I hg hm hv ?_ hn hdb)
 exact PyProof.Rows.callWith_builtin1 (thn (ha pos pins s σ H _ I h) fun us s1 ⟨vs,H1,I1,r1,q1⟩=>hc pins s1 σ H1 vs us Q I1 r1 q1) he hpl
theorem zes (hc:zgD X (.type T) r) (hg:Gl X x) (hm:X.mg x=none) (hv:bootBuiltins x=some (.type T)) (ha:PA X (e::es) t) (hn:x≠"__name__":=by decide) (hdb:(x == ("__debug__":Str))=false:=by decide)
  (he:starEach (e::es) X.env=(false,eval e X.env)::starEach es X.env:=by rfl) (hpl:(backTo pos (starEach es X.env)).any (·.1)=false:=by rfl):PE X (.Call (.Name x p) (e::es) [] pos) (tCB r t):=by
 intro pins s σ H Q I h
 refine wpAny_Call_Name_kw (zhG I hg hm hv ?_ hn hdb)
 exact PyProof.Rows.callWith_type1 (thn (ha pos pins s σ H _ I h) fun us s1 ⟨vs,H1,I1,r1,q1⟩=>hc pins s1 σ H1 vs us Q I1 r1 q1) he hpl
end
end L2
namespace HT
open PySem PyProof.Rows
section
open PySem.SeqAt
open PySem.AutoSeq1 (wpAny_loadPart')
open PySem.MeetsSeq PySem.MeetsSeq2 PySem.MeetsSeq3
end
section
variable {prog:Program} {w:World} {A:Around} {E:Value→Shared→Prop} {s:Shared}
def sIx (n d:Nat):Option Int→Nat
 | none=>d
 | some v=>if v<0 then (v+(n:Int)).toNat else min v.toNat n
theorem zq8 (n d:Nat):sIx n d none=d:=rfl
theorem ztp (n d k:Nat):sIx n d (some (k:Int))=min k n:=by
 show (if (k:Int)<0 then ((k:Int)+(n:Int)).toNat else min (k:Int).toNat n)=min k n
 rw [if_neg (by (first|lia|omega)),Int.toNat_natCast]
end
end HT
namespace L2
open PySem PySem.Spec PyProof.Rows
abbrev TO:=St→Hp→(Option Int→Hp→Prop)→Prop
def PO (X:Cx) (e:Option Expr) (t:TO):Prop :=
 ∀ (pins:List (Addr×Obj)) (s:Shared) (σ:St) (H:Hp) (Q:Option Int→Hp→Prop),Inv X pins σ H s→t σ H Q →
  wpAny (model X.prog X.w) X.A (evalPart e X.env) (fun u s'=>∃ o H',Inv X pins σ H' s'∧IsPart u o∧Q o H') X.xe s
def zcE:TO:=fun _ H Q=>Q none H
def zgU (t:TE):TO:=fun σ H Q=>t σ H fun x H1=>∃ i,x=.int i∧Q (some i) H1
section
variable {X:Cx} {e:Expr} {te:TE} {lo hi:Option Expr} {tl th:TO} {pos p2:Pos}
theorem zgB:PO X none zcE:=by
 intro pins s σ H Q I h
 rw [evalPart_none]
 exact wpAny_pure ⟨none,H,I,.none,h⟩
theorem zgq (h:PE X e te):PO X (some e) (zgU te):=by
 intro pins s σ H Q I hw
 rw [evalPart_some]
 refine thn (h pins s σ H _ I hw) fun u s1 hQ'=>?_
 obtain ⟨x,H1,I1,r1,q1⟩:=hQ'
 obtain ⟨i,rfl,q⟩:=q1
 obtain ⟨t,rfl⟩:=r1
 exact ⟨some i,H1,I1,.int i t,q⟩
def SlR (X:Cx) (r:V→Option Int→Option Int→Hp→VK→Prop):Prop :=
 ∀ (pins:List (Addr×Obj)) (s:Shared) (σ:St) (H:Hp) (x:V) (v vl vu:Value) (lo hi:Option Int) (sl:Addr) (Q:VK),Inv X pins σ H s→zbT x v→s.heap.IsSliceOf sl vl vu .none→IsPart vl lo→IsPart vu hi→r x lo hi H Q →
  ∃ T id,typeLookup (.type T) "__getitem__"=pure (some (.builtin id))∧s.TypeIs v T∧wpAny (model X.prog X.w) X.A (getItem v (.ref sl)) (EP X pins σ Q) X.xe s
def tSl (r:V→Option Int→Option Int→Hp→VK→Prop) (te:TE) (tl th:TO):TE:=fun σ H Q=>te σ H fun x H1=>tl σ H1 fun l H2=>th σ H2 fun u H3=>r x l u H3 Q
theorem zeB {r:V→Option Int→Option Int→Hp→VK→Prop} (hr:SlR X r) (he:PE X e te) (hl:PO X lo tl) (hu:PO X hi th):PE X (.Subscript e (.Slice lo hi none p2) pos) (tSl r te tl th):=by
 intro pins s σ H Q I h
 refine Subscript_ (thn (he pins s σ H _ I h) fun v s1 hQ'=>?_)
 obtain ⟨x,H1,I1,r1,q1⟩:=hQ'
 refine wpAny_Slice (thn (hl pins s1 σ H1 _ I1 q1) fun vl s2 ⟨l,H2,I2,pl,q2⟩=>thn (hu pins s2 σ H2 _ I2 q2) fun vu s3 hQ'=>?_)
 obtain ⟨u,H3,I3,pu,q3⟩:=hQ'
 rw [evalPart_none]
 refine wpAny_pure ?_
 have I4:Inv X pins σ H3 { s3 with heap:=s3.heap.push { cls:=.type "slice",data:=.fields #[vl,vu,.none] } }:=I3.kept (t':=s3.toks) fun b ob q=>Heap.get?_push_of_some _ q
 obtain ⟨T,id,hT,ht,hg⟩:=hr pins { s3 with heap:=s3.heap.push { cls:=.type "slice",data:=.fields #[vl,vu,.none] } } σ H3 x v vl vu l u s3.heap.objs.size Q I4 r1 (Heap.IsSliceOf.new ..) pl pu q3
 show wpAny (model X.prog X.w) X.A (subscriptTail e (.Slice lo hi none p2) v (.ref s3.heap.objs.size)) (EP X pins σ Q) X.xe { s3 with heap:=s3.heap.push { cls:=.type "slice",data:=.fields #[vl,vu,.none] } }
 exact tail_any (ops:=[.ref s3.heap.objs.size,v]) ht hT hg (by with_unfolding_all rfl)
def zkG (xs:List V) (lo hi:Option Int):List V:=(xs.drop (HT.sIx xs.length 0 lo)).take (HT.sIx xs.length xs.length hi - HT.sIx xs.length 0 lo)
theorem zh1 (xs:List V) (lo hi:Option Int):(zkG xs lo hi).length≤xs.length:=by
 unfold zkG
 rw [List.length_take,List.length_drop]
 (first|lia|omega)
end
end L2
namespace L2
open PySem PySem.Spec PyProof.Rows
def ixN (n:Nat) (i:Int):Option Nat:=if 0≤i then (if i<n then some i.toNat else none) else if -(n:Int)≤i then some (i+n).toNat else none
def atI {α:Type} (xs:List α) (i:Int):Option α:=(ixN xs.length i).bind fun j=>xs[j]?
theorem zoQ {n:Nat} {i:Int} {j:Nat} (h:ixN n i=some j):seqIndex? i n=some j∧j<n∧-(n:Int)≤i∧i<n:=by
 unfold ixN at h
 by_cases h0:0≤i
 ·rw [if_pos h0] at h
  by_cases h1:i<n
  ·rw [if_pos h1] at h
   have e:i.toNat=j:=Option.some.inj h
   exact ⟨by rw [seqIndex_of h0 h1,e],by (first|lia|omega),by (first|lia|omega),h1⟩
  ·rw [if_neg h1] at h;cases h
 ·rw [if_neg h0] at h
  by_cases h1:-(n:Int)≤i
  ·rw [if_pos h1] at h
   have e:(i+n).toNat=j:=Option.some.inj h
   exact ⟨by rw [seqIndex_neg (by (first|lia|omega)) h1,e],by (first|lia|omega),h1,by (first|lia|omega)⟩
  ·rw [if_neg h1] at h;cases h
theorem znZ {α:Type} {xs:List α} {i:Int} {v:α} (h:atI xs i=some v):∃ j,seqIndex? i xs.length=some j∧xs[j]?=some v∧j<xs.length∧-(xs.length:Int)≤i∧i<xs.length:=by
 unfold atI at h
 cases e:ixN xs.length i with
 | none=>rw [e] at h;cases h
 | some j =>
  rw [e] at h
  obtain ⟨h1,h2,h3,h4⟩:=zoQ e
  exact ⟨j,h1,h,h2,h3,h4⟩
theorem zcc {α:Type} {xs:List α} {j:Nat} {v:α} (h:xs[j]?=some v):atI xs (j:Int)=some v:=by
 have hj:j<xs.length:=(List.getElem?_eq_some_iff.mp h).1
 have e:ixN xs.length (j:Int)=some j:=by
  unfold ixN
  rw [if_pos (by (first|lia|omega)),if_pos (by (first|lia|omega))];simp
 unfold atI;rw [e];exact h
theorem zq5 {α:Type} (xs:List α) (v:α):atI (xs++[v]) (-1)=some v:=by
 have hl:(xs++[v]).length=xs.length+1:=by simp
 have e:ixN (xs++[v]).length (-1)=some xs.length:=by
  unfold ixN
  rw [hl,if_neg (by decide),if_pos (by (first|lia|omega))]
  congr 1
  (first|lia|omega)
 unfold atI
 rw [e]
 show (xs++[v])[xs.length]?=some v
 simp
def zrO (b:Expr):Prop:=∀ o i,subscripted b false o i=operate [o,i] (getItem o i)
def IxR (X:Cx) (r:R2):Prop :=
 ∀ (value slice:Expr) (pins:List (Addr×Obj)) (s:Shared) (σ:St) (H:Hp) (x y:V) (v u:Value) (Q:VK),Inv X pins σ H s→zbT x v→zbT y u→r x y H Q →
  subscripted slice false v u=operate [v,u] (getItem v u)→wpAny (model X.prog X.w) X.A (subscriptTail value slice v u) (EP X pins σ Q) X.xe s
def MtR (X:Cx) (id:String) (r:V→List V→Hp→VK→Prop):Prop :=
 ∀ (pins:List (Addr×Obj)) (s:Shared) (σ:St) (H:Hp) (x:V) (xs:List V) (v:Value) (us:List Value) (Q:VK),Inv X pins σ H s→zbT x v→zbs xs us→r x xs H Q →
  wpAny (model X.prog X.w) X.A (call (.builtin id) (v::us)) (EP X pins σ Q) X.xe s
section
variable {X:Cx} {a b:Expr} {ta tb:TE} {pos:Pos}
theorem zaO {r:R2} (hr:IxR X r) (ha:PE X a ta) (hb:PE X b tb) (hs:zrO b):PE X (.Subscript a b pos) (tOp r ta tb):=by
 intro pins s σ H Q I h
 exact Subscript_ (binT ha hb I h fun v u s2 x y H2 I2 rx ry q=>hr a b pins s2 σ H2 x y v u Q I2 rx ry q (hs _ _))
def zbf (K:PySem.W.Frag):R2:=fun x y H Q=>∃ p xs i v,x=.ref p∧y=.int i∧SqL K H p xs∧atI xs i=some v∧Q v H
def zky (K:PySem.W.Frag):R2:=fun x y H Q=>∃ p xs i v,x=.ref p∧y=.int i∧SqT K H p xs∧atI xs i=some v∧Q v H
theorem zat:IxR X (zbf X.K):=by
 intro value slice pins s σ H x y v u Q I rx ry h hs
 obtain ⟨p,xs,i,z,rfl,rfl,hq,he,q⟩:=h
 cases rx
 obtain ⟨t,rfl⟩:=ry
 obtain ⟨its,r,pl,hz⟩:=I.list hq
 obtain ⟨j,h1,h2,h3,h4,h5⟩:=znZ he
 obtain ⟨w,ew,rw'⟩:=r.get h2
 have hl:=r.length
 have hn:=zkV
 have fin:EP X pins σ Q w s:=⟨z,H,I,rw',q⟩
 by_cases h0:0≤i
 ·have hj:i.toNat=j:=by
   rw [seqIndex_of h0 h5] at h1
   exact Option.some.inj h1
  exact item_listR pl.isList h0 (by (first|lia|omega)) (by rw [hj];simpa using ew) fin hs
 ·have hj:(i+(its.toArray.size:Int)).toNat=j:=by
   rw [seqIndex_neg (by (first|lia|omega)) h4] at h1
   rw [List.size_toArray,← hl]
   exact Option.some.inj h1
  exact subscriptTail_builtinR (x:=w) pl.isList.typeIs slot_list_getitem.lookup
   (wpAny_getItem_list_neg (Q:=fun r s'=>r=w∧EP X pins σ Q r s') pl.isList (by (first|lia|omega)) (by rw [List.size_toArray] <;> (first|lia|omega)) (by (first|lia|omega)) (by rw [hj];simpa using ew) ⟨rfl,fin⟩) hs
theorem zeO:IxR X (zky X.K):=by
 intro value slice pins s σ H x y v u Q I rx ry h hs
 obtain ⟨p,xs,i,z,rfl,rfl,hq,he,q⟩:=h
 cases rx
 obtain ⟨t,rfl⟩:=ry
 obtain ⟨its,r,pl,hz⟩:=I.tuple hq
 obtain ⟨j,h1,h2,h3,h4,h5⟩:=znZ he
 obtain ⟨w,ew,rw'⟩:=r.get h2
 have hl:=r.length
 have hn:=zkV
 have fin:EP X pins σ Q w s:=⟨z,H,I,rw',q⟩
 exact subscriptTail_builtinR (x:=w) pl.typeIs slot_tuple_getitem.lookup
  (getItem_tuple (j:=j) (Q:=fun r s'=>r=w∧EP X pins σ Q r s') pl (by (first|lia|omega)) (by (first|lia|omega)) (by rw [List.size_toArray,← hl];exact h1) (by simpa using ew) ⟨rfl,fin⟩) hs
theorem zmS (its:List Value) (n j:Nat) (u:Value):Obj.mapSeq (·.setIfInBounds j u) { cls:=.type "list",data:=.seq its.toArray n }={ cls:=.type "list",data:=.seq (its.set j u).toArray n }:=by
 simp [Obj.mapSeq]
theorem Inv.lst {pins:List (Addr×Obj)} {σ:St} {H:Hp} {s:Shared} {p:Addr} {xs:List V} (I:Inv X pins σ H s) (h:H p=some (.lst xs)) :
  ∃ (its:List Value) (n:Nat),zbs xs its∧s.heap.get? p=some { cls:=.type "list",data:=.seq its.toArray n }∧xs.length≤sizeLine:=by
 obtain ⟨z,its,n,r,e⟩:=I.hok p _ h
 exact ⟨its,n,r,e,z⟩
theorem Inv.lstUpd {pins:List (Addr×Obj)} {σ:St} {H:Hp} {s:Shared} {p:Addr} {xs ys:List V} {its its':List Value} {n n':Nat} {f:Obj→Obj} (I:Inv X pins σ H s) (h:H p=some (.lst xs))
  (ho:s.heap.get? p=some { cls:=.type "list",data:=.seq its.toArray n }) (hf:f { cls:=.type "list",data:=.seq its.toArray n }={ cls:=.type "list",data:=.seq its'.toArray n' }) (r:zbs ys its') (hz:ys.length≤sizeLine) (t:Nat) :
  Inv X pins σ (upd H p (.lst ys)) { s with heap:=s.heap.update p f,toks:=t }:=by
 have e:(s.heap.update p f).get? p=some { cls:=.type "list",data:=.seq its'.toArray n' }:=by
  rw [Heap.get?_update_self f ho (by rw [hf] <;> rfl),hf]
 refine I.write (x:=p) (e:=p) (by rw [h];trivial) (.inl rfl) (fun b u hb q=>(Heap.get?_update_other _ _ (Ne.symm hb)).trans q) ⟨_,e⟩ ?_
 exact ⟨hz,its',n',r,e⟩
def zdN:V→V→V→Hp→(Hp→Prop)→Prop:=fun o i v H Q=>∃ p xs k j,o=.ref p∧i=.int k∧H p=some (.lst xs)∧ixN xs.length k=some j∧Q (upd H p (.lst (xs.set j v)))
theorem zcr:PSet X zdN:=by
 intro pins s σ H o i v ov iv u Q I ro ri rv h
 obtain ⟨p,xs,k,j,rfl,rfl,hp,hj,q⟩:=h
 cases ro
 obtain ⟨t,rfl⟩:=ri
 obtain ⟨its,n,r,ho,hz⟩:=I.lst hp
 obtain ⟨h1,h2,h3,h4⟩:=zoQ hj
 have hl:=r.length
 have hn:=zkV
 have I':Inv X pins σ (upd H p (.lst (xs.set j v))) { s with heap:=s.heap.update p (Obj.mapSeq (·.setIfInBounds j u)) } :=
  I.lstUpd hp ho (zmS its n j u) (r.set rv j) (by rw [List.length_set];exact hz) s.toks
 by_cases h0:0≤k
 ·have hk:k.toNat=j:=by
   rw [seqIndex_of h0 h4] at h1
   exact Option.some.inj h1
  exact PySem.W.ki_setAt ho h0 (by (first|lia|omega)) (by rw [List.size_toArray,← hl];exact h4) (by rw [hk];exact ⟨_,I',q⟩)
 ·have hk:(k+(its.toArray.size:Int)).toNat=j:=by
   rw [seqIndex_neg (by (first|lia|omega)) h3] at h1
   rw [List.size_toArray,← hl]
   exact Option.some.inj h1
  exact PySem.W.ki_setBack ho (by (first|lia|omega)) (by rw [List.size_toArray,← hl];exact h3) (by (first|lia|omega)) (by rw [hk];exact ⟨_,I',q⟩)
theorem zlx (lo hi:Option Int) (n:Nat):(sliceBounds lo hi none n).1=((HT.sIx n 0 lo:Nat):Int)∧(sliceBounds lo hi none n).2.1=((HT.sIx n n hi:Nat):Int)∧(sliceBounds lo hi none n).2.2=1:=by
 refine ⟨?_,?_,rfl⟩
 ·cases lo with
  | none=>simp [sliceBounds,HT.sIx]
  | some i =>
   simp only [sliceBounds,HT.sIx,Option.getD_none,show (1:Int) > 0 by decide,if_true]
   by_cases h:i<0
   ·simp only [h,if_true] <;> (first|lia|omega)
   ·simp only [h,if_false] <;> (first|lia|omega)
 ·cases hi with
  | none=>simp [sliceBounds,HT.sIx]
  | some i =>
   simp only [sliceBounds,HT.sIx,Option.getD_none,show (1:Int) > 0 by decide,if_true]
   by_cases h:i<0
   ·simp only [h,if_true] <;> (first|lia|omega)
   ·simp only [h,if_false] <;> (first|lia|omega)
theorem zkc (its:List Value) (lo hi:Option Int):slicePick its.toArray lo hi none=((its.drop (HT.sIx its.length 0 lo)).take (HT.sIx its.length its.length hi - HT.sIx its.length 0 lo)).toArray:=by
 obtain ⟨h1,h2,h3⟩:=zlx lo hi its.toArray.size
 unfold slicePick
 rw [h1,h2,h3]
 simp only [sliceRange_one,pick_run,List.size_toArray] <;> rfl
def znQ (K:PySem.W.Frag):V→Option Int→Option Int→Hp→VK→Prop:=fun x lo hi H Q=>∃ a xs,x=.ref a∧SqL K H a xs∧∀ p,H p=none→Q (.ref p) (upd H p (.lst (zkG xs lo hi)))
theorem zgk:SlR X (znQ X.K):=by
 intro pins s σ H x v vl vu lo hi sl Q I rx hs pl pu h
 obtain ⟨a,xs,rfl,hx,q⟩:=h
 cases rx
 obtain ⟨its,r,ht,hz⟩:=I.list hx
 have hlen:=r.length
 refine ⟨"list",_,slot_list_getitem.lookup,ht.isList.typeIs,?_⟩
 refine wpAny_getItem_list_slice ht.isList hs pl pu .none (by simp) ?_ (by rw [List.size_toArray] <;> (first|lia|omega))
 rw [zkc,← hlen]
 refine ⟨.ref s.heap.objs.size,_,I.laid (t':=s.toks) (o:=.lst (zkG xs lo hi)) (fun b ob q=>Heap.get?_push_of_some _ q) (Nat.le_refl _) ?_,rfl,q _ (I.hok.fresh (Nat.le_refl _))⟩
 exact ⟨Nat.le_trans (zh1 xs lo hi) hz,_,0,(r.drop (HT.sIx xs.length 0 lo)).take (HT.sIx xs.length xs.length hi - HT.sIx xs.length 0 lo),Heap.get?_push_size _ rfl⟩
def zlj:V→Bool
 | .non=>true
 | .bl _=>true
 | .int _=>true
 | .str _=>true
 | _=>false
def eqV:V→V→Bool
 | .non,.non=>true
 | .bl a,.bl b=>a == b
 | .bl a,.int b=>(if a then 1 else 0) == b
 | .int a,.bl b=>a == (if b then 1 else 0)
 | .int a,.int b=>a == b
 | .str a,.str b=>a == b
 | _,_=>false
theorem zt6 {A:Around} {s:Shared} {y x:V} {u v:Value} (ry:zbT y u) (rx:zbT x v) (fy:zlj y=true) (fx:zlj x=true):SeqAt.EqAt A s u v (eqV y x):=by
 cases y with
 | non =>
  cases ry
  cases x with
  | non=>cases rx;exact SeqAt.EqAt.same _
  | bl b=>cases rx;exact SeqAt.EqAt.none_bool b
  | int b=>obtain ⟨t,rfl⟩:=rx;exact SeqAt.EqAt.none_int b t
  | str b=>obtain ⟨t,rfl⟩:=rx;exact SeqAt.EqAt.none_str b t
  | _=>exact absurd (show false=true from fx) Bool.false_ne_true
 | bl a =>
  cases ry
  cases x with
  | non=>cases rx;exact SeqAt.EqAt.bool_none a
  | bl b=>cases rx;exact SeqAt.EqAt.bool_bool a b
  | int b=>obtain ⟨t,rfl⟩:=rx;exact SeqAt.EqAt.bool_int a b t
  | str b=>obtain ⟨t,rfl⟩:=rx;exact SeqAt.EqAt.bool_str a b t
  | _=>exact absurd (show false=true from fx) Bool.false_ne_true
 | int a =>
  obtain ⟨t',rfl⟩:=ry
  cases x with
  | non=>cases rx;exact SeqAt.EqAt.int_none a t'
  | bl b=>cases rx;exact SeqAt.EqAt.int_bool a t' b
  | int b=>obtain ⟨t,rfl⟩:=rx;exact SeqAt.EqAt.int_int a t' b t
  | str b=>obtain ⟨t,rfl⟩:=rx;exact SeqAt.EqAt.int_str a t' b t
  | _=>exact absurd (show false=true from fx) Bool.false_ne_true
 | str a =>
  obtain ⟨t',rfl⟩:=ry
  cases x with
  | non=>cases rx;exact SeqAt.EqAt.str_none a t'
  | bl b=>cases rx;exact SeqAt.EqAt.str_bool a t' b
  | int b=>obtain ⟨t,rfl⟩:=rx;exact SeqAt.EqAt.str_int a t' b t
  | str b=>obtain ⟨t,rfl⟩:=rx;exact SeqAt.EqAt.str_str a t' b t
  | _=>exact absurd (show false=true from fx) Bool.false_ne_true
 | _=>exact absurd (show false=true from fy) Bool.false_ne_true
def eqU (x:V) (u:Value):Bool:=match u with
 | .none=>eqV .non x
 | .bool b=>eqV (.bl b) x
 | .int i _=>eqV (.int i) x
 | .str z _=>eqV (.str z) x
 | _=>false
theorem zrg {x y:V} {u:Value} (r:zbT y u) (f:zlj y=true):eqU x u=eqV y x:=by
 cases y with
 | non=>cases r;rfl
 | bl b=>cases r;rfl
 | int i=>obtain ⟨t,rfl⟩:=r;rfl
 | str z=>obtain ⟨t,rfl⟩:=r;rfl
 | _=>exact absurd (show false=true from f) Bool.false_ne_true
theorem zlV {x:V}:∀ {xs:List V} {us:List Value},zbs xs us→xs.all zlj=true→us.any (eqU x)=xs.any fun y=>eqV y x
 | _,_,.nil,_=>rfl
 | y::xs,u::us,.cons r t,f=>by
  rw [List.all_cons,Bool.and_eq_true] at f
  rw [List.any_cons,List.any_cons,zrg r f.1,zlV t f.2]
theorem zki {A:Around} {s:Shared} {x:V} {v:Value} (rx:zbT x v) (fx:zlj x=true):∀ {xs:List V} {us:List Value},zbs xs us→xs.all zlj=true→∀ u∈us,SeqAt.EqAt A s u v (eqU x u)
 | _,_,.nil,_=>fun u hu=>by cases hu
 | y::xs,u::us,.cons r t,f=>fun u' hu=>by
  rw [List.all_cons,Bool.and_eq_true] at f
  rcases List.mem_cons.mp hu with rfl | hu
  ·rw [zrg r f.1];exact zt6 r rx f.1 fx
  ·exact zki rx fx t f.2 u' hu
def inV (x:V) (xs:List V):Bool:=xs.any fun y=>eqV y x
def rIn (K:PySem.W.Frag) (neg:Bool):R2:=fun x y H Q=>∃ p xs,y=.ref p∧(SqL K H p xs∨SqT K H p xs)∧zlj x=true∧xs.all zlj=true∧Q (.bl (if neg then !inV x xs else inV x xs)) H
theorem zoW:OpR X (compareOp .In) (rIn X.K false):=by
 intro pins s σ H x y v u Q I rx ry h
 obtain ⟨p,xs,rfl,hq,fx,fs,q⟩:=h
 cases ry
 rcases hq with hq | hq
 ·obtain ⟨its,r,pl,hz⟩:=I.list hq
  refine SeqAt.in_listAt (eqU x) pl.isList (fun w hw=>zki rx fx r fs w (by simpa using hw)) ⟨.bl _,H,I,rfl,?_⟩
  rw [show its.toArray.any (eqU x)=its.any (eqU x) by simp,zlV r fs]
  exact q
 ·obtain ⟨its,r,pl,hz⟩:=I.tuple hq
  refine SeqAt.in_tupleAt (eqU x) pl (fun w hw=>zki rx fx r fs w (by simpa using hw)) ⟨.bl _,H,I,rfl,?_⟩
  rw [show its.toArray.any (eqU x)=its.any (eqU x) by simp,zlV r fs]
  exact q
theorem zar:zgD X (.builtin "len") (fun xs H Q=>∃ p ys,xs=[.ref p]∧(SqL X.K H p ys∨SqT X.K H p ys)∧Q (.int ys.length) H):=by
 intro pins s σ H xs us Q I r h
 obtain ⟨p,ys,rfl,hq,q⟩:=h
 obtain ⟨u,rfl,rx⟩:=zmV r
 cases rx
 have hn:=zkV
 rcases hq with hq | hq
 ·obtain ⟨its,r',pl,hz⟩:=I.list hq
  have hlen:=r'.length
  exact Calls.call_len_list pl.isList (by simp only [List.size_toArray] <;> (first|lia|omega)) ⟨.int ys.length,H,I.tok _,⟨s.toks+1,by rw [List.size_toArray,hlen]⟩,q⟩
 ·obtain ⟨its,r',pl,hz⟩:=I.tuple hq
  have hlen:=r'.length
  exact len_tuple pl (by simp only [List.size_toArray] <;> (first|lia|omega)) ⟨.int ys.length,H,I.tok _,⟨s.toks+1,by rw [List.size_toArray,hlen]⟩,q⟩
theorem zly:zgD X (.type "list") (fun xs H Q=>∃ p ys,xs=[.ref p]∧(SqL X.K H p ys∨SqT X.K H p ys)∧∀ l,H l=none→Q (.ref l) (upd H l (.lst ys))):=by
 intro pins s σ H xs us Q I r h
 obtain ⟨p,ys,rfl,hq,q⟩:=h
 obtain ⟨u,rfl,rx⟩:=zmV r
 cases rx
 have fin:∀ (its:List Value),zbs ys its→ys.length≤sizeLine→∀ (h':Heap) (c':Nat),(∀ b o',s.heap.get? b=some o'→h'.get? b=some o') →
   h'.get? s.heap.objs.size=some { cls:=.type "list",dict:=none,data:=.seq its.toArray c',slots:=#[] }→EP X pins σ Q (.ref s.heap.objs.size) { s with heap:=h' }:=fun its r' hz h' c' kp e =>
  ⟨.ref s.heap.objs.size,_,I.laid (t':=s.toks) kp (Nat.le_refl _) (show zca X.prog X.w _ h' _ (.lst ys) from ⟨hz,its,c',r',e⟩),rfl,q _ (I.hok.fresh (Nat.le_refl _))⟩
 rcases hq with hq | hq
 ·obtain ⟨its,r',pl,hz⟩:=I.list hq
  have hlen:=r'.length
  obtain ⟨o,ho,hc,n,hd⟩:=pl.isList
  exact call_list_seq p (.inl rfl) ho hc hd (fun h' c' kp e=>fin its r' hz h' c' kp e) (by simp only [List.size_toArray] <;> (first|lia|omega))
 ·obtain ⟨its,r',pl,hz⟩:=I.tuple hq
  have hlen:=r'.length
  obtain ⟨o,ho,hc,n,hd⟩:=pl
  exact call_list_seq p (.inr rfl) ho hc hd (fun h' c' kp e=>fin its r' hz h' c' kp e) (by simp only [List.size_toArray] <;> (first|lia|omega))
theorem zfT:zgD X (.type "tuple") (fun xs H Q=>∃ p ys,xs=[.ref p]∧((SqL X.K H p ys∧∀ l,H l=none→Q (.ref l) (upd H l (.tup ys)))∨(SqT X.K H p ys∧Q (.ref p) H))):=by
 intro pins s σ H xs us Q I r h
 obtain ⟨p,ys,rfl,h⟩:=h
 obtain ⟨u,rfl,rx⟩:=zmV r
 cases rx
 rcases h with ⟨hq,q⟩ | ⟨hq,q⟩
 ·obtain ⟨its,r',pl,hz⟩:=I.list hq
  have hlen:=r'.length
  refine call_tuple_list pl.isList (fun h' kp=>?_) (by simp only [List.size_toArray] <;> (first|lia|omega))
  have I1:Inv X pins σ H { s with heap:=h' }:=I.kept (t':=s.toks) kp
  have I2:Inv X pins σ (upd H h'.objs.size (.tup ys)) { s with heap:=h'.push { cls:=.type "tuple",data:=.seq its.toArray } } :=
   I1.laid (t':=s.toks) (fun b o e=>Heap.get?_push_of_some _ e) (Nat.le_refl _) (show zca X.prog X.w _ _ _ (.tup ys) from ⟨hz,its,r',IsTup.new _ _⟩)
  exact ⟨.ref h'.objs.size,_,I2,rfl,q _ (I1.hok.fresh (Nat.le_refl _))⟩
 ·obtain ⟨its,r',pl,hz⟩:=I.tuple hq
  exact call_tuple_same pl ⟨.ref p,H,I,rfl,q⟩
def tyV (K:PySem.W.Frag) (T:String) (x:V) (H:Hp):Prop:=match x with
 | .str _=>T="str"
 | .int _=>T="int"
 | .ref p=>(T="list"∧∃ xs,SqL K H p xs)∨(T="tuple"∧∃ o,K.lookup p=some o∧o.cls=.type "tuple"∧o.dict=none) ∨
   (T="dict"∧((∃ kvs,H p=some (.dK kvs))∨∃ kvs,H p=some (.dT kvs)))∨(T="set"∧∃ S n,H p=some (.set S n))
 | _=>False
theorem zu1 {pins:List (Addr×Obj)} {σ:St} {H:Hp} {s:Shared} {T:String} {x:V} {v:Value} (I:Inv X pins σ H s) (r:zbT x v) (ty:tyV X.K T x H) :
  s.TypeIs v T∧∀ a,v=.ref a→∃ ob,s.heap.get? a=some ob∧ob.dict=none:=by
 cases x with
 | str z =>
  obtain ⟨t,rfl⟩:=r
  cases (show T="str" from ty)
  exact ⟨typeIs_str s z t,fun _ e=>nomatch e⟩
 | int i =>
  obtain ⟨t,rfl⟩:=r
  cases (show T="int" from ty)
  exact ⟨typeIs_int s i t,fun _ e=>nomatch e⟩
 | ref p =>
  cases r
  rcases ty with ⟨rfl,xs,hq⟩ | ⟨rfl,o,hk,hc,hd⟩ | ⟨rfl,hk⟩ | ⟨rfl,S,n,hk⟩
  ·obtain ⟨its,_,pl,_⟩:=I.list hq
   refine ⟨pl.isList.typeIs,fun a e=>?_⟩
   cases e
   obtain ⟨o,n,e,c,hd,_⟩:=pl
   exact ⟨o,e,hd⟩
  ·refine ⟨⟨o,I.kIn p o hk,hc⟩,fun a e=>?_⟩
   cases e
   exact ⟨o,I.kIn _ o hk,hd⟩
  ·have z:∃ o,s.heap.get? p=some o∧o.ExactDict:=by
    rcases hk with ⟨kvs,hk⟩ | ⟨kvs,hk⟩
    ·obtain ⟨_,_,_,_,o,_,_,e,ex,_⟩:=I.hok p _ hk
     exact ⟨o,e,ex⟩
    ·obtain ⟨_,_,_,_,o,_,_,e,ex,_⟩:=I.hok p _ hk
     exact ⟨o,e,ex⟩
   obtain ⟨o,e,ex⟩:=z
   refine ⟨⟨o,e,ex.1⟩,fun a e2=>?_⟩
   cases e2
   exact ⟨o,e,ex.2.1⟩
  ·obtain ⟨o,_,_,_,e,ex,_⟩:=I.hok p _ hk
   refine ⟨⟨o,e,ex.1⟩,fun a e2=>?_⟩
   cases e2
   exact ⟨o,e,ex.2.1⟩
 | _=>exact False.elim ty
def tBM (K:PySem.W.Frag) (T:String) (r:V→List V→Hp→VK→Prop) (to:TE) (t:TA):TE:=fun σ H Q=>to σ H fun x H1=>tyV K T x H1∧t σ H1 fun xs H2=>r x xs H2 Q
variable {o e:Expr} {es:List Expr} {to:TE} {t:TA} {name:Str} {apos cpos:Pos} {T id:String} {r:V→List V→Hp→VK→Prop}
theorem pe_bm (pa:PlainAttrs T) (slot:Slot T name id) (hty:typeOf (.builtin id)=pure (.type "method_descriptor")) (hm:MtR X id r) (ho:PE X o to) (ha:PA X (e::es) t)
  (hbase:attributeBase o name X.env (eval o X.env)=eval o X.env:=by rfl)
  (hfew:((backTo cpos (starEach (e::es) X.env)).all (fun x=>!x.1)&&(backToKw cpos (keywordEach [] X.env)).all (fun x=>x.1.isSome)
   && decide ((e::es).length+([]:List Keyword).length+(if ([]:List Keyword).isEmpty then 0 else 1)<30))=true:=by rfl)
  (hline:(apos.endLine == cpos.line)=true:=by rfl) (hs:starEach (e::es) X.env=(false,eval e X.env)::starEach es X.env:=by rfl) (hplain:(backTo cpos (starEach es X.env)).any (·.1)=false:=by rfl) :
  PE X (.Call (.Attribute o name apos) (e::es) [] cpos) (tBM X.K T r to t):=by
 intro pins s σ H Q I h
 refine wpAny_Call_method_late hbase hfew hline rfl (thn (ho pins s σ H _ I h) fun v s1 hQ'=>?_)
 obtain ⟨x,H1,I1,r1,ty,q1⟩:=hQ'
 obtain ⟨h1,h2⟩:=zu1 I1 r1 ty
 refine ⟨T,id,pa,slot,hty,h1,h2,?_⟩
 have hA:=ha cpos pins s1 σ H1 _ I1 q1
 rw [hs] at hA ⊢
 refine Calls.callWith_builtin (by show (false || (backTo cpos (starEach es X.env)).any (·.1))=false;rw [hplain] <;> rfl) (Calls.evalArgs_plain ?_)
 exact thn hA fun us s2 ⟨vs,H2,I2,r2,q2⟩=>hm pins s2 σ H2 x vs v us Q I2 r1 r2 q2
end
end L2
namespace L2
open PySem PySem.Spec PyProof.Rows
def MtM (X:Cx) (id:String) (r:V→List V→Hp→VK→Prop):Prop :=
 ∀ (pins:List (Addr×Obj)) (s:Shared) (σ:St) (H:Hp) (x:V) (xs:List V) (v:Value) (us:List Value) (Q:VK),Inv X pins σ H s→zbT x v→zbs xs us→r x xs H Q →
  wpAny (model X.prog X.w) X.A (call (.builtin id) (v::us)) (EP X pins σ Q) X.xe s
theorem zbs.one:∀ {x:V} {us:List Value},zbs [x] us→∃ u,us=[u]∧zbT x u
 | _,_,.cons r .nil=>⟨_,rfl,r⟩
theorem zbs.rep {xs:List V} {us:List Value} (h:zbs xs us):∀ k:Nat,zbs (List.replicate k xs).flatten (List.replicate k us).flatten
 | 0=>.nil
 | k+1=>by
  rw [List.replicate_succ,List.replicate_succ,List.flatten_cons,List.flatten_cons]
  exact zbs.append h (zbs.rep h k)
theorem zk2 (its:List Value):∀ (k:Nat) (acc:List Value),
  List.foldl (fun x1 x2=>x1++x2) acc.toArray (List.replicate k its.toArray)=(acc++(List.replicate k its).flatten).toArray
 | 0,acc=>by simp
 | k+1,acc=>by
  have e:acc.toArray++its.toArray=(acc++its).toArray:=by simp
  have e2:(acc++its)++(List.replicate k its).flatten=acc++(List.replicate (k+1) its).flatten:=by
   rw [List.replicate_succ,List.flatten_cons,List.append_assoc]
  rw [← e2,← zk2 its k (acc++its),← e,List.replicate_succ,List.foldl_cons]
section
variable {X:Cx} {pins:List (Addr×Obj)} {σ:St} {H:Hp} {s:Shared} {l b:Addr} {xs ys zs:List V}
theorem Inv.lset {its its':List Value} {n:Nat} {f:Array Value→Array Value} {t':Nat} (I:Inv X pins σ H s) (hH:H l=some (.lst xs))
  (e:s.heap.get? l=some { cls:=.type "list",data:=.seq its.toArray n }) (hf:f its.toArray=its'.toArray) (hv:zbs ys its') (hz:ys.length≤sizeLine) :
  Inv X pins σ (upd H l (.lst ys)) { s with heap:=s.heap.update l (Obj.mapSeq f),toks:=t' }:=by
 have q:=PySem.IsL.update e f
 rw [hf] at q
 refine I.write (x:=l) (e:=l) (by rw [hH];exact trivial) (.inl rfl) (fun b' u hb hu=>(Heap.get?_update_other s.heap (Obj.mapSeq f) (Ne.symm hb)).trans hu) ⟨_,q⟩ ?_
 exact ⟨hz,its',_,hv,q⟩
theorem Inv.lnew {its:List Value} {t':Nat} (I:Inv X pins σ H s) (hv:zbs ys its) (hz:ys.length≤sizeLine) :
  Inv X pins σ (upd H s.heap.objs.size (.lst ys)) { s with heap:=s.heap.push { cls:=.type "list",data:=.seq its.toArray },toks:=t' } :=
 I.laid (fun _ _ q=>Heap.get?_push_of_some _ q) (Nat.le_refl _) ⟨hz,its,0,hv,Heap.get?_push_size _ rfl⟩
theorem Inv.fresh (I:Inv X pins σ H s):H s.heap.objs.size=none:=I.hok.fresh (Nat.le_refl _)
theorem Inv.lstM (I:Inv X pins σ H s) (hH:H l=some (.lst xs)):xs.length≤sizeLine∧∃ (its:List Value) (n:Nat),zbs xs its∧xs.length=its.length∧s.heap.get? l=some { cls:=.type "list",data:=.seq its.toArray n }:=by
 obtain ⟨z,its,n,r,e⟩:=I.hok l _ hH
 exact ⟨z,its,n,r,r.length,e⟩
theorem zq7 {n:Nat} (h:n≤sizeLine):Builtin.List.listTooLong n=false:=by
 unfold Builtin.List.listTooLong
 exact decide_eq_false (by (first|lia|omega))
end
section
variable {X:Cx}
def zcO:V→List V→Hp→VK→Prop:=fun x vs H Q=>∃ l xs y,x=.ref l∧vs=[y]∧H l=some (.lst xs)∧xs.length<sizeLine∧Q .non (upd H l (.lst (xs++[y])))
theorem zhy:MtM X "list.append" zcO:=by
 intro pins s σ H x vs v us Q I rx rv h
 obtain ⟨l,xs,y,rfl,rfl,hH,hz,q⟩:=h
 cases rx
 obtain ⟨u,rfl,ru⟩:=rv.one
 obtain ⟨z,its,n,r,hl,e⟩:=I.lstM hH
 refine call_meets F.slot_list_append ⟨_,e,rfl⟩ F.entry_list_append (F.args_list_append_2 _ _) (PySem.list_append l its.toArray n u (by rw [List.size_toArray];(first|lia|omega))) ⟨e,?_⟩
 refine ⟨.non,_,I.lset (its':=its++[u]) hH e (by simp) (r.append (.cons ru .nil)) ?_,rfl,q⟩
 rw [List.length_append,List.length_singleton]
 (first|lia|omega)
def zkX:R2:=fun x y H Q=>∃ l b xs zs,x=.ref l∧y=.ref b∧H l=some (.lst xs)∧H b=some (.lst zs)∧xs.length+zs.length≤sizeLine∧∀ p,H p=none→Q (.ref p) (upd H p (.lst (xs++zs)))
theorem zfO:OpR X (binaryOp .Add) zkX:=by
 intro pins s σ H x y v u Q I rx ry h
 obtain ⟨l,b,xs,zs,rfl,rfl,hH,hB,hz,q⟩:=h
 cases rx
 cases ry
 obtain ⟨z,its,n,r,hl,e⟩:=I.lstM hH
 obtain ⟨z2,its2,n2,r2,hl2,e2⟩:=I.lstM hB
 refine PySem.P.add_list e e2 ?_ (by rw [List.size_toArray,List.size_toArray];(first|lia|omega))
 have ea:its.toArray++its2.toArray=(its++its2).toArray:=by simp
 rw [ea]
 exact ⟨.ref _,_,I.lnew (t':=s.toks) (r.append r2) (by rw [List.length_append];(first|lia|omega)),rfl,q _ I.fresh⟩
def ziz:R2:=fun x y H Q=>∃ l k xs,x=.ref l∧y=.int k∧H l=some (.lst xs)∧-(2 ^ 63)≤k∧k<2 ^ 63∧xs.length*k.toNat≤sizeLine ∧
 ∀ p,H p=none→Q (.ref p) (upd H p (.lst (List.replicate k.toNat xs).flatten))
theorem zsE {α:Type} (xs:List α) (k:Nat):(List.replicate k xs).flatten.length=k*xs.length:=by
 induction k with
 | zero=>simp
 | succ k ih=>rw [List.replicate_succ,List.flatten_cons,List.length_append,ih,Nat.succ_mul,Nat.add_comm]
theorem zfu:OpR X (binaryOp .Mult) ziz:=by
 intro pins s σ H x y v u Q I rx ry h
 obtain ⟨l,k,xs,rfl,rfl,hH,h1,h2,hz,q⟩:=h
 cases rx
 obtain ⟨t,rfl⟩:=ry
 obtain ⟨z,its,n,r,hl,e⟩:=I.lstM hH
 have hlen:its.toArray.size*k.toNat≤sizeLine:=by rw [List.size_toArray,← hl];exact hz
 have hcap:¬ its.toArray.size*k.toNat > (2 ^ 63 - 1) / 8:=by
  have:(sizeLine:Nat)≤(2 ^ 63 - 1) / 8:=by decide
  (first|lia|omega)
 have hfit:¬ (!Builtin.List.listFitsIndex k)=true:=by
  rw [fitsIndex_both h1 h2]
  exact Bool.false_ne_true
 have hlong:¬ Builtin.List.listTooLong (its.toArray.size*k.toNat)=true:=by
  rw [zq7 hlen]
  exact Bool.false_ne_true
 have hnew:List.foldl (fun x1 x2=>x1++x2) #[] (List.replicate (if its.toArray.isEmpty=true then 0 else k.toNat) its.toArray)=(List.replicate k.toNat its).flatten.toArray:=by
  have f0:∀ m:Nat,List.foldl (fun x1 x2=>x1++x2) #[] (List.replicate m its.toArray)=(List.replicate m its).flatten.toArray:=fun m=>by
   have:=zk2 its m []
   rw [List.nil_append] at this
   exact this
  rw [f0]
  cases its with
  | nil=>simp
  | cons a r'=>rw [if_neg (by simp)]
 refine wpAny_binaryOp_repeat_ref (T:="list") (U:="int") (by decide) ⟨_,e,rfl⟩ (fun s'=>typeIs_int s' k t) noFill_list_mul F.fills_int_mul F.slot_int_rmul repeat_list F.slot_int_index.lookup
  (call_meets F.slot_int_rmul (typeIs_int s k t) F.entry_int_rmul (F.args_int_rmul_2 _ _) (int___rmul___int_list k t l its.toArray n)
   ⟨e,rfl,⟨_,e,rfl⟩,call_meets F.slot_list_mul ⟨_,e,rfl⟩ F.entry_list_mul (F.args_list_mul_2 _ _) (AutoListH.list___mul___list_int_3 l its.toArray n k t hfit hcap hlong) ⟨e,?_⟩⟩)
 rw [hnew]
 exact ⟨.ref _,_,I.lnew (t':=s.toks) (r.rep k.toNat) (by rw [zsE,Nat.mul_comm];exact hz),rfl,q _ I.fresh⟩
end
section
variable {prog:Program} {w:World} {A:Around} {E:Value→Shared→Prop} {s:Shared}
end
section
variable {X:Cx}
end
end L2
namespace Att
open PySem PySem.W PySem.Calls PyProof.Rows
theorem zhX {P:Params} {h:Heap}:∀ (ns:List Int) (vs:List Value),WellAll P h vs (ns.map WData.int)→IntsAre vs ns:=by
 intro ns
 induction ns with
 | nil =>
  intro vs w
  rw [List.map_nil] at w
  cases w
  exact .nil
 | cons n ns ih =>
  intro vs w
  rw [List.map_cons] at w
  cases w with
  | cons a b =>
   cases a
   exact .cons _ _ (ih _ b)
theorem zoZ {l:OpenLaw} {n:Nat} (hn:l.most=some n) {P:Params} {h:Heap} {args:List WData} {vals:List Value}
  (hpre:l.row.toRowW.claim.pre args=true) (hwl:WellAll P h vals args) :
  ∃ a vs ns,vals=[Value.ref a]∧args=[WData.list (ns.map WData.int)]∧h.get? a=some { cls:=.type "list",data:=.seq vs.toArray }∧IntsAre vs ns∧ns.length≤n:=by
 have hsh:WShape.hasAll [] args [.list .int]=true:=(pre_splitW hpre).1
 have hc:l.pre.holds [] { args:=args }=true:=(pre_splitW hpre).2
 obtain ⟨d,r,rfl,h1,h2⟩:=hasAllW_cons hsh
 obtain rfl:=hasAllW_nil h2
 obtain ⟨xs,rfl,h3⟩:=hasW_list h1
 obtain ⟨ns,rfl⟩:=items_int h3
 have hlen:ns.length≤n:=by
  unfold OpenLaw.pre at hc
  have h4:(WTm.not (.lt (.lit (.int (n:Int))) (.len (.arg 0)))).holds [] { args:=[.list (ns.map .int)] }=true:=by
   have h4:=(holds_andW hc).1
   rw [hn] at h4
   exact h4
  have h5:=condW_of h4 (w_not (w_lt w_lit (w_len_list (w_arg rfl))))
  rw [List.length_map] at h5
  refine Nat.le_of_not_lt fun q=>?_
  have q':(n:Int)<((ns.length:Nat):Int):=by (first|lia|omega)
  first
   | (rw [decide_eq_true q'] at h5;exact absurd h5 (by decide))
   | (simp at h5;(first|lia|omega))
 cases hwl with
 | cons w1 w2 =>
  cases w2
  cases w1 with
  | list ho hall=>exact ⟨_,_,ns,rfl,rfl,ho,zhX ns _ hall,hlen⟩
theorem zoB (l:OpenLaw) (args:List WData):l.row.toRowW.claim.post args (.bool true) args=true :=
 postW_of (r:=l.row.toRowW) (X:=(true == true))
  (show WShape.has [] (.bool true) .bool=true by first | rfl | decide | simp [WShape.has,WShape.arms,WShape.armsAll])
  (show (WTm.eq .res (.lit (.bool true))).value [] { args:=args,res:=some (.bool true),after:=args }=some (.bool (true == true)) from w_eq_bool (w_res rfl) w_lit) rfl
section
variable {prog:Program} {w:World} {A:Around} {E:Value→Shared→Prop} {s:Shared} {K:Frag}
end
end Att
namespace L2
open PySem PySem.Spec PyProof.Rows
theorem zk0:∀ {vs:List Value} {ns:List Int},IntsAre vs ns→zbs (ns.map V.int) vs
 | _,_,.nil=>.nil
 | _,_,.cons n t h=>.cons ⟨t,rfl⟩ (zk0 h)
end L2
namespace L2
open PySem PySem.Spec PyProof.Rows
end L2
namespace L2
open PySem PySem.Spec PyProof.Rows
def zfg (s:Stmt):Arguments:=match s with
 | .FunctionDef _ a _ _ _ _ _ _ _ _=>a
 | _=>{ posonlyargs:=[],args:=[],vararg:=none,kwonlyargs:=[],kw_defaults:=[],kwarg:=none,defaults:=[] }
def zc0 (s:Stmt):List Stmt:=match s with
 | .FunctionDef _ _ b _ _ _ _ _ _ _=>b
 | _=>[]
def zaj (s:Stmt):Scope:=match s with
 | .FunctionDef _ _ _ _ _ _ sc _ _ _=>sc
 | _=>{ kind:=.function,names:=[],isGenerator:=false,isCoroutine:=false }
abbrev CX0:CXT:=fun _ _ _ _ _ _=>False
abbrev E0:XK:=fun _ _ _=>False
theorem zbd {X:Cx}:zfs CX0 X E0:=fun _ _ _ _ _ _ _ h=>h.elim
structure Fun (K:PySem.W.Frag) (x qual:Str) (st:Stmt) (f:Addr) (fd:FuncData):Prop where
 ex:∃ (oc:Value) (od:Option Addr) (kV doc pm:Value) (an:Option Addr) (cdv ct:Value) (osl:Array (Option Value)),
  fd=PySem.W.fnOf x qual (zfg st) (zc0 st) (zaj st) .none kV doc pm an cdv ct∧K.lookup f=some ⟨oc,od,.func fd,osl⟩∧PySem.W.codeIn K cdv qual=true
 kp:PySem.W.keepIn K (.ref f)=true
section
variable {P:Program} {w:World} {K:PySem.W.Frag} {mg:Str→Option Value} {base:Heap}
theorem Fun.ok {x qual:Str} {st:Stmt} {f:Addr} {fd:FuncData} {N ps:List Str} {k:Nat} {sp:Sp} (F:Fun K x qual st f fd) (S:zaI N ps (zaj st)) (len:∀ vs H Q E,sp vs H Q E→vs.length=ps.length)
  (hbody:∀ (cdv:Value) (A:Around) (outer:List Env) (s:Shared) (H:Hp) (vs:List V) (Q:VK) (E:XK),zeD k (A.deeper (envOfC qual (zaj st) s.heap.objs.size f cdv))→sp vs H Q E →
   ∃ t,PSs (zpo CX0 P w K mg base N qual (zaj st) f cdv A outer s H E).nox (zc0 st) t∧t { nx:=fun _ H'=>Q .non H',rt:=Q } (zbi N vs) H):zcw P w K mg base CX0 (k+1) f fd ps sp:=by
 obtain ⟨oc,od,kV,doc,pm,an,cdv,ct,osl,rfl,lk,hcd⟩:=F.ex
 refine zst lk hcd S len fun A outer s H vs Q E hr hsp=>?_
 obtain ⟨t,h,q⟩:=hbody cdv A outer s H vs Q E hr hsp
 exact ⟨t,h.nox,q⟩
theorem Fun.binds {x qual:Str} {st:Stmt} {f:Addr} {fd:FuncData} {ps:List Str} (F:Fun K x qual st f fd)
  (h:∀ (kV doc pm:Value) (an:Option Addr) (cdv ct:Value) (us:List Value),us.length=ps.length→bindArgs (PySem.W.fnOf x qual (zfg st) (zc0 st) (zaj st) .none kV doc pm an cdv ct) ⟨us,[]⟩=pure (ps.zip us)):zbg K fd ps []:=by
 obtain ⟨oc,od,kV,doc,pm,an,cdv,ct,osl,rfl,lk,hcd⟩:=F.ex
 exact .all (h kV doc pm an cdv ct)
theorem za3 {x qual:Str} {st:Stmt} {f:Addr} {oc:Value} {od an:Option Addr} {osl:Array (Option Value)} {kV doc pm cdv ct:Value} (l:K.lookup f=some ⟨oc,od,.func (PySem.W.fnOf x qual (zfg st) (zc0 st) (zaj st) .none kV doc pm an cdv ct),osl⟩)
  (c:PySem.W.codeIn K cdv qual=true) (k:PySem.W.keepIn K (.ref f)=true):Fun K x qual st f (PySem.W.fnOf x qual (zfg st) (zc0 st) (zaj st) .none kV doc pm an cdv ct):=⟨⟨oc,od,kV,doc,pm,an,cdv,ct,osl,rfl,l,c⟩,k⟩
end
theorem zbl {n:Nat} (h:n≤1000):n<sizeLine:=Nat.lt_of_le_of_lt h (by decide)
section
variable {X:Cx}
theorem pv (i:Nat) {x:Str} {pos:Pos} (hN:X.N[i]?=some x:=by rfl) (hv:Vis X.env.scope x:=by first | exact Or.inl rfl | exact Or.inr (Or.inl rfl) | exact Or.inr (Or.inr rfl)) (hd:(x == ("__debug__":Str))=false:=by decide)
  (hcd:(x == ("__classdict__":Str))=false:=by decide):PE X (.Name x pos) (zad i):=zum hN hv hd hcd
end
theorem znt {A B:Prop} (h:B):if false=true then A else B:=by
 rw [if_neg Bool.false_ne_true]
 exact h
theorem zuh {A B:Prop} (h:A):if true=true then A else B:=by
 rw [if_pos rfl]
 exact h
theorem zdH {c A B:Prop} [Decidable c] (h1:c→A) (h2:¬ c→B):if c then A else B:=by
 by_cases h:c
 ·rw [if_pos h]
  exact h1 h
 ·rw [if_neg h]
  exact h2 h
def za0 (H H':Hp):Prop:=∀ b o,H b=some o→H' b=some o
theorem za0.refl (H:Hp):za0 H H:=fun _ _ h=>h
theorem za0.trans {H H1 H2:Hp} (a:za0 H H1) (b:za0 H1 H2):za0 H H2:=fun c o h=>b c o (a c o h)
theorem za0.free {H H':Hp} (e:za0 H H') {l:Addr} (h:H' l=Option.none):H l=Option.none:=by
 cases q:H l with
 | none=>rfl
 | some o =>
  rw [e l o q] at h
  cases h
theorem za0.seq {K:PySem.W.Frag} {H H':Hp} {a:Addr} {xs:List V} (e:za0 H H') (h:SqL K H a xs):SqL K H' a xs:=by
 rcases h with (h | ⟨o,h⟩) | h
 ·exact .inl (.inl (e _ _ h))
 ·exact .inl (.inr ⟨o,e _ _ h⟩)
 ·exact .inr h
end L2
namespace L2
open PySem PySem.Spec PyProof.Rows
section
variable {X:Cx}
theorem zpB:OpR X (binaryOp .FloorDiv) (rI (fun _ j=>0<j∧j.natAbs.log2<9000) fun i j=>.int (i / j)):=opI fun i j _ _ _ _ _ hc q=>by
 have h1:(0:Int)<j:=hc.1
 exact floordiv_int (by (first|lia|omega)) (by rw [Int.fdiv_eq_ediv_of_nonneg i (by (first|lia|omega))];exact q) (.inl (PyProof.noPylong_of_log2 hc.2))
theorem zhf:OpR X (binaryOp .FloorDiv) (rI (fun _ j=>j≠0∧j.natAbs.log2<9000) fun i j=>.int (i.fdiv j)):=opI fun _ _ _ _ _ _ _ hc q=>floordiv_int hc.1 q (.inl (PyProof.noPylong_of_log2 hc.2))
theorem zsA:OpR X (binaryOp .Mod) (rI (fun _ j=>j≠0) fun i j=>.int (i.fmod j)):=ztz
theorem zbC:OpR X (binaryOp .Mult) (rI IntMulOk fun i j=>.int (i*j)):=opI fun _ _ _ _ _ _ _ hc q=>mul_int q hc
theorem zux {i j:Int} (h1:-(2 ^ 64)<j) (h2:j<2 ^ 64):IntMulOk i j:=.of_right (intBits_le_64 h1 h2)
theorem mulL {i j:Int} (h1:-(2 ^ 64)<i) (h2:i<2 ^ 64):IntMulOk i j:=.of_left (intBits_le_64 h1 h2)
theorem znL {i j:Int} (m n:Nat) (h1:i.natAbs<2 ^ m) (h2:j.natAbs<2 ^ n) (h:m+n≤134217728:=by decide):IntMulOk i j:=.of_le (intBits_le_iff.mpr h1) (intBits_le_iff.mpr h2) h
theorem zmJ {j:Int} (m:Nat) (h0:j≠0) (h:j.natAbs<2 ^ m) (hm:m≤9000:=by decide):j.natAbs.log2<9000 :=
 Nat.lt_of_lt_of_le ((Nat.log2_lt (by (first|lia|omega))).mpr h) hm
theorem zmQ:bootBuiltins "int"=some (.type "int"):=by decide +kernel
theorem zlt:bootBuiltins "bool"=some (.type "bool"):=by decide +kernel
theorem zc4:bootBuiltins "list"=some (.type "list"):=by decide +kernel
theorem zhC:bootBuiltins "ValueError"=some (.type "ValueError"):=by decide +kernel
theorem zi9:bootBuiltins "tuple"=some (.type "tuple"):=by decide +kernel
theorem zkK (K:PySem.W.Frag):PySem.W.kitOne K (.type "int") (.type "bool")=some false:=by first | rfl | kernel_rfl
def zsP (a:Addr) (c:Value) (h:Heap):Prop:=∃ oe vs,h.get? a=some oe∧oe.cls=c∧oe.data=.fields vs
def zqh (a:Addr) (c:Value):HO:=.ext (zsP a c)
structure zjf (K:PySem.W.Frag) (c:Value):Prop where
 kit:∀ a:Addr,PySem.W.KitX K (.ref a) c (zsP a c)
inductive TyX (K:PySem.W.Frag) (H:Hp):V→Value→Prop where
 | of {x:V} {t:Value} (h:zmK K H x t):TyX K H x t
 | exc {a:Addr} {c:Value} (h:H a=some (zqh a c)) (k:zjf K c):TyX K H (.ref a) c
def clsV:V→Option Value
 | .ty n=>some (.type n)
 | .ref c=>some (.ref c)
 | _=>none
def zgW (K:PySem.W.Frag):List V→Hp→VK→Prop:=fun xs H Q=>∃ x c t cv b,xs=[x,c]∧clsV c=some cv∧TyX K H x t∧PySem.W.kitOne K t cv=some b∧Q (.bl b) H
def zh0 (C:Value) (E:XK):TS:=fun _ _ H=>E C none H
def zi5 (sp:Sp) (dvs:List V) (E:St→XK) (t:TA):TE:=fun σ H Q=>t σ H fun vs H1=>sp (vs++dvs) H1 Q (E σ)
def tTry (K:PySem.W.Frag) (tb:(St→XK)→TS) (D:Value) (i:Nat) (th:TS):TS:=fun d σ H =>
 tb (fun σ' c _ H'=>zjf K c∧PySem.W.subIn K c D=some true∧∀ a,H' a=none→th { d with nx:=fun σ2 H2=>d.nx (σ2.set i none) H2,bk:=fun σ2 H2=>d.bk (σ2.set i none) H2,ct:=fun σ2 H2=>d.ct (σ2.set i none) H2 } (σ'.set i (some (.ref a))) (upd H' a (zqh a c))) d σ H
theorem zhz {K:PySem.W.Frag} {H:Hp} {Q:VK} {i:Int} (q:Q (.bl true) H):zgW K [.int i,.ty "int"] H Q:=⟨_,_,_,_,true,rfl,rfl,.of (.int i),rfl,q⟩
theorem zgN {K:PySem.W.Frag} {H:Hp} {Q:VK} {i:Int} (q:Q (.bl false) H):zgW K [.int i,.ty "bool"] H Q:=⟨_,_,_,_,false,rfl,rfl,.of (.int i),zkK K,q⟩
theorem zpa {K:PySem.W.Frag} {H:Hp} {Q:VK} {r:Addr} {d:V} {cv dv:Value} {b:Bool} (hc:clsV d=some dv) (h:H r=some (zqh r cv)) (k:zjf K cv) (e:PySem.W.kitOne K cv dv=some b) (q:Q (.bl b) H):zgW K [.ref r,d] H Q:=⟨_,_,_,_,b,rfl,hc,.exc h k,e,q⟩
theorem zmI {c:V} {u cv:Value} (r:zbT c u) (h:clsV c=some cv):u=cv:=by
 cases c with
 | ty n=>cases r;exact Option.some.inj h
 | ref a=>cases r;exact Option.some.inj h
 | _=>cases h
theorem zbn:zgD X (.builtin "isinstance") (zgW X.K):=by
 intro pins s σ H xs us Q I r h
 obtain ⟨x,c,t,cv,b,rfl,hc,ty,e,q⟩:=h
 obtain ⟨u,w',rfl,rx,rw'⟩:=zuw r
 obtain rfl:=zmI rw' hc
 cases ty with
 | of ty=>exact zoa I rx ty e fun tk=>⟨.bl b,H,I.tok tk,rfl,q⟩
 | @exc a c h k =>
  cases (show u=Value.ref a from rx)
  obtain ⟨p,_,_⟩:=(show zca X.prog X.w H s.heap a (zqh a t) from I.hok a _ h)
  exact PySem.W.kia_one (k.kit a) I.kIn p e (fun z=>nomatch z) fun tk=>⟨.bl b,H,I.tok tk,rfl,q⟩
def rEqT (K:PySem.W.Frag):R2:=fun x y H Q=>∃ (a b:Addr) (ns ms:List Int),x=.ref a∧y=.ref b∧SqT K H a (ns.map V.int)∧SqT K H b (ms.map V.int)∧Q (.bl (decide (ns=ms))) H
theorem zl4:∀ {ns:List Int} {us:List Value},zbs (ns.map V.int) us→∀ {j:Nat} (h:j<us.length),∃ (h':j<ns.length) (t:Tok),us[j]=.int ns[j] t
 | [],_,.nil,j,h=>absurd h (Nat.not_lt_zero _)
 | n::ns,_,.cons r t,0,h=>by
  obtain ⟨t',rfl⟩:=r
  exact ⟨Nat.succ_pos _,t',rfl⟩
 | n::ns,_,.cons r t,j+1,h=>by
  obtain ⟨h',t',e⟩:=zl4 t (j:=j) (Nat.lt_of_succ_lt_succ h)
  exact ⟨Nat.succ_lt_succ h',t',e⟩
theorem zga {l:List Int} {j:Nat} (h:j<l.length):l.getD j 0=l[j]:=by
 rw [List.getD_eq_getElem?_getD,List.getElem?_eq_getElem h]
 rfl
theorem zpU {ns ms:List Int}:((List.range (min ns.length ms.length)).all (fun j=>ns.getD j 0 == ms.getD j 0)&&ns.length == ms.length)=decide (ns=ms):=by
 by_cases h:ns=ms
 ·subst h
  rw [decide_eq_true rfl,Bool.and_eq_true]
  refine ⟨List.all_eq_true.mpr fun j _=>beq_self_eq_true _,beq_self_eq_true _⟩
 ·rw [decide_eq_false h]
  refine Bool.eq_false_iff.mpr fun z=>h ?_
  obtain ⟨z1,z2⟩:=(Bool.and_eq_true _ _).mp z
  have hl:ns.length=ms.length:=beq_iff_eq.mp z2
  refine List.ext_getElem hl fun j h1 h2=>?_
  have q:=List.all_eq_true.mp z1 j (List.mem_range.mpr (by (first|lia|omega)))
  have q':ns.getD j 0=ms.getD j 0:=beq_iff_eq.mp q
  rw [zga h1,zga h2] at q'
  exact q'
theorem zoh {A:Around} {s:Shared} {ns ms:List Int} {us ws:List Value} (r1:zbs (ns.map V.int) us) (r2:zbs (ms.map V.int) ws) :
  ∀ j (h1:j<us.toArray.size) (h2:j<ws.toArray.size),SeqAt.EqAt A s us.toArray[j] ws.toArray[j] (ns.getD j 0 == ms.getD j 0):=by
 intro j h1 h2
 rw [List.size_toArray] at h1 h2
 obtain ⟨k1,t1,e1⟩:=zl4 r1 h1
 obtain ⟨k2,t2,e2⟩:=zl4 r2 h2
 rw [List.getElem_toArray,List.getElem_toArray,e1,e2,zga k1,zga k2]
 exact SeqAt.EqAt.int_int _ _ _ _
theorem zuO (hu:X.A.units<cLine):OpR X (compareOp .Eq) (rEqT X.K):=by
 intro pins s σ H x y v u Q I rx ry h
 obtain ⟨a,b,ns,ms,rfl,rfl,ha,hb,q⟩:=h
 cases rx
 cases ry
 obtain ⟨us,r1,p1,_⟩:=I.tuple ha
 obtain ⟨ws,r2,p2,_⟩:=I.tuple hb
 have l1:=r1.length
 have l2:=r2.length
 rw [List.length_map] at l1 l2
 refine SeqAt.RcAt.tuples p1 p2 hu (e:=fun j=>ns.getD j 0 == ms.getD j 0) (zoh r1 r2) X.prog X.w X.xe _ ⟨.bl _,H,I,rfl,?_⟩
 rw [List.size_toArray,List.size_toArray,← l1,← l2,zpU]
 exact q
def tTru (K:PySem.W.Frag) (ta:TE):TT:=fun σ H Q=>ta σ H fun x H'=>∃ k,zu2 K x H' k∧Q k H'
def zdy (t:TS):TS:=fun D σ H=>∃ R:St→Hp→Prop,t { D with nx:=R } σ H∧∀ σ' H',R σ' H'→D.nx σ' H'
theorem zbq {st:Stmt} {t:TS} (h:PS X st t):PS X st (zdy t):=by
 intro pins s σ H D I hw
 obtain ⟨R,hw,hR⟩:=hw
 refine thn (h pins s σ H _ I hw) fun f s' q=>?_
 cases f with
 | next=>obtain ⟨σ',H',I',q⟩:=q;exact ⟨σ',H',I',hR _ _ q⟩
 | brk=>exact q
 | cont=>exact q
 | ret u=>exact q
end
theorem zap {H:Hp} {p:Addr} (h:H p=none) (o:HO):za0 H (upd H p o):=fun b u q=>by rw [zal (zaV q h)];exact q
theorem za0.add {H0 H:Hp} {p:Addr} {o:HO} (s:za0 H0 H) (h:H p=none):za0 H0 (upd H p o):=s.trans (zap h o)
theorem za0.put {H0 H:Hp} {p:Addr} {o:HO} (s:za0 H0 H) (h:H0 p=none):za0 H0 (upd H p o):=fun b u q=>by rw [zal (zaV q h)];exact s _ _ q
theorem zpC {K:PySem.W.Frag} {i:Int} {H:Hp} {k:Bool}:zu2 K (.int i) H k=(k=(i != 0)):=rfl
theorem zr8 {K:PySem.W.Frag} {i:Bool} {H:Hp} {k:Bool}:zu2 K (.bl i) H k=(k=i):=rfl
theorem zmF (a b:Int):zuT (.int a) (.int b)=true:=rfl
theorem zsL (a b:Bool):zuT (.bl a) (.bl b)=true:=rfl
def zpS (J:It) (g:TG) (tb:TS):TS:=fun D σ H=>∃ W:Nat→Nat→St→Hp→Prop,(∃ m,W 0 m σ H)∧∀ i m σ H,W i m σ H →
 (J.stop i H∧D.nx σ H)∨(J.go i H∧∃ N:St→Hp→Prop,(∀ σ' H',N σ' H'→∃ m',m'<m∧W (i+1) m' σ' H')∧∀ x H',J.yld i H x H'→g x σ H' fun σ2 H2=>tb { D with nx:=N,ct:=N,bk:=D.nx } σ2 H2)
theorem ztc {wi:TI} {g:TG} {tb:TS} {D:zbO} {σ:St} {H:Hp}:zmu wi g tb D σ H=wi σ H fun J H1=>zpS J g tb D σ H1:=rfl
theorem zi7 {lo:Int} {n:Nat} {g:TG} {tb:TS} {D:zbO} {σ:St} {H:Hp} (Pv:Nat→St→Hp→Prop) (h0:Pv 0 σ H)
  (hs:∀ i σ H,i<n→Pv i σ H→g (.int (lo+i)) σ H fun σ2 H2=>tb { D with nx:=Pv (i+1),ct:=Pv (i+1),bk:=D.nx } σ2 H2) (hd:∀ σ H,Pv n σ H→D.nx σ H):zpS (Itr lo n) g tb D σ H:=zn5 Pv h0 hs hd
theorem zej {K:PySem.W.Frag} {a:Addr} {xs:List V} {g:TG} {tb:TS} {D:zbO} {σ:St} {H:Hp} (Pv:Nat→St→Hp→Prop) (h0:Pv 0 σ H) (hl:∀ i σ H,i≤xs.length→Pv i σ H→SqL K H a xs)
  (hs:∀ i x σ H,xs[i]?=some x→Pv i σ H→g x σ H fun σ2 H2=>tb { D with nx:=Pv (i+1),ct:=Pv (i+1),bk:=D.nx } σ2 H2) (hd:∀ σ H,Pv xs.length σ H→D.nx σ H):zpS (Itl K a) g tb D σ H:=zqC Pv h0 hl hs hd
end L2
namespace L2
open PySem PySem.Spec PyProof.Rows
section
variable {P:Program} {w:World}
theorem zca.there {H:Hp} {h:Heap} {a:Addr} {o:HO} (x:zca P w H h a o):∃ ob,h.get? a=some ob:=by
 cases o with
 | lst xs=>obtain ⟨_,_,_,_,e⟩:=x;exact ⟨_,e⟩
 | tup xs=>obtain ⟨_,_,_,ob,e,_⟩:=x;exact ⟨ob,e⟩
 | dK kvs=>obtain ⟨_,_,_,_,ob,_,_,e,_⟩:=x;exact ⟨ob,e⟩
 | dT kvs=>obtain ⟨_,_,_,_,ob,_,_,e,_⟩:=x;exact ⟨ob,e⟩
 | set S n=>obtain ⟨ob,_,_,_,e,_⟩:=x;exact ⟨ob,e⟩
 | ins C dx fs=>obtain ⟨_,_,_,e,_⟩:=x;exact ⟨_,e⟩
 | own y=>exact x
 | xd fs=>obtain ⟨_,⟨ob,_,_,e,_⟩,_⟩:=x;exact ⟨ob,e⟩
 | rng lo hi=>obtain ⟨_,_,_,e⟩:=x;exact ⟨_,e⟩
 | frz ob u=>obtain ⟨e,_⟩:=x;exact ⟨ob,e⟩
 | tbl ps=>exact ⟨_,(show h.get? a=some _ from x)⟩
 | met f y=>exact ⟨_,(show h.get? a=some _ from x)⟩
 | ext φ=>obtain ⟨_,⟨ob,e⟩,_⟩:=x;exact ⟨ob,e⟩
structure zrJ (P:Program) (w:World) (outer:List Env) (H:Hp) (s:Shared) (E:XK) (ea:Addr) (s':Shared) (B:Heap) (cls a0:Value) (H':Hp):Prop where
 os:s'.os=s.os
 bare:AllBare s'.gens
 un:Un (frs outer) [] H H' s.heap s'.heap
 hokB:HOk P w H' B
 fly:Heap.FlyingW B outer ea cls a0 s'.heap
 cov:∀ b o,s.heap.get? b=some o→H b=none→b∉frs outer→B.get? b=some o
 covT:∀ b o,s.heap.get? b=some o→b∉frs outer→∃ o',B.get? b=some o'
 new:s.heap.get? ea=none
 free:H' ea=none
 want:E cls none H'
def CXE (P:Program) (w:World):CXT:=fun outer H s E e s'=>∃ (ea:Addr) (B:Heap) (cls a0:Value) (H':Hp),e=.ref ea∧zrJ P w outer H s E ea s' B cls a0 H'
theorem zrJ.later {outer:List Env} {H H':Hp} {s s':Shared} {E:XK} {ea:Addr} {B h:Heap} {cls a0:Value} (x:zrJ P w outer H s E ea s' B cls a0 H') (st:B.StaysIn h) (sm:s'.heap.UpToSlots h)
  (ff:s'.heap.FunFrames B outer):Un (frs outer) [] H H' s.heap h∧HOk P w H' h:=by
 have slot:∀ b o,s'.heap.get? b=some o→b∈frs outer→∃ sl,h.get? b=some { o with slots:=sl }:=fun b o e hb=>by
  obtain ⟨_,o',e',nf⟩:=ff.mem hb
  rw [e] at e'
  cases e'
  exact sm b o e nf
 refine ⟨⟨fun b o e n hb _=>st b o (x.cov b o e n hb),fun b o e n hb hx=>?_,x.un.free,fun b o e hx=>?_,x.un.tups,x.un.frzs,x.un.tbls⟩,x.hokB.kept st⟩
 ·obtain ⟨sl,e1⟩:=x.un.slot b o e n hb hx
  obtain ⟨sl',e2⟩:=slot b _ e1 hb
  exact ⟨sl',e2⟩
 ·by_cases hb:b∈frs outer
  ·obtain ⟨o1,e1⟩:=x.un.there b o e hx
   obtain ⟨sl,e2⟩:=slot b o1 e1 hb
   exact ⟨_,e2⟩
  ·obtain ⟨o',e'⟩:=x.covT b o e hb
   exact ⟨o',st b o' e'⟩
end
section
variable {P:Program} {w:World} {K:PySem.W.Frag} {mg:Str→Option Value} {base:Heap} {N:List Str} {qual:Str} {scope:Scope} {f:Addr} {cd:Value} {A:Around} {outer:List Env} {s₀:Shared} {H₀:Hp} {E:XK}
theorem zq2:zfs (CXE P w) (zpo (CXE P w) P w K mg base N qual scope f cd A outer s₀ H₀ E) E:=by
 intro pins σ H s e s' I h
 obtain ⟨ea,B,cls,a0,H',rfl,x⟩:=h
 have hfr:=I.ok.frames
 have ff:=x.fly.2.2.1
 refine wpAny_leaves_onW (base:=B) (L:=s₀.heap.objs.size) hfr rfl x.fly fun h' fl sm=>?_
 obtain ⟨un2,hok2⟩:=x.later fl.1 sm ff
 have neL:∀ b o,s₀.heap.get? b=some o→b≠s₀.heap.objs.size:=fun b o e=>Nat.ne_of_lt (Heap.lt_size e)
 have notin:∀ b o,s₀.heap.get? b=some o→b∉frs outer→b∉frs (envOfC qual scope s₀.heap.objs.size f cd::outer):=fun b o e hb z=>by
  rcases List.mem_cons.mp (I.stkSub b z) with q | q
  ·exact neL b o e q
  ·exact hb q
 have un:Un (frs outer) [] H₀ H' s₀.heap h':=by
  refine ⟨fun b o e n hb hx=>?_,fun b o e n hb hx=>?_,fun b o e n hx=>?_,fun b o e hx=>?_,fun b xs e=>x.un.tups b xs (I.base.tups b xs e),fun b o u e=>x.un.frzs b o u (I.base.frzs b o u e),fun b ps e=>?_⟩
  ·exact un2.keep b o (I.base.keep b o e n hb hx) (I.base.free b o e n hx) (notin b o e hb) (by simp)
  ·obtain ⟨sl,e1⟩:=I.base.slot b o e n hb hx
   obtain ⟨sl',e2⟩:=un2.any e1 (I.base.free b o e n hx) (by simp)
   exact ⟨sl',e2⟩
  ·obtain ⟨o',e1⟩:=I.base.there b o e hx
   exact x.un.free b o' e1 (I.base.free b o e n hx) (by simp)
  ·obtain ⟨o',e1⟩:=I.base.there b o e hx
   exact un2.there b o' e1 (by simp)
  ·obtain ⟨m1,e1⟩:=I.base.tbls b ps e
   obtain ⟨m2,e2⟩:=x.un.tbls b _ e1
   exact ⟨m1++m2,by rw [e2,Array.append_assoc]⟩
 refine ⟨ea,B,cls,a0,H',rfl,x.os.trans I.os,x.bare,un,x.hokB,fl,fun b o e n hb=>?_,fun b o e hb=>?_,?_,x.free,x.want⟩
 ·exact x.cov b o (I.base.keep b o e n hb (by intro z;cases z)) (I.base.free b o e n (by intro z;cases z)) (notin b o e hb)
 ·obtain ⟨o',e1⟩:=I.base.there b o e (by intro z;cases z)
  exact x.covT b o' e1 (notin b o e hb)
 ·cases q:s₀.heap.get? ea with
  | none=>rfl
  | some o =>
   obtain ⟨o',e1⟩:=I.base.there ea o q (by intro z;cases z)
   rw [x.new] at e1
   cases e1
end
def zru (X:Cx) (C:Addr) (E:XK):Prop:=∀ (pins:List (Addr×Obj)) (σ:St) (H:Hp) (s:Shared) (ea:Addr) (h':Heap) (args:List Value),Inv X pins σ H s→Heap.MadeExcOf s.heap h' ea (.ref C) args→E (.ref C) none H→X.xe (.ref ea) { s with heap:=h' }
section
variable {P:Program} {w:World} {K:PySem.W.Frag} {mg:Str→Option Value} {base:Heap} {N:List Str} {qual:Str} {scope:Scope} {f:Addr} {cd:Value} {A:Around} {outer:List Env} {s₀:Shared} {H₀:Hp} {E:XK}
theorem zmf {C:Addr}:zru (zpo (CXE P w) P w K mg base N qual scope f cd A outer s₀ H₀ E) C E:=by
 intro pins σ H s ea h' args I hx q
 have hfr:=I.ok.frames
 have hst:s.heap.FunFrames base (envOfC qual scope s₀.heap.objs.size f cd::outer):=I.stack
 have fresh:∀ b∈frs (envOfC qual scope s₀.heap.objs.size f cd::outer),H b=none:=I.stkFree
 have inB:∀ b o,s.heap.get? b=some o→b∉frs (envOfC qual scope s₀.heap.objs.size f cd::outer)→(PySem.W.hideAll s.heap (frs (envOfC qual scope s₀.heap.objs.size f cd::outer))).get? b=some o:=fun b o e n=>PySem.W.hideAll_get _ e n
 have st0:(PySem.W.hideAll s.heap (frs (envOfC qual scope s₀.heap.objs.size f cd::outer))).StaysIn s.heap:=fun b o q=>PySem.W.of_hideAll _ q
 have hl:s.heap.FunFrames (PySem.W.hideAll s.heap (frs (envOfC qual scope s₀.heap.objs.size f cd::outer))) (envOfC qual scope s₀.heap.objs.size f cd::outer) :=
  PySem.W.funFrames_hide hst fun env he a ha=>List.mem_filterMap.mpr ⟨env,he,ha⟩
 generalize PySem.W.hideAll s.heap (frs (envOfC qual scope s₀.heap.objs.size f cd::outer))=B at inB st0 hl
 refine wpAny_leaves_madeW (base:=B) (h:=s.heap) (L:=s₀.heap.objs.size) hfr rfl st0 hl hx fun h2 t x1 x2 x3 x4=>?_
 have neL:∀ b o,s₀.heap.get? b=some o→b≠s₀.heap.objs.size:=fun b o e=>Nat.ne_of_lt (Heap.lt_size e)
 have notin:∀ b o,s₀.heap.get? b=some o→b∉frs outer→b∉frs (envOfC qual scope s₀.heap.objs.size f cd::outer):=fun b o e hb z=>by
  rcases List.mem_cons.mp (I.stkSub b z) with q | q
  ·exact neL b o e q
  ·exact hb q
 have slot:∀ b o,s.heap.get? b=some o→b∈frs outer→∃ sl,h2.get? b=some { o with slots:=sl }:=fun b o e hb=>by
  obtain ⟨_,o',e',nf⟩:=hl.2.2.mem hb
  rw [e] at e'
  cases e'
  exact x4 b o (hx.keeps b o e) nf
 have hokB:HOk P w H B:=fun b u e=>(I.hok b u e).stay (fun c v hc q=>inB c v q fun z=>by
  rcases hc with r | r
  ·rw [r] at z
   rw [fresh b z] at e
   cases e
  ·rw [fresh c z] at r
   cases r) (fun _ q=>q) fun _ _ q=>q
 have un:Un (frs outer) [] H₀ H s₀.heap h2:=by
  refine ⟨fun b o e n hb hx=>?_,fun b o e n hb hx=>?_,I.base.free,fun b o e hx=>?_,I.base.tups,I.base.frzs,I.base.tbls⟩
  ·exact x1.1 b o (inB b o (I.base.keep b o e n hb hx) (notin b o e hb))
  ·obtain ⟨sl,e1⟩:=I.base.slot b o e n hb hx
   obtain ⟨sl',e2⟩:=slot b _ e1 hb
   exact ⟨sl',e2⟩
  ·obtain ⟨o',e1⟩:=I.base.there b o e hx
   by_cases hb:b∈frs outer
   ·obtain ⟨sl,e2⟩:=slot b o' e1 hb
    exact ⟨_,e2⟩
   ·exact ⟨o',x1.1 b o' (inB b o' e1 (notin b o e hb))⟩
 refine ⟨ea,B,.ref C,.ref t,H,rfl,I.os,I.bare,un,hokB,x1,fun b o e n hb=>?_,fun b o e hb=>?_,?_,?_,q⟩
 ·exact inB b o (I.base.keep b o e n hb (by intro z;cases z)) (notin b o e hb)
 ·obtain ⟨o',e1⟩:=I.base.there b o e (by intro z;cases z)
  exact ⟨o',inB b o' e1 (notin b o e hb)⟩
 ·cases q:s₀.heap.get? ea with
  | none=>rfl
  | some o =>
   obtain ⟨o',e1⟩:=I.base.there ea o q (by intro z;cases z)
   rw [hx.new] at e1
   cases e1
 ·cases q:H ea with
  | none=>rfl
  | some u =>
   obtain ⟨o',e1⟩:=(I.hok ea u q).there
   rw [hx.new] at e1
   cases e1
end
abbrev zf0:List Value:=[.type "ValueError",.type "Exception",.type "BaseException",.type "object"]
def zrF (h:Heap) (C:Addr):Prop:=∃ bm N nm q bs hdct sn sub ab col dd k0 k1 k2 k3 k5 mN,h.get? C=some (excClassObj nm q C N bs bm hdct sn sub ab col dd k0 k1 k2 k3 k5 "ValueError.__new__")∧h.Ns N mN∧mN "__init__"=none∧OwnTail h zf0 bm
theorem zfy {K:PySem.W.Frag} {h:Heap} {C:Addr} (X:K.In h) (q:PySem.W.excIn K C zf0 "ValueError.__new__"=true):zrF h C:=by
 unfold PySem.W.excIn at q
 split at q
 ·rename_i dd cd sl ho
  split at q
  ·rename_i C2 bm k0 k1 k2 k3 n k5 hm hs
   simp only [Bool.and_eq_true,beq_iff_eq,Bool.not_eq_true'] at q
   obtain ⟨⟨⟨⟨⟨r1,r2⟩,r3⟩,r4⟩,r5⟩,r6⟩:=q
   subst r1 r2
   obtain ⟨a1,a2,a3,a4,a5,a6,a7,a8,a9,a10,a11⟩:=cd
   dsimp only at hm r3 r5 r6
   subst hm r3
   have z:sl=#[k0,k1,k2,k3,some (.builtin "ValueError.__new__"),k5]:=by
    obtain ⟨l⟩:=sl
    exact congrArg Array.mk hs
   subst z
   exact ⟨bm,_,_,_,_,_,_,_,_,_,_,k0,k1,k2,k3,k5,_,X _ _ ho,.of_isNs (PySem.W.isNs_of_in X r5),PySem.W.nsMap_none_of_in X r5 r6,PySem.W.tail_of_in X r4⟩
  ·cases q
 ·cases q
theorem zjG {X:Cx} {x:Str} {C:Addr} {E:XK} {z:Str} {j:Nat} {np cpos pos pz:Pos} (hm:X.mg x=some (.ref C)) (hq:PySem.W.excIn X.K C zf0 "ValueError.__new__"=true) (hg:Gl X x) (hc:X.calm=true) (hT:zru X C E)
  (hd:(x == ("__debug__":Str))=false:=by decide):PS X (.Raise (some (.Call (.Name x np) [.Constant (.str z) j pz] [] cpos)) none pos) (zh0 (.ref C) E):=by
 intro pins s σ H D I h
 have hw:E (.ref C) none H:=h
 have O:=zfy I.ok.mod.kin hq
 obtain ⟨b1,b2,b3,b4,b5,b6,b7,b8,b9,b10,b11,b12,b13,b14,b15,b16,b17,hC,hN,hni,T⟩:=O
 refine wpAny_Raise_call_subT (C:=C) (nm:=b3) (q:=b4) (N:=b2) (bs:=b5) (bm:=b1) (hdct:=b6) (sn:=b7) (sub:=b8) (ab:=b9) (col:=b10) (dd:=b11) (k0:=b12) (k1:=b13) (k2:=b14) (k3:=b15) (k5:=b16) (mN:=b17)
  PySem.F.excBase_ValueError (T.hasType PySem.F.excBase_ValueError.hasBase) (I.ok.hd hc) rfl hni (zgF I hg hm ⟨rfl,?_⟩ hd)
 refine Calls.evalArgs_plain ?_
 refine thn ((zaa (X:=X) (zgM (x:=z) (j:=j) (pos:=pz)) zae (by rfl)) cpos pins s σ H (fun vs H1=>vs=[.str z]∧H1=H) I ⟨rfl,rfl⟩) fun us s2 hQ'=>?_
 obtain ⟨vs,H1,I1,r,e1,e2⟩:=hQ'
 subst e1 e2
 have hl:=r.length
 refine ⟨rfl,by rw [← hl];exact Nat.le_of_lt (zbl (by show 1≤1000;decide)),I1.bk _ _ hC,hN.keeps I1.bk,T.keeps I1.bk,fun h' e hmade=>?_⟩
 exact hT pins σ _ s2 e h' us I1 hmade hw
theorem Fun.okX {P:Program} {w:World} {K:PySem.W.Frag} {mg:Str→Option Value} {base:Heap} {x qual:Str} {st:Stmt} {f:Addr} {fd:FuncData} {N ps:List Str} {k:Nat} {sp:Sp} (F:Fun K x qual st f fd) (S:zaI N ps (zaj st)) (len:∀ vs H Q E,sp vs H Q E→vs.length=ps.length)
  (hbody:∀ (cdv:Value) (A:Around) (outer:List Env) (s:Shared) (H:Hp) (vs:List V) (Q:VK) (E:XK),zeD k (A.deeper (envOfC qual (zaj st) s.heap.objs.size f cdv))→sp vs H Q E →
   ∃ t,PSs (zpo (CXE P w) P w K mg base N qual (zaj st) f cdv A outer s H E) (zc0 st) t∧t { nx:=fun _ H'=>Q .non H',rt:=Q } (L2.zbi N vs) H):zcw P w K mg base (CXE P w) (k+1) f fd ps sp:=by
 obtain ⟨oc,od,kV,doc,pm,an,cdv,ct,osl,rfl,lk,hcd⟩:=F.ex
 exact zst lk hcd S len fun A outer s H vs Q E hr hsp=>hbody cdv A outer s H vs Q E hr hsp
section
variable {X:Cx} {CX:CXT} {k:Nat} {f:Addr} {fd:FuncData} {ps:List Str} {sp:Sp} {dvs:List V} {ds:List Value} {E:St→XK} {x:Str} {p pos:Pos} {e:Expr} {es:List Expr} {t:TA}
def znY (CX:CXT) (X:Cx) (E:St→XK):Prop:=∀ (pins:List (Addr×Obj)) (σ:St) (H:Hp) (s:Shared) (e:Value) (s':Shared),Inv X pins σ H s→CX X.stack H s (E σ) e s'→X.xe e s'
theorem zhe (F:zcw X.prog X.w X.K X.mg X.base CX k f fd ps sp) (hr:zeD k X.A) (hg:Gl X x) (hm:X.mg x=some (.ref f)) (hk:PySem.W.keepIn X.K (.ref f)=true) (hb:zbg X.K fd ps ds) (hd:zbs dvs ds) (hx:znY CX X E)
  (ha:PA X (e::es) t) (hdb:(x == ("__debug__":Str))=false:=by decide) (he:starEach (e::es) X.env=(false,eval e X.env)::starEach es X.env:=by rfl) (hpl:(backTo pos (starEach es X.env)).any (·.1)=false:=by rfl) :
  PE X (.Call (.Name x p) (e::es) [] pos) (zi5 sp dvs E t):=by
 intro pins s σ H Q I h
 refine wpAny_Call_Name_kw (zgF I hg hm ?_ hdb)
 refine PySem.W.callWith_K (h₀:=X.base) I.ok.mod.kin hk (thn (ha pos pins s σ H _ I h) fun us s1 ⟨vs,H1,I1,r,q⟩=>⟨I1.kIn,?_⟩) he hpl
 have r2:zbs (vs++dvs) (us++ds):=r.append hd
 have hl:(us++ds).length=ps.length:=by rw [← r2.length];exact F.len _ _ _ _ q
 refine wpAny_call (codeAny_mono (F.run X.A X.stack s1 H1 ⟨us,[]⟩ (us++ds) (vs++dvs) Q (E σ) hr I1.env0 (hb s1 us I1.kIn hl) r2 q) fun res s' hq=>?_)
 cases res with
 | error e=>exact hx pins σ H1 s1 e s' I1 hq
 | ok fl =>
  cases fl with
  | ret u=>exact I1.after hq
  | next=>exact False.elim hq
  | brk=>exact False.elim hq
  | cont=>exact False.elim hq
end
def Cx.inTry (X:Cx) (pins:List (Addr×Obj)) (E:St→XK):Cx:={ X with
 pn:=X.pn++pins
 xe:=fun e s'=>∃ pins' σ H s,Inv { X with pn:=X.pn++pins } pins' σ H s∧CXE X.prog X.w X.stack H s (E σ) e s' }
theorem Cx.Ok.pinned {X:Cx} (ok:X.Ok) (pn:List (Addr×Obj)) (xe:Value→Shared→Prop):Cx.Ok { X with pn:=pn,xe:=xe } :=
 ⟨ok.mod,ok.kind,ok.glob,ok.blt,ok.above,ok.inj,ok.has,ok.cab,ok.hd,ok.frames,ok.stk,ok.exf,ok.bs,ok.bsz,ok.noex,ok.exfs,ok.funs,ok.frf⟩
theorem Inv.toTry {X:Cx} {pins:List (Addr×Obj)} {σ:St} {H:Hp} {s:Shared} (I:Inv X pins σ H s) (E:St→XK):Inv (X.inTry pins E) [] σ H s :=
 ⟨I.ok.pinned _ _,I.os,I.bare,I.base,I.loc,I.cell,I.free,I.freeC,fun p hp=>I.pin p (by rw [List.append_nil] at hp;exact hp),I.hok,I.len⟩
theorem zqE {X:Cx} {pins:List (Addr×Obj)} {E:St→XK}:znY (CXE X.prog X.w) (X.inTry pins E) E:=fun pins' σ H s e s' I h =>
 ⟨pins',σ,H,s,⟨I.ok.pinned _ _,I.os,I.bare,I.base,I.loc,I.cell,I.free,I.freeC,I.pin,I.hok,I.len⟩,h⟩
theorem Inv.ofTry {X:Cx} {pins pins':List (Addr×Obj)} {xe:Value→Shared→Prop} {σ:St} {H:Hp} {s:Shared} (I:Inv { X with pn:=X.pn++pins,xe:=xe } pins' σ H s) (ok:X.Ok):Inv X pins σ H s :=
 ⟨ok,I.os,I.bare,I.base,I.loc,I.cell,I.free,I.freeC,fun p hp=>I.pin p (List.mem_append_left _ hp),I.hok,I.len⟩
theorem SP.ofTry {X:Cx} {pins pins':List (Addr×Obj)} {E:St→XK} {D:zbO} {f:Flow} {s':Shared} (ok:X.Ok) (h:SP (X.inTry pins E) pins' D f s'):SP X pins D f s':=by
 cases f with
 | next=>obtain ⟨σ',H',I,q⟩:=h;exact ⟨σ',H',I.ofTry ok,q⟩
 | brk=>obtain ⟨σ',H',I,q⟩:=h;exact ⟨σ',H',I.ofTry ok,q⟩
 | cont=>obtain ⟨σ',H',I,q⟩:=h;exact ⟨σ',H',I.ofTry ok,q⟩
 | ret u=>obtain ⟨v,σ',H',I,r,q⟩:=h;exact ⟨v,σ',H',I.ofTry ok,r,q⟩
theorem Inv.track {X:Cx} {pins:List (Addr×Obj)} {σ:St} {H:Hp} {s:Shared} {a:Addr} {o:HO} (I:Inv X pins σ H s) (hn:H a=none) (h0:X.s₀.heap.get? a=none) (hL:a≠X.env.locals) (hc:∀ x c,X.env.cells.lookup x=some c→c≠a)
  (hp:∀ p∈X.pn++pins,p.1≠a) (new:zca X.prog X.w (upd H a o) s.heap a o):Inv X pins σ (upd H a o) s:=by
 refine ⟨I.ok,I.os,I.bare,⟨I.base.keep,I.base.slot,fun b u q n hx=>?_,I.base.there,fun b xs q=>?_,fun b u xs q=>?_,fun b ps q=>?_⟩,I.loc,I.cell,?_,fun x c e=>?_,fun p q=>?_,fun b u e=>?_,I.len⟩
 ·have nb:b≠a:=fun z=>by rw [z,h0] at q;cases q
  rw [zal nb]
  exact I.base.free b u q n hx
 ·have q2:=I.base.tups b xs q
  rw [zal (zaV q2 hn)]
  exact q2
 ·have q2:=I.base.frzs b u xs q
  rw [zal (zaV q2 hn)]
  exact q2
 ·obtain ⟨m,q2⟩:=I.base.tbls b ps q
  exact ⟨m,by rw [zal (zaV q2 hn)];exact q2⟩
 ·rw [zal hL.symm]
  exact I.free
 ·rw [zal (hc x c e)]
  exact I.freeC x c e
 ·obtain ⟨e,n,r⟩:=I.pin p q
  exact ⟨e,by rw [zal (hp p q)];exact n,r⟩
 ·by_cases hb:b=a
  ·subst hb
   rw [zag] at e
   cases e
   exact new
  ·rw [zal hb] at e
   exact (I.hok b u e).stay (fun c v _ q=>q) (fun c q=>by rw [zal (zaV q hn)];exact q) fun c xs q=>by rw [zal (zaV q hn)];exact q
theorem zj3 {X:Cx} {pins:List (Addr×Obj)} {σ:St} {H:Hp} {s:Shared} {M:Model} {A:Around} {E:Value→Shared→Prop} {i:Nat} {n:Str} {pos:Pos} {Q:Unit→Shared→Prop} (I:Inv X pins σ H s) (hN:X.N.Nodup) (hi:X.N[i]?=some n)
  (hk:X.env.scope.names.lookup n=some .local) (h:∀ s',Inv X pins (σ.set i none) H s'→Q () s'):wpAny M A (do bindName X.env n .none;unbindBehindTheSuite X.env n pos) Q E s:=by
 obtain ⟨m,hn,hl⟩:=id I.loc
 have hcls:(X.env.scope.kind == .class || (X.env.scope.kind == .module&&X.env.locals != X.env.globals))=false:=by rw [I.ok.kind];rfl
 have hiσ:i<σ.length:=by rw [I.len];exact (List.getElem?_eq_some_iff.mp hi).1
 obtain ⟨oL,_,_,hoL,_⟩:=id hn
 refine wpAny_nameGoes_keeps hk hn hcls fun h' v hn' hs=>?_
 have below:∀ b o,X.s₀.heap.get? b=some o→b≠X.env.locals:=fun b o e=>Nat.ne_of_lt (Nat.lt_of_lt_of_le (Heap.lt_size e) I.ok.above)
 refine h _ ⟨I.ok,I.os,I.bare,⟨fun b o e n hb hx=>?_,fun b o e n hb hx=>?_,I.base.free,fun b o e hx=>?_,I.base.tups,I.base.frzs,I.base.tbls⟩,⟨_,hn',fun j y v' e1 e2 e3=>?_⟩,fun y c e=>?_,I.free,I.freeC,fun p hp=>?_,fun b ob e=>?_,by simpa using I.len⟩
 ·exact (hs.2 b (below b o e)).trans (I.base.keep b o e n hb hx)
 ·obtain ⟨sl,e1⟩:=I.base.slot b o e n hb hx
  exact ⟨sl,(hs.2 b (below b o e)).trans e1⟩
 ·obtain ⟨o',e1⟩:=I.base.there b o e hx
  exact ⟨o',(hs.2 b (below b o e)).trans e1⟩
 ·have hj:j≠i:=fun z=>by
   rw [z,List.getElem?_set_self hiσ] at e2
   cases e2
  rw [List.getElem?_set_ne (Ne.symm hj)] at e2
  obtain ⟨u',r',q⟩:=hl j y v' e1 e2 e3
  refine ⟨u',r',?_⟩
  rcases q with ⟨k,e⟩ | ⟨k,c,e,z⟩
  ·refine .inl ⟨k,?_⟩
   have:y≠n:=fun e=>hj (zjz hN e1 (e ▸ hi))
   simp [this,e]
  ·exact .inr ⟨k,c,e,z.sameBut hs (I.cne y c e)⟩
 ·obtain ⟨w',z⟩:=I.cell y c e
  exact ⟨w',z.sameBut hs (I.cne y c e)⟩
 ·obtain ⟨e,n,ne,nf,d⟩:=I.pin p hp
  exact ⟨(hs.2 p.1 ne).trans e,n,ne,nf,d⟩
 ·refine (I.hok b ob e).stay (fun c w' hc q=>(hs.2 c ?_).trans q) (fun _ q=>q) fun _ _ q=>q
  rintro rfl
  rcases hc with rfl | hc
  ·rw [I.free] at e;cases e
  ·rw [I.free] at hc;cases hc
theorem ziD {M:Model} {A:Around} {E:Value→Shared→Prop} {h:Heap} {g:Array GenState} {d:Drawn} {t:Nat} {os:OsState} {e D:Addr} {oe:Obj} {cls:Value} {Q:Bool→Shared→Prop} (he:h.get? e=some oe) (hcls:oe.cls=cls)
  (O:zrF h D) (L:PySem.W.Looks M h (isSubtype cls (.ref D)) true) (hq:Q true ⟨h,g,d,t,os⟩):wpAny M A (excMatches (.ref e) (.ref D)) Q E ⟨h,g,d,t,os⟩:=by
 obtain ⟨b1,b2,b3,b4,b5,b6,b7,b8,b9,b10,b11,b12,b13,b14,b15,b16,b17,hD,hN,hni,T⟩:=O
 have hcB:(Value.ref D::b1).contains (.type "BaseException")=true:=by rw [List.contains_cons,T.hasType PySem.F.excBase_ValueError.hasBase,Bool.or_true]
 have f:=tc_notTuple
 unfold excMatches
 repeat (first | (with_reducible refine wpAny_loadPart_at he ?_;rw [hcls]) | with_reducible refine wpAny_loadPart_at hD ?_ | (with_reducible refine wpAny_isSubtype_exc hD ?_;rw [hcB]) | (with_reducible refine L.at ?_) | wp_step)
 exact hq
def Cx.inExc (X:Cx) (ea:Addr):Cx:={ X with A:=X.A.mark (some (.ref ea)),calm:=false }
theorem Inv.toExc {X:Cx} {pins:List (Addr×Obj)} {σ:St} {H:Hp} {s:Shared} {ea:Addr} (I:Inv X pins σ H s) (hf:(X.A.mark (some (.ref ea))).frames=some X.stack):Inv (X.inExc ea) pins σ H s :=
 ⟨⟨I.ok.mod,I.ok.kind,I.ok.glob,I.ok.blt,I.ok.above,I.ok.inj,I.ok.has,I.ok.cab,(by intro z;cases z),hf,I.ok.stk,I.ok.exf,I.ok.bs,I.ok.bsz,I.ok.noex,I.ok.exfs,I.ok.funs,I.ok.frf⟩,I.os,I.bare,I.base,I.loc,I.cell,I.free,I.freeC,I.pin,I.hok,I.len⟩
theorem Inv.ofExc {X:Cx} {pins:List (Addr×Obj)} {σ:St} {H:Hp} {s:Shared} {ea:Addr} (I:Inv (X.inExc ea) pins σ H s) (ok:X.Ok):Inv X pins σ H s :=
 ⟨ok,I.os,I.bare,I.base,I.loc,I.cell,I.free,I.freeC,I.pin,I.hok,I.len⟩
theorem zul {X:Cx} {i:Nat} {D:Addr} {x n:Str} {np pos hpos:Pos} {body:List Stmt} {b₀:Stmt} {suite:List Stmt} {tb:(St→XK)→TS} {th:TS} (hm:X.mg x=some (.ref D)) (hq:PySem.W.excIn X.K D zf0 "ValueError.__new__"=true)
  (hg:Gl X x) (hN:X.N.Nodup) (hi:X.N[i]?=some n) (hl:X.env.scope.names.lookup n=some .local) (hxe:X.xe=fun _ _=>False) (hst:X.stack=X.env::X.outer) (hfr:X.env.frame=some X.env.locals) (hex:X.ex=[])
  (hb:∀ pins E,PSs (X.inTry pins E) body (tb E)) (hh:∀ ea,PSs (X.inExc ea) (b₀::suite) th) (hd:(x == ("__debug__":Str))=false:=by decide) :
  PS X (.Try body [.ExceptHandler (some (.Name x np)) (some n) (b₀::suite) hpos] [] [] pos) (tTry X.K tb (.ref D) i th):=by
 intro pins s σ H d I h
 refine wpAny_Try_except (wpAny_mono (hb pins _ [] s σ H d (I.toTry _) h) (fun f s₁ q=>?_) fun e s₁ q=>?_)
 ·have q':=SP.ofTry I.ok q
  cases f with
  | next=>exact wpAny_execs_nil q'
  | brk=>exact q'
  | cont=>exact q'
  | ret u=>exact q'
 obtain ⟨pins',σ',H1,s1,I1,ea,B,cls,a0,H',rfl,x⟩:=q
 replace I1:Inv X pins σ' H1 s1:=Inv.ofTry (xe:=X.xe) I1 I.ok
 obtain ⟨hec,hsub,hth⟩:=x.want
 have fly:=x.fly
 rw [hst] at fly
 have ff:=x.fly.2.2.1
 have hfrm:X.A.frames=some (X.env::X.outer):=by rw [← hst];exact I.ok.frames
 refine wpAny_looks_onW (base:=B) (L:=X.env.locals) hfrm hfr fly fun h4 hd4 sm4=>?_
 refine wpAny_landsW hd4 fun h5 fl5 sm5=>?_
 have invAt:∀ {h:Heap} {tk:Nat},B.StaysIn h→s₁.heap.UpToSlots h→Inv X pins σ' H' { s₁ with heap:=h,toks:=tk }:=fun {h tk} st sm=>by
  obtain ⟨un,hok⟩:=x.later st sm ff
  exact I1.call' (ch:=[]) x.os un hok x.bare fun b z=>nomatch z
 have I5:Inv X pins σ' H' { s₁ with heap:=h5 }:=invAt (tk:=s₁.toks) fl5.1 (sm4.trans sm5)
 have fmark:(X.A.mark (some (.ref ea))).frames=some X.stack:=I.ok.frames
 refine wpAny_handleBy_cons (codeAny_handlers_test ?_) (by intro q;cases q)
 refine zgF (X:=X.inExc ea) (I5.toExc fmark) hg hm ?_ hd
 have kin5:=I5.kIn
 obtain ⟨oe,hoe,hcls⟩:=fl5.there
 refine ziD (cls:=cls) hoe hcls (zfy kin5 hq) (PySem.W.looks_subIn kin5 hsub) ?_
 refine codeAny_handlers_suite_as ?_
 refine lands_againW fl5 fun h6 fl6 sm6=>?_
 have I6:Inv X pins σ' H' { s₁ with heap:=h6 }:=invAt (tk:=s₁.toks) fl6.1 ((sm4.trans sm5).trans sm6)
 have noat:∀ b o,s1.heap.get? b=some o→b≠ea:=fun b o e z=>by rw [z,x.new] at e;cases e
 have n0:X.s₀.heap.get? ea=none:=by
  cases q:X.s₀.heap.get? ea with
  | none=>rfl
  | some o =>
   obtain ⟨o',e1⟩:=I1.base.there ea o q (by rw [hex];intro z;cases z)
   exact absurd rfl (noat ea o' e1)
 have nL:ea≠X.env.locals:=by
  obtain ⟨m,⟨o,_,_,e,_⟩,_⟩:=I1.loc
  exact (noat _ o e).symm
 have nC:∀ y c,X.env.cells.lookup y=some c→c≠ea:=fun y c e=>by
  obtain ⟨v,z⟩:=I1.cell y c e
  obtain ⟨o,e1,_⟩:=z
  exact noat c o e1
 have nP:∀ p∈X.pn++pins,p.1≠ea:=fun p hp=>noat _ _ (I1.pin p hp).1
 have isx:zsP ea cls h6:=by
  obtain ⟨_,_,_,oe,vs,_,_,_,he,hc,hd,_⟩:=fl6
  exact ⟨oe,vs,he,hc.1,hd⟩
 have I7:=I6.track (o:=zqh ea cls) x.free n0 nL nC nP ⟨isx,by obtain ⟨oe,_,he,_⟩:=isx;exact ⟨oe,he⟩,fun h1 h2 ⟨oe,vs,he,r⟩ k=>⟨oe,vs,k oe he,r⟩⟩
 refine zkp (X:=X.inExc ea) (v:=.ref ea) (I7.toExc fmark) hN hi (.inl hl) rfl (fun s8 I8=>?_) (.inr hl)
 refine wpAny_mono (hh ea pins s8 _ _ _ I8 (hth ea x.free)) (fun f s9 q=>?_) fun e s9 q=>?_
 ·cases f with
  | next =>
   obtain ⟨σ9,H9,I9,r⟩:=q
   exact zj3 (I9.ofExc I.ok) hN hi hl fun s10 I10=>⟨_,_,I10,r⟩
  | brk =>
   obtain ⟨σ9,H9,I9,r⟩:=q
   exact zj3 (I9.ofExc I.ok) hN hi hl fun s10 I10=>⟨_,_,I10,r⟩
  | cont =>
   obtain ⟨σ9,H9,I9,r⟩:=q
   exact zj3 (I9.ofExc I.ok) hN hi hl fun s10 I10=>⟨_,_,I10,r⟩
  | ret u =>
   obtain ⟨v,σ9,H9,I9,rv,r⟩:=q
   exact zj3 (I9.ofExc I.ok) hN hi hl fun s10 I10=>⟨v,_,_,I10,rv,r⟩
 ·rw [show (X.inExc ea).xe=X.xe from rfl,hxe] at q
  exact q.elim
structure zf5 (K:PySem.W.Frag) (C:Addr):Prop where
 ga:PySem.W.findIn K (.ref C) "__getattribute__"=some (some (.builtin "BaseException.__getattribute__"))
 gn:PySem.W.findIn K (.ref C) "__getattr__"=some none
 cl:PySem.W.findIn K (.ref C) "__class__"=some (some (.builtin "object.__class__"))
 mb:PySem.W.mroIn K C (.type "BaseException")=some true
 mo:PySem.W.mroIn K C (.type "object")=some true
structure zo7 (K:PySem.W.Frag) (C:Addr):Prop where
 ga:PySem.W.findIn K (.ref C) "__getattribute__"=some (some (.builtin "BaseException.__getattribute__"))
 gn:PySem.W.findIn K (.ref C) "__getattr__"=some none
 cl:PySem.W.findIn K (.ref C) "__class__"=some (some (.builtin "object.__class__"))
 mb:PySem.W.mroIn K C (.type "BaseException")=some true
 mo:PySem.W.mroIn K C (.type "object")=some true
 ok:PySem.W.excIn K C zf0 "ValueError.__new__"=true
theorem zo7.five {K:PySem.W.Frag} {C:Addr} (Z:zo7 K C):zf5 K C:=⟨Z.ga,Z.gn,Z.cl,Z.mb,Z.mo⟩
section
open Builtin Builtin.ObjectAttr Builtin.Getset_descriptor PySem.W
variable {K:PySem.W.Frag} {prog:Program} {w:World} {A:Around} {E:Value→Shared→Prop} {h:Heap} {g:Array GenState} {d:Drawn} {t:Nat} {os:OsState} {a C:Addr} {o:Obj}
theorem znc:splitId "BaseException.__getattribute__"=some ("BaseException","__getattribute__"):=by decide +kernel
theorem zmT:builtinKind "BaseException.__getattribute__"=some .slot:=by decide +kernel
theorem znw {R:Result→Shared→Prop} (X:K.In h) (Z:zf5 K C) (hx:h.get? a=some o) (hc:o.cls=.ref C) (hq:R (.ok (.ret (.ref C))) ⟨h,g,d,t,os⟩) :
  codeAny (model prog w) A (.call (.builtin "getset_descriptor.__get__") ⟨[.builtin "object.__class__",.ref a,.ref C],[]⟩) R ⟨h,g,d,t,os⟩:=by
 have LT:PySem.W.Looks (model prog w) h (typeOf (.ref a)) (.ref C):=hc ▸ (PySem.W.Looks.ld hx).andThen .now
 have LM:=PySem.W.looks_mroIn (M:=model prog w) X Z.mo
 refine codeAny_call_builtin PySem.W.KF.slot_gs.plain PySem.W.KF.entry_gs (PySem.W.KF.slot_gs.check _ _ _ _ _ _ _ _ PySem.W.KF.type_class (PySem.W.KF.args_gs _ _ _) ?_)
 unfold Builtin.«getset_descriptor.__get__»
 unfold descrGet
 rw [PySem.W.dga_obj]
 refine wpAny_bind (wpAny_pure ?_)
 unfold descrGetter descrCheckInstance
 unfold descrNameAndClass isInstance
 simp only [PySem.W.KF.owner_class]
 repeat lk
 refine ⟨Code.quiet_builtin _ (by decide +kernel),codeAny_builtin PySem.W.KF.entry_class ?_⟩
 unfold Builtin.«object.__class__»
 unfold shownTypeOf
 repeat lk
 exact hq
theorem zkW {tk:Tok} {Q:Fin→Shared→Prop} (X:K.In h) (Z:zf5 K C) (hx:h.get? a=some o) (hc:o.cls=.ref C) (hq:Q (.done (.ret (.ref C))) ⟨h,g,d,t,os⟩) :
  wpAny (model prog w) A (Builtin.«object.__getattribute__» ⟨[.ref a,.str "__class__" tk],[]⟩) Q E ⟨h,g,d,t,os⟩:=by
 have LC:=PySem.W.looks_findIn (M:=model prog w) X Z.cl
 have h5:(⟨h,g,d,t,os⟩:Shared).TypeIs (.builtin "object.__class__") "getset_descriptor":=F.typeOf_object_class
 have f5:=F.typeOf_object_class
 have f6:=F.slot_gs_get.lookup
 have f7:=F.slot_gs_set.lookup
 repeat (any_goals (first | assumption | (with_reducible refine wpAny_loadPart_at hx ?_;rw [hc]) | with_reducible refine LC.at ?_ | wp_step))
 refine znw X Z hx hc ?_
 repeat (any_goals (first | assumption | wp_step))
theorem zlD {M:Model} {v:Value} {Q:Unit→Shared→Prop} (X:K.In h) (Z:zf5 K C) (hx:h.get? a=some o) (hc:o.cls=.ref C) (hq:Q () ⟨h,g,d,t,os⟩) :
  wpAny M A (checkBuiltinCall "BaseException.__getattribute__" ⟨[.ref a,v],[]⟩) Q E ⟨h,g,d,t,os⟩:=by
 have LM:=PySem.W.looks_mroIn (M:=M) X Z.mb
 have LT:PySem.W.Looks M h (typeOf (.ref a)) (.ref C):=hc ▸ (PySem.W.Looks.ld hx).andThen .now
 have ao:=F.args_bexc_ga (.ref a) v
 simp only [checkBuiltinCall,zmT,znc]
 refine wpAny_bind ?_
 unfold isInstance
 refine wpAny_bind (LT.at (LM.at ?_))
 repeat (any_goals (first | assumption | wp_step))
theorem zo4 {tk:Tok} {Q:Value→Shared→Prop} (X:K.In h) (Z:zf5 K C) (FB:ExcAttrBase "ValueError" zf0) (hx:h.get? a=some o) (hc:o.cls=.ref C) (hq:Q (.ref C) ⟨h,g,d,t,os⟩) :
  wpAny (model prog w) A (getAttrBy (.ref a) (.str "__class__" tk) false) Q E ⟨h,g,d,t,os⟩:=by
 have LG:=PySem.W.looks_findIn (M:=model prog w) X Z.ga
 have LN:=PySem.W.looks_findIn (M:=model prog w) X Z.gn
 have f3:=FB.ga.bind (.ref a)
 have n2:(Value.builtin "BaseException.__getattribute__" == Value.builtin "object.__getattribute__")=false:=by decide +kernel
 have n1:(onTheHeap (Value.ref C)&&(Value.builtin "BaseException.__getattribute__" == Value.builtin "object.__getattribute__"))=false:=by rw [n2];rfl
 repeat (any_goals (first | assumption | (with_reducible refine wpAny_loadPart_at hx ?_;rw [hc]) | with_reducible refine LG.at ?_ | with_reducible refine LN.at ?_ | wp_step))
 refine codeAny_call_builtin FB.ga.plain F.entry_bexc_ga (zlD X Z hx hc (zkW X Z hx hc ?_))
 repeat (any_goals (first | assumption | wp_step))
theorem zlN {Q:Option Value→Shared→Prop} (X:K.In h) (Z:zf5 K C) (FB:ExcAttrBase "ValueError" zf0) (hx:h.get? a=some o) (hc:o.cls=.ref C) (hq:Q (some (.ref C)) ⟨h,g,d,t+1,os⟩) :
  wpAny (model prog w) A (getAttr? (.ref a) "__class__") Q E ⟨h,g,d,t,os⟩:=by
 unfold getAttr? getAttrBy?
 repeat (any_goals (first | assumption | with_reducible apply zo4 X Z FB hx hc | wp_step))
theorem zoA (Z:zo7 K C):zjf K (.ref C):=⟨fun x=>{
 ty:=fun M h _ p=>by
  obtain ⟨oe,vs,e,c,_⟩:=p
  exact c ▸ (PySem.W.Looks.ld e).andThen .now
 it:=fun M h X _=>by
  obtain ⟨b1,b2,b3,b4,b5,b6,b7,b8,b9,b10,b11,b12,b13,b14,b15,b16,b17,hC,_⟩:=zfy X Z.ok
  intro A' Q' E' s' k q
  unfold isType loadHead
  exact wpAny_bind (wpAny_loadPart (k _ _ hC) (wpAny_pure q))
 ne:=fun h tp dd its n sl X htp=>by
  obtain ⟨b1,b2,b3,b4,b5,b6,b7,b8,b9,b10,b11,b12,b13,b14,b15,b16,b17,hC,_⟩:=zfy X Z.ok
  refine Bool.eq_false_iff.mpr fun q=>?_
  have e:C=tp:=Value.ref.inj (beq_iff_eq.mp q)
  subst e
  rw [hC] at htp
  have z:=congrArg Obj.data (Option.some.inj htp)
  exact nomatch z
 ca:=fun {prog w A E Q s} X p q=>by
  obtain ⟨h,g,d,t,os⟩:=s
  obtain ⟨oe,vs,e,c,_⟩:=p
  exact zlN X Z.five PySem.F.attrBase_ValueError e c q }⟩
end
end L2
namespace L2
open PySem PySem.Spec PyProof.Rows
theorem zn8 {env:Env} {x:Str} {c:Addr} (h:env.cells.lookup x=some c):cellOf env x=pure c:=by
 unfold cellOf
 rw [h]
theorem zgu {env:Env}:∀ (l:List (Str×NameKind)) (cs:List (Str×Addr)),(∀ y∈l,y.2=.free→∃ c,env.cells.lookup y.1=some c)→(∀ x c,cs.lookup x=some c→env.cells.lookup x=some c) →
  ∃ cl,(forIn l cs fun (y:Str×NameKind) r=>(if (y.2 == .free)=true then do let c ← cellOf env y.1;pure (ForInStep.yield ((y.1,c)::r)) else pure (ForInStep.yield r):Sem (ForInStep (List (Str×Addr)))))=pure cl ∧
   (∀ x c,cl.lookup x=some c→env.cells.lookup x=some c)∧(∀ y∈l,y.2=.free→∃ c,cl.lookup y.1=some c)∧∀ x,(∃ c,cs.lookup x=some c)→∃ c,cl.lookup x=some c
 | [],cs,_,hc=>⟨cs,by simp,hc,by simp,fun _ h=>h⟩
 | y::l,cs,hf,hc=>by
  have hf':∀ z∈l,z.2=.free→∃ c,env.cells.lookup z.1=some c:=fun z hz=>hf z (List.mem_cons_of_mem _ hz)
  by_cases hy:y.2=.free
  ·obtain ⟨c,e⟩:=hf y List.mem_cons_self hy
   have hc':∀ x d,List.lookup x ((y.1,c)::cs)=some d→env.cells.lookup x=some d:=fun x d q=>by
    rw [List.lookup_cons] at q
    split at q
    ·rename_i b
     cases q
     rw [beq_iff_eq.mp b,e]
    ·exact hc x d q
   obtain ⟨cl,e1,e2,e3,e4⟩:=zgu l ((y.1,c)::cs) hf' hc'
   refine ⟨cl,?_,e2,fun z hz q=>?_,fun x ⟨d,q⟩=>e4 x ?_⟩
   ·rw [List.forIn_cons,if_pos (by rw [hy];rfl),zn8 e]
    simpa using e1
   ·rcases List.mem_cons.mp hz with r | r
    ·exact e4 z.1 ⟨c,by rw [r,List.lookup_cons];simp⟩
    ·exact e3 z r q
   ·rw [List.lookup_cons]
    split
    ·exact ⟨_,rfl⟩
    ·exact ⟨d,q⟩
  ·obtain ⟨cl,e1,e2,e3,e4⟩:=zgu l cs hf' hc
   refine ⟨cl,?_,e2,fun z hz q=>?_,e4⟩
   ·rw [List.forIn_cons,if_neg (by simpa using hy)]
    simpa using e1
   ·rcases List.mem_cons.mp hz with r | r
    ·rw [r] at q;exact absurd q hy
    ·exact e3 z r q
theorem zi8 {scope:Scope} {env:Env} (h:∀ y∈scope.names,y.2=.free→∃ c,env.cells.lookup y.1=some c) :
  ∃ cl,closureFor scope env=pure cl∧(∀ x c,cl.lookup x=some c→env.cells.lookup x=some c)∧∀ y∈scope.names,y.2=.free→∃ c,cl.lookup y.1=some c:=by
 obtain ⟨cl,e1,e2,e3,_⟩:=zgu scope.names [] h (by simp)
 refine ⟨cl,?_,e2,e3⟩
 unfold closureFor
 simp only [bind_pure]
 exact e1
theorem zgJ {P:Program} {w:World} {A:Around} {R:Result→Shared→Prop} {s:Shared} {elt target iter:Expr} {ifs:List Expr} {scope:Scope} {pos:Pos} {it acc:Value} {env:Env} {Z:Value→Shared→Prop} (J:Nat→Shared→Prop)
  (hZ:Z=notedBy (model P w) A env fun e s'=>R (.error e) s')
  (turn:∀ n s,J n s→wpAny (model P w) A (pyNext it) (fun r s1=>match r with
   | none=>R (.ok .next) s1
   | some v=>wpAny (model P w) A (letOwnedTupleGo target it v) (fun _ s2=>wpAny (model P w) A (assign target env v) (fun _ s3 =>
     wpAny (model P w) A (forIn ifs true fun c r=>if r=true then do let ok ← isTrue c env (eval c env);pure (ForInStep.yield ok) else pure (ForInStep.yield r)) (fun ok s4 =>
      if ok=true then wpAny (model P w) A (eval elt env) (fun x s5=>wpAny (model P w) A (call (.builtin "list.append") [acc,x]) (fun _ s6=>∃ m,m<n∧J m s6) Z s5) Z s4
      else ∃ m,m<n∧J m s4) Z s3) Z s2) Z s1) Z s)
  (n:Nat) (h:J n s):codeAny (model P w) A (.compLoop (.ListComp elt [⟨target,iter,ifs,0⟩] scope pos) 0 it acc env) R s:=by
 subst hZ
 refine codeAny_loop rfl J (fun n s hJ=>?_) n h
 show wpAny _ _ (Sem.onRaise (compTurn (.ListComp elt [⟨target,iter,ifs,0⟩] scope pos) 0 it acc env) fun x=>do noteFrame x env;theTreesLotGoes x) _ _ s
 refine wpAny_noted ?_
 rw [compTurn_list]
 refine wpAny_bind (wpAny_standAt (wpAny_bind (thn (turn n s hJ) fun r s1 h1=>?_)))
 cases r with
 | none=>exact wpAny_pure h1
 | some v =>
  refine wpAny_bind (thn h1 fun _ s2 h2=>wpAny_bind (thn h2 fun _ s3 h3=>wpAny_bind (thn h3 fun ok s4 h4=>?_)))
  cases ok with
  | false=>exact wpAny_pure ⟨rfl,h4⟩
  | true=>exact wpAny_bind (wpAny_bind (thn h4 fun x s5 h5=>wpAny_bind (thn h5 fun _ s6 h6=>wpAny_pure (wpAny_pure ⟨rfl,h6⟩))))
def PTs (X:Cx) (ifs:List Expr) (t:TT):Prop:=∀ (pins:List (Addr×Obj)) (s:Shared) (σ:St) (H:Hp) (Q:Bool→Hp→Prop),Inv X pins σ H s→t σ H Q →
 wpAny (model X.prog X.w) X.A (forIn ifs true fun c r=>if r=true then do let ok ← isTrue c X.env (eval c X.env);pure (ForInStep.yield ok) else pure (ForInStep.yield r)) (TP X pins σ Q) X.xe s
def za7:TT:=fun _ H Q=>Q true H
theorem zbQ {X:Cx}:PTs X [] za7:=fun _ _ _ H _ I h=>wpAny_tests_nil ⟨H,I,h⟩
theorem zmo {X:Cx} {c:Expr} {t:TT} (h:PT X c t):PTs X [c] t:=fun pins s σ H Q I q=>wpAny_tests_one (h pins s σ H Q I q)
def zqr (cap:List (Option Nat)) (σ:St):St:=cap.map fun o=>o.bind fun j=>(σ[j]?).join
def zbW (wi:TI) (g:TG) (tt:TT) (te:TE) (cap:List (Option Nat)):TE:=fun σ H Q=>wi σ H fun J H1=>∀ D,H1 D=none→∃ W:Nat→Nat→St→Hp→Prop,(∃ m,W 0 m (zqr cap σ) (upd H1 D (.lst [])))∧∀ i m σc Hc,W i m σc Hc →
 (J.stop i Hc∧Q (.ref D) Hc)∨(J.go i Hc∧∃ N:St→Hp→Prop,(∀ σ' H',N σ' H'→∃ m',m'<m∧W (i+1) m' σ' H')∧∀ x H',J.yld i Hc x H'→g x σc H' fun σ2 H2=>tt σ2 H2 fun b H3=>if b=true then te σ2 H3 fun y H4=>zcO (.ref D) [y] H4 fun _ H5=>N σ2 H5 else N σ2 H3)
def Cx.blk (X:Cx) (Nc:List Str) (scope:Scope) (cl:List (Str×Addr)) (s:Shared) (H:Hp) (fp:List Addr):Cx:={ X with
 N:=Nc,s₀:=s,H₀:=H,env:=compEnvC scope cl s.heap.objs.size X.env,outer:=X.stack,stack:=X.stack,ex:=fp,fn:=fun _=>false,pn:=[],xe:=fun _ _=>False }
structure zne (sc:Scope) (N Nc:List Str) (cap:List (Option Nat)) (scope:Scope):Prop where
 kind:scope.kind=.function
 nocell:∀ y∈scope.names,y.2≠.cell
 free:∀ y∈scope.names,y.2=.free→sc.names.lookup y.1=some .cell∨sc.names.lookup y.1=some .free
 once:∀ y∈scope.names,scope.names.lookup y.1=some y.2
 nd:Nc.Nodup
 len:cap.length=Nc.length
 cap:∀ (i:Nat) (y:Str) (j:Nat),Nc[i]?=some y→cap[i]?=some (some j)→N[j]?=some y∧scope.names.lookup y=some .free
def zri (sc:Scope) (N Nc:List Str) (cap:List (Option Nat)) (scope:Scope):Bool :=
 scope.kind == .function&&scope.names.all (fun y=>y.2 != .cell&&scope.names.lookup y.1 == some y.2&&(y.2 != .free || sc.names.lookup y.1 == some .cell || sc.names.lookup y.1 == some .free))&&decide Nc.Nodup&&cap.length == Nc.length
  && (Nc.zip cap).all fun p=>p.2.all fun j=>N[j]? == some p.1&&scope.names.lookup p.1 == some .free
theorem zne.of {sc:Scope} {N Nc:List Str} {cap:List (Option Nat)} {scope:Scope} (h:zri sc N Nc cap scope=true):zne sc N Nc cap scope:=by
 unfold zri at h
 simp only [Bool.and_eq_true,beq_iff_eq,List.all_eq_true,bne_iff_ne,ne_eq,Bool.or_eq_true,decide_eq_true_eq] at h
 obtain ⟨⟨⟨⟨h1,h2⟩,h3⟩,h4⟩,h5⟩:=h
 refine ⟨h1,fun y hy=>(h2 y hy).1.1,fun y hy hf=>?_,fun y hy=>(h2 y hy).1.2,h3,h4,fun i y j e1 e2=>?_⟩
 ·rcases (h2 y hy).2 with (q | q) | q
  ·exact absurd hf q
  ·exact .inl q
  ·exact .inr q
 ·have m:(y,some j)∈Nc.zip cap:=by
   refine List.mem_of_getElem? (i:=i) ?_
   rw [List.getElem?_zip_eq_some]
   exact ⟨e1,e2⟩
  have z:=h5 _ m
  simpa using z
theorem zbV {env:Env} {x:Str}:∀ {names:List (Str×NameKind)} {k:NameKind},((names.map fun (n,k)=>if (k == NameKind.free&&env.scope.kind == .function&&env.kindOf n == some .cell) then (n,NameKind.cell) else (n,k)).lookup x=some k)→k≠.cell∧names.lookup x=some k∨(k=.cell∧(names.lookup x=some .cell∨names.lookup x=some .free))
 | [],_,h=>by simp at h
 | (n,q)::r,k,h=>by
  have ih:=@zbV env x r k
  rw [List.map_cons] at h
  dsimp only at h
  by_cases hx:(x == n)=true
  ·by_cases hc:(q == NameKind.free&&env.scope.kind == .function&&env.kindOf n == some .cell)=true
   ·rw [if_pos hc,List.lookup_cons,hx] at h
    cases h
    rw [Bool.and_eq_true,Bool.and_eq_true] at hc
    refine .inr ⟨rfl,.inr ?_⟩
    rw [List.lookup_cons,hx]
    exact congrArg some (beq_iff_eq.mp hc.1.1)
   ·rw [if_neg hc,List.lookup_cons,hx] at h
    cases h
    rw [List.lookup_cons,hx]
    by_cases z:q=.cell
    ·exact .inr ⟨z,.inl (congrArg some z)⟩
    ·exact .inl ⟨z,rfl⟩
  ·have hx':(x == n)=false:=by simpa using hx
   rw [List.lookup_cons,hx']
   refine ih ?_
   by_cases hc:(q == NameKind.free&&env.scope.kind == .function&&env.kindOf n == some .cell)=true
   ·rw [if_pos hc,List.lookup_cons,hx'] at h
    exact h
   ·rw [if_neg hc,List.lookup_cons,hx'] at h
    exact h
section
variable {X:Cx} {pins:List (Addr×Obj)} {σ:St} {H:Hp} {s:Shared}
theorem zsZ {Nc:List Str} {cap:List (Option Nat)} {scope:Scope} {cl:List (Str×Addr)} {fp:List Addr} {h1:Heap} {tk:Nat} {m1:Str→Option Value} (I:Inv X pins σ H s) (B:zne X.env.scope X.N Nc cap scope)
  (hsub:∀ x c,cl.lookup x=some c→X.env.cells.lookup x=some c) (hfr:∀ y∈scope.names,y.2=.free→∃ c,cl.lookup y.1=some c) (hf:∀ b∈fp,zhq X pins H b) (hin:∀ b∈fp,b<s.heap.objs.size)
  (hk:∀ b o,s.heap.get? b=some o→h1.get? b=some o) (hn:h1.Ns s.heap.objs.size m1):Inv (X.blk Nc scope cl s H fp) [] (zqr cap σ) H { s with heap:=h1,toks:=tk }:=by
 have ok:=I.ok
 have bsz:X.base.objs.size≤s.heap.objs.size:=Nat.le_trans ok.bsz I.sz
 refine ⟨⟨ok.mod,B.kind,ok.glob,ok.blt,Nat.le_refl _,fun x y c h1 h2=>ok.inj x y c (hsub x c h1) (hsub y c h2),fun x hx=>?_,(by intro x c z;cases z),ok.hd,ok.frames,.inl rfl,fun b hb=>⟨Nat.ne_of_lt (hin b hb),fun x c e=>(hf b hb).2.2.2.2.1 x c (hsub x c e)⟩,
  I.bs,bsz,fun b o e hb=>?_,fun b hb z=>?_,I.stack,I.stkFree⟩,rfl,I.bare,Un.kept hk,⟨m1,hn,fun i y v e1 e2 e3=>?_⟩,fun x c e=>?_,I.hok.fresh (Nat.le_refl _),fun x c e=>I.freeC x c (hsub x c e),(by intro p hp;cases hp),I.hok.kept hk,?_⟩
 ·have look:∀ k,(relabel scope X.env).names.lookup x=some k→k=.cell∨k=.free→∃ c,cl.lookup x=some c:=fun k q hk=>by
   rcases zbV q with ⟨n1,n2⟩ | ⟨_,n2 | n2⟩
   ·rcases hk with r | r
    ·exact absurd r n1
    ·exact hfr (x,k) (PySem.mem_of_lookup n2) r
   ·exact absurd rfl (B.nocell _ (PySem.mem_of_lookup n2))
   ·exact hfr (x,.free) (PySem.mem_of_lookup n2) rfl
  rcases hx with q | q
  ·exact look _ q (.inl rfl)
  ·exact look _ q (.inr rfl)
 ·rcases (hf b hb).2.2.2.1 with q | q
  ·exact ok.noex b o e q
  ·exact absurd (Nat.lt_of_lt_of_le (Heap.lt_size e) (Nat.le_trans ok.bsz q)) (Nat.lt_irrefl _)
 ·rcases List.mem_cons.mp (I.stkSub b z) with q | q
  ·exact (hf b hb).2.1 q
  ·exact (hf b hb).2.2.1 q
 ·have e2':(cap[i]?).map (fun o=>o.bind fun j=>(σ[j]?).join)=some (some v):=by rw [← List.getElem?_map];exact e2
  obtain ⟨o,ho,eo⟩:=Option.map_eq_some_iff.mp e2'
  obtain ⟨j,rfl,ej⟩:=Option.bind_eq_some_iff.mp eo
  have ej':σ[j]?=some (some v):=by
   cases q:σ[j]? with
   | none=>rw [q] at ej;cases ej
   | some z=>rw [q] at ej;cases ej;rfl
  obtain ⟨c1,c2⟩:=B.cap i y j e1 ho
  have vis:=B.free (y,.free) (PySem.mem_of_lookup c2) rfl
  obtain ⟨m,_,hl⟩:=I.loc
  obtain ⟨u,r,lk⟩:=hl j y v c1 ej' (.inr vis)
  obtain ⟨c',ec⟩:=hfr (y,.free) (PySem.mem_of_lookup c2) rfl
  have ec2:=hsub _ _ ec
  rcases lk with ⟨kl,_⟩ | ⟨_,c,e,z⟩
  ·have kl':X.env.scope.names.lookup y=some .local:=kl
   rcases vis with q | q
   ·have q':X.env.scope.names.lookup y=some .cell:=q
    rw [kl'] at q';cases q'
   ·have q':X.env.scope.names.lookup y=some .free:=q
    rw [kl'] at q';cases q'
  ·have ecc:X.env.cells.lookup y=some c':=ec2
   rw [e] at ecc
   cases ecc
   refine ⟨u,r,.inr ⟨?_,_,ec,?_⟩⟩
   ·rcases e3 with q | q | q
    ·rcases zbV q with ⟨_,n2⟩ | ⟨n1,_⟩
     ·rw [c2] at n2;cases n2
     ·cases n1
    ·exact .inl q
    ·exact .inr q
   ·obtain ⟨o,ho,hd⟩:=z
    exact ⟨o,hk _ _ ho,hd⟩
 ·obtain ⟨v,o,ho,hd⟩:=I.cell x c (hsub x c e)
  exact ⟨v,o,hk _ _ ho,hd⟩
 ·show (zqr cap σ).length=Nc.length
  rw [zqr,List.length_map,B.len]
theorem zow {Nc:List Str} {scope:Scope} {cl:List (Str×Addr)} {fp:List Addr} {σc:St} {Hc:Hp} {s':Shared} {h':Heap} (I:Inv X pins σ H s) (hf:∀ b∈fp,zhq X pins H b) (J:Inv (X.blk Nc scope cl s H fp) [] σc Hc s')
  (hs:Heap.SameBut s.heap.objs.size s'.heap h'):Inv X pins σ Hc { s' with heap:=h' }:=by
 have ne:∀ b o,s.heap.get? b=some o→b≠s.heap.objs.size:=fun b o e=>Nat.ne_of_lt (Heap.lt_size e)
 have u:=J.base
 refine I.call' (ch:=fp) J.os ⟨fun b o e n hb hx=>(hs.2 b (ne b o e)).trans (u.keep b o e n hb hx),fun b o e n hb hx=>?_,u.free,fun b o e hx=>?_,u.tups,u.frzs,u.tbls⟩ (fun b ob e=>?_) J.bare fun b hb=>⟨(hf b hb).2.2.2.1,(hf b hb).2.1,(hf b hb).2.2.2.2.1,(hf b hb).2.2.2.2.2⟩
 ·obtain ⟨sl,q⟩:=u.slot b o e n hb hx
  exact ⟨sl,(hs.2 b (ne b o e)).trans q⟩
 ·obtain ⟨o',q⟩:=u.there b o e hx
  exact ⟨o',(hs.2 b (ne b o e)).trans q⟩
 ·have hC:Hc s.heap.objs.size=none:=J.free
  refine (J.hok b ob e).stay (fun c w' hc q=>(hs.2 c ?_).trans q) (fun _ q=>q) fun _ _ q=>q
  rintro rfl
  rcases hc with z | hc
  ·rw [← z,hC] at e;cases e
  ·rw [hC] at hc;cases hc
end
theorem Inv.turns {X:Cx} {pins:List (Addr×Obj)} {σ:St} {H:Hp} {s:Shared} {h':Heap} {t':Nat} {ch:List Addr} (I:Inv X pins σ H s) (k:∀ b o,b∉ch→s.heap.get? b=some o→h'.get? b=some o) (hf:∀ b∈ch,zhq X pins H b):Inv X pins σ H { s with heap:=h',toks:=t' }:=by
 refine I.call (g':=s.gens) (d':=s.drawn) (ch:=ch) ⟨fun b o e _ _ hx=>k b o hx e,fun b o e _ _ hx=>⟨o.slots,k b o hx e⟩,fun _ _ _ n _=>n,fun b o e hx=>⟨o,k b o hx e⟩,fun _ _ q=>q,fun _ _ _ q=>q,fun _ ps q=>⟨#[],by rw [q];simp⟩⟩ (fun b u e=>?_) I.bare
  fun b hb=>⟨(hf b hb).2.2.2.1,(hf b hb).2.1,(hf b hb).2.2.2.2.1,(hf b hb).2.2.2.2.2⟩
 refine (I.hok b u e).stay (fun c v hc q=>k c v (fun z=>?_) q) (fun _ q=>q) fun _ _ q=>q
 have n:=(hf c z).1
 rcases hc with r | r
 ·rw [r,e] at n;cases n
 ·rw [r] at n;cases n
theorem zlA {X:Cx} {pins:List (Addr×Obj)} {s:Shared} {σ:St} {H:Hp} {Q:VK} {sc:Scope} {N Nc:List Str} {cap:List (Option Nat)} {elt tg iter:Expr} {ifs:List Expr} {scope:Scope} {pos pos':Pos} {wi:TI} {g:TG} {tt:TT} {te:TE} {use:Option (Value→Sem Unit)} {QQ:Value→Shared→Prop}
  (hc:X.calm=true) (hsc:X.env.scope=sc) (hN:X.N=N) (B:zne sc N Nc cap scope) (hi:PI X tg iter wi)
  (hg:∀ cl s H fp,PG (X.blk Nc scope cl s H fp) tg g) (ht:∀ cl s H fp,PTs (X.blk Nc scope cl s H fp) ifs tt) (he:∀ cl s H fp,PE (X.blk Nc scope cl s H fp) elt te)
  (hs:∀ x,foldedSetIterable iter X.env x=pure x) (I:Inv X pins σ H s) (h:zbW wi g tt te cap σ H Q)
  (fin:∀ (s3:Shared) (H3:Hp) (cl:List (Str×Addr)) (fp:List Addr) (D:Addr) (σc:St) (Hc:Hp) (s6:Shared),Inv X pins σ H3 s3→(∀ b∈fp,zhq X pins H3 b)→Inv (X.blk Nc scope cl s3 H3 fp) [] σc Hc s6→Q (.ref D) Hc→compPost (model X.prog X.w) X.A X.xe use QQ (.ref D) s3.heap.objs.size (.ok .next) s6) :
  wpAny (model X.prog X.w) X.A (comprehension (.ListComp elt [⟨tg,iter,ifs,0⟩] scope pos) scope X.env pos' (newList []) false (eval iter X.env) use) QQ X.xe s:=by
 subst hsc hN
 obtain ⟨cl,hclos,hsub,hfr⟩:=zi8 (scope:=scope) (env:=X.env) fun y hy hf=>I.ok.has y.1 (B.free y hy hf)
 refine wpAny_comprehension_free (use:=use) rfl hs hclos B.kind (fun y hy hl=>by rw [B.once y hy,hl]) (thn (hi pins s σ H _ I h) fun v s1 h1=>thn h1 fun itv s2 h2=>?_)
 obtain ⟨it,fp,tn,J,H2,rfl,I2,T,st2,f2,hw⟩:=h2
 refine wpAny_newObj_type ?_
 have hfree:H2 s2.heap.objs.size=none:=I2.hok.fresh (Nat.le_refl _)
 have I3:=I2.laid (t':=s2.toks) (o:=.lst []) (fun b u e=>Heap.get?_push_of_some { cls:=.type "list",dict:=none,data:=.seq ([]:List Value).toArray } e) (Nat.le_refl _) ⟨by decide,[],0,.nil,Heap.get?_push_size _ rfl⟩
 obtain ⟨W,⟨m0,w0⟩,turn⟩:=hw _ hfree
 have keep23:∀ b o,s2.heap.get? b=some o→(s2.heap.push { cls:=.type "list",dict:=none,data:=.seq ([]:List Value).toArray }).get? b=some o:=fun b o e=>Heap.get?_push_of_some _ e
 have hin:∀ b∈fp,b<s2.heap.objs.size:=fun b hb=>let ⟨o,e,_⟩:=T.obj 0 _ st2 b hb;Heap.lt_size e
 have f3:∀ b∈fp,zhq X pins (upd H2 s2.heap.objs.size (.lst [])) b:=fun b hb=>⟨by rw [zal (Nat.ne_of_lt (hin b hb))];exact (f2 b hb).1,(f2 b hb).2⟩
 have st3:=T.keep 0 _ _ st2 fun b _ o e=>keep23 b o e
 have hin3:∀ b∈fp,b<(s2.heap.push { cls:=.type "list",dict:=none,data:=.seq ([]:List Value).toArray }).objs.size:=fun b hb=>let ⟨o,e,_⟩:=T.obj 0 _ st3 b hb;Heap.lt_size e
 clear keep23 hin
 generalize s2.heap.push { cls:=.type "list",dict:=none,data:=.seq ([]:List Value).toArray }=h3 at I3 st3 hin3 ⊢
 generalize upd H2 s2.heap.objs.size (.lst [])=H3 at I3 f3 w0
 generalize s2.heap.objs.size=D at hfree w0 turn ⊢
 refine wpAny_newFunctionEnv B.nocell (by intro y hy;cases hy) (fun h1 hns hsb=>?_) B.kind
 have keep:∀ b o,h3.get? b=some o→h1.get? b=some o:=fun b o e=>(hsb.2 b (Nat.ne_of_lt (Heap.lt_size e))).trans (Heap.get?_push_of_some _ e)
 have I4:=zsZ (tk:=s2.toks+([]:List (Str×Value)).length) I3 B hsub hfr f3 hin3 keep hns
 have st4:=T.keep 0 _ _ st3 fun b _ o e=>keep b o e
 have stat:∀ {H':Hp},(∀ b∈fp,H' b=none)→∀ b∈fp,zhq (X.blk Nc scope cl { s2 with heap:=h3,toks:=s2.toks } H3 fp) [] H' b:=fun hn b hb =>
  ⟨hn b hb,Nat.ne_of_lt (hin3 b hb),fun z=>by
   rcases List.mem_cons.mp (I3.stkSub b z) with q | q
   ·exact (f3 b hb).2.1 q
   ·exact (f3 b hb).2.2.1 q,.inl hb,fun x c e=>(f3 b hb).2.2.2.2.1 x c (hsub x c e),by intro p hp;cases hp⟩
 have hcb:(X.blk Nc scope cl { s2 with heap:=h3,toks:=s2.toks } H3 fp).calm=true:=hc
 have loop:codeAny (model X.prog X.w) X.A (.compLoop (.ListComp elt [⟨tg,iter,ifs,0⟩] scope pos) 0 (.ref it) (.ref D) (compEnvC scope cl h3.objs.size X.env)) (compPost (model X.prog X.w) X.A X.xe use QQ (.ref D) h3.objs.size) { s2 with heap:=h1,toks:=s2.toks+([]:List (Str×Value)).length }:=by
  refine zgJ (fun n s'=>∃ i σ' H',Inv (X.blk Nc scope cl { s2 with heap:=h3,toks:=s2.toks } H3 fp) [] σ' H' s'∧tn i s'.heap∧(∀ b∈fp,H' b=none)∧W i n σ' H') rfl ?_ m0 ⟨0,_,H3,I4,st4,fun b hb=>(f3 b hb).1,w0⟩
  rintro n s5 ⟨i,σ5,H5,I5,st5,fr5,w5⟩
  rcases turn i n σ5 H5 w5 with ⟨stop,qn⟩ | ⟨go,N',hN',step⟩
  ·refine thn (T.done (X.blk Nc scope cl { s2 with heap:=h3,toks:=s2.toks } H3 fp) rfl rfl rfl hcb i [] s5 σ5 H5 _ I5 (stat fr5) st5 stop) fun r s6 hQ'=>?_
   obtain ⟨hr,I6⟩:=hQ'
   subst hr
   exact fin { s2 with heap:=h3,toks:=s2.toks } H3 cl fp D σ5 H5 s6 I3 f3 I6 qn
  ·refine thn (T.item (X.blk Nc scope cl { s2 with heap:=h3,toks:=s2.toks } H3 fp) rfl rfl rfl hcb i [] s5 σ5 H5 _ I5 (stat fr5) st5 go) fun r s6 hQ'=>?_
   obtain ⟨u,hr,h6⟩:=hQ'
   subst hr
   refine thn h6 fun _ s7 hQ'=>?_
   obtain ⟨x,H7,I7,r7,y7,st7,fr7⟩:=hQ'
   have I7':=I7.pinned (stat fr7) (T.obj _ _ st7)
   refine wpAny_mono (hg cl _ H3 fp _ s7 σ5 H7 x u _ I7' r7 (step x H7 y7)) (fun _ s8 hQ'=>?_) fun _ _ z=>z.elim
   obtain ⟨σ8,H8,I8,q8⟩:=hQ'
   have again:∀ {H9:Hp} {s9:Shared} {m:Nat},Inv (X.blk Nc scope cl { s2 with heap:=h3,toks:=s2.toks } H3 fp) ([]++zjr fp s7.heap) σ8 H9 s9→m<n→W (i+1) m σ8 H9→∃ m,m<n∧∃ i σ' H',Inv (X.blk Nc scope cl { s2 with heap:=h3,toks:=s2.toks } H3 fp) [] σ' H' s9∧tn i s9.heap∧(∀ b∈fp,H' b=none)∧W i m σ' H':=fun {H9 s9 m} I9 hm w9=>by
    refine ⟨m,hm,i+1,σ8,H9,I9.unpinned,T.keep _ _ _ st7 fun b hb o e=>(I9.pin (b,o) (List.mem_append_right _ (List.mem_append_right _ (zcU hb e)))).1,fun b hb=>?_,w9⟩
    obtain ⟨o,e,d⟩:=T.obj _ _ st7 b hb
    exact (I9.pin (b,o) (List.mem_append_right _ (List.mem_append_right _ (zcU hb e)))).2.1
   refine wpAny_mono (ht cl _ H3 fp _ s8 σ8 H8 _ I8 q8) (fun b s9 hQ'=>?_) fun _ _ z=>z.elim
   obtain ⟨H9,I9,q9⟩:=hQ'
   cases b with
   | false =>
    rw [if_neg (by decide)] at q9
    obtain ⟨m',hm,w9⟩:=hN' _ _ q9
    exact again I9 hm w9
   | true =>
    rw [if_pos rfl] at q9
    refine wpAny_mono (he cl _ H3 fp _ s9 σ8 H9 _ I9 q9) (fun u s10 hQ'=>?_) fun _ _ z=>z.elim
    obtain ⟨y,H10,I10,r10,q10⟩:=hQ'
    refine wpAny_mono (zhy (X:=X.blk Nc scope cl { s2 with heap:=h3,toks:=s2.toks } H3 fp) _ s10 σ8 H10 (.ref D) [y] (.ref D) [u] _ I10 rfl (.cons r10 .nil) q10) (fun _ s11 hQ'=>?_) fun _ _ z=>z.elim
    obtain ⟨_,H11,I11,_,q11⟩:=hQ'
    obtain ⟨m',hm,w11⟩:=hN' _ _ q11
    exact again I11 hm w11
 exact codeAny_compStart_list loop (T.self _ 0 _ _ _ st4 loop)
theorem zcj {X:Cx} {sc:Scope} {N Nc:List Str} {cap:List (Option Nat)} {elt tg iter:Expr} {ifs:List Expr} {scope:Scope} {pos:Pos} {wi:TI} {g:TG} {tt:TT} {te:TE} (hc:X.calm=true) (hsc:X.env.scope=sc) (hN:X.N=N) (B:zne sc N Nc cap scope) (hi:PI X tg iter wi)
  (hg:∀ cl s H fp,PG (X.blk Nc scope cl s H fp) tg g) (ht:∀ cl s H fp,PTs (X.blk Nc scope cl s H fp) ifs tt) (he:∀ cl s H fp,PE (X.blk Nc scope cl s H fp) elt te)
  (hs:∀ x,foldedSetIterable iter X.env x=pure x:=by intro _;rfl):PE X (.ListComp elt [⟨tg,iter,ifs,0⟩] scope pos) (zbW wi g tt te cap):=by
 intro pins s σ H Q I h
 rw [eval_ListComp]
 refine zlA hc hsc hN B hi hg ht he hs I h fun s3 H3 cl fp D σc Hc s6 I3 f3 I6 q=>?_
 obtain ⟨m,hn,_⟩:=id I6.loc
 exact ⟨m,hn,fun h' hs'=>⟨.ref D,Hc,zow I3 f3 I6 hs',rfl,q⟩⟩
theorem zdC {X:Cx} {i:Nat} {y:Str} {py spos:Pos} {sc:Scope} {N Nc:List Str} {cap:List (Option Nat)} {elt tg iter:Expr} {ifs:List Expr} {scope:Scope} {pos:Pos} {wi:TI} {g:TG} {tt:TT} {te:TE} (hnd:X.N.Nodup) (hix:X.N[i]?=some y) (hl:X.env.scope.names.lookup y=some .local)
  (hc:X.calm=true) (hsc:X.env.scope=sc) (hN:X.N=N) (B:zne sc N Nc cap scope) (hi:PI X tg iter wi)
  (hg:∀ cl s H fp,PG (X.blk Nc scope cl s H fp) tg g) (ht:∀ cl s H fp,PTs (X.blk Nc scope cl s H fp) ifs tt) (he:∀ cl s H fp,PE (X.blk Nc scope cl s H fp) elt te)
  (hsw:swapsWith (.ListComp elt [⟨tg,iter,ifs,0⟩] scope pos) (some (.Name y py)) spos.line X.env=pure true:=by rfl)
  (hs:∀ x,foldedSetIterable iter X.env x=pure x:=by intro _;rfl):PS X (.Assign [.Name y py] (.ListComp elt [⟨tg,iter,ifs,0⟩] scope pos) spos) (za6 (zbW wi g tt te cap) (zao i)):=by
 intro pins s σ H D0 I h
 rw [exec_Assign_Name_used _ _ _ _ hsw]
 refine wpAny_bind (wpAny_standAt (wpAny_bind (wpAny_bind (thn (zlA (use:=some (assign (.Name y py) X.env)) (QQ:=fun _ s'=>SP X pins D0 .next s') hc hsc hN B hi hg ht he hs I h fun s3 H3 cl fp D σc Hc s6 I3 f3 I6 q=>?_) fun _ s' hq=>wpAny_pure (wpAny_pure hq)))))
 have I6x:Inv X pins σ Hc s6:=zow I3 f3 I6 (Heap.SameBut.refl ..)
 obtain ⟨m,hn,_⟩:=id I6.loc
 have hC:Hc s3.heap.objs.size=none:=I6.free
 have fpC:=I3.fpOk (b:=s3.heap.objs.size) (Nat.le_refl _) hC
 refine wpAny_assign_Name (zic I6x hnd hix (.inl hl) (v:=.ref D) rfl (fun s7 I7 ch=>?_) (.inr hl))
 obtain ⟨a,same,ha⟩:=ch
 have nC:s3.heap.objs.size≠a:=by
  rcases ha with r | r
  ·rw [r];exact fpC.2.1
  ·exact (fpC.2.2.2.2.1 _ _ r).symm
 refine ⟨m,hn.sameBut same nC,fun h' hs'=>⟨_,_,I7.turns (t':=s7.toks) (ch:=[s3.heap.objs.size]) (fun b o hb e=>(hs'.2 b (by simpa using hb)).trans e) fun b hb=>?_,q⟩⟩
 have e:b=s3.heap.objs.size:=by simpa using hb
 rw [e]
 exact fpC
theorem zpd {K:PySem.W.Frag} {a:Addr} {xs:List V} {g:TG} {tt:TT} {te:TE} {σ:St} {H:Hp} {D:Addr} {Q:VK} (Pv:Nat→List V→St→Hp→Prop) (h0:Pv 0 [] σ (upd H D (.lst []))) (hl:∀ i ys σ H,i≤xs.length→Pv i ys σ H→SqL K H a xs)
  (hs:∀ i x ys σ H,xs[i]?=some x→H D=some (.lst ys)→Pv i ys σ H→g x σ H fun σ2 H2=>tt σ2 H2 fun b H3=>if b=true then te σ2 H3 fun y H4=>zcO (.ref D) [y] H4 fun _ H5=>∃ ys,H5 D=some (.lst ys)∧Pv (i+1) ys σ2 H5 else ∃ ys,H3 D=some (.lst ys)∧Pv (i+1) ys σ2 H3)
  (hd:∀ ys σ H,H D=some (.lst ys)→Pv xs.length ys σ H→Q (.ref D) H) :
  ∃ W:Nat→Nat→St→Hp→Prop,(∃ m,W 0 m σ (upd H D (.lst [])))∧∀ i m σc Hc,W i m σc Hc →
   ((Itl K a).stop i Hc∧Q (.ref D) Hc)∨((Itl K a).go i Hc∧∃ N:St→Hp→Prop,(∀ σ' H',N σ' H'→∃ m',m'<m∧W (i+1) m' σ' H')∧∀ x H',(Itl K a).yld i Hc x H'→g x σc H' fun σ2 H2=>tt σ2 H2 fun b H3=>if b=true then te σ2 H3 fun y H4=>zcO (.ref D) [y] H4 fun _ H5=>N σ2 H5 else N σ2 H3):=by
 refine ⟨fun i m σ H=>m=xs.length - i∧i≤xs.length∧∃ ys,H D=some (.lst ys)∧Pv i ys σ H,⟨_,rfl,Nat.zero_le _,[],zag,h0⟩,?_⟩
 rintro i m σ H ⟨rfl,hi,ys,hD,pv⟩
 have q:=hl i ys σ H hi pv
 by_cases hlt:i<xs.length
 ·refine .inr ⟨⟨xs,xs[i],q,by simp [hlt]⟩,fun σ H=>∃ ys,H D=some (.lst ys)∧Pv (i+1) ys σ H,fun σ' H' p'=>⟨_,by (first|lia|omega),rfl,hlt,p'⟩,fun x H' yl=>?_⟩
  obtain ⟨e,yl⟩:=yl
  subst e
  exact hs i x ys σ _ (yl xs q) hD pv
 ·have e:i=xs.length:=by (first|lia|omega)
  subst e
  exact .inl ⟨⟨xs,q,Nat.le_refl _⟩,hd ys σ H hD pv⟩
theorem znk {lo:Int} {n:Nat} {g:TG} {tt:TT} {te:TE} {σ:St} {H:Hp} {D:Addr} {Q:VK} (Pv:Nat→List V→St→Hp→Prop) (h0:Pv 0 [] σ (upd H D (.lst [])))
  (hs:∀ i ys σ H,i<n→H D=some (.lst ys)→Pv i ys σ H→g (.int (lo+i)) σ H fun σ2 H2=>tt σ2 H2 fun b H3=>if b=true then te σ2 H3 fun y H4=>zcO (.ref D) [y] H4 fun _ H5=>∃ ys,H5 D=some (.lst ys)∧Pv (i+1) ys σ2 H5 else ∃ ys,H3 D=some (.lst ys)∧Pv (i+1) ys σ2 H3)
  (hd:∀ ys σ H,H D=some (.lst ys)→Pv n ys σ H→Q (.ref D) H) :
  ∃ W:Nat→Nat→St→Hp→Prop,(∃ m,W 0 m σ (upd H D (.lst [])))∧∀ i m σc Hc,W i m σc Hc →
   ((Itr lo n).stop i Hc∧Q (.ref D) Hc)∨((Itr lo n).go i Hc∧∃ N:St→Hp→Prop,(∀ σ' H',N σ' H'→∃ m',m'<m∧W (i+1) m' σ' H')∧∀ x H',(Itr lo n).yld i Hc x H'→g x σc H' fun σ2 H2=>tt σ2 H2 fun b H3=>if b=true then te σ2 H3 fun y H4=>zcO (.ref D) [y] H4 fun _ H5=>N σ2 H5 else N σ2 H3):=by
 refine ⟨fun i m σ H=>m=n - i∧i≤n∧∃ ys,H D=some (.lst ys)∧Pv i ys σ H,⟨_,rfl,Nat.zero_le _,[],zag,h0⟩,?_⟩
 rintro i m σ H ⟨rfl,hi,ys,hD,pv⟩
 by_cases hlt:i<n
 ·refine .inr ⟨hlt,fun σ H=>∃ ys,H D=some (.lst ys)∧Pv (i+1) ys σ H,fun σ' H' p'=>⟨_,by (first|lia|omega),rfl,hlt,p'⟩,fun x H' yl=>?_⟩
  obtain ⟨e,yl⟩:=yl
  subst e yl
  exact hs i ys σ _ hlt hD pv
 ·have e:i=n:=by (first|lia|omega)
  subst e
  exact .inl ⟨Nat.le_refl _,hd ys σ H hD pv⟩
end L2
namespace L2
open PySem PySem.Spec PyProof.Rows
theorem zpk (bs:List Bool):(List.range bs.length).all (fun i=>bs.getD i false)=bs.all id:=by
 rw [Bool.eq_iff_iff,List.all_eq_true,List.all_eq_true]
 constructor
 ·intro h x hx
  obtain ⟨i,hi,e⟩:=List.getElem_of_mem hx
  have:=h i (List.mem_range.mpr hi)
  rw [List.getD_eq_getElem?_getD,List.getElem?_eq_getElem hi] at this
  rw [← e]
  exact this
 ·intro h i hi
  have hi:=List.mem_range.mp hi
  rw [List.getD_eq_getElem?_getD,List.getElem?_eq_getElem hi]
  exact h _ (List.getElem_mem hi)
def zsm (K:PySem.W.Frag):List V→Hp→VK→Prop:=fun xs H Q=>∃ (p:Addr) (bs:List Bool),xs=[.ref p]∧SqL K H p (bs.map V.bl)∧Q (.bl (bs.all id)) H
def rSum (K:PySem.W.Frag):List V→Hp→VK→Prop:=fun xs H Q=>∃ (p:Addr) (ns:List Int),xs=[.ref p]∧SqL K H p (ns.map V.int)∧Q (.int ns.sum) H
theorem zt0 {bs:List Bool} {its:List Value} {i:Nat} {v:Value} (r:zbs (bs.map V.bl) its) (e:its.toArray[i]?=some v):v=.bool (bs.getD i false):=by
 have l:=r.length
 rw [List.length_map] at l
 have e':its[i]?=some v:=by simpa using e
 have hi:i<bs.length:=by rw [l];exact (List.getElem?_eq_some_iff.mp e').1
 obtain ⟨u,hu,ru⟩:=r.get (i:=i) (x:=.bl bs[i]) (by rw [List.getElem?_map,List.getElem?_eq_getElem hi];rfl)
 rw [e'] at hu
 cases hu
 cases ru
 rw [List.getD_eq_getElem?_getD,List.getElem?_eq_getElem hi]
 rfl
theorem zp6 {P:Program} {w:World} {A:Around} {bs:List Bool} {its:List Value} (r:zbs (bs.map V.bl) its):TruthOf P w A (fun i v=>its.toArray[i]?=some v) fun i=>bs.getD i false:=fun i v s Q E hP hQ=>by
 rw [zt0 r hP]
 exact wpAny_pure hQ
section
variable {X:Cx}
theorem zkv (hc:X.calm=true):zgD X (.builtin "all") (zsm X.K):=by
 intro pins s σ H xs us Q I r h
 obtain ⟨p,bs,rfl,hl,q⟩:=h
 obtain ⟨u,rfl,ru⟩:=r.one
 cases ru
 obtain ⟨its,rv,pl,_⟩:=I.list hl
 have l:=rv.length
 rw [List.length_map] at l
 obtain ⟨o,n,e,_⟩:=id pl
 have hne:p≠s.heap.objs.size:=Nat.ne_of_lt (Heap.lt_size e)
 refine call_all_walk (wpAny_pyIter_list pl.isList ?_)
 refine ⟨s.heap.objs.size,_,_,_,_,_,fun i=>bs.getD i false,rfl,Walks.list (A:=X.A.in1) (I.ok.hd hc) _ p hne its.toArray,⟨⟨_,Heap.get?_push_size _ rfl,rfl,rfl⟩,?_⟩,zp6 rv,fun h' tk hk=>⟨.bl _,H,I.kept fun b u eb=>?_,rfl,?_⟩⟩
 ·exact pl.isList.at fun o e=>Heap.get?_push_of_some _ e
 ·exact hk b u (fun z=>Nat.ne_of_lt (Heap.lt_size eb) (by simpa using z)) (Heap.get?_push_of_some _ eb)
 ·rw [List.size_toArray,← l,zpk]
  exact q
theorem zij {ns:List Int} {its:List Value} {i:Nat} {v:Value} (r:zbs (ns.map V.int) its) (e:its.toArray[i]?=some v):∃ t,v=.int (ns.getD i 0) t:=by
 have l:=r.length
 rw [List.length_map] at l
 have e':its[i]?=some v:=by simpa using e
 have hi:i<ns.length:=by rw [l];exact (List.getElem?_eq_some_iff.mp e').1
 obtain ⟨u,hu,ru⟩:=r.get (i:=i) (x:=.int ns[i]) (by rw [List.getElem?_map,List.getElem?_eq_getElem hi];rfl)
 rw [e'] at hu
 cases hu
 obtain ⟨t,rfl⟩:=ru
 refine ⟨t,?_⟩
 rw [List.getD_eq_getElem?_getD,List.getElem?_eq_getElem hi]
 rfl
theorem zjm (ns:List Int):∀ k,k≤ns.length→preSum (fun i=>ns.getD i 0) k=(ns.take k).sum
 | 0,_=>by simp [preSum]
 | k+1,h=>by
  rw [preSum,zjm ns k (by (first|lia|omega)),List.take_add_one,List.getElem?_eq_getElem (by (first|lia|omega)),List.sum_append,List.getD_eq_getElem?_getD,List.getElem?_eq_getElem (by (first|lia|omega))]
  simp
theorem zqD (hc:X.calm=true):zgD X (.builtin "sum") (rSum X.K):=by
 intro pins s σ H xs us Q I r h
 obtain ⟨p,ns,rfl,hl,q⟩:=h
 obtain ⟨u,rfl,ru⟩:=r.one
 cases ru
 obtain ⟨its,rv,pl,_⟩:=I.list hl
 have l:=rv.length
 rw [List.length_map] at l
 obtain ⟨o,n,e,_⟩:=id pl
 have hlt:=Heap.lt_size e
 have hne:p≠s.heap.objs.size:=Nat.ne_of_lt hlt
 refine call_sum_walkG (wpAny_pyIter_list pl.isList ?_)
 refine ⟨s.heap.objs.size,_,_,_,_,_,fun i=>ns.getD i 0,rfl,Walks.list (A:=X.A.in1) (I.ok.hd hc) _ p hne its.toArray,⟨⟨_,Heap.get?_push_size _ rfl,rfl,rfl⟩,?_⟩,fun b hb=>?_,fun i v hv=>zij rv hv,fun h' tk t' hk=>⟨.int _,H,I.kept fun b u eb=>?_,⟨t',rfl⟩,?_⟩⟩
 ·exact pl.isList.at fun o e=>Heap.get?_push_of_some _ e
 ·rw [Heap.size_push]
  rcases List.mem_cons.mp hb with z | z
  ·rw [z];exact Nat.lt_succ_self _
  ·have z':b=p:=by simpa using z
   rw [z'];exact Nat.lt_succ_of_lt hlt
 ·exact hk b u (fun z=>Nat.ne_of_lt (Heap.lt_size eb) (by simpa using z)) (Heap.get?_push_of_some _ eb)
 ·rw [List.size_toArray,← l,zjm _ _ (Nat.le_refl _),List.take_length]
  exact q
end
end L2
namespace L2
open PySem PySem.Spec PyProof.Rows
theorem zfR {o:Obj} {vs:Array Value} (h:o.data=.fields vs):∀ v,o.data≠.cell v:=fun v z=>by rw [h] at z;cases z
end L2
namespace L2
open PySem PySem.Spec PyProof.Rows
inductive Tr where
 | int (i:Int)
 | bl (b:Bool)
 | str (x:Str)
 | non
 | lst (l:List Tr)
 | tup (l:List Tr)
inductive zem (K:PySem.W.Frag) (H:Hp):Nat→Tr→V→Prop where
 | int {n:Nat} (i:Int):zem K H n (.int i) (.int i)
 | bl {n:Nat} (b:Bool):zem K H n (.bl b) (.bl b)
 | str {n:Nat} (x:Str):zem K H n (.str x) (.str x)
 | non {n:Nat}:zem K H n .non .non
 | lst {n:Nat} {p:Addr} {xs:List V} {ts:List Tr} (h:SqL K H p xs) (l:xs.length=ts.length) (e:∀ (i:Nat) x t,xs[i]?=some x→ts[i]?=some t→zem K H n t x):zem K H (n+1) (.lst ts) (.ref p)
 | tup {n:Nat} {p:Addr} {xs:List V} {ts:List Tr} (h:SqT K H p xs) (l:xs.length=ts.length) (e:∀ (i:Nat) x t,xs[i]?=some x→ts[i]?=some t→zem K H n t x):zem K H (n+1) (.tup ts) (.ref p)
section
variable {X:Cx} {pins:List (Addr×Obj)} {σ:St} {H:Hp} {s:Shared}
theorem zhc {A:Around} {n:Nat} {xs ys:List V} {ts:List Tr} {us vs:List Value} (lx:xs.length=ts.length) (ly:ys.length=ts.length) (r1:zbs xs us) (r2:zbs ys vs)
  (ih:∀ (i:Nat) x t,xs[i]?=some x→ts[i]?=some t→∀ y,zem X.K H n t y→∀ (u v:Value) (A:Around),zbT x u→zbT y v→A.units+n<cLine→SeqAt.EqAt A s u v true)
  (ey:∀ (i:Nat) y t,ys[i]?=some y→ts[i]?=some t→zem X.K H n t y) (hu:A.units+(n+1)<cLine) :
  ∀ j (h1:j<us.toArray.size) (h2:j<vs.toArray.size),SeqAt.EqAt A.in1 s us.toArray[j] vs.toArray[j] true:=by
 intro j h1 h2
 have k1:j<xs.length:=by rw [r1.length];simpa using h1
 have k2:j<ys.length:=by rw [r2.length];simpa using h2
 have k3:j<ts.length:=by (first|lia|omega)
 obtain ⟨u,e1,ru⟩:=r1.get (List.getElem?_eq_getElem k1)
 obtain ⟨v,e2,rv⟩:=r2.get (List.getElem?_eq_getElem k2)
 have q1:us.toArray[j]=u:=by
  have:=(List.getElem?_eq_some_iff.mp e1).2
  simpa using this
 have q2:vs.toArray[j]=v:=by
  have:=(List.getElem?_eq_some_iff.mp e2).2
  simpa using this
 rw [q1,q2]
 exact ih j _ _ (List.getElem?_eq_getElem k1) (List.getElem?_eq_getElem k3) _ (ey j _ _ (List.getElem?_eq_getElem k2) (List.getElem?_eq_getElem k3)) u v A.in1 ru rv (by show A.units+1+n<cLine;(first|lia|omega))
theorem zhs (n:Nat):(List.range n).all (fun _=>true)=true:=by simp
theorem zot (I:Inv X pins σ H s) {n:Nat} {t:Tr} {x:V} (hx:zem X.K H n t x):∀ y,zem X.K H n t y→∀ (u v:Value) (A:Around),zbT x u→zbT y v→A.units+n<cLine→SeqAt.EqAt A s u v true:=by
 induction hx with
 | int i =>
  intro y hy u v A ru rv hu
  cases hy
  obtain ⟨a,rfl⟩:=ru
  obtain ⟨b,rfl⟩:=rv
  have:=SeqAt.EqAt.int_int (A:=A) (s:=s) i a i b
  rw [beq_self_eq_true] at this
  exact this
 | bl b =>
  intro y hy u v A ru rv hu
  cases hy
  cases ru
  cases rv
  exact SeqAt.EqAt.same _
 | str x =>
  intro y hy u v A ru rv hu
  cases hy
  obtain ⟨a,rfl⟩:=ru
  obtain ⟨b,rfl⟩:=rv
  have:=SeqAt.EqAt.str_str (A:=A) (s:=s) x a x b
  rw [beq_self_eq_true] at this
  exact this
 | non =>
  intro y hy u v A ru rv hu
  cases hy
  cases ru
  cases rv
  exact SeqAt.EqAt.same _
 | @lst n p xs ts h l e ih =>
  intro y hy u v A ru rv hu
  cases hy with
  | @lst _ q ys _ h2 l2 e2 =>
   cases ru
   cases rv
   by_cases hpq:p=q
   ·subst hpq
    exact SeqAt.EqAt.same _
   ·obtain ⟨us,r1,p1,_⟩:=I.list h
    obtain ⟨vs,r2,p2,_⟩:=I.list h2
    have z:=SeqAt.RcAt.lists (A:=A) p1.isList p2.isList (by rw [List.size_toArray,List.size_toArray,← r1.length,← r2.length,l,l2]) (by (first|lia|omega)) (e:=fun _=>true) (zhc l l2 r1 r2 ih e2 hu)
    rw [zhs] at z
    exact SeqAt.EqAt.of_refs hpq z
 | @tup n p xs ts h l e ih =>
  intro y hy u v A ru rv hu
  cases hy with
  | @tup _ q ys _ h2 l2 e2 =>
   cases ru
   cases rv
   by_cases hpq:p=q
   ·subst hpq
    exact SeqAt.EqAt.same _
   ·obtain ⟨us,r1,p1,_⟩:=I.tuple h
    obtain ⟨vs,r2,p2,_⟩:=I.tuple h2
    have z:=SeqAt.RcAt.tuples (A:=A) p1 p2 (by (first|lia|omega)) (e:=fun _=>true) (zhc l l2 r1 r2 ih e2 hu)
    rw [zhs,List.size_toArray,List.size_toArray,← r1.length,← r2.length,l,l2,beq_self_eq_true,Bool.and_self] at z
    exact SeqAt.EqAt.of_refs hpq z
def rNeD (K:PySem.W.Frag):R2:=fun x y H Q=>∃ n ts,n≤60∧(zem K H (n+1) (.lst ts) x∧zem K H (n+1) (.lst ts) y∨zem K H (n+1) (.tup ts) x∧zem K H (n+1) (.tup ts) y)∧Q (.bl false) H
theorem zuv (hu:X.A.units+64<cLine):OpR X (compareOp .NotEq) (rNeD X.K):=by
 intro pins s σ H x y v u Q I rx ry h
 obtain ⟨n,ts,hn,h,q⟩:=h
 have hu':X.A.units+(n+1)<cLine:=by (first|lia|omega)
 rcases h with ⟨h1,h2⟩ | ⟨h1,h2⟩
 ·cases h1 with
  | @lst _ p xs _ a1 a2 a3 =>
   cases h2 with
   | @lst _ p' ys _ b1 b2 b3 =>
    cases rx
    cases ry
    obtain ⟨us,r1,p1,_⟩:=I.list a1
    obtain ⟨vs,r2,p2,_⟩:=I.list b1
    have z:=SeqAt.RcNeAt.lists (A:=X.A) p1.isList p2.isList (by rw [List.size_toArray,List.size_toArray,← r1.length,← r2.length,a2,b2]) (by (first|lia|omega)) (e:=fun _=>true) (zhc a2 b2 r1 r2 (fun i x t e1 e2=>zot I (a3 i x t e1 e2)) b3 hu')
    rw [zhs] at z
    exact z X.prog X.w X.xe _ ⟨.bl false,H,I,rfl,q⟩
 ·cases h1 with
  | @tup _ p xs _ a1 a2 a3 =>
   cases h2 with
   | @tup _ p' ys _ b1 b2 b3 =>
    cases rx
    cases ry
    obtain ⟨us,r1,p1,_⟩:=I.tuple a1
    obtain ⟨vs,r2,p2,_⟩:=I.tuple b1
    have z:=SeqAt.RcNeAt.tuples (A:=X.A) p1 p2 (by (first|lia|omega)) (e:=fun _=>true) (zhc a2 b2 r1 r2 (fun i x t e1 e2=>zot I (a3 i x t e1 e2)) b3 hu')
    rw [zhs,List.size_toArray,List.size_toArray,← r1.length,← r2.length,a2,b2,beq_self_eq_true,Bool.and_self] at z
    exact z X.prog X.w X.xe _ ⟨.bl false,H,I,rfl,q⟩
end
end L2
namespace L2
open PySem PySem.Spec PyProof.Rows
section
variable {X:Cx}
end
def zjp (J:It) (g:TG) (tt:TT) (te:TE) (D:Addr) (Q:VK) (σ:St) (H:Hp):Prop:=∃ W:Nat→Nat→St→Hp→Prop,(∃ m,W 0 m σ H)∧∀ i m σc Hc,W i m σc Hc →
 (J.stop i Hc∧Q (.ref D) Hc)∨(J.go i Hc∧∃ N:St→Hp→Prop,(∀ σ' H',N σ' H'→∃ m',m'<m∧W (i+1) m' σ' H')∧∀ x H',J.yld i Hc x H'→g x σc H' fun σ2 H2=>tt σ2 H2 fun b H3=>if b=true then te σ2 H3 fun y H4=>zcO (.ref D) [y] H4 fun _ H5=>N σ2 H5 else N σ2 H3)
theorem zqd {wi:TI} {g:TG} {tt:TT} {te:TE} {cap:List (Option Nat)} {σ:St} {H:Hp} {Q:VK}:zbW wi g tt te cap σ H Q=wi σ H fun J H1=>∀ D,H1 D=none→zjp J g tt te D Q (zqr cap σ) (upd H1 D (.lst [])):=rfl
theorem zgg {K:PySem.W.Frag} {a:Addr} {xs:List V} {g:TG} {tt:TT} {te:TE} {σ:St} {H:Hp} {D:Addr} {Q:VK} (Pv:Nat→List V→St→Hp→Prop) (h0:Pv 0 [] σ (upd H D (.lst []))) (hl:∀ i ys σ H,i≤xs.length→Pv i ys σ H→SqL K H a xs)
  (hs:∀ i x ys σ H,xs[i]?=some x→H D=some (.lst ys)→Pv i ys σ H→g x σ H fun σ2 H2=>tt σ2 H2 fun b H3=>if b=true then te σ2 H3 fun y H4=>zcO (.ref D) [y] H4 fun _ H5=>∃ ys,H5 D=some (.lst ys)∧Pv (i+1) ys σ2 H5 else ∃ ys,H3 D=some (.lst ys)∧Pv (i+1) ys σ2 H3)
  (hd:∀ ys σ H,H D=some (.lst ys)→Pv xs.length ys σ H→Q (.ref D) H):zjp (Itl K a) g tt te D Q σ (upd H D (.lst [])):=zpd Pv h0 hl hs hd
theorem zbu {lo:Int} {n:Nat} {g:TG} {tt:TT} {te:TE} {σ:St} {H:Hp} {D:Addr} {Q:VK} (Pv:Nat→List V→St→Hp→Prop) (h0:Pv 0 [] σ (upd H D (.lst [])))
  (hs:∀ i ys σ H,i<n→H D=some (.lst ys)→Pv i ys σ H→g (.int (lo+i)) σ H fun σ2 H2=>tt σ2 H2 fun b H3=>if b=true then te σ2 H3 fun y H4=>zcO (.ref D) [y] H4 fun _ H5=>∃ ys,H5 D=some (.lst ys)∧Pv (i+1) ys σ2 H5 else ∃ ys,H3 D=some (.lst ys)∧Pv (i+1) ys σ2 H3)
  (hd:∀ ys σ H,H D=some (.lst ys)→Pv n ys σ H→Q (.ref D) H):zjp (Itr lo n) g tt te D Q σ (upd H D (.lst [])):=znk Pv h0 hs hd
end L2
namespace L2
open PySem PySem.Spec PyProof.Rows
section
variable {X:Cx}
def zpZ (K:PySem.W.Frag):List V→Hp→VK→Prop:=fun xs H Q=>∃ (p:Addr) (ns:List Int),xs=[.ref p]∧SqL K H p (ns.map V.int)∧0<ns.length∧∀ m,m∈ns→(∀ a∈ns,a≤m)→Q (.int m) H
def zm2 (K:PySem.W.Frag):List V→Hp→VK→Prop:=fun xs H Q=>∃ (p:Addr) (ns:List Int),xs=[.ref p]∧SqL K H p (ns.map V.int)∧0<ns.length∧∀ m,m∈ns→(∀ a∈ns,m≤a)→Q (.int m) H
theorem zoY {ns:List Int} {i:Nat} (h:i<ns.length):ns.getD i 0∈ns:=by
 rw [zga h]
 exact List.getElem_mem h
theorem znR {ns:List Int} {a:Int} (h:a∈ns):∃ i,i<ns.length∧a=ns.getD i 0:=by
 obtain ⟨i,hi,e⟩:=List.getElem_of_mem h
 exact ⟨i,hi,by rw [zga hi,e]⟩
theorem zog (hc:X.calm=true):zgD X (.builtin "max") (zpZ X.K):=by
 intro pins s σ H xs us Q I r h
 obtain ⟨p,ns,rfl,hl,hn,q⟩:=h
 obtain ⟨u,rfl,ru⟩:=r.one
 cases ru
 obtain ⟨its,rv,pl,_⟩:=I.list hl
 have l:=rv.length
 rw [List.length_map] at l
 obtain ⟨o,n,e,_⟩:=id pl
 have hlt:=Heap.lt_size e
 have hne:p≠s.heap.objs.size:=Nat.ne_of_lt hlt
 refine call_max_walk (wpAny_pyIter_list pl.isList ?_)
 refine ⟨s.heap.objs.size,_,_,_,_,_,_,rfl,Walks.list (A:=X.A.in1) (I.ok.hd hc) _ p hne its.toArray,⟨⟨_,Heap.get?_push_size _ rfl,rfl,rfl⟩,?_⟩,fun b hb=>?_,by rw [List.size_toArray];(first|lia|omega),CmpOf.ints_gt (fun i=>ns.getD i 0) (fun i v hv=>zij rv hv),fun v h' tk hv hk=>?_⟩
 ·exact pl.isList.at fun o e=>Heap.get?_push_of_some _ e
 ·rw [Heap.size_push]
  rcases List.mem_cons.mp hb with z | z
  ·rw [z];exact Nat.lt_succ_self _
  ·have z':b=p:=by simpa using z
   rw [z'];exact Nat.lt_succ_of_lt hlt
 ·obtain ⟨t,rfl⟩:=zij rv hv
  obtain ⟨b1,b2⟩:=argBest_gt (fun i=>ns.getD i 0) (its.toArray.size - 1)
  rw [List.size_toArray] at b1 b2
  refine ⟨.int _,H,I.kept fun b u eb=>hk b u (fun z=>Nat.ne_of_lt (Heap.lt_size eb) (by simpa using z)) (Heap.get?_push_of_some _ eb),⟨t,rfl⟩,q _ (zoY (by rw [List.size_toArray];(first|lia|omega))) fun a ha=>?_⟩
  obtain ⟨j,hj,rfl⟩:=znR ha
  exact b2 j (by (first|lia|omega))
theorem zih (hc:X.calm=true):zgD X (.builtin "min") (zm2 X.K):=by
 intro pins s σ H xs us Q I r h
 obtain ⟨p,ns,rfl,hl,hn,q⟩:=h
 obtain ⟨u,rfl,ru⟩:=r.one
 cases ru
 obtain ⟨its,rv,pl,_⟩:=I.list hl
 have l:=rv.length
 rw [List.length_map] at l
 obtain ⟨o,n,e,_⟩:=id pl
 have hlt:=Heap.lt_size e
 have hne:p≠s.heap.objs.size:=Nat.ne_of_lt hlt
 refine call_min_walk (wpAny_pyIter_list pl.isList ?_)
 refine ⟨s.heap.objs.size,_,_,_,_,_,_,rfl,Walks.list (A:=X.A.in1) (I.ok.hd hc) _ p hne its.toArray,⟨⟨_,Heap.get?_push_size _ rfl,rfl,rfl⟩,?_⟩,fun b hb=>?_,by rw [List.size_toArray];(first|lia|omega),CmpOf.ints_lt (fun i=>ns.getD i 0) (fun i v hv=>zij rv hv),fun v h' tk hv hk=>?_⟩
 ·exact pl.isList.at fun o e=>Heap.get?_push_of_some _ e
 ·rw [Heap.size_push]
  rcases List.mem_cons.mp hb with z | z
  ·rw [z];exact Nat.lt_succ_self _
  ·have z':b=p:=by simpa using z
   rw [z'];exact Nat.lt_succ_of_lt hlt
 ·obtain ⟨t,rfl⟩:=zij rv hv
  obtain ⟨b1,b2⟩:=argBest_lt (fun i=>ns.getD i 0) (its.toArray.size - 1)
  rw [List.size_toArray] at b1 b2
  refine ⟨.int _,H,I.kept fun b u eb=>hk b u (fun z=>Nat.ne_of_lt (Heap.lt_size eb) (by simpa using z)) (Heap.get?_push_of_some _ eb),⟨t,rfl⟩,q _ (zoY (by rw [List.size_toArray];(first|lia|omega))) fun a ha=>?_⟩
  obtain ⟨j,hj,rfl⟩:=znR ha
  exact b2 j (by (first|lia|omega))
end
end L2
namespace L2
open PySem PySem.Spec PyProof.Rows
def zqi:List V→Option (List Value)
 | []=>some []
 | v::vs=>(clsV v).bind fun c=>(zqi vs).map fun cs=>c::cs
theorem zkL:∀ {vs:List V} {us cs:List Value},zbs vs us→zqi vs=some cs→us=cs
 | [],_,cs,.nil,h=>by cases h;rfl
 | v::vs,_,cs,.cons r t,h=>by
  unfold zqi at h
  obtain ⟨c,h1,h2⟩:=Option.bind_eq_some_iff.mp h
  obtain ⟨ds,h3,rfl⟩:=Option.map_eq_some_iff.mp h2
  rw [zmI r h1,zkL t h3]
def znb (K:PySem.W.Frag):List V→Hp→VK→Prop:=fun xs H Q=>∃ (a tp:Addr) (cs:List V) (c:Value) (cvs:List Value) (b:Bool),xs=[.ref a,.ref tp]∧H a=some (zqh a c)∧zjf K c∧SqT K H tp cs∧zqi cs=some cvs∧PySem.W.kitAny K c cvs=some b∧Q (.bl b) H
section
variable {X:Cx}
theorem zkU:zgD X (.builtin "isinstance") (znb X.K):=by
 intro pins s σ H xs us Q I r h
 obtain ⟨a,tp,cs,c,cvs,b,rfl,ha,k,ht,hc,e,q⟩:=h
 obtain ⟨u,w',rfl,rx,rw'⟩:=zuw r
 cases rx
 cases rw'
 obtain ⟨p,_,_⟩:=(show zca X.prog X.w H s.heap a (zqh a c) from I.hok a _ ha)
 obtain ⟨ws,rv,⟨⟨cls,dd,data,sl⟩,e1,e2,n,e3⟩,_⟩:=I.tuple ht
 obtain rfl:=zkL rv hc
 simp only at e2 e3
 subst e2 e3
 exact PySem.W.kia_tup (k.kit a) I.kIn p e1 e (fun z=>nomatch z) fun tk=>⟨.bl b,H,I.tok tk,rfl,q⟩
end
end L2
namespace L2
open PySem PySem.Spec PyProof.Rows
theorem zpF:bootBuiltins "enumerate"=some (.type "enumerate"):=by decide +kernel
def Ite (K:PySem.W.Frag) (p:Addr):It where
 go:=fun i H=>∃ xs a,SqL K H p xs∧xs[i]?=some a
 yld:=fun i H x H'=>∃ t a,x=.ref t∧H t=none∧H'=upd H t (.tup [.int (i:Int),a])∧∀ xs,SqL K H p xs→xs[i]?=some a
 stop:=fun i H=>∃ xs,SqL K H p xs∧i=xs.length
def tnE (e it p:Addr) (i:Nat) (h:Heap):Prop:=(∃ old,IsEnum h e it i old)∧h.IsListIter it p i
theorem zkZ {e it p:Addr} {i:Nat} {h:Heap} (st:tnE e it p i h):∀ b∈[e,it],∃ o,h.get? b=some o∧∀ v,o.data≠.cell v:=fun b hb=>by
 obtain ⟨⟨old,a1⟩,⟨o2,a2,_,d2⟩⟩:=st
 simp only [List.mem_cons,List.not_mem_nil,or_false] at hb
 rcases hb with rfl | rfl
 ·exact ⟨_,a1,zfR rfl⟩
 ·exact ⟨_,a2,zfR d2⟩
theorem zo3 {P:Program} {w:World} {K:PySem.W.Frag} {elts:List Expr} {k:Nat} {pos:Pos} {e it p:Addr} (d1:e≠it) (d2:p≠e) (d3:p≠it):Turn P w K (.Tuple elts k pos) (Ite K p) [e,it] e (tnE e it p) where
 mem:=by simp
 obj:=fun i h st=>zkZ st
 keep:=fun i h h' st kk=>by
  obtain ⟨⟨old,a1⟩,a2⟩:=st
  exact ⟨⟨old,kk e (by simp) _ a1⟩,a2.at fun o x=>kk it (by simp) o x⟩
 item:=by
  intro X hP hw hK hc i pins s σ H E I hf st hg
  subst hP hw hK
  obtain ⟨xs,a,hx,ea⟩:=hg
  obtain ⟨its,r1,pl1,z1⟩:=I.list hx
  obtain ⟨ua,eua,rua⟩:=r1.get ea
  have there:=zkZ st
  obtain ⟨s1,s2⟩:=st
  have W:=WalksT.enumerate (prog:=X.prog) (w:=X.w) (A:=X.A) (I.ok.hd hc) e it p d1 d2 d3 its.toArray
  have hi:i<its.toArray.size:=by
   have h1:=(List.getElem?_eq_some_iff.mp eua).1
   rw [List.size_toArray]
   exact h1
  refine W.item i s _ _ hi ⟨s1,s2,pl1.isList⟩ fun T vals h' tk hp hT hTup mid kk=>⟨_,rfl,?_⟩
  obtain ⟨t,u,e1,rfl⟩:=hp
  have e1':u=ua:=by
   have:its[i]?=some u:=by simpa using e1
   rw [eua] at this;cases this;rfl
  subst e1'
  refine W.go elts k pos i T { s with heap:=h',toks:=tk } _ _ mid fun h2 st2 kk2=>?_
  obtain ⟨t1,t2,_⟩:=st2
  have I1:Inv X pins σ H { s with heap:=h2,toks:=tk }:=I.turns (ch:=[e,it]) (fun b o hb q=>kk2 b o hb (kk b o hb q)) fun b hb=>hf b hb
  have nT:H T=none:=I.hok.fresh hT
  have I2:=I1.track (a:=T) (o:=.tup [.int (i:Int),a]) nT (Heap.get?_none_of_le (Nat.le_trans I.sz hT)) (Nat.ne_of_gt (Nat.lt_of_lt_of_le I.lt hT)) (fun x c q=>by
   obtain ⟨v,z⟩:=I.cell x c q
   exact Nat.ne_of_lt (Nat.lt_of_lt_of_le z.lt hT)) (fun y hy=>Nat.ne_of_lt (Nat.lt_of_lt_of_le (Heap.lt_size (I.pin y hy).1) hT)) (by
   refine ⟨by show 2≤sizeLine;decide,[.int i t,u],.cons ⟨t,rfl⟩ (.cons rua .nil),?_⟩
   obtain ⟨o,ho,hcl,hd⟩:=hTup
   exact ⟨o,kk2 T o (W.apart i T h' mid) ho,hcl,hd⟩)
  refine ⟨.ref T,_,I2,rfl,⟨T,a,rfl,nT,rfl,fun xs' h'=>?_⟩,⟨t1,t2⟩,fun b hb=>?_⟩
  ·rw [I.list_inj h' hx];exact ea
  ·obtain ⟨o,q,_⟩:=there b hb
   rw [zal (Nat.ne_of_lt (Nat.lt_of_lt_of_le (Heap.lt_size q) hT))]
   exact (hf b hb).1
 done:=by
  intro X hP hw hK hc i pins s σ H E I hf st hg
  subst hP hw hK
  obtain ⟨xs,hx,rfl⟩:=hg
  obtain ⟨its,r1,pl1,z1⟩:=I.list hx
  obtain ⟨s1,s2⟩:=st
  have W:=WalksT.enumerate (prog:=X.prog) (w:=X.w) (A:=X.A) (I.ok.hd hc) e it p d1 d2 d3 its.toArray
  refine W.done s _ _ ?_ fun h' tk kk=>⟨rfl,I.turns (ch:=[e,it]) (fun b o hb q=>kk b o hb q) fun b hb=>hf b hb⟩
  rw [List.size_toArray,← r1.length]
  exact ⟨s1,s2,pl1.isList⟩
 self:=fun A i s Q E st h=>by
  obtain ⟨⟨old,a1⟩,_⟩:=st
  exact wpAny_pyIter_enum a1 h
def zkM (K:PySem.W.Frag) (ta:TA):TI:=fun σ H R=>ta σ H fun vs H1=>∃ p,vs=[.ref p]∧(∃ xs,SqL K H1 p xs)∧R (Ite K p) H1
theorem zkk {X:Cx} {a:Expr} {elts:List Expr} {k:Nat} {tp p pos:Pos} {ta:TA} (hg:Gl X "enumerate") (hm:X.mg "enumerate"=none) (ha:PA X [a] ta) (hs:starEach [a] X.env=[(false,eval a X.env)]:=by rfl) :
  PI X (.Tuple elts k tp) (.Call (.Name "enumerate" p) [a] [] pos) (zkM X.K ta):=by
 intro pins s σ H R I h
 refine Call_ (zhG I hg hm zpF (PyProof.Rows.callWith_type1 (thn (ha pos pins s σ H _ I h) fun us s1 hQ'=>?_) (by rw [hs];rfl) rfl))
 obtain ⟨vs,H1,I1,r1,q1⟩:=hQ'
 obtain ⟨p1,rfl,⟨xs,hx⟩,q⟩:=q1
 obtain ⟨u,rfl,ru⟩:=r1.one
 cases ru
 obtain ⟨its,_,pl1,_⟩:=I1.list hx
 have a1:p1<s1.heap.objs.size:=by obtain ⟨_,e,_⟩:=pl1.isList;exact Heap.lt_size e
 refine call_enumerate_list pl1.isList fun h' he hi hsz hk=>?_
 refine wpAny_pyIter_enum he ?_
 refine ⟨_,_,_,_,H1,rfl,I1.kept (t':=s1.toks) hk,zo3 (Nat.succ_ne_self _) (Nat.ne_of_lt (Nat.lt_succ_of_lt a1)) (Nat.ne_of_lt a1),⟨⟨_,he⟩,hi⟩,fun b hb=>?_,q⟩
 have hb':s1.heap.objs.size≤b:=by
  simp only [List.mem_cons,List.not_mem_nil,or_false] at hb
  rcases hb with h | h <;> rw [h] <;> first | exact Nat.le_refl _ | exact Nat.le_add_right _ _
 exact I1.fpOk hb' (I1.hok.fresh hb')
theorem zkQ {K:PySem.W.Frag} {p:Addr} {xs:List V} {g:TG} {tb:TS} {D:zbO} {σ:St} {H:Hp} (Pv:Nat→St→Hp→Prop) (h0:Pv 0 σ H) (hl:∀ i σ H,i≤xs.length→Pv i σ H→SqL K H p xs)
  (hs:∀ i x t σ H,xs[i]?=some x→Pv i σ H→H t=none→g (.ref t) σ (upd H t (.tup [.int (i:Int),x])) fun σ2 H2=>tb { D with nx:=Pv (i+1),ct:=Pv (i+1),bk:=D.nx } σ2 H2) (hd:∀ σ H,Pv xs.length σ H→D.nx σ H):zpS (Ite K p) g tb D σ H:=by
 refine ⟨fun i m σ H=>m=xs.length - i∧i≤xs.length∧Pv i σ H,⟨_,rfl,Nat.zero_le _,h0⟩,?_⟩
 rintro i m σ H ⟨rfl,hi,pv⟩
 have hx:=hl i σ H hi pv
 by_cases hlt:i<xs.length
 ·refine .inr ⟨⟨xs,xs[i],hx,by simp [hlt]⟩,Pv (i+1),fun σ' H' p'=>⟨_,by (first|lia|omega),rfl,hlt,p'⟩,fun x H' yl=>?_⟩
  obtain ⟨t,a,rfl,ht,rfl,e1⟩:=yl
  exact hs i a t σ H (e1 xs hx) pv ht
 ·have e:i=xs.length:=by (first|lia|omega)
  subst e
  exact .inl ⟨⟨xs,hx,rfl⟩,hd σ H pv⟩
end L2
namespace L2
open PySem PySem.Spec PyProof.Rows
section
variable {κ:Type} [DecidableEq κ]
end
section
variable {P:Program} {w:World} {H:Hp} {h:Heap} {a:Addr}
end
section
variable {X:Cx} {pins:List (Addr×Obj)} {σ:St} {H:Hp} {s:Shared} {a:Addr} {y v:V} {u r:Value} {o:Option V} {A:Around} {E:Value→Shared→Prop}
theorem Inv.big (I:Inv X pins σ H s):sysModules<s.heap.objs.size:=by
 have h:mainGlobals<s.heap.objs.size:=(I.mod.glob.keeps I.bk).lt
 exact Nat.lt_trans (by decide) h
end
section
variable {X:Cx} {pins:List (Addr×Obj)} {σ:St} {H:Hp} {s:Shared} {a:Addr} {kvs:List (Key×V)} {k:Key} {u:Value} {A:Around} {E:Value→Shared→Prop}
end
section
variable {X:Cx} {o i e value:Expr} {pos pos' tpos:Pos} {td ty tv:TE}
end
theorem zqL {P:Program} {w:World} {H:Hp} (h:Heap) (hb:sysModules<h.objs.size):zca P w H (h.push { cls:=.type "dict",data:=.dict #[] }) h.objs.size (.dK []) :=
 ⟨Nat.zero_le _,beq_eq_false_iff_ne.mpr (Ne.symm (Nat.ne_of_lt hb)),[],.nil,Heap.DictOf.new h⟩
def zmq:TE:=fun _ H Q=>∀ p,H p=none→Q (.ref p) (upd H p (.dK []))
section
variable {X:Cx} {pos:Pos}
theorem zp7:PE X (.Dict [] [] pos) zmq:=fun pins s σ H Q I h =>
 wpAny_Dict_empty ⟨.ref s.heap.objs.size,_,I.laid (a:=s.heap.objs.size) (o:=.dK []) (t':=s.toks) (fun _ _ q=>Heap.get?_push_of_some _ q) (Nat.le_refl _) (zqL s.heap I.big),rfl,h _ (I.hok.fresh (Nat.le_refl _))⟩
end
section
variable {X:Cx} {pins:List (Addr×Obj)} {σ:St} {H:Hp} {s:Shared} {a:Addr} {y d:V} {u r:Value} {o:Option V} {A:Around} {E:Value→Shared→Prop}
end
section
variable {X:Cx} {o e f:Expr} {apos cpos:Pos} {td ty tx:TE}
end
section
variable {X:Cx} {pins:List (Addr×Obj)} {σ:St} {H:Hp} {s:Shared} {a:Addr} {kvs:List (Key×V)} {A:Around} {E:Value→Shared→Prop}
end
section
variable {X:Cx} {pins:List (Addr×Obj)} {σ:St} {H:Hp} {s:Shared} {a:Addr} {y:V} {u:Value} {A:Around} {E:Value→Shared→Prop}
end
end L2
namespace L2
open PySem PySem.Spec PyProof.Rows
section
variable {X:Cx}
end
end L2
namespace L2
open PySem PySem.Spec PyProof.Rows
def zqI (ta:TA):TE:=fun σ H Q=>ta σ H fun vs H1=>∃ j:Int,vs=[.int j]∧-(2 ^ 62)≤j∧j<2 ^ 62∧∀ p,H1 p=none→Q (.ref p) (upd H1 p (.rng 0 j))
def zhu:List V→Hp→VK→Prop:=fun xs H Q=>∃ (p:Addr) (i j:Int),xs=[.ref p]∧H p=some (.rng i j)∧(-(2 ^ 62)≤i∧i<2 ^ 62∧-(2 ^ 62)≤j∧j<2 ^ 62)∧j - i≤1000∧∀ l,H l=none→Q (.ref l) (upd H l (.lst ((List.range (j - i).toNat).map fun k:Nat=>V.int (i+(k:Int)))))
section
variable {X:Cx}
theorem zq1 {pins:List (Addr×Obj)} {σ:St} {H:Hp} {s:Shared} {lo hi:Int} {t u v:Tok} {tk:Nat} {Q:VK} (I:Inv X pins σ H s) (q:∀ p,H p=none→Q (.ref p) (upd H p (.rng lo hi))) :
  EP X pins σ Q (.ref s.heap.objs.size) { s with heap:=s.heap.push { cls:=.type "range",data:=.fields #[.int lo t,.int hi u,.int 1 v] },toks:=tk } :=
 ⟨.ref s.heap.objs.size,_,I.laid (a:=s.heap.objs.size) (o:=.rng lo hi) (t':=tk) (fun _ _ q=>Heap.get?_push_of_some _ q) (Nat.le_refl _) (show zca X.prog X.w _ _ _ (.rng lo hi) from ⟨t,u,v,Heap.get?_push_size _ rfl⟩),rfl,q _ (I.hok.fresh (Nat.le_refl _))⟩
theorem zoN {a:Expr} {ta:TA} {p pos:Pos} (hg:Gl X "range") (hm:X.mg "range"=none) (ha:PA X [a] ta) (hs:starEach [a] X.env=[(false,eval a X.env)]:=by rfl):PE X (.Call (.Name "range" p) [a] [] pos) (zqI ta):=by
 intro pins s σ H Q I h
 refine Call_ (zhG I hg hm boot_range (PyProof.Rows.callWith_type1 (thn (ha pos pins s σ H _ I h) fun us s1 hQ'=>?_) hs rfl))
 obtain ⟨vs,H1,I1,r1,q1⟩:=hQ'
 obtain ⟨j,e,q1,q2,q⟩:=q1
 subst e
 cases r1 with
 | cons r rr =>
  cases rr
  obtain ⟨t,rfl⟩:=r
  exact call_range_1 (zq1 I1 q)
theorem zo9:∀ {xs:List V} {us:List Value},xs.length=us.length→(∀ (j:Nat) x u,xs[j]?=some x→us[j]?=some u→zbT x u)→zbs xs us
 | [],[],_,_=>.nil
 | [],_::_,h,_=>by simp at h
 | _::_,[],h,_=>by simp at h
 | x::xs,u::us,h,r=>.cons (r 0 x u rfl rfl) (zo9 (by simpa using h) fun j y v e1 e2=>r (j+1) y v e1 e2)
theorem zm1 {lo:Int} {acc:Array Value} {n:Nat} (h:ItemsOf (fun i v=>∃ t,v=.int (lo+i*1) t) acc n):zbs ((List.range n).map fun k:Nat=>V.int (lo+(k:Int))) acc.toList:=by
 refine zo9 (by rw [List.length_map,List.length_range,Array.length_toList,h.1]) fun j x u e1 e2=>?_
 rw [List.getElem?_map,Option.map_eq_some_iff] at e1
 obtain ⟨k,hk,rfl⟩:=e1
 obtain ⟨l1,l2⟩:=List.getElem?_eq_some_iff.mp hk
 rw [List.getElem_range] at l2
 subst l2
 obtain ⟨t,rfl⟩:=h.2 j u (by rw [← Array.getElem?_toList];exact e2)
 exact ⟨t,by rw [Int.mul_one]⟩
theorem zfp (hc:X.calm=true):zgD X (.type "list") zhu:=by
 intro pins s σ H xs us Q I r h
 obtain ⟨p,i,j,rfl,hp,⟨h1,h2,h3,h4⟩,hl,q⟩:=h
 obtain ⟨u,rfl,rx⟩:=zmV r
 cases rx
 obtain ⟨t,u,v,e⟩:=(show zca X.prog X.w H s.heap p (.rng i j) from I.hok p _ hp)
 refine call_list_range (n:=(j - i).toNat) (I.ok.hd hc) e (small_one h1 h2 h3 h4) (by rw [rangeSize_one];split <;> (first|lia|omega)) (by (first|lia|omega)) fun h' tk acc c' kp e' it=>?_
 exact ⟨.ref s.heap.objs.size,_,I.laid (t':=tk) kp (Nat.le_refl _) (show zca X.prog X.w _ h' _ (.lst _) from ⟨by simp [sizeLine_eq];(first|lia|omega),acc.toList,c',zm1 it,e'⟩),rfl,q _ (I.hok.fresh (Nat.le_refl _))⟩
end
end L2
namespace L2
open PySem PySem.Spec PyProof.Rows
theorem zjX (K:PySem.W.Frag):PySem.W.kitOne K (.type "list") (.type "bool")=some false:=by first | rfl | kernel_rfl
theorem zgI (K:PySem.W.Frag):PySem.W.kitOne K (.type "list") (.type "int")=some false:=by first | rfl | kernel_rfl
theorem ziM (K:PySem.W.Frag):PySem.W.kitOne K (.type "tuple") (.type "list")=some false:=by first | rfl | kernel_rfl
theorem ziH (K:PySem.W.Frag):PySem.W.kitOne K (.type "tuple") (.type "bool")=some false:=by first | rfl | kernel_rfl
theorem zfl (K:PySem.W.Frag):PySem.W.kitOne K (.type "tuple") (.type "int")=some false:=by first | rfl | kernel_rfl
theorem zll (K:PySem.W.Frag):PySem.W.kitOne K (.type "int") (.type "list")=some false:=by first | rfl | kernel_rfl
theorem zjw (K:PySem.W.Frag):PySem.W.kitOne K (.type "bool") (.type "list")=some false:=by first | rfl | kernel_rfl
theorem zk5 (K:PySem.W.Frag):PySem.W.kitOne K (.type "bool") (.type "int")=some true:=by first | rfl | kernel_rfl
theorem zk9 (K:PySem.W.Frag):PySem.W.kitOne K (.type "str") (.type "list")=some false:=by first | rfl | kernel_rfl
theorem zlB (K:PySem.W.Frag):PySem.W.kitOne K (.type "str") (.type "bool")=some false:=by first | rfl | kernel_rfl
theorem zhR (K:PySem.W.Frag):PySem.W.kitOne K (.type "str") (.type "int")=some false:=by first | rfl | kernel_rfl
theorem zgj (K:PySem.W.Frag):PySem.W.kitOne K (.type "NoneType") (.type "list")=some false:=by first | rfl | kernel_rfl
theorem zgE (K:PySem.W.Frag):PySem.W.kitOne K (.type "NoneType") (.type "bool")=some false:=by first | rfl | kernel_rfl
theorem zdZ (K:PySem.W.Frag):PySem.W.kitOne K (.type "NoneType") (.type "int")=some false:=by first | rfl | kernel_rfl
theorem zbP {K:PySem.W.Frag} {H:Hp} {Q:VK} {x:V} {t c:String} {b:Bool} (h:zmK K H x (.type t)) (e:PySem.W.kitOne K (.type t) (.type c)=some b) (q:Q (.bl b) H):zgW K [x,.ty c] H Q:=⟨_,_,_,_,b,rfl,rfl,.of h,e,q⟩
end L2
namespace L2
open PySem PySem.Spec PyProof.Rows
def zmv (scope sc:Scope):Scope :=
 { scope with names:=scope.names.map fun (n,k)=>if (k == .free&&sc.kind == .function&&sc.names.lookup n == some .cell) then (n,.cell) else (n,k) }
theorem zhD:∀ (names:List (Str×NameKind)) (n:Addr) (a cl:List (Str×Addr)),cellsFrom n names (a++cl)=cellsFrom n names a++cl
 | [],n,a,cl=>by unfold cellsFrom;rfl
 | (x,k)::r,n,a,cl=>by
  unfold cellsFrom
  split
  ·exact zhD r (n+1) ((x,n)::a) cl
  ·exact zhD r n a cl
theorem zhM:∀ (names:List (Str×NameKind)) (n:Addr) (a:List (Str×Addr)) (x:Str) (c:Addr),(x,c)∈cellsFrom n names a→(x,c)∈a∨(x,NameKind.cell)∈names
 | [],n,a,x,c,h=>by unfold cellsFrom at h;exact .inl h
 | (y,k)::r,n,a,x,c,h=>by
  unfold cellsFrom at h
  split at h
  ·rename_i hk
   rcases zhM r (n+1) ((y,n)::a) x c h with q | q
   ·rcases List.mem_cons.mp q with e | q
    ·cases e
     refine .inr ?_
     have:k=NameKind.cell:=by simpa using hk
     rw [this]
     exact List.mem_cons_self
    ·exact .inl q
   ·exact .inr (List.mem_cons_of_mem _ q)
  ·rcases zhM r n a x c h with q | q
   ·exact .inl q
   ·exact .inr (List.mem_cons_of_mem _ q)
theorem zlh {M:Model} {A:Around} {E:Value→Shared→Prop} {s:Shared} {scope:Scope} {globals:Addr} {cl:List (Str×Addr)} {qual:Str} {outer:Env} {Q:Env→Shared→Prop}
  (hQ:Q (newEnv scope s.heap.objs.size globals (cellsFrom (s.heap.objs.size+1) scope.names []++cl) qual none .none (some outer) builtinsNs) { s with heap:=pushCells (s.heap.push { cls:=.type "dict",data:=.dict #[] }) scope.names }) :
  wpAny M A (newFunctionEnv scope globals cl [] qual none .none (some outer)) Q E s:=by
 simp only [newFunctionEnv,Option.isSome_some,if_true]
 refine wpAny_bind (wpAny_alloc ?_)
 refine wpAny_bind (wpAny_layCells _ (fun name kind cells=>by cases hkc:kind == NameKind.cell <;> simp [hkc]) _ _ _ _ ?_)
 rw [show ({ s with heap:=s.heap.push { cls:=.type "dict",data:=.dict #[] } }:Shared).heap.objs.size=s.heap.objs.size+1 from Heap.size_push ..]
 have e:=zhD scope.names (s.heap.objs.size+1) [] cl
 rw [List.nil_append] at e
 rw [e]
 refine wpAny_bind ?_
 rw [List.forIn_nil]
 exact wpAny_pure (wpAny_pure hQ)
def Cx.blkC (X:Cx) (Nc:List Str) (scope:Scope) (cl:List (Str×Addr)) (s:Shared) (H:Hp) (fp:List Addr):Cx:={ X with
 N:=Nc,s₀:=s,H₀:=H,env:=compEnvC scope (cellsFrom (s.heap.objs.size+1) scope.names []++cl) s.heap.objs.size X.env,outer:=X.stack,stack:=X.stack,ex:=fp,fn:=fun x=>scope.names.lookup x == some .cell,pn:=[],xe:=fun _ _=>False }
theorem zr0 {X:Cx} {Nc:List Str} {scope:Scope} {cl:List (Str×Addr)} {s:Shared} {H:Hp} {fp:List Addr}:(X.blkC Nc scope cl s H fp).env.scope=zmv scope X.env.scope:=rfl
structure zle (sc:Scope) (N Nc:List Str) (cap:List (Option Nat)) (scope:Scope):Prop where
 kind:scope.kind=.function
 free:∀ y∈scope.names,y.2=.free→sc.names.lookup y.1=some .cell∨sc.names.lookup y.1=some .free
 once:∀ y∈scope.names,scope.names.lookup y.1=some y.2
 nd:Nc.Nodup
 len:cap.length=Nc.length
 cap:∀ (i:Nat) (y:Str) (j:Nat),Nc[i]?=some y→cap[i]?=some (some j)→N[j]?=some y∧scope.names.lookup y=some .free
def zn6 (sc:Scope) (N Nc:List Str) (cap:List (Option Nat)) (scope:Scope):Bool :=
 scope.kind == .function&&scope.names.all (fun y=>scope.names.lookup y.1 == some y.2&&(y.2 != .free || sc.names.lookup y.1 == some .cell || sc.names.lookup y.1 == some .free))&&decide Nc.Nodup&&cap.length == Nc.length
  && (Nc.zip cap).all fun p=>p.2.all fun j=>N[j]? == some p.1&&scope.names.lookup p.1 == some .free
theorem zle.of {sc:Scope} {N Nc:List Str} {cap:List (Option Nat)} {scope:Scope} (h:zn6 sc N Nc cap scope=true):zle sc N Nc cap scope:=by
 unfold zn6 at h
 simp only [Bool.and_eq_true,beq_iff_eq,List.all_eq_true,bne_iff_ne,ne_eq,Bool.or_eq_true,decide_eq_true_eq] at h
 obtain ⟨⟨⟨⟨h1,h2⟩,h3⟩,h4⟩,h5⟩:=h
 refine ⟨h1,fun y hy hf=>?_,fun y hy=>(h2 y hy).1,h3,h4,fun i y j e1 e2=>?_⟩
 ·rcases (h2 y hy).2 with (q | q) | q
  ·exact absurd hf q
  ·exact .inl q
  ·exact .inr q
 ·have m:(y,some j)∈Nc.zip cap:=by
   refine List.mem_of_getElem? (i:=i) ?_
   rw [List.getElem?_zip_eq_some]
   exact ⟨e1,e2⟩
  have z:=h5 _ m
  simpa using z
section
variable {X:Cx} {pins:List (Addr×Obj)} {σ:St} {H:Hp} {s:Shared}
structure zrc (scope:Scope) (cl:List (Str×Addr)) (L:Addr) (h1:Heap):Prop where
 look:∀ x c,(cellsFrom (L+1) scope.names []++cl).lookup x=some c→(L<c∧h1.IsCell c none∧scope.names.lookup x=some .cell∧(cellsFrom (L+1) scope.names []).lookup x=some c)∨(cl.lookup x=some c∧(cellsFrom (L+1) scope.names []).lookup x=none)
 new:∀ x,scope.names.lookup x=some .cell→∃ c,(cellsFrom (L+1) scope.names []++cl).lookup x=some c
 old:∀ x c,scope.names.lookup x=some .free→cl.lookup x=some c→(cellsFrom (L+1) scope.names []++cl).lookup x=some c
 inj:∀ x y c,(cellsFrom (L+1) scope.names []).lookup x=some c→(cellsFrom (L+1) scope.names []).lookup y=some c→x=y
theorem zpK {scope:Scope} {cl:List (Str×Addr)} {h:Heap} (once:∀ y∈scope.names,scope.names.lookup y.1=some y.2):zrc scope cl h.objs.size (pushCells (h.push { cls:=.type "dict",data:=.dict #[] }) scope.names):=by
 have ok:=cellsFrom_ok scope.names (h.push { cls:=.type "dict",data:=.dict #[] }) (h.objs.size+1) [] ⟨fun _ _ hm=>(nomatch hm),List.Pairwise.nil⟩ (by rw [Heap.size_push];exact Nat.le_refl _)
 rw [Heap.size_push] at ok
 have kinds:∀ x c,(cellsFrom (h.objs.size+1) scope.names []).lookup x=some c→scope.names.lookup x=some .cell:=fun x c e=>by
  rcases zhM _ _ _ _ _ (PySem.mem_of_lookup e) with q | q
  ·cases q
  ·exact once _ q
 refine ⟨fun x c e=>?_,fun x e=>?_,fun x c e1 e2=>?_,fun x y c e1 e2=>name_of_addr ok.apart (PySem.mem_of_lookup e1) (PySem.mem_of_lookup e2)⟩
 ·rw [List.lookup_append] at e
  cases q:(cellsFrom (h.objs.size+1) scope.names []).lookup x with
  | none=>rw [q] at e;exact .inr ⟨e,rfl⟩
  | some d =>
   rw [q] at e
   cases e
   obtain ⟨o1,o2⟩:=ok.empty x c (PySem.mem_of_lookup q)
   exact .inl ⟨o2,o1,kinds x c q,rfl⟩
 ·obtain ⟨c,q⟩:=zhd (n:=h.objs.size+1) e
  exact ⟨c,by rw [List.lookup_append,q];rfl⟩
 ·rw [List.lookup_append]
  cases q:(cellsFrom (h.objs.size+1) scope.names []).lookup x with
  | none=>exact e2
  | some d =>
   have:=kinds x d q
   rw [e1] at this
   cases this
theorem zpq {Nc:List Str} {cap:List (Option Nat)} {scope:Scope} {cl:List (Str×Addr)} {fp:List Addr} {h1:Heap} {tk:Nat} {m1:Str→Option Value} (I:Inv X pins σ H s) (B:zle X.env.scope X.N Nc cap scope)
  (hsub:∀ x c,cl.lookup x=some c→X.env.cells.lookup x=some c) (hfr:∀ y∈scope.names,y.2=.free→∃ c,cl.lookup y.1=some c) (hf:∀ b∈fp,zhq X pins H b) (hin:∀ b∈fp,b<s.heap.objs.size)
  (hk:∀ b o,s.heap.get? b=some o→h1.get? b=some o) (hn:h1.Ns s.heap.objs.size m1) (C:zrc scope cl s.heap.objs.size h1):Inv (X.blkC Nc scope cl s H fp) [] (zqr cap σ) H { s with heap:=h1,toks:=tk }:=by
 have ok:=I.ok
 have bsz:X.base.objs.size≤s.heap.objs.size:=Nat.le_trans ok.bsz I.sz
 have oldlt:∀ x c,cl.lookup x=some c→c<s.heap.objs.size:=fun x c e=>by
  obtain ⟨v,q⟩:=I.cell x c (hsub x c e)
  exact q.lt
 refine ⟨⟨ok.mod,B.kind,ok.glob,ok.blt,Nat.le_refl _,fun x y c h1 h2=>?_,fun x hx=>?_,fun x c z e=>?_,ok.hd,ok.frames,.inl rfl,fun b hb=>⟨Nat.ne_of_lt (hin b hb),fun x c e=>?_⟩,
  I.bs,bsz,fun b o e hb=>?_,fun b hb z=>?_,I.stack,I.stkFree⟩,rfl,I.bare,Un.kept hk,⟨m1,hn,fun i y v e1 e2 e3=>?_⟩,fun x c e=>?_,I.hok.fresh (Nat.le_refl _),fun x c e=>?_,(by intro p hp;cases hp),I.hok.kept hk,?_⟩
 ·rcases C.look x c h1 with ⟨a1,_,_,a4⟩ | ⟨a,_⟩ <;> rcases C.look y c h2 with ⟨b1,_,_,b4⟩ | ⟨b,_⟩
  ·exact C.inj x y c a4 b4
  ·exact absurd (Nat.lt_trans a1 (oldlt y c b)) (Nat.lt_irrefl _)
  ·exact absurd (Nat.lt_trans b1 (oldlt x c a)) (Nat.lt_irrefl _)
  ·exact ok.inj x y c (hsub x c a) (hsub y c b)
 ·have fr:∀ x,scope.names.lookup x=some .free→∃ c,(cellsFrom (s.heap.objs.size+1) scope.names []++cl).lookup x=some c:=fun x q=>by
   obtain ⟨c,e⟩:=hfr (x,.free) (PySem.mem_of_lookup q) rfl
   exact ⟨c,C.old x c q e⟩
  have look:∀ k,(relabel scope X.env).names.lookup x=some k→k=.cell∨k=.free→∃ c,(cellsFrom (s.heap.objs.size+1) scope.names []++cl).lookup x=some c:=fun k q hk=>by
   rcases zbV q with ⟨n1,n2⟩ | ⟨_,n2 | n2⟩
   ·rcases hk with r | r
    ·exact absurd r n1
    ·rw [r] at n2
     exact fr x n2
   ·exact C.new x n2
   ·exact fr x n2
  rcases hx with q | q
  ·exact look _ q (.inl rfl)
  ·exact look _ q (.inr rfl)
 ·obtain ⟨c3,q3⟩:=zhd (n:=s.heap.objs.size+1) (show scope.names.lookup x=some .cell from beq_iff_eq.mp z)
  rcases C.look x c e with ⟨a1,_⟩ | ⟨_,b⟩
  ·exact Nat.le_of_lt a1
  ·rw [q3] at b
   cases b
 ·rcases C.look x c e with ⟨a1,_⟩ | ⟨a,_⟩
  ·exact Nat.ne_of_gt (Nat.lt_trans (hin b hb) a1)
  ·exact (hf b hb).2.2.2.2.1 x c (hsub x c a)
 ·rcases (hf b hb).2.2.2.1 with q | q
  ·exact ok.noex b o e q
  ·exact absurd (Nat.lt_of_lt_of_le (Heap.lt_size e) (Nat.le_trans ok.bsz q)) (Nat.lt_irrefl _)
 ·rcases List.mem_cons.mp (I.stkSub b z) with q | q
  ·exact (hf b hb).2.1 q
  ·exact (hf b hb).2.2.1 q
 ·have e2':(cap[i]?).map (fun o=>o.bind fun j=>(σ[j]?).join)=some (some v):=by rw [← List.getElem?_map];exact e2
  obtain ⟨o,ho,eo⟩:=Option.map_eq_some_iff.mp e2'
  obtain ⟨j,rfl,ej⟩:=Option.bind_eq_some_iff.mp eo
  have ej':σ[j]?=some (some v):=by
   cases q:σ[j]? with
   | none=>rw [q] at ej;cases ej
   | some z=>rw [q] at ej;cases ej;rfl
  obtain ⟨c1,c2⟩:=B.cap i y j e1 ho
  have vis:=B.free (y,.free) (PySem.mem_of_lookup c2) rfl
  obtain ⟨m,_,hl⟩:=I.loc
  obtain ⟨u,r,lk⟩:=hl j y v c1 ej' (.inr vis)
  obtain ⟨c',ec⟩:=hfr (y,.free) (PySem.mem_of_lookup c2) rfl
  have ec2:=hsub _ _ ec
  rcases lk with ⟨kl,_⟩ | ⟨_,c,e,z⟩
  ·have kl':X.env.scope.names.lookup y=some .local:=kl
   rcases vis with q | q
   ·have q':X.env.scope.names.lookup y=some .cell:=q
    rw [kl'] at q';cases q'
   ·have q':X.env.scope.names.lookup y=some .free:=q
    rw [kl'] at q';cases q'
  ·have ecc:X.env.cells.lookup y=some c':=ec2
   rw [e] at ecc
   cases ecc
   refine ⟨u,r,.inr ⟨?_,_,C.old y _ c2 ec,?_⟩⟩
   ·rcases e3 with q | q | q
    ·rcases zbV q with ⟨_,n2⟩ | ⟨n1,_⟩
     ·rw [c2] at n2;cases n2
     ·cases n1
    ·exact .inl q
    ·exact .inr q
   ·obtain ⟨o,ho,hd⟩:=z
    exact ⟨o,hk _ _ ho,hd⟩
 ·rcases C.look x c e with ⟨_,a2,_⟩ | ⟨a,_⟩
  ·exact ⟨none,a2⟩
  ·obtain ⟨v,o,ho,hd⟩:=I.cell x c (hsub x c a)
   exact ⟨v,o,hk _ _ ho,hd⟩
 ·rcases C.look x c e with ⟨a1,_⟩ | ⟨a,_⟩
  ·exact I.hok.fresh (Nat.le_of_lt a1)
  ·exact I.freeC x c (hsub x c a)
 ·show (zqr cap σ).length=Nc.length
  rw [zqr,List.length_map,B.len]
theorem zql {Nc:List Str} {scope:Scope} {cl:List (Str×Addr)} {fp:List Addr} {σc:St} {Hc:Hp} {s':Shared} {h':Heap} (I:Inv X pins σ H s) (hf:∀ b∈fp,zhq X pins H b) (J:Inv (X.blkC Nc scope cl s H fp) [] σc Hc s')
  (hs:Heap.SameBut s.heap.objs.size s'.heap h'):Inv X pins σ Hc { s' with heap:=h' }:=by
 have ne:∀ b o,s.heap.get? b=some o→b≠s.heap.objs.size:=fun b o e=>Nat.ne_of_lt (Heap.lt_size e)
 have u:=J.base
 refine I.call' (ch:=fp) J.os ⟨fun b o e n hb hx=>(hs.2 b (ne b o e)).trans (u.keep b o e n hb hx),fun b o e n hb hx=>?_,u.free,fun b o e hx=>?_,u.tups,u.frzs,u.tbls⟩ (fun b ob e=>?_) J.bare fun b hb=>⟨(hf b hb).2.2.2.1,(hf b hb).2.1,(hf b hb).2.2.2.2.1,(hf b hb).2.2.2.2.2⟩
 ·obtain ⟨sl,q⟩:=u.slot b o e n hb hx
  exact ⟨sl,(hs.2 b (ne b o e)).trans q⟩
 ·obtain ⟨o',q⟩:=u.there b o e hx
  exact ⟨o',(hs.2 b (ne b o e)).trans q⟩
 ·have hC:Hc s.heap.objs.size=none:=J.free
  refine (J.hok b ob e).stay (fun c w' hc q=>(hs.2 c ?_).trans q) (fun _ q=>q) fun _ _ q=>q
  rintro rfl
  rcases hc with z | hc
  ·rw [← z,hC] at e;cases e
  ·rw [hC] at hc;cases hc
end
theorem znJ {X:Cx} {pins:List (Addr×Obj)} {s:Shared} {σ:St} {H:Hp} {Q:VK} {sc:Scope} {N Nc:List Str} {cap:List (Option Nat)} {elt tg iter:Expr} {ifs:List Expr} {scope:Scope} {pos pos':Pos} {wi:TI} {g:TG} {tt:TT} {te:TE} {use:Option (Value→Sem Unit)} {QQ:Value→Shared→Prop}
  (hc:X.calm=true) (hsc:X.env.scope=sc) (hN:X.N=N) (B:zle sc N Nc cap scope) (hi:PI X tg iter wi)
  (hg:∀ cl s H fp,PG (X.blkC Nc scope cl s H fp) tg g) (ht:∀ cl s H fp,PTs (X.blkC Nc scope cl s H fp) ifs tt) (he:∀ cl s H fp,PE (X.blkC Nc scope cl s H fp) elt te)
  (hs:∀ x,foldedSetIterable iter X.env x=pure x) (I:Inv X pins σ H s) (h:zbW wi g tt te cap σ H Q)
  (fin:∀ (s3:Shared) (H3:Hp) (cl:List (Str×Addr)) (fp:List Addr) (D:Addr) (σc:St) (Hc:Hp) (s6:Shared),Inv X pins σ H3 s3→(∀ b∈fp,zhq X pins H3 b)→Inv (X.blkC Nc scope cl s3 H3 fp) [] σc Hc s6→Q (.ref D) Hc→compPost (model X.prog X.w) X.A X.xe use QQ (.ref D) s3.heap.objs.size (.ok .next) s6) :
  wpAny (model X.prog X.w) X.A (comprehension (.ListComp elt [⟨tg,iter,ifs,0⟩] scope pos) scope X.env pos' (newList []) false (eval iter X.env) use) QQ X.xe s:=by
 subst hsc hN
 obtain ⟨cl,hclos,hsub,hfr⟩:=zi8 (scope:=scope) (env:=X.env) fun y hy hf=>I.ok.has y.1 (B.free y hy hf)
 refine wpAny_comprehension_free (use:=use) rfl hs hclos B.kind (fun y hy hl=>by rw [B.once y hy,hl]) (thn (hi pins s σ H _ I h) fun v s1 h1=>thn h1 fun itv s2 h2=>?_)
 obtain ⟨it,fp,tn,J,H2,rfl,I2,T,st2,f2,hw⟩:=h2
 refine wpAny_newObj_type ?_
 have hfree:H2 s2.heap.objs.size=none:=I2.hok.fresh (Nat.le_refl _)
 have I3:=I2.laid (t':=s2.toks) (o:=.lst []) (fun b u e=>Heap.get?_push_of_some { cls:=.type "list",dict:=none,data:=.seq ([]:List Value).toArray } e) (Nat.le_refl _) ⟨by decide,[],0,.nil,Heap.get?_push_size _ rfl⟩
 obtain ⟨W,⟨m0,w0⟩,turn⟩:=hw _ hfree
 have keep23:∀ b o,s2.heap.get? b=some o→(s2.heap.push { cls:=.type "list",dict:=none,data:=.seq ([]:List Value).toArray }).get? b=some o:=fun b o e=>Heap.get?_push_of_some _ e
 have hin:∀ b∈fp,b<s2.heap.objs.size:=fun b hb=>let ⟨o,e,_⟩:=T.obj 0 _ st2 b hb;Heap.lt_size e
 have f3:∀ b∈fp,zhq X pins (upd H2 s2.heap.objs.size (.lst [])) b:=fun b hb=>⟨by rw [zal (Nat.ne_of_lt (hin b hb))];exact (f2 b hb).1,(f2 b hb).2⟩
 have st3:=T.keep 0 _ _ st2 fun b _ o e=>keep23 b o e
 have hin3:∀ b∈fp,b<(s2.heap.push { cls:=.type "list",dict:=none,data:=.seq ([]:List Value).toArray }).objs.size:=fun b hb=>let ⟨o,e,_⟩:=T.obj 0 _ st3 b hb;Heap.lt_size e
 clear keep23 hin
 generalize s2.heap.push { cls:=.type "list",dict:=none,data:=.seq ([]:List Value).toArray }=h3 at I3 st3 hin3 ⊢
 generalize upd H2 s2.heap.objs.size (.lst [])=H3 at I3 f3 w0
 generalize s2.heap.objs.size=D at hfree w0 turn ⊢
 refine zlh ?_
 have Cc:=zpK (scope:=scope) (cl:=cl) (h:=h3) B.once
 have keep:∀ b o,h3.get? b=some o→(pushCells (h3.push { cls:=.type "dict",data:=.dict #[] }) scope.names).get? b=some o:=fun b o e=>pushCells_keeps _ _ b o (Heap.get?_push_of_some _ e)
 have hns:(pushCells (h3.push { cls:=.type "dict",data:=.dict #[] }) scope.names).Ns h3.objs.size fun _=>none:=(Heap.Ns.new h3 (.type "dict")).keeps (pushCells_keeps _ _)
 dsimp only
 generalize pushCells (h3.push { cls:=.type "dict",data:=.dict #[] }) scope.names=h1 at Cc keep hns ⊢
 have I4:=zpq (tk:=s2.toks) I3 B hsub hfr f3 hin3 keep hns Cc
 have st4:=T.keep 0 _ _ st3 fun b _ o e=>keep b o e
 have stat:∀ {H':Hp},(∀ b∈fp,H' b=none)→∀ b∈fp,zhq (X.blkC Nc scope cl { s2 with heap:=h3,toks:=s2.toks } H3 fp) [] H' b:=fun hn b hb =>
  ⟨hn b hb,Nat.ne_of_lt (hin3 b hb),fun z=>by
   rcases List.mem_cons.mp (I3.stkSub b z) with q | q
   ·exact (f3 b hb).2.1 q
   ·exact (f3 b hb).2.2.1 q,.inl hb,fun x c e=>by
   rcases Cc.look x c e with ⟨a1,_⟩ | ⟨a,_⟩
   ·exact Nat.ne_of_gt (Nat.lt_trans (hin3 b hb) a1)
   ·exact (f3 b hb).2.2.2.2.1 x c (hsub x c a),by intro p hp;cases hp⟩
 have hcb:(X.blkC Nc scope cl { s2 with heap:=h3,toks:=s2.toks } H3 fp).calm=true:=hc
 have loop:codeAny (model X.prog X.w) X.A (.compLoop (.ListComp elt [⟨tg,iter,ifs,0⟩] scope pos) 0 (.ref it) (.ref D) (compEnvC scope (cellsFrom (h3.objs.size+1) scope.names []++cl) h3.objs.size X.env)) (compPost (model X.prog X.w) X.A X.xe use QQ (.ref D) h3.objs.size) { s2 with heap:=h1,toks:=s2.toks }:=by
  refine zgJ (fun n s'=>∃ i σ' H',Inv (X.blkC Nc scope cl { s2 with heap:=h3,toks:=s2.toks } H3 fp) [] σ' H' s'∧tn i s'.heap∧(∀ b∈fp,H' b=none)∧W i n σ' H') rfl ?_ m0 ⟨0,_,H3,I4,st4,fun b hb=>(f3 b hb).1,w0⟩
  rintro n s5 ⟨i,σ5,H5,I5,st5,fr5,w5⟩
  rcases turn i n σ5 H5 w5 with ⟨stop,qn⟩ | ⟨go,N',hN',step⟩
  ·refine thn (T.done (X.blkC Nc scope cl { s2 with heap:=h3,toks:=s2.toks } H3 fp) rfl rfl rfl hcb i [] s5 σ5 H5 _ I5 (stat fr5) st5 stop) fun r s6 hQ'=>?_
   obtain ⟨hr,I6⟩:=hQ'
   subst hr
   exact fin { s2 with heap:=h3,toks:=s2.toks } H3 cl fp D σ5 H5 s6 I3 f3 I6 qn
  ·refine thn (T.item (X.blkC Nc scope cl { s2 with heap:=h3,toks:=s2.toks } H3 fp) rfl rfl rfl hcb i [] s5 σ5 H5 _ I5 (stat fr5) st5 go) fun r s6 hQ'=>?_
   obtain ⟨u,hr,h6⟩:=hQ'
   subst hr
   refine thn h6 fun _ s7 hQ'=>?_
   obtain ⟨x,H7,I7,r7,y7,st7,fr7⟩:=hQ'
   have I7':=I7.pinned (stat fr7) (T.obj _ _ st7)
   refine wpAny_mono (hg cl _ H3 fp _ s7 σ5 H7 x u _ I7' r7 (step x H7 y7)) (fun _ s8 hQ'=>?_) fun _ _ z=>z.elim
   obtain ⟨σ8,H8,I8,q8⟩:=hQ'
   have again:∀ {H9:Hp} {s9:Shared} {m:Nat},Inv (X.blkC Nc scope cl { s2 with heap:=h3,toks:=s2.toks } H3 fp) ([]++zjr fp s7.heap) σ8 H9 s9→m<n→W (i+1) m σ8 H9→∃ m,m<n∧∃ i σ' H',Inv (X.blkC Nc scope cl { s2 with heap:=h3,toks:=s2.toks } H3 fp) [] σ' H' s9∧tn i s9.heap∧(∀ b∈fp,H' b=none)∧W i m σ' H':=fun {H9 s9 m} I9 hm w9=>by
    refine ⟨m,hm,i+1,σ8,H9,I9.unpinned,T.keep _ _ _ st7 fun b hb o e=>(I9.pin (b,o) (List.mem_append_right _ (List.mem_append_right _ (zcU hb e)))).1,fun b hb=>?_,w9⟩
    obtain ⟨o,e,d⟩:=T.obj _ _ st7 b hb
    exact (I9.pin (b,o) (List.mem_append_right _ (List.mem_append_right _ (zcU hb e)))).2.1
   refine wpAny_mono (ht cl _ H3 fp _ s8 σ8 H8 _ I8 q8) (fun b s9 hQ'=>?_) fun _ _ z=>z.elim
   obtain ⟨H9,I9,q9⟩:=hQ'
   cases b with
   | false =>
    rw [if_neg (by decide)] at q9
    obtain ⟨m',hm,w9⟩:=hN' _ _ q9
    exact again I9 hm w9
   | true =>
    rw [if_pos rfl] at q9
    refine wpAny_mono (he cl _ H3 fp _ s9 σ8 H9 _ I9 q9) (fun u s10 hQ'=>?_) fun _ _ z=>z.elim
    obtain ⟨y,H10,I10,r10,q10⟩:=hQ'
    refine wpAny_mono (zhy (X:=X.blkC Nc scope cl { s2 with heap:=h3,toks:=s2.toks } H3 fp) _ s10 σ8 H10 (.ref D) [y] (.ref D) [u] _ I10 rfl (.cons r10 .nil) q10) (fun _ s11 hQ'=>?_) fun _ _ z=>z.elim
    obtain ⟨_,H11,I11,_,q11⟩:=hQ'
    obtain ⟨m',hm,w11⟩:=hN' _ _ q11
    exact again I11 hm w11
 exact codeAny_compStart_list loop (T.self _ 0 _ _ _ st4 loop)
theorem zlW {X:Cx} {i:Nat} {y:Str} {py spos:Pos} {sc:Scope} {N Nc:List Str} {cap:List (Option Nat)} {elt tg iter:Expr} {ifs:List Expr} {scope:Scope} {pos:Pos} {wi:TI} {g:TG} {tt:TT} {te:TE} (hnd:X.N.Nodup) (hix:X.N[i]?=some y) (hl:X.env.scope.names.lookup y=some .local)
  (hc:X.calm=true) (hsc:X.env.scope=sc) (hN:X.N=N) (B:zle sc N Nc cap scope) (hi:PI X tg iter wi)
  (hg:∀ cl s H fp,PG (X.blkC Nc scope cl s H fp) tg g) (ht:∀ cl s H fp,PTs (X.blkC Nc scope cl s H fp) ifs tt) (he:∀ cl s H fp,PE (X.blkC Nc scope cl s H fp) elt te)
  (hsw:swapsWith (.ListComp elt [⟨tg,iter,ifs,0⟩] scope pos) (some (.Name y py)) spos.line X.env=pure true:=by rfl)
  (hs:∀ x,foldedSetIterable iter X.env x=pure x:=by intro _;rfl):PS X (.Assign [.Name y py] (.ListComp elt [⟨tg,iter,ifs,0⟩] scope pos) spos) (za6 (zbW wi g tt te cap) (zao i)):=by
 intro pins s σ H D0 I h
 rw [exec_Assign_Name_used _ _ _ _ hsw]
 refine wpAny_bind (wpAny_standAt (wpAny_bind (wpAny_bind (thn (znJ (use:=some (assign (.Name y py) X.env)) (QQ:=fun _ s'=>SP X pins D0 .next s') hc hsc hN B hi hg ht he hs I h fun s3 H3 cl fp D σc Hc s6 I3 f3 I6 q=>?_) fun _ s' hq=>wpAny_pure (wpAny_pure hq)))))
 have I6x:Inv X pins σ Hc s6:=zql I3 f3 I6 (Heap.SameBut.refl ..)
 obtain ⟨m,hn,_⟩:=id I6.loc
 have hC:Hc s3.heap.objs.size=none:=I6.free
 have fpC:=I3.fpOk (b:=s3.heap.objs.size) (Nat.le_refl _) hC
 refine wpAny_assign_Name (zic I6x hnd hix (.inl hl) (v:=.ref D) rfl (fun s7 I7 ch=>?_) (.inr hl))
 obtain ⟨a,same,ha⟩:=ch
 have nC:s3.heap.objs.size≠a:=by
  rcases ha with r | r
  ·rw [r];exact fpC.2.1
  ·exact (fpC.2.2.2.2.1 _ _ r).symm
 refine ⟨m,hn.sameBut same nC,fun h' hs'=>⟨_,_,I7.turns (t':=s7.toks) (ch:=[s3.heap.objs.size]) (fun b o hb e=>(hs'.2 b (by simpa using hb)).trans e) fun b hb=>?_,q⟩⟩
 have e:b=s3.heap.objs.size:=by simpa using hb
 rw [e]
 exact fpC
end L2
namespace L2
open PySem
theorem ztm {v:V} {σ:List (Option V)} {H:Hp} {Q:VK}:zad 0 (some v::σ) H Q=Q v H:=by simp [zad]
theorem zs8 {x0:Option V} {v:V} {σ:List (Option V)} {H:Hp} {Q:VK}:zad 1 (x0::some v::σ) H Q=Q v H:=by simp [zad]
theorem zto {x0 x1:Option V} {v:V} {σ:List (Option V)} {H:Hp} {Q:VK}:zad 2 (x0::x1::some v::σ) H Q=Q v H:=by simp [zad]
theorem zsb {x0 x1 x2:Option V} {v:V} {σ:List (Option V)} {H:Hp} {Q:VK}:zad 3 (x0::x1::x2::some v::σ) H Q=Q v H:=by simp [zad]
theorem zlG {x0 x1 x2 x3:Option V} {v:V} {σ:List (Option V)} {H:Hp} {Q:VK}:zad 4 (x0::x1::x2::x3::some v::σ) H Q=Q v H:=by simp [zad]
theorem zsc {x0 x1 x2 x3 x4:Option V} {v:V} {σ:List (Option V)} {H:Hp} {Q:VK}:zad 5 (x0::x1::x2::x3::x4::some v::σ) H Q=Q v H:=by simp [zad]
theorem zsB {x0 x1 x2 x3 x4 x5:Option V} {v:V} {σ:List (Option V)} {H:Hp} {Q:VK}:zad 6 (x0::x1::x2::x3::x4::x5::some v::σ) H Q=Q v H:=by simp [zad]
theorem zqS {x0:Option V} {v:V} {σ:List (Option V)} {H:Hp} {Q:St→Hp→Prop}:zao 0 v (x0::σ) H Q=Q (some v::σ) H:=rfl
theorem zpI {x0 x1:Option V} {v:V} {σ:List (Option V)} {H:Hp} {Q:St→Hp→Prop}:zao 1 v (x0::x1::σ) H Q=Q (x0::some v::σ) H:=rfl
theorem zqP {x0 x1 x2:Option V} {v:V} {σ:List (Option V)} {H:Hp} {Q:St→Hp→Prop}:zao 2 v (x0::x1::x2::σ) H Q=Q (x0::x1::some v::σ) H:=rfl
theorem zqp {x0 x1 x2 x3:Option V} {v:V} {σ:List (Option V)} {H:Hp} {Q:St→Hp→Prop}:zao 3 v (x0::x1::x2::x3::σ) H Q=Q (x0::x1::x2::some v::σ) H:=rfl
theorem zpz {x0 x1 x2 x3 x4:Option V} {v:V} {σ:List (Option V)} {H:Hp} {Q:St→Hp→Prop}:zao 4 v (x0::x1::x2::x3::x4::σ) H Q=Q (x0::x1::x2::x3::some v::σ) H:=rfl
theorem zqn {x0 x1 x2 x3 x4 x5:Option V} {v:V} {σ:List (Option V)} {H:Hp} {Q:St→Hp→Prop}:zao 5 v (x0::x1::x2::x3::x4::x5::σ) H Q=Q (x0::x1::x2::x3::x4::some v::σ) H:=rfl
theorem zp4 {x0 x1 x2 x3 x4 x5 x6:Option V} {v:V} {σ:List (Option V)} {H:Hp} {Q:St→Hp→Prop}:zao 6 v (x0::x1::x2::x3::x4::x5::x6::σ) H Q=Q (x0::x1::x2::x3::x4::x5::some v::σ) H:=rfl
theorem rI_c {C:Int→Int→Prop} {g:Int→Int→V} {a b:Int} {H:Hp} {Q:VK}:rI C g (.int a) (.int b) H Q=(C a b∧Q (g a b) H):=by simp [rI]
theorem zva {g:Int→Int→V} {a b:Int} {H:Hp} {Q:VK}:rI0 g (.int a) (.int b) H Q=Q (g a b) H:=by simp [rI0]
theorem ztR {K:PySem.W.Frag} {p:Addr} {i:Int} {H:Hp} {Q:VK}:zbf K (.ref p) (.int i) H Q=∃ xs,SqL K H p xs∧∃ v,atI xs i=some v∧Q v H:=by simp [zbf]
theorem zu7 {K:PySem.W.Frag} {p:Addr} {i:Int} {H:Hp} {Q:VK}:zky K (.ref p) (.int i) H Q=∃ xs,SqT K H p xs∧∃ v,atI xs i=some v∧Q v H:=by simp [zky]
theorem zsd {c:Bool} {Q:Bool→Prop}:(∃ k,V.bl c=V.bl k∧Q k)=Q c:=by simp
theorem zvc {c:Int} {Q:Int→Prop}:(∃ k,V.int c=V.int k∧Q k)=Q c:=by simp
theorem zt2 {c:Addr} {Q:Addr→Prop}:(∃ k,V.ref c=V.ref k∧Q k)=Q c:=by simp
theorem zu6 {c:Int} {Q:Int→Prop}:(∃ k,[V.int c]=[V.int k]∧Q k)=Q c:=by simp
theorem ztM {c:Addr} {Q:Addr→Prop}:(∃ k,[V.ref c]=[V.ref k]∧Q k)=Q c:=by simp
end L2
namespace Att
open PySem PySem.W PySem.Calls PyProof.Rows
theorem zh8 {x:Int}:∀ {ns:List Int},x∈ns→WData.weight (.int x)≤WData.weightAll (ns.map WData.int)
 | [],h=>absurd h (List.not_mem_nil)
 | y::ns,h=>by
  rw [List.map_cons,WData.weightAll]
  rcases List.mem_cons.mp h with e | e
  ·rw [← e]
   (first|lia|omega)
  ·have:=zh8 e
   (first|lia|omega)
theorem zr9 {ns:List Int} (h:WData.layableAll [WData.list (ns.map WData.int)]=true):∀ x∈ns,x.natAbs<2 ^ 2 ^ 20:=by
 intro x hx
 have h1:(WData.list (ns.map WData.int)).layable=true:=(layW_cons h).1
 have h2:WData.weight (.list (ns.map WData.int))≤2 ^ 20:=by
  unfold WData.layable at h1
  rw [Bool.and_eq_true] at h1
  exact of_decide_eq_true h1.2
 rw [WData.weight] at h2
 have h3:=Nat.le_trans (zh8 hx) h2
 rw [WData.weight] at h3
 by_cases h0:x=0
 ·subst h0
  exact Nat.two_pow_pos _
 ·rw [if_neg (by simpa using h0)] at h3
  have hn:x.natAbs≠0:=fun e=>h0 (Int.natAbs_eq_zero.mp e)
  exact (Nat.log2_lt hn).mp h3
theorem attach_callL {l:OpenLaw} {n:Nat} {q:Program} {loose:List Str} {XP:(Str→Option Value)→Heap→Prop} {YP:World→Heap→Prop} {d:DefRec}
  (hn:l.most=some n) (hdf:d.params.defaults=[])
  (call:∀ (w:World) (s₀ s₁:Shared) (mg mb:Str→Option Value) (fa:Addr) (o:Obj) (pm cd doc:Value) (a:Addr) (vs:List Value) (ns:List Int),(∀ x∈ns,x.natAbs<2 ^ 2 ^ 20) →
   Ground q loose [] XP w s₀ mg mb s₁.heap→YP w s₁.heap →
   s₁.heap.get? fa=some o→o.data=.func (docDef d.name d.params d.body d.scope pm cd doc)→s₁.heap.CodeRec cd d.name→mg d.name=some (.ref fa) →
   s₁.heap.get? a=some { cls:=.type "list",data:=.seq vs.toArray }→IntsAre vs ns→ns.length≤n→s₁.gens=#[] →
   codeAny (model l.prog w) callerA (.call (.ref fa) ⟨[.ref a],[]⟩) (fun r s'=>r=.ok (.ret (.bool true))∧OldK s₁.heap s'.heap∧s'.os=s₁.os∧AllBare s'.gens) s₁) :
  WalkO q loose XP YP l.row.toRowW d [] (fun f vs=>PySem.call f vs):=by
 intro w s₀ s₁ mg mb G Y fa o pm cd doc dV kV ho hd hcd hD hmg hg args vals as hpre hlay hrd hwl hlo
 obtain rfl:dV=.none:=Dflts.none hD hdf
 obtain rfl:kV=.none:=Dflts.noKw hD
 obtain ⟨a,vs,ns,rfl,rfl,hobj,hints,hlen⟩:=zoZ hn hpre hwl
 refine enter_call (codeAny_mono (call w s₀ s₁ mg mb fa o pm cd doc a vs ns (zr9 hlay) G Y ho (fd_plain hd) hcd hmg hobj hints hlen hg) fun r s' hq=>?_)
 obtain ⟨rfl,h2,h3,h4⟩:=hq
 exact ⟨.inl ⟨.bool true,.bool true,[],rfl,fun _=>rfl,.bool true,zoB l _,fun _=>⟨List.Pairwise.nil,fun _ hm=>(nomatch hm)⟩⟩,h2,h3,h4⟩
end Att
namespace L2
open PySem PySem.Spec PyProof.Rows
end L2
namespace L2
open PySem PySem.Spec PyProof.Rows
def zuq (K:PySem.W.Frag):R2:=fun x y H Q=>rNe x y H Q∨rNeD K x y H Q
section
variable {X:Cx}
theorem zrK (hu:X.A.units+64<cLine):OpR X (compareOp .NotEq) (zuq X.K):=by
 intro pins s σ H x y v u Q I rx ry h
 rcases h with h | h
 ·exact zs5 pins s σ H x y v u Q I rx ry h
 ·exact zuv hu pins s σ H x y v u Q I rx ry h
end
end L2
namespace L2
open PySem PySem.Spec PyProof.Rows
section
variable {α β:Type}
end
section
variable {K:PySem.W.Frag} {prog:Program} {w:World} {A:Around} {E:Value→Shared→Prop} {h:Heap} {g:Array GenState} {d:Drawn} {t:Nat} {os:OsState} {C fI:Addr} {us:List Value}
end
def excN (x:Addr) (C:Addr):HO:=.ext fun h=>∃ o t0,h.get? x=some o∧o.cls=.ref C∧o.dict=none∧o.data=.fields #[.ref t0,.none,.none,.none,.bool false,.none]
def excD (x:Addr) (C dx:Addr):HO:=.ext fun h=>∃ o t0,h.get? x=some o∧o.cls=.ref C∧o.dict=some dx∧o.data=.fields #[.ref t0,.none,.none,.none,.bool false,.none]
section
variable {X:Cx} {pins:List (Addr×Obj)} {σ:St} {H:Hp} {s:Shared}
end
section
open Builtin Builtin.ObjectAttr
variable {K:PySem.W.Frag} {prog:Program} {w:World} {A:Around} {E:Value→Shared→Prop} {h:Heap} {g:Array GenState} {d:Drawn} {t:Nat} {os:OsState} {C fI x:Addr} {v:Value} {name:Str} {o:Obj}
end
section
variable {X:Cx} {x:Str} {D:Addr} {np apos pos pos':Pos} {e o value:Expr} {es:List Expr} {t:TA} {to tv:TE} {f:Str}
end
section
variable {X:Cx} {CX:CXT} {k:Nat} {f C:Addr} {fd:FuncData} {ps:List Str} {sp:Sp} {E:XK} {x:Str} {p pos:Pos} {e:Expr} {es:List Expr} {t:TA}
end
section
variable {P:Program} {w:World} {K:PySem.W.Frag} {mg:Str→Option Value} {base:Heap} {N:List Str} {qual:Str} {scope:Scope} {f:Addr} {cd:Value} {A:Around} {outer:List Env} {s₀:Shared} {H₀:Hp} {E:XK}
end
section
variable {P:Program} {w:World} {K:PySem.W.Frag} {mg:Str→Option Value} {base:Heap} {N:List Str} {qual:Str} {scope:Scope} {f:Addr} {cd:Value} {A:Around} {outer:List Env} {s₀:Shared} {H₀:Hp} {E:XK}
end
section
variable {P:Program} {w:World} {K:PySem.W.Frag} {mg:Str→Option Value} {base:Heap} {N:List Str} {qual:Str} {scope:Scope} {f:Addr} {cd:Value} {A:Around} {outer:List Env} {s₀:Shared} {H₀:Hp} {E:XK}
end
section
variable {K:PySem.W.Frag} {prog:Program} {w:World} {A:Around} {E:Value→Shared→Prop} {s:Shared} {env:Env} {C fI:Addr}
end
def znT (C:Addr) (nm:Str):Sp:=fun vs H Q _=>∃ y v,vs=[.ref y,v]∧H y=some (excN y C)∧∀ dx,H dx=none→dx≠y→Q .non (upd (upd H y (excD y C dx)) dx (.xd [(nm,v)]))
section
open Builtin Builtin.ObjectAttr PySem.W
variable {K:PySem.W.Frag} {prog:Program} {w:World} {A:Around} {E:Value→Shared→Prop} {h:Heap} {g:Array GenState} {d:Drawn} {t:Nat} {os:OsState} {a C dx:Addr}
end
section
variable {X:Cx} {e:Expr} {f:Str} {pos:Pos} {ta:TE}
end
def zev:Stmt→List Stmt
 | .ClassDef _ _ _ b _ _ _ _ _ _ _=>b
 | _=>[]
end L2
namespace L2
open PySem PySem.Spec PyProof.Rows
def zqk (P:Program) (w:World) (K:PySem.W.Frag) (mg:Str→Option Value) (base:Heap) (N:List Str) (qual:Str) (scope:Scope) (f:Addr) (cd:Value) (cl:List (Str×Addr)) (A:Around) (outer:List Env) (s:Shared) (H:Hp):Cx where
 prog:=P
 w:=w
 K:=K
 mg:=mg
 base:=base
 A:=A.deeper (PySem.W.envX qual scope s.heap.objs.size f cd cl)
 N:=N
 s₀:=s
 H₀:=H
 env:=PySem.W.envX qual scope s.heap.objs.size f cd cl
 outer:=outer
 stack:=PySem.W.envX qual scope s.heap.objs.size f cd cl::outer
 ex:=[]
 calm:=true
 fn:=fun y=>(cl.lookup y).isNone
 pn:=[]
 xe:=fun _ _=>False
structure zuA (H:Hp) (h:Heap) (sc:Scope) (cl:List (Str×Addr)) (Ns:List Str) (vs:List V):Prop where
 len:vs.length=Ns.length
 at':∀ (i:Nat) (y:Str),Ns[i]?=some y→∃ c uy vy,cl.lookup y=some c∧sc.names.lookup y=some .free∧h.IsCell c (some uy)∧vs[i]?=some vy∧zbT vy uy
 has:∀ y,sc.names.lookup y=some .free→∃ c,cl.lookup y=some c
 cel:∀ y c,cl.lookup y=some c→H c=none∧∃ v,h.IsCell c v
 inj:∀ y z c,cl.lookup y=some c→cl.lookup z=some c→y=z
theorem zpt {P:Program} {w:World} {K:PySem.W.Frag} {mg:Str→Option Value} {base:Heap} {A:Around} {outer:List Env} {s:Shared} {H:Hp} {q c':Addr} {nm qual x:Str} {params:Arguments} {body:Expr} {scope:Scope} {cl:List (Str×Addr)}
  {pm ctv u:Value} {v:V} {Ns:List Str} {vs:List V} {Q:VK} {t:TE} (e0:zok P w K mg base A outer s H) (hroom:A.depth<recursionLimit) (hh:A.handled=none)
  (ho:s.heap.get? q=some (PySem.W.kla_obj nm qual params body scope cl pm c' ctv)) (hcd:s.heap.CodeRec (.ref c') qual)
  (hbind:bindArgs (PySem.W.kla_fn nm qual params body scope cl pm (.ref c') ctv) ⟨[u],[]⟩=pure [(x,u)]) (hloc:scope.names.lookup x=some .local) (hk:scope.kind=.function) (hco:scope.isCoroutine=false) (hgen:scope.isGenerator=false)
  (hcell:∀ y∈scope.names,y.2≠.cell) (T:zuA H s.heap scope cl Ns vs) (rv:zbT v u) (hb:PE (zqk P w K mg base (x::Ns) qual scope q (.ref c') cl A outer s H) body t) (h:t (some v::vs.map some) H Q) :
  codeAny (model P w) A (.call (.ref q) ⟨[u],[]⟩) (fun r s'=>match r with | .ok (.ret u')=>CE outer P w H s Q u' s' | _=>False) s:=by
 have lim:s.heap.NoLimit:=e0.mod.nolimit.keeps fun b o e=>(e0.bs b o e).1
 refine PySem.W.kla_callFunE hroom ho rfl hco hgen rfl hcd ?_
 rw [hbind]
 refine wpAny_pure (wpAny_newFunctionEnv hcell (fun y hy=>?_) (fun h₁ hns hsb=>⟨lim.fresh _ hsb,?_⟩) hk)
 ·rw [List.mem_singleton.mp hy];exact hloc
 have hk₁:∀ b o,s.heap.get? b=some o→h₁.get? b=some o:=fun b o e=>hsb.extBut b o (Nat.ne_of_lt (Heap.lt_size e)) (Heap.get?_push_of_some _ e)
 have I:Inv (zqk P w K mg base (x::Ns) qual scope q (.ref c') cl A outer s H) [] (some v::vs.map some) H { s with heap:=h₁,toks:=s.toks+1 }:=by
  have noA:∀ b:Addr,b∉(zqk P w K mg base (x::Ns) qual scope q (.ref c') cl A outer s H).ex:=fun b z=>absurd (show b∈([]:List Addr) from z) (by simp)
  refine ⟨⟨e0.mod,hk,rfl,rfl,Nat.le_refl _,T.inj,fun y hy=>?_,fun y c hf e=>?_,fun _=>hh,Around.frames_deeper e0.frames,.inr ⟨rfl,rfl⟩,fun b z=>absurd z (noA b),e0.bs,e0.bsz,fun b _ _=>noA b,fun b z=>absurd z (noA b),e0.funs,e0.frf⟩,
   rfl,e0.bare,Un.kept hk₁,⟨_,hns,fun i y v' h1 h2 h3=>?_⟩,fun y c e=>?_,e0.hok.fresh (Nat.le_refl _),fun y c e=>(T.cel y c e).1,fun p hp=>absurd (show p∈([]:List (Addr×Obj)) from hp) (by simp),e0.hok.kept hk₁,?_⟩
  ·have hy:scope.names.lookup y=some .cell∨scope.names.lookup y=some .free:=hy
   rcases hy with hy | hy
   ·exact absurd rfl (hcell _ (PySem.mem_of_lookup hy))
   ·exact T.has y hy
  ·have hf:(cl.lookup y).isNone=true:=hf
   have e:cl.lookup y=some c:=e
   rw [e] at hf
   cases hf
  ·cases i with
   | zero =>
    have h1:some x=some y:=h1
    have h2:some (some v)=some (some v'):=h2
    cases h1
    cases h2
    refine ⟨u,rv,.inl ⟨hloc,?_⟩⟩
    simp
   | succ i =>
    have h1:Ns[i]?=some y:=h1
    obtain ⟨c,uy,vy,e1,e2,e3,e4,e5⟩:=T.at' i y h1
    have h2:(vs.map some)[i]?=some (some v'):=h2
    rw [List.getElem?_map,e4] at h2
    cases h2
    obtain ⟨oc,z1,z2⟩:=e3
    exact ⟨uy,e5,.inr ⟨.inr e2,c,e1,⟨oc,hk₁ _ _ z1,z2⟩⟩⟩
  ·obtain ⟨v',oc,z1,z2⟩:=(T.cel y c e).2
   exact ⟨v',oc,hk₁ _ _ z1,z2⟩
  ·show (some v::vs.map some).length=(x::Ns).length
   rw [List.length_cons,List.length_map,List.length_cons,T.len]
 refine PySem.W.kla_codeExpr (wpAny_mono (hb [] _ _ H _ I h) (fun u' s' hs=>?_) fun _ _ z=>z.elim)
 obtain ⟨v',H',J,rv',q'⟩:=hs
 exact ⟨v',H',J.os,J.bare,J.base,J.hok,rv',q'⟩
def Bar (P:Addr) (H H':Hp):Prop:=∀ b o,b≠P→H b=some o→H' b=some o
def zbX (H:Hp) (P:Addr) (pos:Pos) (qual:Str):Prop:=H P=some (.tbl #[]) ∨
 ∃ (c':Addr) (oc:Obj) (vs:Array Value) (t:Nat),c'≠P∧H P=some (.tbl #[rawInt pos.line,rawInt pos.col,.ref c'])∧H c'=some (.frz oc (.own c'))∧oc.data=.fields vs∧vs[1]?=some (.str qual t)
section
variable {X:Cx} {pins:List (Addr×Obj)} {σ:St} {H:Hp} {s:Shared} {c P:Addr} {pos:Pos} {qual:Str} {params:Arguments} {body:Expr} {scope:Scope} {clos:List (Str×Addr)} {Q:Value→Shared→Prop} {E:Value→Shared→Prop}
theorem zsn {ps ps':Array Value} {h h':Heap} {Pg:Program} {w:World} {c':Addr} {oc:Obj} (ok:HOk Pg w H h) (hP:H P=some (.tbl ps)) (hc:H c'=none) (hx:∀ b o,b≠P→h.get? b=some o→h'.get? b=some o)
  (e1:h'.get? P=some { cls:=.none,data:=.fields ps' }) (e2:h'.get? c'=some oc):HOk Pg w (upd (upd H P (.tbl ps')) c' (.frz oc (.own c'))) h':=by
 have ncP:c'≠P:=fun z=>by rw [z,hP] at hc;cases hc
 intro b u e
 by_cases q:b=c'
 ·subst q
  rw [zag] at e
  cases e
  exact ⟨e2,oc,e2⟩
 ·rw [zal q] at e
  by_cases q2:b=P
  ·subst q2
   rw [zag] at e
   cases e
   exact e1
  ·rw [zal q2] at e
   refine (ok b u e).stay (fun d v hd r=>hx d v (fun z=>?_) r) (fun d r=>?_) fun d xs r=>?_
   ·rcases hd with rfl | hd
    ·exact q2 z
    ·rw [z,hP] at hd;cases hd
   ·rw [zal (fun z=>by rw [z,hc] at r;cases r),zal (fun z=>by rw [z,hP] at r;cases r)];exact r
   ·rw [zal (fun z=>by rw [z,hc] at r;cases r),zal (fun z=>by rw [z,hP] at r;cases r)];exact r
theorem zvd {ps more:Array Value} {fs ex:List Addr} {h h':Heap} {c':Addr} {oc:Obj} (hP:H P=some (.tbl ps)) (hc:H c'=none) (hf:h.objs.size≤c') (hx:∀ b o,b≠P→h.get? b=some o→h'.get? b=some o) (hPt:∃ o,h'.get? P=some o) :
  Un fs ex H (upd (upd H P (.tbl (ps++more))) c' (.frz oc (.own c'))) h h':=by
 have nP:∀ b,H b=none→b≠P:=fun b n z=>by rw [z,hP] at n;cases n
 have nc:∀ b u,H b=some u→b≠c':=fun b u e z=>by rw [z,hc] at e;cases e
 refine ⟨fun b o q n _ _=>hx b o (nP b n) q,fun b o q n _ _=>⟨o.slots,hx b o (nP b n) q⟩,fun b o q n _=>?_,fun b o q _=>?_,fun b xs q=>?_,fun b o u q=>?_,fun b ps' q=>?_⟩
 ·rw [zal (Nat.ne_of_lt (Nat.lt_of_lt_of_le (Heap.lt_size q) hf)),zal (nP b n)];exact n
 ·by_cases z:b=P
  ·rw [z];exact hPt
  ·exact ⟨o,hx b o z q⟩
 ·rw [zal (nc b _ q),zal (fun z=>by rw [z,hP] at q;cases q)];exact q
 ·rw [zal (nc b _ q),zal (fun z=>by rw [z,hP] at q;cases q)];exact q
 ·rw [zal (nc b _ q)]
  by_cases z:b=P
  ·subst z
   rw [hP] at q
   cases q
   exact ⟨more,zag⟩
  ·rw [zal z]
   exact ⟨#[],by rw [q];simp⟩
theorem zqM (I:Inv X pins σ H s) (hcode:X.env.code=.ref c) (C:PySem.W.CodeHd X.base c P) (hB:X.base.BuiltinsAt X.mg P) (hL:zbX H P pos qual) (hcl:closureFor scope X.env=pure clos) (hdef:defaultsOf params X.env=([],[]))
  (hq:X.env.qual++"<lambda>"=qual)
  (h:∀ (q c':Addr) (pm ctv:Value) (H':Hp) (s':Shared) (oc:Obj) (vs:Array Value) (t:Nat),Inv X pins σ H' s'→Bar P H H'→zbX H' P pos qual→s'.heap.get? q=some (PySem.W.kla_obj "<lambda>" qual params body scope clos pm c' ctv) →
   H' c'=some (.frz oc (.own c'))→oc.data=.fields vs→vs[1]?=some (.str qual t)→zhq X pins H' q→Q (.ref q) s') :
  wpAny (model X.prog X.w) X.A (eval (.Lambda params body scope pos) X.env) Q E s:=by
 have hg:s.heap.Ns mainGlobals X.mg:=I.ok.mod.glob.keeps I.bk
 have C':=C.keeps I.bk
 obtain ⟨bm,ob,b1,b2,b3,b4,b5,b6⟩:=hB
 have hgP:∀ ps,H P=some (.tbl ps)→mainGlobals≠P:=fun ps hP z=>by
  have e:=I.hok P _ hP
  obtain ⟨o,es,ep,e',d,_⟩:=hg
  rw [z] at e'
  have e:s.heap.get? P=some { cls:=.none,data:=.fields ps }:=e
  rw [e'] at e
  cases e
  cases d
 refine PySem.W.kla_eval hdef ?_
 rw [hq]
 rcases hL with hP | ⟨c',oc,vs,t,ne,hP,hc,hd,hv⟩
 ·refine PySem.W.kla_makeFunction (mg:=X.mg) (ps:=#[]) hcl I.ok.glob hg hcode C' (I.hok P _ hP) trivial rfl (hgP _ hP) ⟨bm,ob,b1,b2,b3,b4,I.bk _ _ b5,b6⟩ fun c' ctv h' tk hx hge hlt hrec htb=>?_
  obtain ⟨c₂,oc,vs,t,e2,hoc,hd,hv⟩:=hrec
  cases e2
  have hcn:H c'=none:=I.hok.fresh hge
  have hx':∀ b o,b≠P→s.heap.get? b=some o→(h'.push (PySem.W.kla_obj "<lambda>" qual params body scope clos ((X.mg "__name__").getD .none) c' ctv)).get? b=some o:=fun b o q e=>Heap.get?_push_of_some _ (hx b o q e)
  have e1:(h'.push (PySem.W.kla_obj "<lambda>" qual params body scope clos ((X.mg "__name__").getD .none) c' ctv)).get? P=some { cls:=.none,data:=.fields (#[]++#[rawInt pos.line,rawInt pos.col,.ref c']) }:=Heap.get?_push_of_some _ htb
  have e2:(h'.push (PySem.W.kla_obj "<lambda>" qual params body scope clos ((X.mg "__name__").getD .none) c' ctv)).get? c'=some oc:=Heap.get?_push_of_some _ hoc
  have ncP:c'≠P:=fun z=>by rw [z,hP] at hcn;cases hcn
  have J:=I.un (t':=tk) (zvd (more:=#[rawInt pos.line,rawInt pos.col,.ref c']) (oc:=oc) hP hcn hge hx' ⟨_,e1⟩) (zsn I.hok hP hcn hx' e1 e2)
  have hsz:s.heap.objs.size≤h'.objs.size:=Nat.le_trans hge (Nat.le_of_lt hlt)
  have nq:H h'.objs.size=none:=I.hok.fresh hsz
  refine h h'.objs.size c' _ ctv _ _ oc vs t J (fun b o nb e=>?_) (.inr ⟨c',oc,vs,t,ncP,?_,zag,hd,hv⟩) (Heap.get?_push_size _ rfl) zag hd hv (I.fpOk hsz ?_)
  ·rw [zal (fun z=>by rw [z,hcn] at e;cases e),zal nb];exact e
  ·rw [zal (Ne.symm ncP),zag];rfl
  ·rw [zal (Nat.ne_of_gt hlt),zal (fun z=>by rw [z,hP] at nq;cases nq)];exact nq
 ·have hf:codeAmong pos (#[rawInt pos.line,rawInt pos.col,Value.ref c']:Array Value).toList=some (.ref c'):=by simp [codeAmong,rawInt]
  refine PySem.W.kla_makeFunctionHit (mg:=X.mg) (ps:=#[rawInt pos.line,rawInt pos.col,.ref c']) hcl I.ok.glob hg hcode C' (I.hok P _ hP) trivial hf ⟨bm,ob,b1,b2,b3,b4,I.bk _ _ b5,b6⟩ fun ctv h' tk hk hsz=>?_
  have J:=I.kept (t':=tk) (h':=h'.push (PySem.W.kla_obj "<lambda>" qual params body scope clos ((X.mg "__name__").getD .none) c' ctv)) fun b u e=>Heap.get?_push_of_some _ (hk b u e)
  exact h h'.objs.size c' _ ctv H _ oc vs t J (fun _ _ _ e=>e) (.inr ⟨c',oc,vs,t,ne,hP,hc,hd,hv⟩) (Heap.get?_push_size _ rfl) hc hd hv (I.fpOk hsz (I.hok.fresh hsz))
end
end L2
namespace L2
open PySem PySem.Spec PyProof.Rows
section
variable {X:Cx} {pins:List (Addr×Obj)} {σ:St} {H:Hp} {l q S I:Addr} {ns:List Int} {R:Result→Shared→Prop}
theorem Inv.with2 {s:Shared} {o₁ o₂:Obj} (J:Inv X pins σ H s) (h1:s.heap.get? S=some o₁) (f1:zhq X pins H S) (d1:∀ v,o₁.data≠.cell v) (h2:s.heap.get? I=some o₂) (f2:zhq X pins H I) (d2:∀ v,o₂.data≠.cell v) :
  Inv X (pins++[(S,o₁),(I,o₂)]) σ H s:=J.pins_of fun p hp=>by
 rcases List.mem_append.mp hp with hp | hp
 ·exact J.pin p (List.mem_append_right _ hp)
 ·rcases List.mem_cons.mp hp with rfl | hp
  ·exact ⟨h1,f1.1,f1.2.1,f1.2.2.1,d1⟩
  ·rw [List.mem_singleton.mp hp]
   exact ⟨h2,f2.1,f2.2.1,f2.2.2.1,d2⟩
theorem zox (kf:Nat→Int) (hh:X.A.handled=none) (hl:SqL X.K H l (ns.map V.int)) (hlI:l≠I) (hSI:S≠I) (fS:zhq X pins H S) (fI:zhq X pins H I)
  (turn:∀ (i:Nat) (n:Int) (v:Value),ns[i]?=some n→zbT (.int n) v→∀ (pl:List (Addr×Obj)) (s:Shared),Inv X (pins++pl) σ H s →
   wpAny (model X.prog X.w) X.A.in1 (call (.ref q) [v]) (EP X (pins++pl) σ (fun v' H2=>v'=.int (kf i)∧H2=H)) (fun _ _=>False) s)
  (hR:∀ i n v s,ns[i]?=some n→zbT (.int n) v→(∀ j,j<ns.length→kf i≤kf j)→Inv X pins σ H s→R (.ok (.ret v)) s) :
  ∀ (r j i:Nat) (s:Shared) (n:Int) (vb:Value) (tb:Tok) (c:Nat),ns.length - (j+1)=r→j+1≤ns.length→Inv X pins σ H s→s.heap.get? S=some (seqObj "list" #[vb,.int (kf i) tb] c)→s.heap.IsListIter I l (j+1) →
   ns[i]?=some n→zbT (.int n) vb→i≤j→(∀ j',j'≤j→kf i≤kf j')→codeAny (model X.prog X.w) X.A (.builtin "min.loop" ⟨[.ref I,.ref q,.ref S],[]⟩) R s:=by
 have hname:(toString "min"++toString ".loop":String)="min.loop":=by decide
 have upS:∀ {s:Shared} {f:Obj→Obj} {t:Nat},Inv X pins σ H s→Inv X pins σ H { s with heap:=s.heap.update S f,toks:=t }:=fun {s f t} J =>
  J.turns (ch:=[S]) (fun b o hb e=>by rw [Heap.get?_update_ne _ _ _ _ (fun z=>hb (by rw [z];exact List.mem_singleton.mpr rfl))];exact e) fun b hb=>by rw [List.mem_singleton.mp hb];exact fS
 intro r
 induction r with
 | zero =>
  intro j i s n vb tb c hr hj J hS hit hn rb hij hbest
  obtain ⟨its,rv,pl,hz⟩:=J.list hl
  have hsz:its.toArray.size=ns.length:=by rw [List.size_toArray,← rv.length,List.length_map]
  have W:=Walks.list (prog:=X.prog) (w:=X.w) (A:=X.A.in1) hh I l hlI its.toArray
  have hin:j+1=ns.length:=by (first|lia|omega)
  refine codeAny_builtin PySem.F.entry_min_loop ?_
  rw [Around.under_plainId PySem.F.plain_min_loop _]
  show wpAny _ X.A.in1 (seqItems? (.ref S) >>= _) _ _ _
  refine wpAny_bind (wpAny_seqItems hS rfl ?_)
  show wpAny _ X.A.in1 (tryCatch (pyNext (.ref I)) _ >>= _) _ _ _
  refine wpAny_bind (wpAny_tryCatch (W.done _ _ _ ⟨by rw [hsz,← hin];exact hit,pl.isList⟩ fun h' tk' hk'=>?_))
  have J1:=J.turns (t':=tk') hk' fun b hb=>by rw [List.mem_singleton.mp hb];exact fI
  have hS':=hk' S _ (by simpa using hSI) hS
  show wpAny _ X.A.in1 (updateSeq S (fun _=>#[]) >>= _) _ _ _
  refine wpAny_bind ?_
  refine wpAny_updateSeq hS' rfl (wpAny_bind (wpAny_letGo (wpAny_pure ?_)))
  exact hR i n vb _ hn rb (fun j' hj'=>hbest j' (by (first|lia|omega))) (upS J1)
 | succ r ih =>
  intro j i s n vb tb c hr hj J hS hit hn rb hij hbest
  obtain ⟨its,rv,pl,hz⟩:=J.list hl
  have hsz:its.toArray.size=ns.length:=by rw [List.size_toArray,← rv.length,List.length_map]
  have W:=Walks.list (prog:=X.prog) (w:=X.w) (A:=X.A.in1) hh I l hlI its.toArray
  have hlt:j+1<ns.length:=by (first|lia|omega)
  refine codeAny_builtin PySem.F.entry_min_loop ?_
  rw [Around.under_plainId PySem.F.plain_min_loop _]
  show wpAny _ X.A.in1 (seqItems? (.ref S) >>= _) _ _ _
  refine wpAny_bind (wpAny_seqItems hS rfl ?_)
  show wpAny _ X.A.in1 (tryCatch (pyNext (.ref I)) _ >>= _) _ _ _
  refine wpAny_bind (wpAny_tryCatch (W.item (j+1) _ _ _ (by rw [hsz];exact hlt) ⟨hit,pl.isList⟩ fun v h' tk' hP hst' hk'=>?_))
  have hv:its[j+1]?=some v:=by simpa using hP
  obtain ⟨n',hn',rv'⟩:∃ n',ns[j+1]?=some n'∧zbT (.int n') v:=by
   obtain ⟨n',e⟩:∃ n',ns[j+1]?=some n':=⟨_,List.getElem?_eq_getElem hlt⟩
   obtain ⟨u,hu,ru⟩:=rv.get (x:=.int n') (by rw [List.getElem?_map,e];rfl)
   rw [hv] at hu
   cases hu
   exact ⟨n',e,ru⟩
  obtain ⟨oI',hoI',hoc,hod⟩:=id hst'.1
  have J1:=J.turns (t':=tk') hk' fun b hb=>by rw [List.mem_singleton.mp hb];exact fI
  have hS':=hk' S _ (by simpa using hSI) hS
  show wpAny _ X.A.in1 (tryCatch (holding [v] (call (.ref q) [v])) _ >>= _) _ _ _
  refine wpAny_bind (wpAny_tryCatch (wpAny_holding (wpAny_mono (turn (j+1) n' v hn' rv' _ _ (J1.with2 hS' fS (fun _ z=>by cases z) hoI' fI (fun _ z=>by rw [hod] at z;cases z))) (fun x s'' he=>?_) fun _ _ hF=>hF.elim)))
  obtain ⟨v',H2,J2,rx,rfl,rfl⟩:=he
  obtain ⟨t2,rfl⟩:=(show ∃ t,x=Value.int (kf (j+1)) t from rx)
  have nS2:=(J2.pin (S,seqObj "list" #[vb,.int (kf i) tb] c) (List.mem_append_right _ (List.mem_append_right _ (.head _)))).1
  have nI2:=(J2.pin (I,oI') (List.mem_append_right _ (List.mem_append_right _ (.tail _ (.head _))))).1
  have J3:Inv X pins σ H2 s'':=J2.unpinned
  have hit2:s''.heap.IsListIter I l (j+1+1):=⟨oI',nI2,hoc,hod⟩
  show wpAny _ X.A.in1 (tryCatch (holding [v,.int (kf (j+1)) t2] (richCompare .Lt (.int (kf (j+1)) t2) (.int (kf i) tb) >>= _)) _ >>= _) _ _ _
  refine wpAny_bind (wpAny_tryCatch (wpAny_holding (wpAny_bind (CmpOf.ints_lt (prog:=X.prog) (w:=X.w) (A:=X.A.in1) (P:=fun i v=>∃ t,v=.int (kf i) t) kf (fun i v h=>h) (j+1) i _ _ _ _ _ ⟨t2,rfl⟩ ⟨tb,rfl⟩ ?_))))
  refine wpAny_bind (wpAny_holding (wpAny_truthy_bool ?_))
  refine wpAny_bind (wpAny_letGo (wpAny_pure ?_))
  by_cases hb':kf (j+1)<kf i
  ·have s1:=Heap.SameBut.update s''.heap S (Obj.mapSeq fun _=>#[v,.int (kf (j+1)) t2])
   obtain ⟨c2,hc2⟩:∃ c2,(s''.heap.update S (Obj.mapSeq fun _=>#[v,.int (kf (j+1)) t2])).get? S=some (seqObj "list" #[v,.int (kf (j+1)) t2] c2):=⟨_,get?_update_seq nS2 fun _=>#[v,.int (kf (j+1)) t2]⟩
   simp only [hb',decide_true,if_true]
   refine wpAny_bind ?_
   refine wpAny_updateSeq nS2 rfl (wpAny_bind (wpAny_letGo ?_))
   rw [hname]
   refine wpAny_pure ⟨plainId_quiet PySem.F.plain_min_loop _,ih (j+1) (j+1) _ n' v t2 c2 (by (first|lia|omega)) hlt (upS J3) hc2 ⟨oI',(s1.2 I hSI.symm).trans nI2,hoc,hod⟩ hn' rv' (Nat.le_refl _) fun j' hj'=>?_⟩
   by_cases e:j'=j+1
   ·rw [e];exact Int.le_refl _
   ·have:=hbest j' (by (first|lia|omega))
    (first|lia|omega)
  ·simp only [hb',decide_false,Bool.false_eq_true,if_false]
   refine wpAny_bind (wpAny_letGo ?_)
   rw [hname]
   refine wpAny_pure ⟨plainId_quiet PySem.F.plain_min_loop _,ih (j+1) i _ n vb tb c (by (first|lia|omega)) hlt J3 nS2 hit2 hn rb (by (first|lia|omega)) fun j' hj'=>?_⟩
   by_cases e:j'=j+1
   ·subst e
    (first|lia|omega)
   ·exact hbest j' (by (first|lia|omega))
theorem zoc {s:Shared} {Q:Value→Shared→Prop} {E:Value→Shared→Prop} (kf:Nat→Int) (hh:X.A.handled=none) (J:Inv X pins σ H s) (hl:SqL X.K H l (ns.map V.int)) (hne:0<ns.length)
  (turn:∀ (i:Nat) (n:Int) (v:Value),ns[i]?=some n→zbT (.int n) v→∀ (pl:List (Addr×Obj)) (s:Shared),Inv X (pins++pl) σ H s →
   wpAny (model X.prog X.w) X.A.in1 (call (.ref q) [v]) (EP X (pins++pl) σ (fun v' H2=>v'=.int (kf i)∧H2=H)) (fun _ _=>False) s)
  (hQ:∀ i n v s,ns[i]?=some n→zbT (.int n) v→(∀ j,j<ns.length→kf i≤kf j)→Inv X pins σ H s→Q v s) :
  wpAny (model X.prog X.w) X.A (call (.builtin "min") [.ref l] [(Str.ofString "key",.ref q)]) Q E s:=by
 have hname:(toString "min"++toString ".loop":String)="min.loop":=by decide
 obtain ⟨its,rv,pl,hz⟩:=J.list hl
 have hls:=pl.isList
 obtain ⟨ol,hol,_⟩:=id hls
 have hll:l<s.heap.objs.size:=Heap.lt_size hol
 refine kmk_tree PySem.F.kind_min PySem.F.plain_min PySem.F.entry_min (kmk_min_key _ _) ?_
 show wpAny _ X.A.in1 (Builtin.Builtins.bindParams "min" ["key","default"] 0 ⟨[],[(Str.ofString "key",.ref q)]⟩ >>= _) _ _ s
 refine wpAny_bind (wpAny_of_eq (show Builtin.Builtins.bindParams "min" ["key","default"] 0 ⟨[],[(Str.ofString "key",.ref q)]⟩=pure [some (.ref q),none] from rfl) ?_)
 refine wpAny_bind (wpAny_pure ?_)
 refine wpAny_bind (wpAny_pyIter_list hls ?_)
 refine wpAny_bind (wpAny_newList ?_ (Nat.zero_le _))
 rw [hname]
 have hS:(s.heap.push { cls:=.type "list_iterator",data:=.fields #[.ref l,.int 0 0] }).objs.size=s.heap.objs.size+1:=size_push' ..
 have hlI:l≠s.heap.objs.size:=Nat.ne_of_lt hll
 have hSI:(s.heap.push { cls:=.type "list_iterator",data:=.fields #[.ref l,.int 0 0] }).objs.size≠s.heap.objs.size:=by rw [hS];exact Nat.ne_of_gt (Nat.lt_succ_self _)
 refine wpAny_pure ⟨plainId_quiet PySem.F.plain_min_loop _,?_⟩
 have gI:((s.heap.push { cls:=.type "list_iterator",data:=.fields #[.ref l,.int 0 0] }).push (seqObj "list" #[] 0)).get? s.heap.objs.size=some { cls:=.type "list_iterator",data:=.fields #[.ref l,.int 0 0] } :=
  Heap.get?_push_of_some _ (Heap.get?_push_size _ rfl)
 have gS:((s.heap.push { cls:=.type "list_iterator",data:=.fields #[.ref l,.int 0 0] }).push (seqObj "list" #[] 0)).get? (s.heap.push { cls:=.type "list_iterator",data:=.fields #[.ref l,.int 0 0] }).objs.size=some (seqObj "list" #[] 0):=Heap.get?_push_size _ rfl
 have J0:Inv X pins σ H { s with heap:=(s.heap.push { cls:=.type "list_iterator",data:=.fields #[.ref l,.int 0 0] }).push (seqObj "list" #[] 0) } :=
  J.kept (t':=s.toks) fun b x e=>Heap.get?_push_of_some _ (Heap.get?_push_of_some _ e)
 have fI:zhq X pins H s.heap.objs.size:=J.fpOk (Nat.le_refl _) (J.hok.fresh (Nat.le_refl _))
 have fS:zhq X pins H (s.heap.push { cls:=.type "list_iterator",data:=.fields #[.ref l,.int 0 0] }).objs.size:=J.fpOk (by rw [hS];exact Nat.le_succ _) (J.hok.fresh (by rw [hS];exact Nat.le_succ _))
 have hsz:its.toArray.size=ns.length:=by rw [List.size_toArray,← rv.length,List.length_map]
 have W:=Walks.list (prog:=X.prog) (w:=X.w) (A:=X.A.in1) hh s.heap.objs.size l hlI its.toArray
 obtain ⟨its0,rv0,pl0,_⟩:=J0.list hl
 have W0:=Walks.list (prog:=X.prog) (w:=X.w) (A:=X.A.in1) hh s.heap.objs.size l hlI its0.toArray
 have hsz0:its0.toArray.size=ns.length:=by rw [List.size_toArray,← rv0.length,List.length_map]
 refine codeAny_builtin PySem.F.entry_min_loop ?_
 rw [Around.under_plainId PySem.F.plain_min_loop _]
 show wpAny _ X.A.in1 (seqItems? (.ref _) >>= _) _ _ _
 refine wpAny_bind (wpAny_seqItems gS rfl ?_)
 show wpAny _ X.A.in1 (tryCatch (pyNext (.ref s.heap.objs.size)) _ >>= _) _ _ _
 refine wpAny_bind (wpAny_tryCatch (W0.item 0 _ _ _ (by rw [hsz0];exact hne) ⟨⟨_,gI,rfl,rfl⟩,pl0.isList⟩ fun v h' tk' hP hst' hk'=>?_))
 have hv:its0[0]?=some v:=by simpa using hP
 obtain ⟨n',hn',rv'⟩:∃ n',ns[0]?=some n'∧zbT (.int n') v:=by
  obtain ⟨n',e⟩:∃ n',ns[0]?=some n':=⟨_,List.getElem?_eq_getElem hne⟩
  obtain ⟨u,hu,ru⟩:=rv0.get (x:=.int n') (by rw [List.getElem?_map,e];rfl)
  rw [hv] at hu
  cases hu
  exact ⟨n',e,ru⟩
 obtain ⟨oI',hoI',hoc,hod⟩:=id hst'.1
 have J1:=J0.turns (t':=tk') hk' fun b hb=>by rw [List.mem_singleton.mp hb];exact fI
 have hS':=hk' _ _ (by simpa using hSI) gS
 show wpAny _ X.A.in1 (tryCatch (holding [v] (call (.ref q) [v])) _ >>= _) _ _ _
 refine wpAny_bind (wpAny_tryCatch (wpAny_holding (wpAny_mono (turn 0 n' v hn' rv' _ _ (J1.with2 hS' fS (fun _ z=>by cases z) hoI' fI (fun _ z=>by rw [hod] at z;cases z))) (fun x s'' he=>?_) fun _ _ hF=>hF.elim)))
 obtain ⟨v',H2,J2,rx,rfl,rfl⟩:=he
 obtain ⟨t2,rfl⟩:=(show ∃ t,x=Value.int (kf 0) t from rx)
 have nS2:=(J2.pin (_,seqObj "list" #[] 0) (List.mem_append_right _ (List.mem_append_right _ (.head _)))).1
 have nI2:=(J2.pin (s.heap.objs.size,oI') (List.mem_append_right _ (List.mem_append_right _ (.tail _ (.head _))))).1
 have J3:Inv X pins σ H2 s'':=J2.unpinned
 have s1:=Heap.SameBut.update s''.heap (s.heap.push { cls:=.type "list_iterator",data:=.fields #[.ref l,.int 0 0] }).objs.size (Obj.mapSeq fun _=>#[v,.int (kf 0) t2])
 obtain ⟨c2,hc2⟩:∃ c2,(s''.heap.update (s.heap.push { cls:=.type "list_iterator",data:=.fields #[.ref l,.int 0 0] }).objs.size (Obj.mapSeq fun _=>#[v,.int (kf 0) t2])).get? (s.heap.push { cls:=.type "list_iterator",data:=.fields #[.ref l,.int 0 0] }).objs.size=some (seqObj "list" #[v,.int (kf 0) t2] c2):=⟨_,get?_update_seq nS2 fun _=>#[v,.int (kf 0) t2]⟩
 show wpAny _ X.A.in1 (updateSeq (s.heap.push { cls:=.type "list_iterator",data:=.fields #[.ref l,.int 0 0] }).objs.size (fun _=>#[v,.int (kf 0) t2]) >>= _) _ _ _
 refine wpAny_bind ?_
 refine wpAny_updateSeq nS2 rfl ?_
 rw [hname]
 have J4:Inv X pins σ H2 { s'' with heap:=s''.heap.update (s.heap.push { cls:=.type "list_iterator",data:=.fields #[.ref l,.int 0 0] }).objs.size (Obj.mapSeq fun _=>#[v,.int (kf 0) t2]) } :=
  J3.turns (t':=s''.toks) (ch:=[(s.heap.push { cls:=.type "list_iterator",data:=.fields #[.ref l,.int 0 0] }).objs.size]) (fun b o hb e=>by rw [Heap.get?_update_ne _ _ _ _ (fun z=>hb (by rw [z];exact List.mem_singleton.mpr rfl))];exact e) fun b hb=>by rw [List.mem_singleton.mp hb];exact fS
 exact wpAny_pure ⟨plainId_quiet PySem.F.plain_min_loop _,zox kf hh hl hlI hSI fS fI turn hQ _ 0 0 _ n' v t2 c2 rfl hne J4 hc2 ⟨oI',(s1.2 _ hSI.symm).trans nI2,hoc,hod⟩ hn' rv' (Nat.le_refl _) fun j' hj'=>by rw [Nat.le_zero.mp hj'];exact Int.le_refl _⟩
end
end L2
namespace L2
open PySem PySem.Spec PyProof.Rows
structure ztD (X:Cx) (sc:Scope) (cl:List (Str×Addr)) (Ns:List Str) (js:List Nat):Prop where
 len:js.length=Ns.length
 at':∀ (i:Nat) (y:Str),Ns[i]?=some y→∃ j c,js[i]?=some j∧X.N[j]?=some y∧X.env.scope.names.lookup y=some .cell∧cl.lookup y=some c∧sc.names.lookup y=some .free
 has:∀ y,sc.names.lookup y=some .free→∃ c,cl.lookup y=some c
 sub:∀ y c,cl.lookup y=some c→X.env.cells.lookup y=some c
def zkm (K:PySem.W.Frag) (P:Addr) (pos:Pos) (qual:Str) (js:List Nat) (ta:TA) (tb:TE):TE:=fun σ H Q=>ta σ H fun vs H1=>∃ (l:Addr) (ns:List Int) (ws:List V),vs=[.ref l]∧SqL K H1 l (ns.map V.int)∧0<ns.length ∧
 js.map (fun j=>σ[j]?)=ws.map (fun w=>some (some w))∧zbX H1 P pos qual∧∀ H2,Bar P H1 H2→zbX H2 P pos qual→∃ kf:Int→Int,
  (∀ n∈ns,tb (some (.int n)::ws.map some) H2 fun v H3=>v=.int (kf n)∧H3=H2)∧∀ n∈ns,(∀ m∈ns,kf n≤kf m)→Q (.int n) H2
theorem zbX.tbl {H:Hp} {P:Addr} {pos:Pos} {qual:Str} (h:zbX H P pos qual):∃ ps,H P=some (.tbl ps):=by
 rcases h with h | ⟨_,_,_,_,_,h,_⟩ <;> exact ⟨_,h⟩
theorem SqL.bar {K:PySem.W.Frag} {H H':Hp} {P l:Addr} {xs:List V} (b:Bar P H H') {ps:Array Value} (hP:H P=some (.tbl ps)) (h:SqL K H l xs):SqL K H' l xs:=by
 rcases h with (h | ⟨o,h⟩) | h
 ·exact .inl (.inl (b _ _ (fun z=>by rw [z,hP] at h;cases h) h))
 ·exact .inl (.inr ⟨o,b _ _ (fun z=>by rw [z,hP] at h;cases h) h⟩)
 ·exact .inr h
section
variable {X:Cx} {e body:Expr} {t:TA} {tb:TE} {pos p kp lpos:Pos} {c P:Addr} {params:Arguments} {scope:Scope} {clos:List (Str×Addr)} {qual x:Str} {Ns:List Str} {js:List Nat} {k:Nat}
theorem ztD.taken {pins:List (Addr×Obj)} {σ:St} {H:Hp} {s:Shared} {ws:List V} (C:ztD X scope clos Ns js) (I:Inv X pins σ H s) (hw:js.map (fun j=>σ[j]?)=ws.map (fun w=>some (some w))):zuA H s.heap scope clos Ns ws:=by
 have hl:ws.length=js.length:=by
  have:=congrArg List.length hw
  rw [List.length_map,List.length_map] at this
  exact this.symm
 refine ⟨hl.trans C.len,fun i y hi=>?_,C.has,fun y d hd=>⟨I.freeC y d (C.sub y d hd),I.cell y d (C.sub y d hd)⟩,fun y z d h1 h2=>I.ok.inj y z d (C.sub y d h1) (C.sub z d h2)⟩
 obtain ⟨j,d,e1,e2,e3,e4,e5⟩:=C.at' i y hi
 have g:=congrArg (fun l=>l[i]?) hw
 simp only [List.getElem?_map,e1,Option.map_some] at g
 cases hwi:ws[i]? with
 | none=>rw [hwi] at g;cases g
 | some vy =>
  rw [hwi] at g
  have g:some (σ[j]?)=some (some (some vy)):=g
  have g':σ[j]?=some (some vy):=Option.some.inj g
  obtain ⟨m,_,hlk⟩:=I.loc
  obtain ⟨u,ru,lk⟩:=hlk j y vy e2 g' (.inr (.inl e3))
  rcases lk with ⟨k1,_⟩ | ⟨_,d',f1,f2⟩
  ·have k1:X.env.scope.names.lookup y=some .local:=k1
   rw [e3] at k1
   cases k1
  ·have:=C.sub y d e4
   rw [this] at f1
   cases f1
   exact ⟨d,u,vy,e4,e5,f2,rfl,ru⟩
theorem zoK (hr:zeD (k+1) X.A) (hg:Gl X "min") (hm:X.mg "min"=none) (ha:PA X [e] t) (hcode:X.env.code=.ref c) (C:PySem.W.CodeHd X.base c P) (hB:X.base.BuiltinsAt X.mg P) (hcl:closureFor scope X.env=pure clos)
  (hdef:defaultsOf params X.env=([],[])) (hq:X.env.qual++"<lambda>"=qual) (hcap:ztD X scope clos Ns js)
  (hbind:∀ (pm cd ctv u:Value),bindArgs (PySem.W.kla_fn "<lambda>" qual params body scope clos pm cd ctv) ⟨[u],[]⟩=pure [(x,u)]) (hloc:scope.names.lookup x=some .local) (hk:scope.kind=.function) (hco:scope.isCoroutine=false) (hgen:scope.isGenerator=false)
  (hcell:∀ y∈scope.names,y.2≠.cell) (hb:∀ (f:Addr) (cd:Value) (A:Around) (outer:List Env) (s:Shared) (H:Hp),PE (zqk X.prog X.w X.K X.mg X.base (x::Ns) qual scope f cd clos A outer s H) body tb)
  (he:backTo pos (starEach [e] X.env)=(false,eval e X.env)::backTo pos (starEach [] X.env):=by rfl) (hpl:(backTo pos (starEach [e] X.env)).any (·.1)=false:=by rfl) :
  PE X (.Call (.Name "min" p) [e] [⟨some "key",.Lambda params body scope lpos,kp⟩] pos) (zkm X.K P lpos qual js t tb):=by
 intro pins s σ H Q I h
 refine wpAny_Call_Name_kw (zhG I hg hm PyProof.Rows.boot_min ?_ (by decide) (by decide))
 refine PyProof.Rows.callWith_kw (thn (ha pos pins s σ H _ I h) fun us s1 hQ'=>?_) he hpl
 obtain ⟨vs,H1,I1,r1,q1⟩:=hQ'
 obtain ⟨l,ns,ws,rfl,hl,hne,hw,hL,q⟩:=q1
 obtain ⟨u,rfl,rx⟩:=zmV r1
 cases rx
 obtain ⟨ps,hP⟩:=hL.tbl
 refine PyProof.Rows.kws_cons (zqM I1 hcode C hB hL hcl hdef hq fun qa c' pm ctv H2 s2 oc ovs ot I2 bar hL2 hqa hc' hd hv fq=>?_)
 refine PyProof.Rows.kws_nil ?_
 obtain ⟨kf,hkf,hQ⟩:=q H2 bar hL2
 have I3:Inv X (pins++[(qa,PySem.W.kla_obj "<lambda>" qual params body scope clos pm c' ctv)]) σ H2 s2:=I2.pins_of fun p hp=>by
  rcases List.mem_append.mp hp with hp | hp
  ·exact I2.pin p (List.mem_append_right _ hp)
  ·rw [List.mem_singleton.mp hp]
   exact ⟨hqa,fq.1,fq.2.1,fq.2.2.1,fun v z=>by cases z⟩
 refine zoc (pins:=pins++[(qa,PySem.W.kla_obj "<lambda>" qual params body scope clos pm c' ctv)]) (ns:=ns) (fun i=>kf (ns.getD i 0)) hr.hd I3 (hl.bar bar hP) hne (fun i n v hn rv pl s3 J=>?_) fun i n v s3 hn rv hbest J=>?_
 ·have hnm:n∈ns:=List.mem_of_getElem? hn
  have gd:ns.getD i 0=n:=by rw [List.getD_eq_getElem?_getD,hn];rfl
  have hqa3:=(J.pin (qa,PySem.W.kla_obj "<lambda>" qual params body scope clos pm c' ctv) (List.mem_append_right _ (List.mem_append_left _ (List.mem_append_right _ (.head _))))).1
  have hc3:s3.heap.get? c'=some oc:=(J.hok c' _ hc').1
  refine wpAny_call (codeAny_mono (zpt (t:=tb) (Ns:=Ns) (vs:=ws) (x:=x) (v:=.int n) J.env0.in1 hr.in1.depth hr.hd hqa3 ⟨c',oc,ovs,ot,rfl,hc3,hd,hv⟩ (hbind _ _ _ _) hloc hk hco hgen hcell (hcap.taken J hw) rv (hb _ _ _ _ _ _) (hkf n hnm)) fun r s' hq=>?_)
  cases r with
  | error e=>exact hq.elim
  | ok fl =>
   cases fl with
   | ret u =>
    have hq:CE X.stack X.prog X.w H2 s3 _ u s':=hq
    have:=J.after hq
    dsimp only
    rw [gd]
    exact this
   | next=>exact hq.elim
   | brk=>exact hq.elim
   | cont=>exact hq.elim
 ·have hnm:n∈ns:=List.mem_of_getElem? hn
  have gd:ns.getD i 0=n:=by rw [List.getD_eq_getElem?_getD,hn];rfl
  refine ⟨.int n,H2,J.unpinned,rv,hQ n hnm fun m hm'=>?_⟩
  obtain ⟨j,hj,ej⟩:=List.getElem_of_mem hm'
  have:=hbest j hj
  rw [gd] at this
  have gj:ns.getD j 0=m:=by rw [List.getD_eq_getElem?_getD,List.getElem?_eq_getElem hj,ej];rfl
  rw [gj] at this
  exact this
end
end L2
namespace L2
open PySem PySem.Spec PyProof.Rows
def zby (P:Addr) (K:PySem.W.Frag):PySem.W.Frag:=K.filter fun x=>x.1 != P
theorem zaS {P b:Addr} (h:b≠P):∀ {K:PySem.W.Frag},(zby P K).lookup b=K.lookup b
 | []=>rfl
 | (a,o)::K=>by
  unfold zby
  by_cases q:a=P
  ·rw [List.filter_cons_of_neg (by simpa using q)]
   show (zby P K).lookup b=_
   rw [zaS h,List.lookup_cons,show (b == a)=false from beq_eq_false_iff_ne.mpr (by rw [q];exact h)]
  ·rw [List.filter_cons_of_pos (by simpa using q),List.lookup_cons,List.lookup_cons]
   show (match b == a with | true=>some o | false=>(zby P K).lookup b)=_
   rw [zaS h]
   cases b == a <;> rfl
theorem zaH {P:Addr}:∀ {K:PySem.W.Frag},(zby P K).lookup P=none
 | []=>rfl
 | (a,o)::K=>by
  unfold zby
  by_cases q:a=P
  ·rw [List.filter_cons_of_neg (by simpa using q)]
   exact zaH (K:=K)
  ·rw [List.filter_cons_of_pos (by simpa using q),List.lookup_cons,show (P == a)=false from beq_eq_false_iff_ne.mpr (Ne.symm q)]
   exact zaH (K:=K)
theorem zsp {P:Addr} {K:PySem.W.Frag} {h:Heap} (KX:K.In h):(zby P K).In h:=fun b o e=>by
 by_cases q:b=P
 ·rw [q,zaH] at e;cases e
 ·rw [zaS q] at e;exact KX b o e
theorem zoC {Pg:Program} {w:World} {K:PySem.W.Frag} {mg mb:Str→Option Value} {CX:CXT} {k:Nat} {fa a c P:Addr} {fd:FuncData} {x:Str} {sp:Sp} {s₁:Shared} {vs:List Value} {ns:List Int}
  (KX:K.In s₁.heap) (hPK:K.lookup P=none) (hPt:s₁.heap.get? P=some (PySem.W.tabObj #[])) (hC:PySem.W.CodeHd s₁.heap c P) (hB:s₁.heap.BuiltinsAt mg P)
  (hns:s₁.heap.Ns mainGlobals mg) (hb:s₁.heap.Ns builtinsNs mb) (hbb:∀ x:Str,x≠"__name__"→mb x=bootBuiltins x) (hlim:s₁.heap.NoLimit) (hg:s₁.gens=#[])
  (ha:s₁.heap.get? a=some { cls:=.type "list",data:=.seq vs.toArray }) (hi:IntsAre vs ns) (hl:ns.length≤sizeLine) (hr:zeD k callerA)
  (F:∀ base:Heap,K.In base→base.Ns mainGlobals mg→PySem.W.CodeHd base c P→base.BuiltinsAt mg P→zcw Pg w K mg base CX k fa fd [x] sp) (hbind:∀ (s:Shared) (u:Value),BindsTo s fd ⟨[u],[]⟩ [(x,u)])
  (hsp:∀ H:Hp,H P=some (.tbl #[])→SqL K H a (ns.map V.int)→sp [.ref a] H (fun v _=>v=.bl true) fun _ _ _=>False)
  (hCX:∀ H e s',CX [] H s₁ (fun _ _ _=>False) e s'→False) :
  codeAny (model Pg w) callerA (.call (.ref fa) ⟨[.ref a],[]⟩) (fun r s'=>r=.ok (.ret (.bool true))∧OldK s₁.heap s'.heap∧s'.os=s₁.os∧AllBare s'.gens) s₁:=by
 have rv:=zk0 hi
 have lenV:=hi.length
 have naP:a≠P:=fun z=>by rw [z,hPt] at ha;cases ha
 have core:∀ H:Hp,H P=some (.tbl #[])→SqL K H a (ns.map V.int)→HOk Pg w H s₁.heap→(∀ b,H b≠none→b=P∨(b=a∧H a=some (.frz { cls:=.type "list",data:=.seq vs.toArray } (.lst (ns.map V.int)))))→(H a≠none→K.lookup a=none) →
   codeAny (model Pg w) callerA (.call (.ref fa) ⟨[.ref a],[]⟩) (fun r s'=>r=.ok (.ret (.bool true))∧OldK s₁.heap s'.heap∧s'.os=s₁.os∧AllBare s'.gens) s₁:=by
  intro H hHP hS hok hA hK
  have base_of:∀ {b:Addr} {o:Obj},s₁.heap.get? b=some o→H b=none→(zoJ s₁.heap H).get? b=some o:=fun e n=>zqX e n
  have free:∀ {b:Addr} {o:Obj},s₁.heap.get? b=some o→b≠P→(∀ its n,o.data≠.seq its n)→H b=none:=fun {b o} e nP d=>by
   cases q:H b with
   | none=>rfl
   | some u =>
    rcases hA b (by rw [q];simp) with z | ⟨z,_⟩
    ·exact absurd z nP
    ·subst z
     rw [ha] at e;cases e
     exact absurd rfl (d _ _)
  have noP:∀ {b:Addr} {o:Obj},s₁.heap.get? b=some o→(∀ ps,o.data≠.fields ps)→b≠P:=fun {b o} e d z=>by
   subst z
   rw [hPt] at e;cases e
   exact d _ rfl
  have nsK:∀ {b:Addr} {m:Str→Option Value},s₁.heap.Ns b m→(zoJ s₁.heap H).Ns b m:=fun {b m} ⟨o,es,ep,e,d,r⟩ =>
   ⟨o,es,ep,base_of e (free e (noP e fun ps z=>by rw [d] at z;cases z) fun its n z=>by rw [d] at z;cases z),d,r⟩
  have hKb:K.In (zoJ s₁.heap H):=fun b o e=>base_of (KX b o e) (by
   cases q:H b with
   | none=>rfl
   | some u =>
    rcases hA b (by rw [q];simp) with z | ⟨z,_⟩
    ·rw [z,hPK] at e;cases e
    ·subst z
     rw [hK (by rw [q];simp)] at e;cases e)
  have hM:Mod K mg (zoJ s₁.heap H):=⟨hKb,nsK hns,⟨mb,nsK hb,hbb⟩,let ⟨mc,h1,h2⟩:=hlim;⟨mc,nsK h1,h2⟩⟩
  have hC':PySem.W.CodeHd (zoJ s₁.heap H) c P:=by
   obtain ⟨o,ovs,file,tf,flags,tg,inF,text,tt,e1,e2,e3,r⟩:=hC
   exact ⟨o,ovs,file,tf,flags,tg,inF,text,tt,base_of e1 (free e1 r.2.2.2.2.2.2 fun its n z=>by rw [e3] at z;cases z),e2,e3,r⟩
  have hB':(zoJ s₁.heap H).BuiltinsAt mg P:=by
   obtain ⟨bm,ob,b1,b2,b3,b4,b5,b6,b7,b8⟩:=hB
   exact ⟨bm,ob,b1,b2,b3,b4,base_of b5 (free b5 b4 fun its n z=>by rw [b8] at z;cases z),b6,b7,b8⟩
  have e0:zok Pg w K mg (zoJ s₁.heap H) callerA [] s₁ H:=⟨rfl,hM,fun b o e=>zsN e,Nat.le_of_eq (zo0 _ _),trivial,fun b hb=>absurd (show b∈([]:List Addr) from hb) (by simp),hok,.of_eq hg⟩
  refine codeAny_mono ((F _ hKb (nsK hns) hC' hB').run callerA [] s₁ H ⟨[.ref a],[]⟩ [.ref a] [.ref a] _ _ hr e0 (hbind s₁ (.ref a)) (.cons rfl .nil) (hsp H hHP hS)) fun r s' h=>?_
  cases r with
  | error e=>exact (hCX H e s' h).elim
  | ok fl =>
   cases fl with
   | next=>exact False.elim h
   | brk=>exact False.elim h
   | cont=>exact False.elim h
   | ret u =>
    obtain ⟨v,H',os,bare,un,hok',r',q⟩:=h
    have q':v=.bl true:=q
    subst q'
    obtain rfl:u=Value.bool true:=r'
    refine ⟨rfl,⟨fun b o e=>?_,fun b o e=>un.there b o e (by simp)⟩,os,bare⟩
    by_cases zP:b=P
    ·subst zP
     rw [hPt] at e
     cases e
     obtain ⟨more,hm⟩:=un.tbls b _ hHP
     have ht':s'.heap.get? b=some { cls:=.none,data:=.fields (#[]++more) }:=hok' b _ hm
     exact .inr (.inl ⟨(hC.tab hPt).isCodeTable,rfl,#[],more,rfl,ht'⟩)
    ·refine .inl ?_
     cases q:H b with
     | none=>exact un.keep b o e q (by intro z;exact absurd (show b∈([]:List Addr) from z) (by simp)) (by simp)
     | some u =>
      rcases hA b (by rw [q];simp) with z | ⟨z,z1⟩
      ·exact absurd z zP
      ·subst z
       have z2:=un.frzs b _ _ z1
       obtain ⟨e1,_⟩:=hok b _ z1
       obtain ⟨e2,_⟩:=hok' b _ z2
       rw [e] at e1;cases e1
       exact e2
 have okP:∀ {H:Hp},H P=some (.tbl #[])→zca Pg w H s₁.heap P (.tbl #[]):=fun _=>hPt
 cases hk:K.lookup a with
 | some o =>
  have e:=KX a o hk
  rw [ha] at e
  cases e
  refine core (fun b=>if b=P then some (.tbl #[]) else none) (if_pos rfl) (.inr ⟨_,vs.toArray,_,hk,rfl,rfl,rfl,by rw [List.size_toArray,lenV];exact hl,by simpa using rv⟩) (fun b u z=>?_) (fun b z=>?_) fun z=>absurd (if_neg naP) z
  ·by_cases q:b=P
   ·subst q
    have z':=(if_pos rfl).symm.trans z
    cases z'
    exact hPt
   ·have z':=(if_neg q).symm.trans z
    cases z'
  ·by_cases q:b=P
   ·exact .inl q
   ·exact absurd (if_neg q) z
 | none =>
  have hfr:(if a=P then some (HO.tbl #[]) else if a=a then some (HO.frz { cls:=.type "list",data:=.seq vs.toArray } (.lst (ns.map V.int))) else none)=some (.frz { cls:=.type "list",data:=.seq vs.toArray } (.lst (ns.map V.int))):=by rw [if_neg naP,if_pos rfl]
  refine core (fun b=>if b=P then some (.tbl #[]) else if b=a then some (.frz { cls:=.type "list",data:=.seq vs.toArray } (.lst (ns.map V.int))) else none) (if_pos rfl) (.inl (.inr ⟨{ cls:=.type "list",data:=.seq vs.toArray },hfr⟩)) (fun b u z=>?_) (fun b z=>?_) fun _=>hk
  ·by_cases q:b=P
   ·subst q
    have z':=(if_pos rfl).symm.trans z
    cases z'
    exact hPt
   ·by_cases hb:b=a
    ·subst hb
     have z':=hfr.symm.trans z
     cases z'
     exact ⟨ha,by rw [List.length_map];exact hl,vs,_,rv,ha⟩
    ·have z0:(if b=P then some (HO.tbl #[]) else if b=a then some (HO.frz { cls:=.type "list",data:=.seq vs.toArray } (.lst (ns.map V.int))) else none)=some u:=z
     rw [if_neg q,if_neg hb] at z0
     cases z0
  ·by_cases q:b=P
   ·exact .inl q
   ·by_cases hb:b=a
    ·exact .inr ⟨hb,hfr⟩
    ·have z0:(if b=P then some (HO.tbl #[]) else if b=a then some (HO.frz { cls:=.type "list",data:=.seq vs.toArray } (.lst (ns.map V.int))) else none)≠none:=z
     rw [if_neg q,if_neg hb] at z0
     exact absurd rfl z0
theorem zqV {l:PySem.W.OpenLaw} {n k:Nat} {q:Program} {loose:List Str} {XP:(Str→Option Value)→Heap→Prop} {YP:World→Heap→Prop} {d:DefRec} {K:Params→PySem.W.Frag} {sp:World→Sp} {x:Str} {c P:Addr}
  (hn:l.most=some n) (hn2:n≤sizeLine) (hdf:d.params.defaults=[]) (hr:zeD k callerA)
  (hY:∀ (w:World) (h:Heap),YP w h→(K w.params).In h)
  (hPt:∀ w:World,(K w.params).lookup P=some (PySem.W.tabObj #[])) (hC:∀ (w:World) (h:Heap),(K w.params).In h→PySem.W.CodeHd h c P)
  (F:∀ (w:World) (mg:Str→Option Value) (fa:Addr) (h:Heap),(K w.params).In h→h.Ns mainGlobals mg→mg d.name=some (.ref fa) →
   ∃ fd:FuncData,(∀ (s:Shared) (u:Value),BindsTo s fd ⟨[u],[]⟩ [(x,u)]) ∧
    ∀ base:Heap,(zby P (K w.params)).In base→base.Ns mainGlobals mg→PySem.W.CodeHd base c P→base.BuiltinsAt mg P→zcw l.prog w (zby P (K w.params)) mg base CX0 k fa fd [x] (sp w))
  (hsp:∀ (w:World) (H:Hp) (a:Addr) (ns:List Int),(∀ x∈ns,x.natAbs<2 ^ 2 ^ 20)→ns.length≤n→H P=some (.tbl #[])→SqL (zby P (K w.params)) H a (ns.map V.int)→sp w [.ref a] H (fun v _=>v=.bl true) fun _ _ _=>False) :
  PySem.W.WalkO q loose XP YP l.row.toRowW d [] (fun f vs=>PySem.call f vs):=by
 refine Att.attach_callL hn hdf fun w s₀ s₁ mg mb fa o pm cd doc a vs ns hb0 G Y ho hd hcd hmg hobj hints hlen hg=>?_
 have KX:=hY w _ Y
 obtain ⟨fd,hb,hF⟩:=F w mg fa _ KX G.T.g hmg
 have hP:=KX _ _ (hPt w)
 obtain ⟨bm,ob,b1,b2,b3,b4,b5,b6⟩:=G.T.bmain
 have hBt:s₁.heap.BuiltinsAt mg P:=by
  refine ⟨bm,ob,b1,b2,fun z=>?_,fun z=>?_,b3,b4,b5,b6⟩
  ·obtain ⟨o',es,ep,e,d',_⟩:=G.T.g
   rw [z,e] at b3;cases b3;rw [d'] at b6;cases b6
  ·rw [z,hP] at b3;cases b3;cases b4
 exact zoC (zsp KX) zaH hP (hC w _ KX) hBt G.T.g G.T.b G.T.builtins G.T.nolimit hg hobj hints (Nat.le_trans hlen hn2) hr hF hb (fun H hP' hS=>hsp w H a ns hb0 hlen hP' hS) fun H e s' z=>z
section
open PySem.W
variable {P:Addr} {K:Frag}
theorem zlQ (hP:K.lookup P=some (tabObj #[])) (a:Addr) (x:Str):nsIn (zby P K) a x=nsIn K a x:=by
 unfold nsIn
 by_cases q:a=P
 ·rw [q,zaH,hP]
 ·rw [zaS q]
theorem zp1 (hP:K.lookup P=some (tabObj #[])) (x:Str) (v:Value):ownIn (zby P K) x v=ownIn K x v:=by
 unfold ownIn
 cases v with
 | ref a =>
  by_cases q:a=P
  ·simp only [q,zaH,hP]
  ·simp only [zaS q,zlQ hP]
 | _=>rfl
theorem zjb (hP:K.lookup P=some (tabObj #[])) (x:Str):∀ l:List Value,alongIn (zby P K) x l=alongIn K x l
 | []=>rfl
 | c::r=>by simp only [alongIn,zp1 hP,zjb hP x r]
theorem zbG (hP:K.lookup P=some (tabObj #[])) (t:Value) (x:Str):findIn (zby P K) t x=findIn K t x:=by
 unfold findIn
 cases t with
 | ref a =>
  by_cases q:a=P
  ·simp only [q,zaH,hP]
  ·simp only [zaS q,zjb hP]
 | _=>rfl
theorem zfn (hP:K.lookup P=some (tabObj #[])) (C:Addr):clsIn (zby P K) C=clsIn K C:=by
 unfold clsIn
 by_cases q:C=P
 ·rw [q,zaH,hP]
 ·rw [zaS q]
theorem zeu {a:Addr} (q:a≠P):typeIn (zby P K) (.ref a)=typeIn K (.ref a):=by
 unfold typeIn
 simp only [zaS q]
theorem zfW (hP:K.lookup P=some (tabObj #[])) (a:Addr):keepIn (zby P K) (.ref a)=keepIn K (.ref a):=by
 unfold keepIn
 by_cases q:a=P
 ·simp only [q,zaH,hP]
 ·simp only [zaS q,specialIn,zeu q,zbG hP]
theorem zkH (hP:K.lookup P=some (tabObj #[])) (cd:Value) (x:Str) (h:codeIn K cd x=true):codeIn (zby P K) cd x=true:=by
 unfold codeIn at h ⊢
 cases cd with
 | ref c =>
  by_cases q:c=P
  ·simp only [q,hP] at h
   cases h
  ·simp only [zaS q]
   exact h
 | _=>exact h
theorem zaF (hP:K.lookup P=some (tabObj #[])) {x qual:Str} {st:Stmt} {f:Addr} {fd:FuncData} (F:Fun K x qual st f fd):Fun (zby P K) x qual st f fd:=by
 obtain ⟨⟨oc,od,kV,doc,pm,an,cdv,ct,osl,e,l,c⟩,k⟩:=F
 have q:f≠P:=fun z=>by rw [z,hP] at l;cases l
 exact ⟨⟨oc,od,kV,doc,pm,an,cdv,ct,osl,e,(zaS q).trans l,zkH hP _ _ c⟩,(zfW hP f).trans k⟩
theorem Cls.drop (hP:K.lookup P=some (tabObj #[])) {C:Addr} (c:Cls K C):Cls (zby P K) C:=by
 obtain ⟨h1,h2,h3,h4⟩:=c
 refine ⟨?_,?_,?_,(zbG hP _ _).trans h4⟩
 ·unfold plainGet at h1 ⊢
  rw [zbG hP,zbG hP]
  exact h1
 ·unfold hasDictIn at h2 ⊢
  rw [zfn hP]
  exact h2
 ·unfold plainOver at h3 ⊢
  rw [zfn hP]
  exact h3
theorem zoj (hP:K.lookup P=some (tabObj #[])) {f:Addr} (h:isFn K (.ref f)=true):f≠P:=fun z=>by
 have e:typeIn K (.ref f)=some .none:=by
  show (K.lookup f).map (·.cls)=_
  rw [z,hP]
  rfl
 unfold isFn at h
 rw [e] at h
 exact absurd h (by decide)
theorem zjd.drop (hP:K.lookup P=some (tabObj #[])) {C f:Addr} {m:Str} (c:zjd K C m f):zjd (zby P K) C m f:=by
 obtain ⟨h1,h2,h3⟩:=c
 have ne:=zoj hP h2
 refine ⟨(zbG hP _ _).trans h1,?_,(zfW hP f).trans h3⟩
 unfold isFn at h2 ⊢
 rw [zeu ne]
 exact h2
theorem Mk.drop (hP:K.lookup P=some (tabObj #[])) {C f:Addr} (c:Mk K C f):Mk (zby P K) C f:=by
 obtain ⟨h1,h2,h3,h4⟩:=c
 have ne:=zoj hP h3
 refine ⟨?_,(zbG hP _ _).trans h2,?_,(zfW hP C).trans h4⟩
 ·unfold makesIn at h1 ⊢
  by_cases q:C=P
  ·rw [q,hP] at h1
   cases h1
  ·simp only [zaS q,specialIn,instIn,zeu q,zbG hP]
   have sb:∀ t b,subIn (zby P K) t b=subIn K t b:=fun t b=>by
    unfold subIn
    cases t with
    | ref D=>simp only [mroIn,zfn hP]
    | _=>rfl
   simp only [sb]
   exact h1
 ·unfold isFn at h3 ⊢
  rw [zeu ne]
  exact h3
theorem zcd.drop (hP:K.lookup P=some (tabObj #[])) {C:Addr} {f:Str} (h:zcd K C f):zcd (zby P K) C f:=(zbG hP _ _).trans h
structure zpn (K:Frag) (x qual:Str) (st:Stmt) (f:Addr) (fd:FuncData) (c:Addr):Prop where
 ex:∃ (oc:Value) (od:Option Addr) (kV doc pm:Value) (an:Option Addr) (ct:Value) (osl:Array (Option Value)),
  fd=fnOf x qual (zfg st) (zc0 st) (zaj st) .none kV doc pm an (.ref c) ct∧K.lookup f=some ⟨oc,od,.func fd,osl⟩∧codeIn K (.ref c) qual=true
 kp:keepIn K (.ref f)=true
theorem zso {x qual:Str} {st:Stmt} {f c:Addr} {oc:Value} {od an:Option Addr} {osl:Array (Option Value)} {kV doc pm ct:Value} (l:K.lookup f=some ⟨oc,od,.func (fnOf x qual (zfg st) (zc0 st) (zaj st) .none kV doc pm an (.ref c) ct),osl⟩)
  (cc:codeIn K (.ref c) qual=true) (k:keepIn K (.ref f)=true):zpn K x qual st f (fnOf x qual (zfg st) (zc0 st) (zaj st) .none kV doc pm an (.ref c) ct) c:=⟨⟨oc,od,kV,doc,pm,an,ct,osl,rfl,l,cc⟩,k⟩
theorem zpn.fun {x qual:Str} {st:Stmt} {f c:Addr} {fd:FuncData} (F:zpn K x qual st f fd c):Fun K x qual st f fd:=by
 obtain ⟨⟨oc,od,kV,doc,pm,an,ct,osl,e,l,cc⟩,k⟩:=F
 exact ⟨⟨oc,od,kV,doc,pm,an,.ref c,ct,osl,e,l,cc⟩,k⟩
theorem zpn.drop (hP:K.lookup P=some (tabObj #[])) {x qual:Str} {st:Stmt} {f c:Addr} {fd:FuncData} (F:zpn K x qual st f fd c):zpn (zby P K) x qual st f fd c:=by
 obtain ⟨⟨oc,od,kV,doc,pm,an,ct,osl,e,l,cc⟩,k⟩:=F
 have q:f≠P:=fun z=>by rw [z,hP] at l;cases l
 exact ⟨⟨oc,od,kV,doc,pm,an,ct,osl,e,(zaS q).trans l,zkH hP _ _ cc⟩,(zfW hP f).trans k⟩
theorem zpn.ok {Pg:Program} {w:World} {mg:Str→Option Value} {base:Heap} {x qual:Str} {st:Stmt} {f c:Addr} {fd:FuncData} {N ps:List Str} {k:Nat} {sp:Sp} (F:zpn K x qual st f fd c) (S:zaI N ps (zaj st)) (len:∀ vs H Q E,sp vs H Q E→vs.length=ps.length)
  (hbody:∀ (A:Around) (outer:List Env) (s:Shared) (H:Hp) (vs:List V) (Q:VK) (E:XK),zeD k (A.deeper (envOfC qual (zaj st) s.heap.objs.size f (.ref c)))→sp vs H Q E →
   ∃ t,PSs (zpo CX0 Pg w K mg base N qual (zaj st) f (.ref c) A outer s H E).nox (zc0 st) t∧t { nx:=fun _ H'=>Q .non H',rt:=Q } (zbi N vs) H):zcw Pg w K mg base CX0 (k+1) f fd ps sp:=by
 obtain ⟨⟨oc,od,kV,doc,pm,an,ct,osl,rfl,lk,hcd⟩,_⟩:=F
 refine zst lk hcd S len fun A outer s H vs Q E hr hsp=>?_
 obtain ⟨t,h,q⟩:=hbody A outer s H vs Q E hr hsp
 exact ⟨t,h.nox,q⟩
end
end L2
namespace L2
open PySem PySem.Spec PyProof.Rows
def tAt (C:Addr) (ta:TE) (f:Str):TE:=fun σ H Q=>ta σ H fun x H1=>∃ p dx fs v,x=.ref p∧H1 p=some (.ins C dx fs)∧fs.lookup f=some v∧Q v H1
def sAt (C:Addr) (ta tv:TE) (f:Str):TS:=fun D σ H=>tv σ H fun y H1=>ta σ H1 fun x H2=>∃ p dx fs,x=.ref p∧H2 p=some (.ins C dx fs)∧fs.length<1000∧D.nx σ (upd H2 p (.ins C dx (zho f y fs)))
section
variable {X:Cx} {o e value:Expr} {f:Str} {pos pos':Pos} {ta tv:TE} {C:Addr}
theorem zbS (c:Cls X.K C) (n:zcd X.K C f) (he:PE X e ta) (hb:attributeBase e f X.env (eval e X.env)=eval e X.env:=by rfl):PE X (.Attribute e f pos) (tAt C ta f):=by
 intro pins s σ H Q I h
 refine zrR hb (thn (he pins s σ H _ I h) fun u s1 hQ'=>?_)
 obtain ⟨x,H1,I1,rx,a,dx,fs,v,ex,ea,l,q⟩:=hQ'
 subst ex
 obtain rfl:u=Value.ref a:=rx
 exact zm4 I1 ea c n l fun u' s2 I2 ru=>⟨v,H1,I2,ru,q⟩
theorem zlm (c:Cls X.K C) (n:zcd X.K C f) (ha:PE X o ta) (hv:PE X value tv) (hs:swapsWith value (some (.Attribute o f pos')) pos.line X.env=pure false:=by rfl):PS X (.Assign [.Attribute o f pos'] value pos) (sAt C ta tv f):=by
 intro pins s σ H D I h
 refine plainObj_wpAny_Assign_Attribute (thn (hv pins s σ H _ I h) fun u s1 ⟨y,H1,I1,ry,q⟩=>thn (ha pins s1 σ H1 _ I1 q) fun ov s2 hQ'=>?_) hs
 obtain ⟨x,H2,I2,rx,a,dx,fs,ex,ea,l,q2⟩:=hQ'
 subst ex
 obtain rfl:ov=Value.ref a:=rx
 exact zm6 I2 ea c n l ry fun s3 I3=>⟨σ,_,I3,q2⟩
end
def zuR:Expr→Pos
 | .Call _ _ (⟨_,.Lambda _ _ _ p,_⟩::_) _=>p
 | _=>⟨0,0,0,0⟩
def zu5:Stmt→Pos
 | .If _ (.Return (some e) _::_) _ _=>zuR e
 | _=>⟨0,0,0,0⟩
theorem ztD.one {X:Cx} {sc:Scope} {x:Str} {c:Addr} {j:Nat} (hN:X.N[j]?=some x) (hk:X.env.scope.names.lookup x=some .cell) (hc:X.env.cells.lookup x=some c) (hf:sc.names.lookup x=some .free) (hall:∀ z∈sc.names,z.2=.free→z.1=x) :
  ztD X sc [(x,c)] [x] [j]:=by
 have l1:([(x,c)]:List (Str×Addr)).lookup x=some c:=by simp [List.lookup]
 refine ⟨rfl,fun i y hi=>?_,fun y hy=>?_,fun y d hd=>?_⟩
 ·cases i with
  | zero =>
   have hi:some x=some y:=hi
   cases hi
   exact ⟨j,c,rfl,hN,hk,l1,hf⟩
  | succ i=>cases hi
 ·have:=hall _ (PySem.mem_of_lookup hy) rfl
  have e:y=x:=this
  rw [e]
  exact ⟨c,l1⟩
 ·rw [List.lookup_cons] at hd
  cases q:y == x with
  | true =>
   rw [q] at hd
   cases hd
   rw [beq_iff_eq.mp q]
   exact hc
  | false =>
   rw [q] at hd
   cases hd
theorem zbX.same {H H':Hp} {P:Addr} {pos:Pos} {qual:Str} (h:zbX H P pos qual) (s:∀ b o,H b=some o→H' b=some o):zbX H' P pos qual:=by
 rcases h with h | ⟨c',oc,vs,t,e1,e2,e3,e4⟩
 ·exact .inl (s _ _ h)
 ·exact .inr ⟨c',oc,vs,t,e1,s _ _ e2,s _ _ e3,e4⟩
theorem zbX.first {H:Hp} {P:Addr} {pos:Pos} {qual:Str} (h:H P=some (.tbl #[])):zbX H P pos qual:=.inl h
theorem zbX.neL {H:Hp} {P x:Addr} {pos:Pos} {qual:Str} {xs:List V} (h:zbX H P pos qual) (e:H x=some (.lst xs)):x≠P:=fun z=>by
 obtain ⟨u,h⟩:=h.tbl
 rw [z,h] at e
 cases e
theorem zbX.neT {H:Hp} {P x:Addr} {pos:Pos} {qual:Str} {xs:List V} (h:zbX H P pos qual) (e:H x=some (.tup xs)):x≠P:=fun z=>by
 obtain ⟨u,h⟩:=h.tbl
 rw [z,h] at e
 cases e
theorem zbX.neI {H:Hp} {P x C dx:Addr} {pos:Pos} {qual:Str} {fs:List (Str×V)} (h:zbX H P pos qual) (e:H x=some (.ins C dx fs)):x≠P:=fun z=>by
 obtain ⟨u,h⟩:=h.tbl
 rw [z,h] at e
 cases e
theorem zbX.put {H H':Hp} {P:Addr} {pos:Pos} {qual:Str} (h:zbX H P pos qual) (s:∀ b o,(∀ xs,o≠.lst xs)→(∀ C dx fs,o≠.ins C dx fs)→H b=some o→H' b=some o):zbX H' P pos qual:=by
 rcases h with h | ⟨c',oc,vs,t,e1,e2,e3,e4⟩
 ·exact .inl (s _ _ (fun _ z=>nomatch z) (fun _ _ _ z=>nomatch z) h)
 ·exact .inr ⟨c',oc,vs,t,e1,s _ _ (fun _ z=>nomatch z) (fun _ _ _ z=>nomatch z) e2,s _ _ (fun _ z=>nomatch z) (fun _ _ _ z=>nomatch z) e3,e4⟩
theorem zr5 {K:PySem.W.Frag} {h:Heap} {c P:Addr} {od:Option Addr} {sl:Array (Option Value)} {v0 v1 v2 v3 v4 v5 v6 v8 v12 v13 v14 v15 v16 v17:Value} {fl tx:Int} {tg tt tf:Tok} {inF:Bool} {file:Str} (X:K.In h)
  (l:K.lookup c=some ⟨.type "code",od,.fields #[v0,v1,v2,v3,v4,v5,v6,.int fl tg,v8,.bool inF,.int tx tt,.ref P,v12,v13,v14,v15,v16,v17,.str file tf],sl⟩) (ne:c≠P):PySem.W.CodeHd h c P :=
 ⟨_,_,_,_,_,_,_,_,_,X _ _ l,rfl,rfl,rfl,rfl,rfl,rfl,rfl,rfl,ne⟩
end L2
namespace L2
open PySem PySem.Spec PyProof.Rows
def zlu (K:PySem.W.Frag):R2:=fun x y H Q=>zuq K x y H Q∨∃ a b,x=.ref a∧y=.ref b∧H a=some (.dK [])∧H b=some (.dK [])∧Q (.bl false) H
section
variable {X:Cx}
theorem ztb (hu:X.A.units+64<cLine):OpR X (compareOp .NotEq) (zlu X.K):=by
 intro pins s σ H x y v u Q I rx ry h
 rcases h with h | ⟨a,b,rfl,rfl,ha,hb,q⟩
 ·exact zrK hu pins s σ H x y v u Q I rx ry h
 ·cases rx
  cases ry
  obtain ⟨_,sa,va,ra,da⟩:=I.hok a _ ha
  obtain ⟨_,sb,vb,rb,db⟩:=I.hok b _ hb
  cases ra
  cases rb
  exact PySem.W.keq_ne (r:=true) sa sb da db (by (first|lia|omega)) (fun _=>.nil) ⟨.bl false,H,I,rfl,q⟩
end
theorem zuB {P:Program} {w:World} {X:Cx}:zfs (CXE P w) X E0:=fun _ _ _ _ _ _ _ ⟨_,_,_,_,_,_,x⟩=>x.want.elim
section
open PySem.W
variable {P:Addr} {K:Frag}
theorem zjW (hP:K.lookup P=some (tabObj #[])) (C:Addr) (b:Value):mroIn (zby P K) C b=mroIn K C b:=by
 unfold mroIn
 rw [zfn hP]
theorem zkr (hP:K.lookup P=some (tabObj #[])) (t b:Value):subIn (zby P K) t b=subIn K t b:=by
 unfold subIn
 cases t with
 | ref D=>exact zjW hP D b
 | _=>rfl
theorem zbc (hP:K.lookup P=some (tabObj #[])) (t c:Value):kitOne (zby P K) t c=kitOne K t c:=by
 unfold kitOne kitCls
 cases c with
 | ref C =>
  simp only [zkr hP,zfn hP]
  by_cases q:C=P
  ·have e:clsIn K C=none:=by
    unfold clsIn
    rw [q,hP]
   rw [e]
   rfl
  ·rw [zeu q]
 | type T=>simp only [zkr hP]
 | _=>rfl
theorem zkY (hP:K.lookup P=some (tabObj #[])) (a:Addr):nsOkIn (zby P K) a=nsOkIn K a:=by
 unfold nsOkIn
 by_cases q:a=P
 ·rw [q,zaH,hP]
 ·rw [zaS q]
theorem zkF (hP:K.lookup P=some (tabObj #[])) (b:List Value):∀ l,tailIn (zby P K) b l=tailIn K b l
 | []=>rfl
 | v::r=>by
  unfold tailIn
  cases v with
  | ref A =>
   by_cases q:A=P
   ·simp only [q,zaH,hP]
   ·simp only [zaS q,zkY hP,zlQ hP,zkF hP b r]
  | _=>rfl
theorem zht (hP:K.lookup P=some (tabObj #[])) (C:Addr) (b:List Value) (n:String):excIn (zby P K) C b n=excIn K C b n:=by
 unfold excIn
 by_cases q:C=P
 ·rw [q,zaH,hP]
 ·simp only [zaS q,zkY hP,zlQ hP,zkF hP]
end
end L2
set_option maxHeartbeats 4000000
local macro_rules
 | `(tactic| simp_all only [$xs,*])=>do
  let ds ← ("ztm zs8 zto zsb zlG zsc zva ztR zsd zvc zt2 zu6 ztM zqS zpI zqP zqp zpz zqn zlu rIn zmq zqI zhu zqd ziz za7 zj5 tSl zcE zgU znQ zdN zcO zkX tBM ztc zeh zdJ zaM zaR za6 tCB zab zam tC tOp zaQ tB zbE zbo zfH zb5 zgS zaK rEq rNe znb zi5 tTry tUn ziU rU zkM zm2 zh0 zrl zfS zrA ziw tAt zeq zsv rI_c zu7 zkm tTru zsB zp4 tOr rSum zpZ rEqT tAnd tOrV zs2 zsm zjq".splitOn " ").toArray.mapM fun s=>`(Lean.Parser.Tactic.simpLemma| ↓ $(Lean.mkIdent s.toName):ident)
  let ps ← ("zqr Option.bind_some Option.bind_none Option.join_some Option.map_some List.getElem?_cons_zero List.getElem?_cons_succ V.str.injEq V.ty.injEq zad rI0 zbf L2.zbi zpC zr8 zmF zsL List.map_cons List.map_nil List.length_cons List.length_nil List.replicate List.cons_append List.nil_append List.append_nil Option.some.injEq exists_eq_left' exists_eq_left exists_and_left List.cons.injEq V.int.injEq V.ref.injEq V.bl.injEq and_true true_and List.set_cons_zero List.set_cons_succ Nat.reduceAdd Nat.reduceSub Int.reduceToNat Int.reducePow Int.reduceNeg Int.reduceMul Int.reduceAdd Int.reduceSub decide_eq_true_eq Bool.not_eq_true' decide_eq_false_iff_not exists_const and_assoc exists_eq exists_eq' if_true if_false Bool.false_eq_true Bool.true_eq_false reduceCtorEq not_true_eq_false not_false_eq_true rI zky sAt".splitOn " ").toArray.mapM fun s=>`(Lean.Parser.Tactic.simpLemma| $(Lean.mkIdent s.toName):ident)
  `(tactic| simp only [$xs,*,$ds,*,$ps,*])
namespace My
local macro_rules | `(tactic| omega)=>`(tactic| lia)
open PySem L2
def top (i:Nat):Stmt:=PySem.Challenge.pw_hideworth_k15_no_tables_refused.main.body.getD i (.Pass ⟨0,0,0,0⟩)
abbrev zhT:Stmt:=top 21
abbrev zlZ:Stmt:=top 22
abbrev zpf:Stmt:=top 23
abbrev zcP:Stmt:=top 24
abbrev zhj:Stmt:=top 25
abbrev zf3:Stmt:=top 27
abbrev zfq:Stmt:=top 28
abbrev zjs:Stmt:=top 40
abbrev zfV:Stmt:=top 41
abbrev zcR:Stmt:=top 42
abbrev zdF:Stmt:=top 43
abbrev zhv:Stmt:=top 37
abbrev zdE:Stmt:=top 38
abbrev zef:Stmt:=top 39
abbrev zb2:Stmt:=(zev (top 30)).getD 0 (.Pass ⟨0,0,0,0⟩)
abbrev zbz:Stmt:=(zev (top 30)).getD 1 (.Pass ⟨0,0,0,0⟩)
abbrev zcJ:Stmt:=(zev (top 30)).getD 2 (.Pass ⟨0,0,0,0⟩)
abbrev zbL:Stmt:=(zev (top 30)).getD 3 (.Pass ⟨0,0,0,0⟩)
abbrev zc6:Stmt:=(zev (top 30)).getD 4 (.Pass ⟨0,0,0,0⟩)
abbrev zcm:Stmt:=(zev (top 30)).getD 5 (.Pass ⟨0,0,0,0⟩)
abbrev zdf:Stmt:=(zev (top 30)).getD 6 (.Pass ⟨0,0,0,0⟩)
abbrev zbv:Stmt:=(zev (top 30)).getD 7 (.Pass ⟨0,0,0,0⟩)
abbrev zb9:Stmt:=top 31
abbrev zcT:Stmt:=top 32
abbrev zb4:Stmt:=top 33
abbrev zg7:Stmt:=top 34
abbrev zdM:Stmt:=top 45
abbrev zdt:Stmt:=top 44
abbrev zdS:Stmt:=top 46
abbrev zcu:Stmt:=top 47
abbrev zgt:Stmt:=top 49
abbrev zdr:Stmt:=top 50
abbrev zeY:Stmt:=top 51
abbrev ze7:Stmt:=top 52
abbrev zdb:Stmt:=top 53
abbrev zc3:Stmt:=top 54
abbrev zdn:Stmt:=top 55
abbrev znU:Stmt:=top 56
def zoT:Pos:=zu5 ((zc0 zbz).getD 2 (.Pass ⟨0,0,0,0⟩))
set_option genInjectivity false in
set_option genSizeOf false in
structure Ad where
 f_divisor:Addr
 d_divisor:FuncData
 f_ratio:Addr
 d_ratio:FuncData
 f_plus:Addr
 d_plus:FuncData
 f_shared_divisor:Addr
 d_shared_divisor:FuncData
 f_lowest:Addr
 d_lowest:FuncData
 f_is_whole:Addr
 d_is_whole:FuncData
 f_are_weights:Addr
 d_are_weights:FuncData
 f_row_sums:Addr
 d_row_sums:FuncData
 f_column_sums:Addr
 d_column_sums:FuncData
 f_first_column_above:Addr
 d_first_column_above:FuncData
 f_first_row_below:Addr
 d_first_row_below:FuncData
 f_is_row:Addr
 d_is_row:FuncData
 f_is_table:Addr
 d_is_table:FuncData
 f_look_table:Addr
 d_look_table:FuncData
 f_Board___init__:Addr
 d_Board___init__:FuncData
 f_Board_entering:Addr
 d_Board_entering:FuncData
 f_Board_steepest:Addr
 d_Board_steepest:FuncData
 f_Board_steepness:Addr
 d_Board_steepness:FuncData
 f_Board_leaving:Addr
 d_Board_leaving:FuncData
 f_Board_is_sooner:Addr
 d_Board_is_sooner:FuncData
 f_Board_swap:Addr
 d_Board_swap:FuncData
 f_Board_swapped_row:Addr
 d_Board_swapped_row:FuncData
 f_first_grid:Addr
 d_first_grid:FuncData
 f_row_weights:Addr
 d_row_weights:FuncData
 f_column_weights:Addr
 d_column_weights:FuncData
 f_solved:Addr
 d_solved:FuncData
 f_table_worth:Addr
 d_table_worth:FuncData
 f_table_judged:Addr
 d_table_judged:FuncData
 f_best_rows:Addr
 d_best_rows:FuncData
 f_best_columns:Addr
 d_best_columns:FuncData
 f__law_mix:Addr
 d__law_mix:FuncData
 f__law_cell_at:Addr
 d__law_cell_at:FuncData
 f__law_left:Addr
 d__law_left:FuncData
 f__law_draw:Addr
 d__law_draw:FuncData
 f__law_thing:Addr
 d__law_thing:FuncData
 f__law_is_table:Addr
 d__law_is_table:FuncData
 f__law_refused:Addr
 d__law_refused:FuncData
 f_law:Addr
 d_law:FuncData
 c_HideError:Addr
 c_NoNumber:Addr
 c_NoTable:Addr
 c_NoBoxes:Addr
 c_NoBudget:Addr
 c_NoOrder:Addr
 c_NoWeights:Addr
 c_TooGreat:Addr
 c_NoKind:Addr
 c_NoTree:Addr
 c_NoTurns:Addr
 c_NoPlay:Addr
 c_NoRow:Addr
 c_NoName:Addr
 c_NoRoad:Addr
 c_NoWeb:Addr
 c_NoPlan:Addr
 c_NoText:Addr
 c_NoPaper:Addr
 c_Board:Addr
 k_MOST:Tok
 p_lam:Addr
 cd_lam:Addr
structure Isa (K:PySem.W.Frag) (a:Ad):Prop where
 k_NoNumber:PySem.W.kitOne K (.ref a.c_NoTable) (.ref a.c_NoNumber)=some false
 k_NoTable:PySem.W.kitOne K (.ref a.c_NoTable) (.ref a.c_NoTable)=some true
 k_NoBoxes:PySem.W.kitOne K (.ref a.c_NoTable) (.ref a.c_NoBoxes)=some false
 k_NoBudget:PySem.W.kitOne K (.ref a.c_NoTable) (.ref a.c_NoBudget)=some false
 k_NoOrder:PySem.W.kitOne K (.ref a.c_NoTable) (.ref a.c_NoOrder)=some false
 k_NoWeights:PySem.W.kitOne K (.ref a.c_NoTable) (.ref a.c_NoWeights)=some false
 k_TooGreat:PySem.W.kitOne K (.ref a.c_NoTable) (.ref a.c_TooGreat)=some false
 k_NoKind:PySem.W.kitOne K (.ref a.c_NoTable) (.ref a.c_NoKind)=some false
 k_NoTree:PySem.W.kitOne K (.ref a.c_NoTable) (.ref a.c_NoTree)=some false
 k_NoTurns:PySem.W.kitOne K (.ref a.c_NoTable) (.ref a.c_NoTurns)=some false
 k_NoPlay:PySem.W.kitOne K (.ref a.c_NoTable) (.ref a.c_NoPlay)=some false
 k_NoRow:PySem.W.kitOne K (.ref a.c_NoTable) (.ref a.c_NoRow)=some false
 k_NoName:PySem.W.kitOne K (.ref a.c_NoTable) (.ref a.c_NoName)=some false
 k_NoRoad:PySem.W.kitOne K (.ref a.c_NoTable) (.ref a.c_NoRoad)=some false
 k_NoWeb:PySem.W.kitOne K (.ref a.c_NoTable) (.ref a.c_NoWeb)=some false
 k_NoPlan:PySem.W.kitOne K (.ref a.c_NoTable) (.ref a.c_NoPlan)=some false
 k_NoText:PySem.W.kitOne K (.ref a.c_NoTable) (.ref a.c_NoText)=some false
 k_NoPaper:PySem.W.kitOne K (.ref a.c_NoTable) (.ref a.c_NoPaper)=some false
 k_ValueError:PySem.W.kitOne K (.ref a.c_NoTable) (.type "ValueError")=some true
 sub:PySem.W.subIn K (.ref a.c_NoTable) (.ref a.c_HideError)=some true
 ec:zjf K (.ref a.c_NoTable)
structure Txt (K:PySem.W.Frag) (mg:Str→Option Value) (base:Heap) (a:Ad):Prop where
 F_divisor:Fun K "divisor" "divisor" zhT a.f_divisor a.d_divisor
 b_divisor:zbg K a.d_divisor ["one","other"] []
 m_divisor:mg "divisor"=some (.ref a.f_divisor)
 F_ratio:Fun K "ratio" "ratio" zlZ a.f_ratio a.d_ratio
 b_ratio:zbg K a.d_ratio ["top","bottom"] []
 m_ratio:mg "ratio"=some (.ref a.f_ratio)
 F_plus:Fun K "plus" "plus" zpf a.f_plus a.d_plus
 b_plus:zbg K a.d_plus ["one","other"] []
 m_plus:mg "plus"=some (.ref a.f_plus)
 F_shared_divisor:Fun K "shared_divisor" "shared_divisor" zcP a.f_shared_divisor a.d_shared_divisor
 b_shared_divisor:zbg K a.d_shared_divisor ["numbers"] []
 m_shared_divisor:mg "shared_divisor"=some (.ref a.f_shared_divisor)
 F_lowest:Fun K "lowest" "lowest" zhj a.f_lowest a.d_lowest
 b_lowest:zbg K a.d_lowest ["weights"] []
 m_lowest:mg "lowest"=some (.ref a.f_lowest)
 F_is_whole:Fun K "is_whole" "is_whole" zf3 a.f_is_whole a.d_is_whole
 b_is_whole:zbg K a.d_is_whole ["thing"] []
 m_is_whole:mg "is_whole"=some (.ref a.f_is_whole)
 F_are_weights:Fun K "are_weights" "are_weights" zfq a.f_are_weights a.d_are_weights
 b_are_weights:zbg K a.d_are_weights ["thing","many"] []
 m_are_weights:mg "are_weights"=some (.ref a.f_are_weights)
 F_row_sums:Fun K "row_sums" "row_sums" zjs a.f_row_sums a.d_row_sums
 b_row_sums:zbg K a.d_row_sums ["table","columns"] []
 m_row_sums:mg "row_sums"=some (.ref a.f_row_sums)
 F_column_sums:Fun K "column_sums" "column_sums" zfV a.f_column_sums a.d_column_sums
 b_column_sums:zbg K a.d_column_sums ["table","rows"] []
 m_column_sums:mg "column_sums"=some (.ref a.f_column_sums)
 F_first_column_above:Fun K "first_column_above" "first_column_above" zcR a.f_first_column_above a.d_first_column_above
 b_first_column_above:zbg K a.d_first_column_above ["table","worth","rows"] []
 m_first_column_above:mg "first_column_above"=some (.ref a.f_first_column_above)
 F_first_row_below:Fun K "first_row_below" "first_row_below" zdF a.f_first_row_below a.d_first_row_below
 b_first_row_below:zbg K a.d_first_row_below ["table","worth","columns"] []
 m_first_row_below:mg "first_row_below"=some (.ref a.f_first_row_below)
 F_is_row:Fun K "is_row" "is_row" zhv a.f_is_row a.d_is_row
 b_is_row:zbg K a.d_is_row ["thing"] []
 m_is_row:mg "is_row"=some (.ref a.f_is_row)
 F_is_table:Fun K "is_table" "is_table" zdE a.f_is_table a.d_is_table
 b_is_table:zbg K a.d_is_table ["thing"] []
 m_is_table:mg "is_table"=some (.ref a.f_is_table)
 F_look_table:Fun K "look_table" "look_table" zef a.f_look_table a.d_look_table
 b_look_table:zbg K a.d_look_table ["table"] []
 m_look_table:mg "look_table"=some (.ref a.f_look_table)
 F_Board___init__:Fun K "__init__" "Board.__init__" zb2 a.f_Board___init__ a.d_Board___init__
 b_Board___init__:zbg K a.d_Board___init__ ["self","grid"] []
 F_Board_entering:zpn K "entering" "Board.entering" zbz a.f_Board_entering a.d_Board_entering a.cd_lam
 b_Board_entering:zbg K a.d_Board_entering ["self"] []
 M_Board_entering:zjd K a.c_Board "entering" a.f_Board_entering
 F_Board_steepest:Fun K "steepest" "Board.steepest" zcJ a.f_Board_steepest a.d_Board_steepest
 b_Board_steepest:zbg K a.d_Board_steepest ["self","columns"] []
 M_Board_steepest:zjd K a.c_Board "steepest" a.f_Board_steepest
 F_Board_steepness:Fun K "steepness" "Board.steepness" zbL a.f_Board_steepness a.d_Board_steepness
 b_Board_steepness:zbg K a.d_Board_steepness ["self","column"] []
 M_Board_steepness:zjd K a.c_Board "steepness" a.f_Board_steepness
 F_Board_leaving:Fun K "leaving" "Board.leaving" zc6 a.f_Board_leaving a.d_Board_leaving
 b_Board_leaving:zbg K a.d_Board_leaving ["self","column"] []
 M_Board_leaving:zjd K a.c_Board "leaving" a.f_Board_leaving
 F_Board_is_sooner:Fun K "is_sooner" "Board.is_sooner" zcm a.f_Board_is_sooner a.d_Board_is_sooner
 b_Board_is_sooner:zbg K a.d_Board_is_sooner ["self","k","best","column"] []
 M_Board_is_sooner:zjd K a.c_Board "is_sooner" a.f_Board_is_sooner
 F_Board_swap:Fun K "swap" "Board.swap" zdf a.f_Board_swap a.d_Board_swap
 b_Board_swap:zbg K a.d_Board_swap ["self","row","column"] []
 M_Board_swap:zjd K a.c_Board "swap" a.f_Board_swap
 F_Board_swapped_row:Fun K "swapped_row" "Board.swapped_row" zbv a.f_Board_swapped_row a.d_Board_swapped_row
 b_Board_swapped_row:zbg K a.d_Board_swapped_row ["self","k","row","column"] []
 M_Board_swapped_row:zjd K a.c_Board "swapped_row" a.f_Board_swapped_row
 F_first_grid:Fun K "first_grid" "first_grid" zb9 a.f_first_grid a.d_first_grid
 b_first_grid:zbg K a.d_first_grid ["table","lift"] []
 m_first_grid:mg "first_grid"=some (.ref a.f_first_grid)
 F_row_weights:Fun K "row_weights" "row_weights" zcT a.f_row_weights a.d_row_weights
 b_row_weights:zbg K a.d_row_weights ["board","many"] []
 m_row_weights:mg "row_weights"=some (.ref a.f_row_weights)
 F_column_weights:Fun K "column_weights" "column_weights" zb4 a.f_column_weights a.d_column_weights
 b_column_weights:zbg K a.d_column_weights ["board","rows","many"] []
 m_column_weights:mg "column_weights"=some (.ref a.f_column_weights)
 F_solved:Fun K "solved" "solved" zg7 a.f_solved a.d_solved
 b_solved:zbg K a.d_solved ["table"] []
 m_solved:mg "solved"=some (.ref a.f_solved)
 F_table_worth:Fun K "table_worth" "table_worth" zdM a.f_table_worth a.d_table_worth
 b_table_worth:zbg K a.d_table_worth ["table"] []
 m_table_worth:mg "table_worth"=some (.ref a.f_table_worth)
 F_table_judged:Fun K "table_judged" "table_judged" zdt a.f_table_judged a.d_table_judged
 b_table_judged:zbg K a.d_table_judged ["table","worth","rows","columns"] []
 m_table_judged:mg "table_judged"=some (.ref a.f_table_judged)
 F_best_rows:Fun K "best_rows" "best_rows" zdS a.f_best_rows a.d_best_rows
 b_best_rows:zbg K a.d_best_rows ["table","columns"] []
 m_best_rows:mg "best_rows"=some (.ref a.f_best_rows)
 F_best_columns:Fun K "best_columns" "best_columns" zcu a.f_best_columns a.d_best_columns
 b_best_columns:zbg K a.d_best_columns ["table","rows"] []
 m_best_columns:mg "best_columns"=some (.ref a.f_best_columns)
 F__law_mix:Fun K "_law_mix" "_law_mix" zgt a.f__law_mix a.d__law_mix
 b__law_mix:zbg K a.d__law_mix ["_law_number","_law_k"] []
 m__law_mix:mg "_law_mix"=some (.ref a.f__law_mix)
 F__law_cell_at:Fun K "_law_cell_at" "_law_cell_at" zdr a.f__law_cell_at a.d__law_cell_at
 b__law_cell_at:zbg K a.d__law_cell_at ["_law_script","_law_k"] []
 m__law_cell_at:mg "_law_cell_at"=some (.ref a.f__law_cell_at)
 F__law_left:Fun K "_law_left" "_law_left" zeY a.f__law_left a.d__law_left
 b__law_left:zbg K a.d__law_left ["_law_script","_law_k"] []
 m__law_left:mg "_law_left"=some (.ref a.f__law_left)
 F__law_draw:Fun K "_law_draw" "_law_draw" ze7 a.f__law_draw a.d__law_draw
 b__law_draw:zbg K a.d__law_draw ["_law_left_here","_law_base"] []
 m__law_draw:mg "_law_draw"=some (.ref a.f__law_draw)
 F__law_thing:Fun K "_law_thing" "_law_thing" zdb a.f__law_thing a.d__law_thing
 b__law_thing:zbg K a.d__law_thing ["_law_left_here"] []
 m__law_thing:mg "_law_thing"=some (.ref a.f__law_thing)
 F__law_is_table:Fun K "_law_is_table" "_law_is_table" zc3 a.f__law_is_table a.d__law_is_table
 b__law_is_table:zbg K a.d__law_is_table ["_law_thing_here"] []
 m__law_is_table:mg "_law_is_table"=some (.ref a.f__law_is_table)
 F__law_refused:Fun K "_law_refused" "_law_refused" zdn a.f__law_refused a.d__law_refused
 b__law_refused:zbg K a.d__law_refused ["_law_thing_here","_law_which"] []
 m__law_refused:mg "_law_refused"=some (.ref a.f__law_refused)
 F_law:Fun K "law" "law" znU a.f_law a.d_law
 b_law:zbg K a.d_law ["_law_script"] []
 m_law:mg "law"=some (.ref a.f_law)
 cl_Board:Cls K a.c_Board
 K_Board:Mk K a.c_Board a.f_Board___init__
 na_Board_grid:zcd K a.c_Board "grid"
 na_Board_scale:zcd K a.c_Board "scale"
 na_Board_idle:zcd K a.c_Board "idle"
 na_Board_busy:zcd K a.c_Board "busy"
 na_Board_stuck:zcd K a.c_Board "stuck"
 hC:PySem.W.CodeHd base a.cd_lam a.p_lam
 hB:base.BuiltinsAt mg a.p_lam
 z_isinstance:mg "isinstance"=none
 z_int:mg "int"=none
 z_bool:mg "bool"=none
 z_list:mg "list"=none
 z_len:mg "len"=none
 z_all:mg "all"=none
 z_sum:mg "sum"=none
 z_min:mg "min"=none
 z_max:mg "max"=none
 z_enumerate:mg "enumerate"=none
 z_range:mg "range"=none
 z_abs:mg "abs"=none
 z_zip:mg "zip"=none
 z_tuple:mg "tuple"=none
 z_ValueError:mg "ValueError"=none
 m_HideError:mg "HideError"=some (.ref a.c_HideError)
 m_NoNumber:mg "NoNumber"=some (.ref a.c_NoNumber)
 m_NoTable:mg "NoTable"=some (.ref a.c_NoTable)
 m_NoBoxes:mg "NoBoxes"=some (.ref a.c_NoBoxes)
 m_NoBudget:mg "NoBudget"=some (.ref a.c_NoBudget)
 m_NoOrder:mg "NoOrder"=some (.ref a.c_NoOrder)
 m_NoWeights:mg "NoWeights"=some (.ref a.c_NoWeights)
 m_TooGreat:mg "TooGreat"=some (.ref a.c_TooGreat)
 m_NoKind:mg "NoKind"=some (.ref a.c_NoKind)
 m_NoTree:mg "NoTree"=some (.ref a.c_NoTree)
 m_NoTurns:mg "NoTurns"=some (.ref a.c_NoTurns)
 m_NoPlay:mg "NoPlay"=some (.ref a.c_NoPlay)
 m_NoRow:mg "NoRow"=some (.ref a.c_NoRow)
 m_NoName:mg "NoName"=some (.ref a.c_NoName)
 m_NoRoad:mg "NoRoad"=some (.ref a.c_NoRoad)
 m_NoWeb:mg "NoWeb"=some (.ref a.c_NoWeb)
 m_NoPlan:mg "NoPlan"=some (.ref a.c_NoPlan)
 m_NoText:mg "NoText"=some (.ref a.c_NoText)
 m_NoPaper:mg "NoPaper"=some (.ref a.c_NoPaper)
 m_Board:mg "Board"=some (.ref a.c_Board)
 m_MOST:mg "MOST"=some (.int 12 a.k_MOST)
 x_HideError:PySem.W.excIn K a.c_HideError zf0 "ValueError.__new__"=true
 x_NoTable:PySem.W.excIn K a.c_NoTable zf0 "ValueError.__new__"=true
 x_NoWeights:PySem.W.excIn K a.c_NoWeights zf0 "ValueError.__new__"=true
 I:Isa K a
def Bd (m:Nat) (x:Int):Prop:=x.natAbs<2 ^ m
theorem Bd.mono {m n:Nat} {x:Int} (h:Bd m x) (l:m≤n):Bd n x:=Nat.lt_of_lt_of_le h (Nat.pow_le_pow_right (by decide) l)
theorem Bd.mul {m n:Nat} {x y:Int} (hx:Bd m x) (hy:Bd n y):Bd (m+n) (x*y):=by
 unfold Bd at *
 rw [Int.natAbs_mul,Nat.pow_add]
 exact Nat.mul_lt_mul'' hx hy
theorem Bd.add {m:Nat} {x y:Int} (hx:Bd m x) (hy:Bd m y):Bd (m+1) (x+y):=by
 unfold Bd at *
 rw [Nat.pow_succ,Nat.mul_two]
 exact Nat.lt_of_le_of_lt (Int.natAbs_add_le x y) (Nat.add_lt_add hx hy)
theorem Bd.le {m:Nat} {x y:Int} (hy:Bd m y) (h:x.natAbs≤y.natAbs):Bd m x:=Nat.lt_of_le_of_lt h hy
def sg (t b:Int):Int:=if b<0 then -(Int.gcd t b:Int) else (Int.gcd t b:Int)
def zrb (t b:Int):Int:=t.fdiv (sg t b)
def zlS (t b:Int):Int:=b.fdiv (sg t b)
theorem zov {t b:Int} (h:b≠0):Int.gcd t b≠0:=fun e=>h (Int.gcd_eq_zero_iff.mp e).2
theorem zn0 {t b:Int} (h:b≠0):sg t b≠0:=by
 have:=zov (t:=t) h
 unfold sg
 split <;> omega
theorem zrE (t b:Int):(sg t b).natAbs=Int.gcd t b:=by
 unfold sg
 split <;> omega
theorem zs7 (t b:Int):sg t b∣t:=by
 unfold sg
 split
 ·exact Int.neg_dvd.mpr (Int.gcd_dvd_left ..)
 ·exact Int.gcd_dvd_left ..
theorem ztw (t b:Int):sg t b∣b:=by
 unfold sg
 split
 ·exact Int.neg_dvd.mpr (Int.gcd_dvd_right ..)
 ·exact Int.gcd_dvd_right ..
theorem zjn {x g:Int} (h:g∣x):x.fdiv g*g=x:=by
 rw [Int.fdiv_eq_ediv_of_dvd h]
 exact Int.ediv_mul_cancel h
theorem zku (t b:Int):zrb t b*sg t b=t:=zjn (zs7 t b)
theorem zhp (t b:Int):zlS t b*sg t b=b:=zjn (ztw t b)
theorem sg_le {t b:Int} (h:b≠0):(sg t b).natAbs≤b.natAbs:=by
 rw [zrE]
 exact Nat.le_of_dvd (by omega) (Int.natAbs_dvd_natAbs.mpr (Int.gcd_dvd_right t b))
theorem zjc {q g x:Int} (h:q*g=x) (hg:g≠0):q.natAbs≤x.natAbs:=by
 rw [← h,Int.natAbs_mul]
 exact Nat.le_mul_of_pos_right _ (by omega)
theorem ztf {t b:Int} (h:b≠0):(zrb t b).natAbs≤t.natAbs:=zjc (zku t b) (zn0 h)
theorem zsJ {t b:Int} (h:b≠0):(zlS t b).natAbs≤b.natAbs:=zjc (zhp t b) (zn0 h)
theorem zng {q g x:Int} (h:q*g=x) (s:(0<x∧0<g)∨(x<0∧g<0)):0<q:=by
 rcases s with ⟨a,c⟩ | ⟨a,c⟩
 ·exact Int.pos_of_mul_pos_left (by rw [h];exact a) c
 ·by_cases z:0<q
  ·exact z
  ·have h1:0≤(-q)*(-g):=Int.mul_nonneg (by omega) (by omega)
   rw [Int.neg_mul_neg,h] at h1
   omega
theorem zp9 {t b:Int} (h:b≠0):0<zlS t b:=by
 refine zng (zhp t b) ?_
 have g:=zov (t:=t) h
 unfold sg
 split <;> omega
theorem zsk {t b:Int} (h:b≠0):Int.gcd (zrb t b) (zlS t b)=1:=by
 have e:Int.gcd (zrb t b*sg t b) (zlS t b*sg t b)=Int.gcd (zrb t b) (zlS t b)*(sg t b).natAbs:=Int.gcd_mul_right ..
 rw [zku,zhp,zrE] at e
 exact Nat.eq_of_mul_eq_mul_right (Nat.pos_of_ne_zero (zov h)) (by rw [Nat.one_mul];exact e.symm)
theorem zoH {t b:Int} (h:b≠0):(Rat.divInt t b).num=zrb t b∧((Rat.divInt t b).den:Int)=zlS t b:=by
 have p:=zp9 (t:=t) h
 have g:=zsk (t:=t) h
 have e2:((zlS t b).toNat:Int)=zlS t b:=by omega
 have nz:(zlS t b).toNat≠0:=by omega
 have red:(zrb t b).natAbs.Coprime (zlS t b).toNat:=by
  have e:(zlS t b).toNat=(zlS t b).natAbs:=by omega
  rw [e]
  exact g
 have e:Rat.divInt t b=⟨zrb t b,(zlS t b).toNat,nz,red⟩:=by
  rw [Rat.mk_eq_divInt,e2,Rat.divInt_eq_divInt_iff h (by omega)]
  have h1:=zku t b
  have h2:=zhp t b
  generalize zrb t b=x at h1 ⊢
  generalize zlS t b=y at h2 ⊢
  rw [← h1,← h2]
  grind
 rw [e]
 exact ⟨rfl,e2⟩
abbrev fr (q:Rat):List L2.V:=[.int q.num,.int (q.den:Int)]
abbrev nf (q:Rat):List Int:=[q.num,(q.den:Int)]
theorem zi1 (q:Rat):(q.den:Int)≠0:=by
 have:=q.den_nz
 omega
theorem zom (p q:Rat):Rat.divInt (p.num*q.den+q.num*p.den) (p.den*q.den)=p+q:=by
 rw [← Rat.divInt_add_divInt _ _ (zi1 p) (zi1 q),Rat.num_divInt_den,Rat.num_divInt_den]
structure Bq (n:Nat) (q:Rat):Prop where
 top:Bd n q.num
 bot:Bd n (q.den:Int)
theorem Bq.mono {m n:Nat} {q:Rat} (h:Bq m q) (l:m≤n):Bq n q:=⟨h.top.mono l,h.bot.mono l⟩
theorem zkC {n:Nat} {t b:Int} (h:b≠0) (ht:Bd n t) (hb:Bd n b):Bq n (Rat.divInt t b):=by
 obtain ⟨e1,e2⟩:=zoH (t:=t) h
 exact ⟨by rw [e1];exact ht.le (ztf h),by rw [e2];exact hb.le (zsJ h)⟩
theorem Bq.add {n:Nat} {p q:Rat} (hp:Bq n p) (hq:Bq n q):Bq (n+n+1) (p+q):=by
 rw [← zom]
 exact zkC (Int.mul_ne_zero (zi1 p) (zi1 q)) ((hp.top.mul hq.bot).add (hq.top.mul hp.bot)) ((hp.bot.mul hq.bot).mono (Nat.le_succ _))
theorem zqm {x y:Int} (hx:0≤x) (hy:0<y):Int.gcd y (x % y)=Int.gcd x y:=by
 obtain ⟨m,rfl⟩:=Int.eq_ofNat_of_zero_le hx
 obtain ⟨n,rfl⟩:=Int.eq_ofNat_of_zero_le (Int.le_of_lt hy)
 rw [← Int.natCast_emod]
 show Nat.gcd n (m % n)=Nat.gcd m n
 rw [Nat.gcd_comm n,← Nat.gcd_rec,Nat.gcd_comm]
theorem znX {x y:Int} (hx:0≤x) (hy:0<y):Int.gcd y (x.fmod y)=Int.gcd x y:=by
 rw [Int.fmod_eq_emod_of_nonneg x (Int.le_of_lt hy)]
 exact zqm hx hy
theorem zre (i:Int):(if i<0 then -i else i)=(i.natAbs:Int):=by
 split <;> omega
theorem znB (u:Int) (h:0≤u):((Int.gcd u 0:Nat):Int)=u:=by
 show ((Nat.gcd u.natAbs 0:Nat):Int)=u
 rw [Nat.gcd_zero_right]
 omega
theorem zur:ztE 10 18:=⟨by decide,by decide,by decide⟩
def zpX:Sp:=fun vs H Q _=>∃ a b:Int,vs=[.int a,.int b]∧Q (.int (Int.gcd a b:Nat)) H
abbrev Box:=Int×Int×Int
abbrev bx (b:Box):List V:=[.int b.1,.int b.2.1,.int b.2.2]
theorem zbU {α β:Type} {f:α→β} {l:List α} {i:Nat} {y:β} (h:(l.map f)[i]?=some y):∃ x,l[i]?=some x∧y=f x:=by
 rw [List.getElem?_map] at h
 obtain ⟨x,h1,h2⟩:=Option.map_eq_some_iff.mp h
 exact ⟨x,h1,h2.symm⟩
def Tps {α:Type} (f:α→List V) (H:Hp) (ts:List Addr) (bs:List α):Prop:=ts.length=bs.length∧∀ (i:Nat) t b,ts[i]?=some t→bs[i]?=some b→H t=some (.tup (f b))
theorem zb8 {α:Type} {l:List α} {i:Nat} {x:α} (e:l[i]?=some x):x∈l:=List.mem_of_getElem? e
def Off (p c:Addr) (H:Hp):Hp:=fun b=>if b=p∨b=c then none else H b
theorem zjt (p c:Addr) (H:Hp):za0 (Off p c H) H:=fun b o h=>by
 unfold Off at h
 split at h
 ·cases h
 ·exact h
theorem zjg {p c b:Addr} {H:Hp} (h1:b≠p) (h2:b≠c):Off p c H b=H b:=if_neg (fun z=>z.elim h1 h2)
theorem zmL {p c b:Addr} {H:Hp} {o:HO} (h:Off p c H b=some o):b≠p∧b≠c:=by
 unfold Off at h
 split at h
 ·cases h
 ·rename_i z
  exact ⟨fun e=>z (.inl e),fun e=>z (.inr e)⟩
theorem zpL {p c:Addr} {H:Hp} {o:HO}:Off p c (upd H p o)=Off p c H:=by
 funext b
 unfold Off upd
 split
 ·rfl
 ·rename_i z
  rw [if_neg fun e=>z (.inl e)]
theorem zhU {p c b:Addr} {H:Hp} {o:HO} (h1:b≠p) (h2:b≠c):Off p c (upd H b o)=upd (Off p c H) b o:=by
 funext x
 unfold Off upd
 by_cases e:x=b
 ·subst e
  rw [if_neg fun z=>z.elim h1 h2,if_pos rfl,if_pos rfl]
 ·rw [if_neg e,if_neg e]
theorem zlU {H:Hp} {p c b:Addr} (hb:H b=none):Off p c H b=none:=by
 unfold Off
 split
 ·rfl
 ·exact hb
theorem zmx {H H':Hp} (p c:Addr) (s:za0 H H'):za0 (Off p c H) (Off p c H'):=fun b o h=>by
 have n:=zmL h
 rw [zjg n.1 n.2] at h ⊢
 exact s _ _ h
def zps:Sp:=fun vs H Q _=>∃ t b:Int,vs=[.int t,.int b]∧b≠0∧Bd 6000 b∧∀ (r:Addr) (H':Hp),za0 H H'→H' r=some (.tup (fr (Rat.divInt t b)))→Q (.ref r) H'
theorem zrq {t b:Int} (h:b≠0) (hb:Bd 6000 b):(sg t b).natAbs.log2<9000:=zmJ 6000 (zn0 h) (hb.le (sg_le h))
def zmw (K:PySem.W.Frag):Sp:=fun vs H Q _=>∃ (p:Addr) (x:Int),vs=[.ref p,.int 0]∧H p=some (.lst [.int x])∧Q (.int x) H
theorem zjT {K:PySem.W.Frag}:PySem.W.kitOne K (.type "bool") (.type "bool")=some true:=rfl
theorem zdO {K:PySem.W.Frag} {H:Hp} {Q:VK} {r:Addr} {xs:List V} (h:H r=some (.lst xs)) (q:Q (.bl true) H):zgW K [.ref r,.ty "list"] H Q:=⟨_,_,_,_,true,rfl,rfl,.of (.lst h),rfl,q⟩
def S:Nat→(Nat→Int)→Int
 | 0,_=>0
 | n+1,f=>S n f+f n
theorem zbp {f g:Nat→Int}:∀ n,(∀ k,k<n→f k=g k)→S n f=S n g
 | 0,_=>rfl
 | n+1,h=>by show S n f+f n=S n g+g n;rw [zbp n fun k hk=>h k (by omega),h n (by omega)]
theorem zkd (α β:Int) (f g:Nat→Int):∀ n,S n (fun k=>α*f k+β*g k)=α*S n f+β*S n g
 | 0=>by simp [S]
 | n+1=>by
  show S n (fun k=>α*f k+β*g k)+_=α*(S n f+f n)+β*(S n g+g n)
  rw [zkd α β f g n]
  grind
theorem zkD (α:Int) (f:Nat→Int) (n:Nat):S n (fun k=>α*f k)=α*S n f:=by
 have:=zkd α 0 f f n
 rw [zbp (g:=fun k=>α*f k) n (fun k _=>by grind)] at this
 grind
theorem zim {f:Nat→Int}:∀ n,(∀ k,k<n→f k=0)→S n f=0
 | 0,_=>rfl
 | n+1,h=>by show S n f+f n=0;rw [zim n fun k hk=>h k (by omega),h n (by omega)];rfl
theorem zlc {f:Nat→Int} {r:Nat}:∀ n,r<n→(∀ k,k<n→k≠r→f k=0)→S n f=f r
 | 0,h,_=>absurd h (Nat.not_lt_zero r)
 | n+1,h,z=>by
  show S n f+f n=f r
  by_cases e:r=n
  ·subst e
   rw [zim r fun k hk=>z k (by omega) (by omega)]
   omega
  ·rw [zlc n (by omega) fun k hk=>z k (by omega),z n (by omega) (fun q=>e q.symm)]
   omega
theorem zez {f:Nat→Int}:∀ n,(∀ k,k<n→0≤f k)→0≤S n f
 | 0,_=>Int.le_refl 0
 | n+1,h=>by
  have:=zez n fun k hk=>h k (by omega)
  have:=h n (by omega)
  show 0≤S n f+f n
  omega
theorem zqT {f:Nat→Int} {n:Nat} (h:0<S n f):∃ k,k<n∧0<f k:=by
 refine Classical.byContradiction fun no=>?_
 have:0≤S n fun k=>(-1)*f k:=zez n fun k hk=>by
  have:=not_exists.mp no k
  have:¬ 0<f k:=fun q=>this ⟨hk,q⟩
  omega
 rw [zkD] at this
 omega
def wdg (v:Nat→Int):(List Nat→Int)→List Nat→Int
 | _,[]=>0
 | w,a::T=>v a*w T - wdg v (fun R=>w (a::R)) T
theorem znC (v:Nat→Int) (α β:Int):∀ (T:List Nat) (w u:List Nat→Int),wdg v (fun R=>α*w R+β*u R) T=α*wdg v w T+β*wdg v u T
 | [],_,_=>by simp [wdg]
 | a::T,w,u=>by
  show v a*(α*w T+β*u T) - wdg v (fun R=>α*w (a::R)+β*u (a::R)) T=α*(v a*w T - wdg v (fun R=>w (a::R)) T)+β*(v a*u T - wdg v (fun R=>u (a::R)) T)
  rw [znC v α β T]
  grind
theorem zqQ (α β:Int) (u v:Nat→Int):∀ (T:List Nat) (w:List Nat→Int),wdg (fun j=>α*u j+β*v j) w T=α*wdg u w T+β*wdg v w T
 | [],_=>by simp [wdg]
 | a::T,w=>by
  show (α*u a+β*v a)*w T - wdg (fun j=>α*u j+β*v j) (fun R=>w (a::R)) T=α*(u a*w T - wdg u (fun R=>w (a::R)) T)+β*(v a*w T - wdg v (fun R=>w (a::R)) T)
  rw [zqQ α β u v T]
  grind
theorem zlo (v:Nat→Int):∀ (T:List Nat) (w:List Nat→Int),wdg v (wdg v w) T=0
 | [],_=>rfl
 | a::T,w=>by
  show v a*wdg v w T - wdg v (fun R=>v a*w R - wdg v (fun Q=>w (a::Q)) R) T=0
  have e:(fun R=>v a*w R - wdg v (fun Q=>w (a::Q)) R)=fun R=>v a*w R+(-1)*wdg v (fun Q=>w (a::Q)) R:=funext fun R=>by grind
  rw [e,znC,zlo v T]
  grind
theorem zpG (u v:Nat→Int) (T:List Nat) (w:List Nat→Int):wdg u (wdg v w) T=- wdg v (wdg u w) T:=by
 have h:=zlo (fun j=>1*u j+1*v j) T w
 have e:wdg (fun j=>1*u j+1*v j) w=fun R=>1*wdg u w R+1*wdg v w R:=funext fun R=>zqQ 1 1 u v R w
 rw [e,zqQ,znC,znC,zlo,zlo] at h
 grind
theorem zmH (v:Nat→Int) (T:List Nat):wdg v (fun _=>0) T=0:=by
 have:=znC v 0 0 T (fun _=>0) (fun _=>0)
 simpa using this
def W:Nat→(Nat→Nat→Int)→List Nat→Int
 | 0,_=>fun T=>if T=[] then 1 else 0
 | k+1,cs=>wdg (cs k) (W k cs)
def zbt (cs:Nat→Nat→Int) (r:Nat) (v:Nat→Int):Nat→Nat→Int:=fun k=>if k=r then v else cs k
theorem zbb {cs:Nat→Nat→Int} {r:Nat} {v:Nat→Int}:zbt cs r v r=v:=if_pos rfl
theorem zbw {cs:Nat→Nat→Int} {r k:Nat} {v:Nat→Int} (h:k≠r):zbt cs r v k=cs k:=if_neg h
theorem zfQ {cs:Nat→Nat→Int} {r:Nat}:zbt cs r (cs r)=cs:=funext fun k=>by
 by_cases e:k=r
 ·rw [e,zbb]
 ·rw [zbw e]
theorem zfD {cs:Nat→Nat→Int} {r l:Nat} {u v:Nat→Int} (h:r≠l):zbt (zbt cs r u) l v=zbt (zbt cs l v) r u:=funext fun k=>by
 by_cases e:k=r
 ·subst e
  rw [zbw h,zbb,zbb]
 ·by_cases e2:k=l
  ·subst e2
   rw [zbb,zbw e,zbb]
  ·rw [zbw e2,zbw e,zbw e,zbw e2]
theorem zjK {cs cs':Nat→Nat→Int}:∀ M,(∀ k,k<M→cs k=cs' k)→W M cs=W M cs'
 | 0,_=>rfl
 | M+1,h=>by show wdg (cs M) (W M cs)=wdg (cs' M) (W M cs');rw [h M (by omega),zjK M fun k hk=>h k (by omega)]
theorem znA (α β:Int) {cs:Nat→Nat→Int} {r:Nat} {u v:Nat→Int}:∀ M,r<M→W M (zbt cs r fun j=>α*u j+β*v j)=fun T=>α*W M (zbt cs r u) T+β*W M (zbt cs r v) T
 | 0,h=>absurd h (Nat.not_lt_zero r)
 | M+1,h=>funext fun T=>by
  show wdg (zbt cs r (fun j=>α*u j+β*v j) M) (W M (zbt cs r fun j=>α*u j+β*v j)) T=α*wdg (zbt cs r u M) (W M (zbt cs r u)) T+β*wdg (zbt cs r v M) (W M (zbt cs r v)) T
  by_cases e:r=M
  ·subst e
   have low:∀ x,W r (zbt cs r x)=W r cs:=fun x=>zjK r fun k hk=>zbw (by omega)
   rw [low,low,low,zbb,zbb,zbb,zqQ]
  ·have ne:M≠r:=fun q=>e q.symm
   rw [zbw ne,zbw ne,zbw ne,znA α β M (by omega),znC]
theorem W_nil {cs:Nat→Nat→Int} {r M:Nat} (h:r<M) (T:List Nat):W M (zbt cs r fun _=>0) T=0:=by
 have:=congrFun (znA 0 0 (cs:=cs) (u:=fun _=>0) (v:=fun _=>0) M h) T
 simpa using this
theorem zs1 (α:Int) {cs:Nat→Nat→Int} {r:Nat} {u:Nat→Int} {M:Nat} (h:r<M) (T:List Nat):W M (zbt cs r fun j=>α*u j) T=α*W M (zbt cs r u) T:=by
 have:=congrFun (znA α 0 (cs:=cs) (u:=u) (v:=u) M h) T
 simpa using this
theorem W_S {cs:Nat→Nat→Int} {r M:Nat} (h:r<M) (a:Nat→Int) (x:Nat→Nat→Int) (T:List Nat):∀ N,W M (zbt cs r fun j=>S N fun k=>a k*x k j) T=S N fun k=>a k*W M (zbt cs r (x k)) T
 | 0=>W_nil h T
 | N+1=>by
  show W M (zbt cs r fun j=>(S N fun k=>a k*x k j)+a N*x N j) T=(S N fun k=>a k*W M (zbt cs r (x k)) T)+a N*W M (zbt cs r (x N)) T
  have:=congrFun (znA 1 (a N) (cs:=cs) (u:=fun j=>S N fun k=>a k*x k j) (v:=x N) M h) T
  rw [W_S h a x T N] at this
  simpa using this
theorem zrm {cs:Nat→Nat→Int} {v:Nat→Int} {r:Nat} (e:cs r=v):∀ N,r<N→∀ T,wdg v (W N cs) T=0
 | 0,h,_=>absurd h (Nat.not_lt_zero r)
 | N+1,h,T=>by
  show wdg v (wdg (cs N) (W N cs)) T=0
  by_cases q:r=N
  ·subst q
   rw [e,zlo]
  ·rw [zpG,show wdg v (W N cs)=fun _=>0 from funext fun R=>zrm e N (by omega) R,zmH]
   rfl
theorem zsX {cs:Nat→Nat→Int} {r l:Nat} (e:cs r=cs l) (h:r<l):∀ M,l<M→∀ T,W M cs T=0
 | 0,q,_=>absurd q (Nat.not_lt_zero l)
 | M+1,q,T=>by
  show wdg (cs M) (W M cs) T=0
  by_cases z:l=M
  ·subst z
   exact zrm e l h T
  ·rw [show W M cs=fun _=>0 from funext fun R=>zsX e h M (by omega) R,zmH]
theorem zlC {cs:Nat→Nat→Int} {r l M:Nat} (e:cs r=cs l) (h:r≠l) (h1:r<M) (h2:l<M) (T:List Nat):W M cs T=0:=by
 by_cases q:r<l
 ·exact zsX e q M h2 T
 ·exact zsX e.symm (by omega) M h1 T
theorem zt8 {cs:Nat→Nat→Int} {r l M:Nat} {u v:Nat→Int} (h:r≠l) (h1:r<M) (h2:l<M) (T:List Nat):W M (zbt (zbt cs r u) l v) T=- W M (zbt (zbt cs r v) l u) T:=by
 have z:∀ x:Nat→Int,W M (zbt (zbt cs r x) l x) T=0:=fun x=>zlC (r:=r) (l:=l) (by rw [zbw h,zbb,zbb]) h h1 h2 T
 have L2:∀ y:Nat→Int,W M (zbt (zbt cs r y) l fun j=>1*u j+1*v j) T=W M (zbt (zbt cs r y) l u) T+W M (zbt (zbt cs r y) l v) T:=fun y=>by
  have:=congrFun (znA 1 1 (cs:=zbt cs r y) (r:=l) (u:=u) (v:=v) M h2) T
  simpa using this
 have L1:∀ y:Nat→Int,W M (zbt (zbt cs r fun j=>1*u j+1*v j) l y) T=W M (zbt (zbt cs r u) l y) T+W M (zbt (zbt cs r v) l y) T:=fun y=>by
  have:=congrFun (znA 1 1 (cs:=zbt cs l y) (r:=r) (u:=u) (v:=v) M h1) T
  rw [zfD h,zfD h,zfD h]
  simpa using this
 have q:=z fun j=>1*u j+1*v j
 rw [L2,L1,L1,z,z] at q
 omega
def dn:Nat→List Nat
 | 0=>[]
 | n+1=>n::dn n
theorem zs6:∀ (n a:Nat),a∈dn n→a<n
 | 0,_,h=>nomatch h
 | n+1,a,h=>by
  rcases List.mem_cons.mp h with rfl | h
  ·omega
  ·have:=zs6 n a h
   omega
theorem zfL:∀ n,(dn n).length=n
 | 0=>rfl
 | n+1=>by rw [dn,List.length_cons,zfL n]
theorem zof {v:Nat→Int}:∀ (T:List Nat) (w:List Nat→Int),(∀ a∈T,v a=0)→wdg v w T=0
 | [],_,_=>rfl
 | a::T,w,h=>by
  show v a*w T - wdg v (fun R=>w (a::R)) T=0
  rw [zof T _ fun b hb=>h b (List.mem_cons_of_mem _ hb),h a List.mem_cons_self]
  omega
theorem W_id {cs:Nat→Nat→Int}:∀ M,(∀ k j,k<M→j<M→cs k j=if j=k then 1 else 0)→W M cs (dn M)=1
 | 0,_=>rfl
 | M+1,h=>by
  show cs M M*W M cs (dn M) - wdg (cs M) (fun R=>W M cs (M::R)) (dn M)=1
  rw [zof (dn M) _ fun a ha=>(h M a (by omega) (by have:=zs6 M a ha;omega)).trans (if_neg (by have:=zs6 M a ha;omega)),h M M (by omega) (by omega),if_pos rfl,W_id M fun k j h1 h2=>h k j (by omega) (by omega)]
  rfl
def fct:Nat→Nat
 | 0=>1
 | n+1=>(n+1)*fct n
theorem zrx {v:Nat→Int} {V B:Nat} (hv:∀ j,(v j).natAbs≤V):∀ (T:List Nat) (w:List Nat→Int),(∀ R:List Nat,R.length+1=T.length→(w R).natAbs≤B)→(wdg v w T).natAbs≤T.length*(V*B)
 | [],_,_=>Nat.zero_le _
 | a::T,w,h=>by
  show (v a*w T - wdg v (fun R=>w (a::R)) T).natAbs≤(T.length+1)*(V*B)
  have h1:(wdg v (fun R=>w (a::R)) T).natAbs≤T.length*(V*B):=zrx hv T _ fun R hR=>h (a::R) (by rw [List.length_cons,List.length_cons,hR])
  have h2:(v a*w T).natAbs≤V*B:=by
   rw [Int.natAbs_mul]
   exact Nat.mul_le_mul (hv a) (h T (by rw [List.length_cons]))
  have h3:=Int.natAbs_sub_le (v a*w T) (wdg v (fun R=>w (a::R)) T)
  rw [Nat.add_mul,Nat.one_mul]
  omega
theorem W_le {cs:Nat→Nat→Int} {V:Nat} (hv:∀ k j,(cs k j).natAbs≤V):∀ (M:Nat) (T:List Nat),T.length=M→(W M cs T).natAbs≤fct M*V ^ M
 | 0,T,h=>by
  show ((if T=[] then 1 else 0:Int)).natAbs≤1
  split <;> decide
 | M+1,T,h=>by
  have:=zrx (hv M) (B:=fct M*V ^ M) T (W M cs) fun R hR=>W_le hv M R (by omega)
  show (wdg (cs M) (W M cs) T).natAbs≤(M+1)*fct M*V ^ (M+1)
  rw [h] at this
  refine Nat.le_trans this (Nat.le_of_eq ?_)
  rw [Nat.pow_succ]
  grind
structure Sx where
 g:Nat→Nat→Int
 d:Int
 bs:Nat→Nat
 id:Nat→Nat
def zkt (f:Nat→Nat) (k x:Nat):Nat→Nat:=fun j=>if j=k then x else f j
theorem zcB {f:Nat→Nat} {k x:Nat}:zkt f k x k=x:=if_pos rfl
theorem zdu {f:Nat→Nat} {k x j:Nat} (h:j≠k):zkt f k x j=f j:=if_neg h
def piv (t:Sx) (r c:Nat):Sx where
 g:=fun k j=>if k=r then (if j=c then t.d else t.g r j) else if j=c then - t.g k c else (t.g r c*t.g k j - t.g k c*t.g r j).fdiv t.d
 d:=t.g r c
 bs:=zkt t.bs r (t.id c)
 id:=zkt t.id c (t.bs r)
section
variable (m n:Nat) (vec:Nat→Nat→Int)
abbrev Dt (cs:Nat→Nat→Int):Int:=W (m+1) cs (dn (m+1))
structure Tok (t:Sx):Prop where
 pos:0<t.d
 lin:∀ c,c≤n→∀ j,t.d*vec (t.id c) j=S (m+1) fun k=>t.g k c*vec (t.bs k) j
 det:t.d=Dt m fun k=>vec (t.bs k)
end
section
variable {m n:Nat} {vec:Nat→Nat→Int}
theorem Tok.ent {t:Sx} (h:Tok m n vec t) {k c:Nat} (hk:k≤m) (hc:c≤n):t.g k c=Dt m (zbt (fun k=>vec (t.bs k)) k (vec (t.id c))):=by
 have e1:Dt m (zbt (fun k=>vec (t.bs k)) k fun j=>t.d*vec (t.id c) j)=t.d*Dt m (zbt (fun k=>vec (t.bs k)) k (vec (t.id c))):=zs1 _ (by omega) _
 have e2:(fun j=>t.d*vec (t.id c) j)=fun j=>S (m+1) fun l=>t.g l c*vec (t.bs l) j:=funext (h.lin c hc)
 have e3:Dt m (zbt (fun k=>vec (t.bs k)) k fun j=>S (m+1) fun l=>t.g l c*vec (t.bs l) j)=S (m+1) fun l=>t.g l c*Dt m (zbt (fun k=>vec (t.bs k)) k (vec (t.bs l))) :=
  W_S (by omega) (fun l=>t.g l c) (fun l=>vec (t.bs l)) _ _
 rw [e2,e3,zlc (m+1) (r:=k) (by omega) fun l hl ne=>?_] at e1
 ·have self:zbt (fun k=>vec (t.bs k)) k (vec (t.bs k))=fun k=>vec (t.bs k):=zfQ (cs:=fun k=>vec (t.bs k))
  rw [self,← h.det,Int.mul_comm] at e1
  exact Int.eq_of_mul_eq_mul_left (Int.ne_of_gt h.pos) e1
 ·have:Dt m (zbt (fun k=>vec (t.bs k)) k (vec (t.bs l)))=0:=zlC (r:=l) (l:=k) (by rw [zbw ne,zbb]) ne hl (by omega) _
  rw [this,Int.mul_zero]
theorem Tok.exact {t:Sx} (h:Tok m n vec t) {r c k j:Nat} (hr:r≤m) (hc:c≤n) (hk:k≤m) (hj:j≤n) (ne:k≠r) :
  t.d*Dt m (zbt (zbt (fun k=>vec (t.bs k)) r (vec (t.id c))) k (vec (t.id j)))=t.g r c*t.g k j - t.g k c*t.g r j:=by
 have e1:Dt m (zbt (zbt (fun k=>vec (t.bs k)) r (vec (t.id c))) k fun i=>t.d*vec (t.id j) i)=t.d*Dt m (zbt (zbt (fun k=>vec (t.bs k)) r (vec (t.id c))) k (vec (t.id j))):=zs1 _ (by omega) _
 have e2:(fun i=>t.d*vec (t.id j) i)=fun i=>S (m+1) fun l=>t.g l j*vec (t.bs l) i:=funext (h.lin j hj)
 have e3:Dt m (zbt (zbt (fun k=>vec (t.bs k)) r (vec (t.id c))) k fun i=>S (m+1) fun l=>t.g l j*vec (t.bs l) i)=S (m+1) fun l=>t.g l j*Dt m (zbt (zbt (fun k=>vec (t.bs k)) r (vec (t.id c))) k (vec (t.bs l))) :=
  W_S (by omega) (fun l=>t.g l j) (fun l=>vec (t.bs l)) _ _
 rw [e2,e3] at e1
 have z:∀ l,l<m+1→l≠k→l≠r→Dt m (zbt (zbt (fun k=>vec (t.bs k)) r (vec (t.id c))) k (vec (t.bs l)))=0:=fun l hl n1 n2 =>
  zlC (r:=l) (l:=k) (by rw [zbw n1,zbw n2,zbb]) n1 hl (by omega) _
 have zk:Dt m (zbt (zbt (fun k=>vec (t.bs k)) r (vec (t.id c))) k (vec (t.bs k)))=t.g r c:=by
  rw [zfD (Ne.symm ne),show zbt (fun k=>vec (t.bs k)) k (vec (t.bs k))=fun k=>vec (t.bs k) from zfQ (cs:=fun k=>vec (t.bs k)),← h.ent hr hc]
 have zr:Dt m (zbt (zbt (fun k=>vec (t.bs k)) r (vec (t.id c))) k (vec (t.bs r)))=- t.g k c:=by
  have:=zt8 (cs:=fun k=>vec (t.bs k)) (u:=vec (t.id c)) (v:=vec (t.bs r)) (M:=m+1) (Ne.symm ne) (by omega) (by omega) (dn (m+1))
  rw [show Dt m (zbt (zbt (fun k=>vec (t.bs k)) r (vec (t.id c))) k (vec (t.bs r)))=_ from this,show zbt (fun k=>vec (t.bs k)) r (vec (t.bs r))=fun k=>vec (t.bs k) from zfQ (cs:=fun k=>vec (t.bs k))]
  exact congrArg (fun z:Int=>-z) (h.ent hk hc).symm
 have two:(S (m+1) fun l=>t.g l j*Dt m (zbt (zbt (fun k=>vec (t.bs k)) r (vec (t.id c))) k (vec (t.bs l))))=t.g k j*t.g r c+t.g r j*(- t.g k c):=by
  have sp:(S (m+1) fun l=>t.g l j*Dt m (zbt (zbt (fun k=>vec (t.bs k)) r (vec (t.id c))) k (vec (t.bs l))))=S (m+1) fun l=>1*(if l=k then t.g k j*t.g r c else 0)+1*(if l=r then t.g r j*(- t.g k c) else 0):=zbp _ fun l hl=>by
   by_cases a:l=k
   ·subst a
    rw [if_pos rfl,if_neg ne,zk]
    omega
   ·by_cases b:l=r
    ·subst b
     rw [if_neg a,if_pos rfl,zr]
     omega
    ·rw [if_neg a,if_neg b,z l hl a b]
     omega
  rw [sp,zkd,zlc (m+1) (r:=k) (by omega) fun l _ nl=>if_neg nl,zlc (m+1) (r:=r) (by omega) fun l _ nl=>if_neg nl,if_pos rfl,if_pos rfl]
  omega
 rw [two] at e1
 rw [← e1]
 grind
theorem zqb {t:Sx} (h:Tok m n vec t) {r c k j:Nat} (hr:r≤m) (hc:c≤n) (hk:k≤m) (hj:j≤n) (n1:k≠r) (n2:j≠c):t.d*(piv t r c).g k j=t.g r c*t.g k j - t.g k c*t.g r j:=by
 show t.d*(if k=r then (if j=c then t.d else t.g r j) else if j=c then - t.g k c else (t.g r c*t.g k j - t.g k c*t.g r j).fdiv t.d)=_
 rw [if_neg n1,if_neg n2,← h.exact hr hc hk hj n1,Int.mul_fdiv_cancel_left _ (Int.ne_of_gt h.pos)]
theorem zpE {t:Sx} {r c j:Nat} (n2:j≠c):(piv t r c).g r j=t.g r j:=by
 show (if r=r then (if j=c then t.d else t.g r j) else _)=_
 rw [if_pos rfl,if_neg n2]
theorem zuy {t:Sx} {r c k:Nat} (n1:k≠r):(piv t r c).g k c=- t.g k c:=by
 show (if k=r then (if c=c then t.d else t.g r c) else if c=c then - t.g k c else _)=_
 rw [if_neg n1,if_pos rfl]
theorem zrs {t:Sx} {r c:Nat}:(piv t r c).g r c=t.d:=by
 show (if r=r then (if c=c then t.d else t.g r c) else _)=_
 rw [if_pos rfl,if_pos rfl]
theorem zqs {f:Nat→Int} {r:Nat}:∀ n,r<n→S n f=f r+S n fun k=>if k=r then 0 else f k:=fun n h=>by
 have e:S n f=S n fun k=>1*(if k=r then f r else 0)+1*(if k=r then 0 else f k):=zbp n fun k _=>by
  by_cases q:k=r
  ·rw [if_pos q,if_pos q,q];omega
  ·rw [if_neg q,if_neg q];omega
 rw [e,zkd,zlc n h fun k _ nk=>if_neg nk,if_pos rfl]
 omega
theorem Tok.piv {t:Sx} (h:Tok m n vec t) {r c:Nat} (hr:r≤m) (hc:c≤n) (hp:0<t.g r c):Tok m n vec (piv t r c):=by
 refine ⟨hp,fun j hj i=>?_,?_⟩
 ·have E:=h.lin
  have sum:∀ x:Nat,(S (m+1) fun k=>(My.piv t r c).g k x*vec ((My.piv t r c).bs k) i)=(My.piv t r c).g r x*vec (t.id c) i+S (m+1) fun k=>if k=r then 0 else (My.piv t r c).g k x*vec (t.bs k) i:=fun x=>by
   rw [zqs (m+1) (r:=r) (by omega)]
   refine congr (congrArg _ ?_) (zbp _ fun k _=>?_)
   ·show _*vec (zkt t.bs r (t.id c) r) i=_
    rw [zcB]
   ·by_cases q:k=r
    ·rw [if_pos q,if_pos q]
    ·rw [if_neg q,if_neg q]
     show _*vec (zkt t.bs r (t.id c) k) i=_
     rw [zdu q]
  rw [sum]
  have ec:=E c hc i
  rw [zqs (m+1) (r:=r) (by omega)] at ec
  show t.g r c*vec (zkt t.id c (t.bs r) j) i=_
  by_cases q:j=c
  ·subst q
   rw [zcB,zrs]
   have:(S (m+1) fun k=>if k=r then 0 else (My.piv t r j).g k j*vec (t.bs k) i)=S (m+1) fun k=>(-1)*(if k=r then 0 else t.g k j*vec (t.bs k) i):=zbp _ fun k _=>by
    by_cases q:k=r
    ·rw [if_pos q,if_pos q];rfl
    ·rw [if_neg q,if_neg q,zuy q];grind
   rw [this,zkD]
   grind
  ·rw [zdu q,zpE q]
   have ej:=E j hj i
   rw [zqs (m+1) (r:=r) (by omega)] at ej
   have k1:t.d*(S (m+1) fun k=>if k=r then 0 else (My.piv t r c).g k j*vec (t.bs k) i)=t.g r c*(S (m+1) fun k=>if k=r then 0 else t.g k j*vec (t.bs k) i)+(- t.g r j)*(S (m+1) fun k=>if k=r then 0 else t.g k c*vec (t.bs k) i):=by
    rw [← zkD,← zkd]
    refine zbp _ fun k hk=>?_
    by_cases q2:k=r
    ·simp only [if_pos q2];omega
    ·simp only [if_neg q2]
     have:=zqb h hr hc (k:=k) (j:=j) (by omega) hj q2 q
     rw [← Int.mul_assoc,this]
     grind
   refine Int.eq_of_mul_eq_mul_left (Int.ne_of_gt h.pos) ?_
   rw [Int.mul_add,k1]
   grind
 ·show t.g r c=Dt m fun k=>vec (zkt t.bs r (t.id c) k)
  rw [h.ent hr hc]
  refine congrArg (fun cs=>Dt m cs) (funext fun k=>?_)
  by_cases q:k=r
  ·rw [q,zbb,zcB]
  ·rw [zbw q,zdu q]
section
variable (m n:Nat) (vec:Nat→Nat→Int)
structure Fea (t:Sx):Prop where
 tok:Tok m n vec t
 bm:t.bs m=n+m
 idn:t.id n=n+m+1
 bl:∀ k,k<m→t.bs k<n+m
 il:∀ c,c<n→t.id c<n+m
 cov:∀ q,q<n+m→(∃ k,k<m∧t.bs k=q)∨∃ c,c<n∧t.id c=q
 fea:∀ k,k<m→0≤t.g k n
structure Stp (t:Sx) (s:Bool) (r c:Nat):Prop where
 hr:r<m
 hc:c<n
 neg:t.g m c<0
 pos:0<t.g r c
 lv:∀ k,k<m→0<t.g k c→t.g r n*t.g k c<t.g k n*t.g r c∨(t.g r n*t.g k c=t.g k n*t.g r c∧t.bs r≤t.bs k)
 bl:s=true→∀ j,j<n→t.g m j<0→t.id c≤t.id j
def rc (t:Sx) (q:Nat):Int:=Dt m (zbt (fun k=>vec (t.bs k)) m (vec q))
end
theorem zii {t:Sx} {k:Nat} (hk:k<m):rc m vec t (t.bs k)=0 :=
 zlC (r:=k) (l:=m) (by rw [zbw (by omega),zbb]) (by omega) (by omega) (by omega) _
theorem zf2 {t:Sx} (h:Tok m n vec t) {c:Nat} (hc:c≤n):rc m vec t (t.id c)=t.g m c:=(h.ent (Nat.le_refl m) hc).symm
theorem zrn {t:Sx} (h:Tok m n vec t):rc m vec t (t.bs m)=t.d:=by
 unfold rc
 rw [h.det,show zbt (fun k=>vec (t.bs k)) m (vec (t.bs m))=fun k=>vec (t.bs k) from zfQ (cs:=fun k=>vec (t.bs k))]
theorem zu0 {t t':Sx} (h:Tok m n vec t) {c:Nat} (hc:c≤n):t.d*rc m vec t' (t.id c)=S (m+1) fun k=>t.g k c*rc m vec t' (t.bs k):=by
 unfold rc
 rw [← zs1 t.d (by omega),← W_S (by omega) (fun k=>t.g k c) (fun k=>vec (t.bs k)),show (fun j=>t.d*vec (t.id c) j)=fun j=>S (m+1) fun k=>t.g k c*vec (t.bs k) j from funext (h.lin c hc)]
theorem Tok.inj {t:Sx} (h:Tok m n vec t) {k l:Nat} (hk:k≤m) (hl:l≤m) (e:t.bs k=t.bs l):k=l:=by
 refine Classical.byContradiction fun ne=>?_
 have z:Dt m (fun k=>vec (t.bs k))=0:=zlC (r:=k) (l:=l) (by rw [e]) ne (by omega) (by omega) _
 have:=h.pos
 rw [h.det,z] at this
 omega
theorem Fea.piv {t:Sx} {s:Bool} {r c:Nat} (F:Fea m n vec t) (h:Stp m n t s r c):Fea m n vec (piv t r c):=by
 have hr:=h.hr
 have hc:=h.hc
 refine ⟨F.tok.piv (by omega) (by omega) h.pos,?_,?_,fun k hk=>?_,fun k hk=>?_,fun q hq=>?_,fun k hk=>?_⟩
 ·show zkt t.bs r (t.id c) m=_
  rw [zdu (by omega),F.bm]
 ·show zkt t.id c (t.bs r) n=_
  rw [zdu (by omega),F.idn]
 ·show zkt t.bs r (t.id c) k<_
  by_cases q:k=r
  ·rw [q,zcB];exact F.il c hc
  ·rw [zdu q];exact F.bl k hk
 ·show zkt t.id c (t.bs r) k<_
  by_cases q:k=c
  ·rw [q,zcB];exact F.bl r hr
  ·rw [zdu q];exact F.il k hk
 ·rcases F.cov q hq with ⟨k,hk,e⟩ | ⟨j,hj,e⟩
  ·by_cases z:k=r
   ·subst z
    exact .inr ⟨c,hc,by show zkt t.id c (t.bs k) c=q;rw [zcB,e]⟩
   ·exact .inl ⟨k,hk,by show zkt t.bs r (t.id c) k=q;rw [zdu z,e]⟩
  ·by_cases z:j=c
   ·subst z
    exact .inl ⟨r,hr,by show zkt t.bs r (t.id j) r=q;rw [zcB,e]⟩
   ·exact .inr ⟨j,hj,by show zkt t.id c (t.bs r) j=q;rw [zdu z,e]⟩
 ·by_cases z:k=r
  ·subst z
   rw [zpE (by omega)]
   exact F.fea k hk
  ·have e:=zqb F.tok (by omega) (by omega) (k:=k) (j:=n) (by omega) (Nat.le_refl n) z (by omega:n≠c)
   have p:=F.tok.pos
   have b1:=F.fea k hk
   have b2:=F.fea r hr
   have hp:=h.pos
   have:0≤t.d*(My.piv t r c).g k n:=by
    rw [e]
    by_cases q:0<t.g k c
    ·have l:=h.lv k hk q
     have:t.g r n*t.g k c≤t.g k n*t.g r c:=by
      rcases l with l | l
      ·exact Int.le_of_lt l
      ·exact Int.le_of_eq l.1
     rw [Int.mul_comm (t.g r c),Int.mul_comm (t.g k c)]
     omega
    ·have h1:0≤t.g r c*t.g k n:=Int.mul_nonneg (Int.le_of_lt hp) b1
     have h2:0≤(- t.g k c)*t.g r n:=Int.mul_nonneg (by omega) b2
     rw [Int.neg_mul] at h2
     omega
   exact Int.nonneg_of_mul_nonneg_right this p
theorem zmr {t t':Sx} {c' tn:Nat} (F':Fea m n vec t') (hb:∀ j,j<n→t'.g m j<0→tn≤t'.id j) {q:Nat} (hq:q<n+m) (lt:q<tn):0≤rc m vec t' q:=by
 rcases F'.cov q hq with ⟨k,hk,rfl⟩ | ⟨j,hj,rfl⟩
 ·rw [zii hk];exact Int.le_refl 0
 ·rw [zf2 F'.tok (by omega)]
  refine Classical.byContradiction fun no=>?_
  have:=hb j hj (by omega)
  omega
theorem bland {t t':Sx} {s:Bool} {r c c':Nat} (F:Fea m n vec t) (F':Fea m n vec t') (h:Stp m n t s r c) (hc':c'<n) (e:t'.id c'=t.bs r) (ng:t'.g m c'<0)
  (hb:∀ j,j<n→t'.g m j<0→t.bs r≤t'.id j) (hs:t.id c<t.bs r) (hq:∀ k,k<m→t.bs k≠t'.bs k→t.bs k≤t.bs r∧t.g k n=0):False:=by
 have hr:=h.hr
 have hc:=h.hc
 have E:=zu0 (t:=t) (t':=t') F.tok (c:=c) (by omega)
 have E':(S (m+1) fun k=>t.g k c*rc m vec t' (t.bs k))=(S m fun k=>t.g k c*rc m vec t' (t.bs k))+t.g m c*rc m vec t' (t.bs m):=rfl
 have top:rc m vec t' (t.bs m)=t'.d:=by rw [F.bm,← F'.bm,zrn F'.tok]
 rw [E',top] at E
 have n1:=zmr (t:=t) (c':=c') F' hb (F.il c hc) hs
 have p1:0≤t.d*rc m vec t' (t.id c):=Int.mul_nonneg (Int.le_of_lt F.tok.pos) n1
 have p2:0<(- t.g m c)*t'.d:=Int.mul_pos (by have:=h.neg;omega) F'.tok.pos
 rw [Int.neg_mul] at p2
 obtain ⟨k,hk,pk⟩:=zqT (n:=m) (f:=fun k=>t.g k c*rc m vec t' (t.bs k)) (by omega)
 have ne:t.bs k≠t'.bs k:=fun z=>by
  have:rc m vec t' (t.bs k)=0:=by rw [z];exact zii hk
  rw [this,Int.mul_zero] at pk
  omega
 obtain ⟨le,b0⟩:=hq k hk ne
 by_cases z:t.bs k=t.bs r
 ·have ek:k=r:=F.tok.inj (by omega) (by omega) z
  subst ek
  rw [← e,zf2 F'.tok (by omega)] at pk
  have:=Int.mul_neg_of_pos_of_neg h.pos ng
  omega
 ·have n2:=zmr (t:=t) (c':=c') F' hb (F.bl k hk) (by omega)
  have gk:0<t.g k c:=by
   refine Classical.byContradiction fun no=>?_
   have:0≤(- t.g k c)*rc m vec t' (t.bs k):=Int.mul_nonneg (by omega) n2
   rw [Int.neg_mul] at this
   omega
  have br:=F.fea r hr
  have q0:0≤t.g r n*t.g k c:=Int.mul_nonneg br (Int.le_of_lt gk)
  rcases h.lv k hk gk with l | l
  ·rw [b0,Int.zero_mul] at l
   omega
  ·have:=l.2
   omega
section
variable (m n:Nat) (vec:Nat→Nat→Int)
structure Run (st:Nat→Sx) (rr cc:Nat→Nat) (su:Nat→Bool) (L:Nat):Prop where
 ok:∀ i,i≤L→Fea m n vec (st i)
 nx:∀ i,i<L→st (i+1)=piv (st i) (rr i) (cc i)
 by':∀ i,i<L→Stp m n (st i) (su i) (rr i) (cc i)
 sk:∀ i,i<L→su (i+1)=decide ((st i).g (rr i) n=0)
end
section
variable {st:Nat→Sx} {rr cc:Nat→Nat} {su:Nat→Bool} {L:Nat}
theorem Run.bs (R:Run m n vec st rr cc su L) {i:Nat} (h:i<L) (k:Nat):(st (i+1)).bs k=if k=rr i then (st i).id (cc i) else (st i).bs k:=by rw [R.nx i h];rfl
theorem Run.leave (R:Run m n vec st rr cc su L) {k q:Nat}:∀ (w i:Nat),i+w≤L→(st i).bs k=q→(st (i+w)).bs k≠q→∃ x,i≤x∧x<i+w∧rr x=k∧(st x).bs k=q
 | 0,i,_,e,ne=>absurd e ne
 | w+1,i,h,e,ne=>by
  by_cases z:(st (i+w)).bs k=q
  ·have b:=R.bs (i:=i+w) (by omega) k
   by_cases y:k=rr (i+w)
   ·exact ⟨i+w,by omega,by omega,y.symm,z⟩
   ·rw [if_neg y] at b
    exact absurd (b.trans z) ne
  ·obtain ⟨x,h1,h2,h3⟩:=R.leave w i (by omega) e z
   exact ⟨x,h1,by omega,h3⟩
theorem Run.enter (R:Run m n vec st rr cc su L) {k q:Nat}:∀ (w i:Nat),i+w≤L→(st i).bs k≠q→(st (i+w)).bs k=q→∃ x,i≤x∧x<i+w∧rr x=k∧(st x).id (cc x)=q
 | 0,i,_,ne,e=>absurd e ne
 | w+1,i,h,ne,e=>by
  by_cases z:(st (i+w)).bs k=q
  ·obtain ⟨x,h1,h2,h3⟩:=R.enter w i (by omega) ne z
   exact ⟨x,h1,by omega,h3⟩
  ·have b:=R.bs (i:=i+w) (by omega) k
   have e':(st (i+w+1)).bs k=q:=e
   by_cases y:k=rr (i+w)
   ·rw [if_pos y,e'] at b
    exact ⟨i+w,by omega,by omega,y.symm,b.symm⟩
   ·rw [if_neg y,e'] at b
    exact absurd b.symm z
theorem most {f:Nat→Nat}:∀ (w i:Nat),∃ x,i≤x∧x≤i+w∧∀ y,i≤y→y≤i+w→f y≤f x
 | 0,i=>⟨i,Nat.le_refl _,Nat.le_refl _,fun y h1 h2=>by rw [show y=i by omega];exact Nat.le_refl _⟩
 | w+1,i=>by
  obtain ⟨x,h1,h2,h3⟩:=most (f:=f) w i
  by_cases z:f x≤f (i+w+1)
  ·exact ⟨i+w+1,by omega,by omega,fun y a b=>by
    by_cases q:y=i+w+1
    ·rw [q];exact Nat.le_refl _
    ·exact Nat.le_trans (h3 y a (by omega)) z⟩
  ·exact ⟨x,h1,by omega,fun y a b=>by
    by_cases q:y=i+w+1
    ·rw [q];omega
    ·exact h3 y a (by omega)⟩
theorem gain_ {t:Sx} {s:Bool} {r c:Nat} (F:Fea m n vec t) (h:Stp m n t s r c):t.d*(piv t r c).g m n=(piv t r c).d*t.g m n+(- t.g m c)*t.g r n:=by
 have hr:=h.hr
 have hc:=h.hc
 have e:=zqb F.tok (by omega) (by omega) (k:=m) (j:=n) (Nat.le_refl m) (Nat.le_refl n) (by omega:m≠r) (by omega:n≠c)
 rw [e]
 show _=t.g r c*t.g m n+_
 rw [Int.neg_mul]
 omega
theorem Run.up (R:Run m n vec st rr cc su L) {i:Nat} (h:i<L):(st i).g m n*(st (i+1)).d≤(st (i+1)).g m n*(st i).d∧((st i).g m n*(st (i+1)).d=(st (i+1)).g m n*(st i).d→(st i).g (rr i) n=0):=by
 have F:=R.ok i (by omega)
 have b:=R.by' i h
 have g:=gain_ F b
 rw [← R.nx i h] at g
 have n0:=F.fea _ b.hr
 have ng:=b.neg
 have q:0≤(- (st i).g m (cc i))*(st i).g (rr i) n:=Int.mul_nonneg (by omega) n0
 rw [Int.mul_comm ((st i).g m n),Int.mul_comm ((st (i+1)).g m n),g]
 refine ⟨by omega,fun e=>?_⟩
 have z:(- (st i).g m (cc i))*(st i).g (rr i) n=0:=by omega
 rcases Int.mul_eq_zero.mp z with z | z
 ·omega
 ·exact z
theorem zdx {a b c p q r:Int} (hp:0<p) (hq:0<q) (hr:0<r) (h1:a*q≤b*p) (h2:b*r≤c*q):a*r≤c*p:=by
 have e1:a*q*r≤b*p*r:=Int.mul_le_mul_of_nonneg_right h1 (Int.le_of_lt hr)
 have e2:b*r*p≤c*q*p:=Int.mul_le_mul_of_nonneg_right h2 (Int.le_of_lt hp)
 have:(a*r)*q≤(c*p)*q:=by
  have x1:a*r*q=a*q*r:=by grind
  have x2:c*p*q=c*q*p:=by grind
  have x3:b*r*p=b*p*r:=by grind
  omega
 exact Int.le_of_mul_le_mul_right this hq
theorem Run.upW (R:Run m n vec st rr cc su L):∀ (w i:Nat),i+w≤L→(st i).g m n*(st (i+w)).d≤(st (i+w)).g m n*(st i).d
 | 0,i,_=>Int.le_refl _
 | w+1,i,h=>zdx (R.ok i (by omega)).tok.pos (R.ok (i+w) (by omega)).tok.pos (R.ok (i+w+1) (by omega)).tok.pos (R.upW w i (by omega)) (R.up (i:=i+w) (by omega)).1
theorem Run.flat (R:Run m n vec st rr cc su L) {i w:Nat} (h:i+w≤L) (eV:(st i).g m n=(st (i+w)).g m n) (ed:(st i).d=(st (i+w)).d) {x:Nat} (h1:i≤x) (h2:x<i+w):(st x).g (rr x) n=0:=by
 refine (R.up (i:=x) (by omega)).2 ?_
 have p:∀ y,y≤L→0<(st y).d:=fun y hy=>(R.ok y hy).tok.pos
 obtain ⟨u,rfl⟩:∃ u,x=i+u:=⟨x - i,by omega⟩
 obtain ⟨v,hv⟩:∃ v,i+w=i+u+1+v:=⟨w - u - 1,by omega⟩
 have a1:=R.upW u i (by omega)
 have a2:=(R.up (i:=i+u) (by omega)).1
 have a3:=R.upW v (i+u+1) (by omega)
 rw [← hv,← eV,← ed] at a3
 have a4:=zdx (p (i+u+1) (by omega)) (p i (by omega)) (p (i+u) (by omega)) a3 a1
 exact Int.le_antisymm a2 a4
theorem Run.zero (R:Run m n vec st rr cc su L) {k:Nat} (hk:k<m):∀ (w i:Nat),i+w≤L→(∀ x,i≤x→x<i+w→(st x).g (rr x) n=0)→((st i).g k n=0↔(st (i+w)).g k n=0)
 | 0,i,_,_=>Iff.rfl
 | w+1,i,h,z=>by
  refine Iff.trans (R.zero hk w i (by omega) fun x a b=>z x a (by omega)) ?_
  have F:=R.ok (i+w) (by omega)
  have b:=R.by' (i+w) (by omega)
  have hr:=b.hr
  have hc:=b.hc
  have zr:=z (i+w) (by omega) (by omega)
  show _↔(st (i+w+1)).g k n=0
  rw [R.nx (i+w) (by omega)]
  by_cases q:k=rr (i+w)
  ·rw [q,zpE (by omega)]
  ·have e:=zqb F.tok (by omega) (by omega) (k:=k) (j:=n) (by omega) (Nat.le_refl n) q (by omega:n≠cc (i+w))
   rw [zr,Int.mul_zero,Int.sub_zero] at e
   have p1:=F.tok.pos
   have p2:=b.pos
   constructor
   ·intro y
    rw [y,Int.mul_zero] at e
    rcases Int.mul_eq_zero.mp e with e | e
    ·omega
    ·exact e
   ·intro y
    rw [y,Int.mul_zero] at e
    rcases Int.mul_eq_zero.mp e.symm with e | e
    ·omega
    ·exact e
theorem Run.never (R:Run m n vec st rr cc su L) {i w:Nat} (h:i+w≤L) (hw:0<w) (eb:∀ k,k<m→(st i).bs k=(st (i+w)).bs k) (ec:∀ c,c<n→(st i).id c=(st (i+w)).id c) (es:su i=su (i+w)):False:=by
 have Fi:=R.ok i (by omega)
 have Fj:=R.ok (i+w) h
 have eb':∀ k,k<m+1→vec ((st i).bs k)=vec ((st (i+w)).bs k):=fun k hk=>by
  by_cases q:k=m
  ·rw [q,Fi.bm,Fj.bm]
  ·rw [eb k (by omega)]
 have ed:(st i).d=(st (i+w)).d:=by
  rw [Fi.tok.det,Fj.tok.det]
  exact congrFun (zjK (m+1) eb') _
 have eV:(st i).g m n=(st (i+w)).g m n:=by
  rw [Fi.tok.ent (Nat.le_refl m) (Nat.le_refl n),Fj.tok.ent (Nat.le_refl m) (Nat.le_refl n),Fi.idn,Fj.idn]
  refine congrFun (zjK (m+1) fun k hk=>?_) _
  by_cases q:k=m
  ·rw [q,zbb,zbb]
  ·rw [zbw q,zbw q,eb' k hk]
 have fl:∀ x,i≤x→x<i+w→(st x).g (rr x) n=0:=fun x a b=>R.flat h eV ed a b
 have stuck:∀ x,i≤x→x<i+w→su x=true:=fun x a b=>by
  have nxt:∀ y,i≤y→y<i+w→su (y+1)=true:=fun y a b=>by
   rw [R.sk y (by omega),fl y a b]
   rfl
  by_cases q:x=i
  ·rw [q,es]
   have:=nxt (i+w - 1) (by omega) (by omega)
   rwa [show i+w - 1+1=i+w by omega] at this
  ·have:=nxt (x - 1) (by omega) (by omega)
   rwa [show x - 1+1=x by omega] at this
 have lev:∀ k q a b,k<m→i≤a→a≤i+w→i≤b→b≤i+w→(st a).bs k=q→(st b).bs k≠q→∃ x,i≤x∧x<i+w∧rr x=k∧(st x).bs k=q:=fun k q a b hk ha ha' hb hb' e ne=>by
  by_cases o:a<b
  ·obtain ⟨x,x1,x2,x3⟩:=R.leave (k:=k) (q:=q) (b - a) a (by omega) e (by rwa [show a+(b - a)=b by omega])
   exact ⟨x,by omega,by omega,x3⟩
  ·by_cases z:(st (i+w)).bs k=q
   ·obtain ⟨x,x1,x2,x3⟩:=R.leave (k:=k) (q:=q) (b - i) i (by omega) ((eb k hk).trans z) (by rwa [show i+(b - i)=b by omega])
    exact ⟨x,by omega,by omega,x3⟩
   ·obtain ⟨x,x1,x2,x3⟩:=R.leave (k:=k) (q:=q) (i+w - a) a (by omega) e (by rwa [show a+(i+w - a)=i+w by omega])
    exact ⟨x,by omega,by omega,x3⟩
 have ent:∀ k q a b,k<m→i≤a→a≤i+w→i≤b→b≤i+w→(st a).bs k=q→(st b).bs k≠q→∃ x,i≤x∧x<i+w∧rr x=k∧(st x).id (cc x)=q:=fun k q a b hk ha ha' hb hb' e ne=>by
  by_cases o:b<a
  ·obtain ⟨x,x1,x2,x3⟩:=R.enter (k:=k) (q:=q) (a - b) b (by omega) ne (by rwa [show b+(a - b)=a by omega])
   exact ⟨x,by omega,by omega,x3⟩
  ·by_cases z:(st (i+w)).bs k=q
   ·obtain ⟨x,x1,x2,x3⟩:=R.enter (k:=k) (q:=q) (i+w - b) b (by omega) ne (by rwa [show b+(i+w - b)=i+w by omega])
    exact ⟨x,by omega,by omega,x3⟩
   ·obtain ⟨x,x1,x2,x3⟩:=R.enter (k:=k) (q:=q) (a - i) i (by omega) (fun y=>z ((eb k hk).symm.trans y)) (by rwa [show i+(a - i)=a by omega])
    exact ⟨x,by omega,by omega,x3⟩
 obtain ⟨a,a1,a2,amax⟩:=most (f:=fun x=>(st x).bs (rr x)) (w - 1) i
 have hA:=R.by' a (by omega)
 have FA:=R.ok a (by omega)
 have sne:(st a).id (cc a)≠(st a).bs (rr a):=fun z=>by
  have:=zf2 FA.tok (c:=cc a) (by have:=hA.hc;omega)
  rw [z,zii hA.hr] at this
  have:=hA.neg
  omega
 have ba:=R.bs (i:=a) (by omega) (rr a)
 rw [if_pos rfl] at ba
 obtain ⟨b,b1,b2,b3,b4⟩:=ent (rr a) _ a (a+1) hA.hr a1 (by omega) (by omega) (by omega) rfl (by rw [ba];exact sne)
 have hB:=R.by' b (by omega)
 have FB:=R.ok b (by omega)
 refine bland FA FB hA hB.hc b4 hB.neg (fun j hj ng=>?_) ?_ fun k hk ne=>?_
 ·rw [← b4]
  exact hB.bl (stuck b b1 b2) j hj ng
 ·obtain ⟨x,x1,x2,x3,x4⟩:=lev (rr a) ((st a).id (cc a)) (a+1) a hA.hr (by omega) (by omega) a1 (by omega) ba (fun z=>sne z.symm)
  have:=amax x x1 (by omega)
  rw [x3,x4] at this
  have:(st a).id (cc a)≤(st a).bs (rr a):=this
  omega
 ·obtain ⟨x,x1,x2,x3,x4⟩:=lev k ((st a).bs k) a b hk a1 (by omega) b1 (by omega) rfl (fun z=>ne z.symm)
  have le:=amax x x1 (by omega)
  rw [x3,x4] at le
  refine ⟨le,?_⟩
  have zx:(st x).g k n=0:=by rw [← x3];exact fl x x1 x2
  by_cases o:a≤x
  ·have:=R.zero hk (x - a) a (by omega) fun y p q=>fl y (by omega) (by omega)
   rw [show a+(x - a)=x by omega] at this
   exact this.mpr zx
  ·have:=R.zero hk (a - x) x (by omega) fun y p q=>fl y (by omega) (by omega)
   rw [show x+(a - x)=a by omega] at this
   exact this.mp zx
end
theorem zrr:∀ (N:Nat) (f:Nat→Nat),(∀ i,i≤N→f i<N)→∃ i j,i<j∧j≤N∧f i=f j
 | 0,f,h=>absurd (h 0 (Nat.le_refl 0)) (Nat.not_lt_zero _)
 | N+1,f,h=>by
  by_cases q:∃ i,i≤N∧f i=f (N+1)
  ·obtain ⟨i,h1,h2⟩:=q
   exact ⟨i,N+1,by omega,Nat.le_refl _,h2⟩
  ·have no:∀ i,i≤N→f i≠f (N+1):=fun i hi e=>q ⟨i,hi,e⟩
   have top:=h (N+1) (Nat.le_refl _)
   obtain ⟨i,j,h1,h2,h3⟩:=zrr N (fun i=>if f (N+1)<f i then f i - 1 else f i) fun i hi=>by
    have a:=h i (by omega)
    have b:=no i hi
    show (if f (N+1)<f i then f i - 1 else f i)<N
    split <;> omega
   refine ⟨i,j,h1,by omega,?_⟩
   have a:=no i (by omega)
   have b:=no j h2
   have h3:(if f (N+1)<f i then f i - 1 else f i)=if f (N+1)<f j then f j - 1 else f j:=h3
   split at h3 <;> split at h3 <;> omega
def cde (B:Nat) (f:Nat→Nat):Nat→Nat
 | 0=>0
 | k+1=>cde B f k*B+f k
theorem zrf {B:Nat} {f:Nat→Nat}:∀ k,(∀ i,i<k→f i<B)→cde B f k<B ^ k
 | 0,_=>Nat.one_pos
 | k+1,h=>by
  have a:=zrf k fun i hi=>h i (by omega)
  have b:=h k (by omega)
  show cde B f k*B+f k<B ^ (k+1)
  have:(cde B f k+1)*B≤B ^ k*B:=Nat.mul_le_mul_right B a
  rw [Nat.pow_succ]
  rw [Nat.add_mul] at this
  omega
theorem zn7 {B:Nat} {f g:Nat→Nat}:∀ k,(∀ i,i<k→f i<B)→(∀ i,i<k→g i<B)→cde B f k=cde B g k→∀ i,i<k→f i=g i
 | 0,_,_,_,i,hi=>absurd hi (Nat.not_lt_zero i)
 | k+1,hf,hg,e,i,hi=>by
  have e:cde B f k*B+f k=cde B g k*B+g k:=e
  have f1:=hf k (by omega)
  have g1:=hg k (by omega)
  have m1:(cde B f k*B+f k) % B=f k:=by rw [Nat.mul_comm,Nat.mul_add_mod,Nat.mod_eq_of_lt f1]
  have m2:(cde B g k*B+g k) % B=g k:=by rw [Nat.mul_comm,Nat.mul_add_mod,Nat.mod_eq_of_lt g1]
  have ek:f k=g k:=by rw [← m1,e,m2]
  by_cases q:i=k
  ·rw [q,ek]
  ·have e2:cde B f k*B=cde B g k*B:=by omega
   exact zn7 k (fun i hi=>hf i (by omega)) (fun i hi=>hg i (by omega)) (Nat.eq_of_mul_eq_mul_right (by omega) e2) i (by omega)
def kyF (m n:Nat) (t:Sx) (s:Bool) (i:Nat):Nat:=if i<m then t.bs i else if i<m+n then t.id (i - m) else if s=true then 1 else 0
theorem zsY {t:Sx} {s:Bool} {i:Nat} (h:i<m):kyF m n t s i=t.bs i:=if_pos h
theorem zsh {t:Sx} {s:Bool} {c:Nat} (h:c<n):kyF m n t s (m+c)=t.id c:=by
 unfold kyF
 rw [if_neg (by omega),if_pos (by omega),show m+c - m=c by omega]
theorem zrL {t:Sx} {s:Bool}:kyF m n t s (m+n)=if s=true then 1 else 0:=by
 unfold kyF
 rw [if_neg (by omega),if_neg (by omega)]
theorem Run.ends {st:Nat→Sx} {rr cc:Nat→Nat} {su:Nat→Bool} {L:Nat} (R:Run m n vec st rr cc su L):L<(n+m+2) ^ (m+n+1):=by
 refine Classical.byContradiction fun no=>?_
 have lt:∀ x,x≤L→∀ i,i<m+n+1→kyF m n (st x) (su x) i<n+m+2:=fun x hx i hi=>by
  have F:=R.ok x hx
  by_cases h1:i<m
  ·rw [zsY h1]
   have:=F.bl i h1
   omega
  ·by_cases h2:i<m+n
   ·obtain ⟨c,rfl⟩:∃ c,i=m+c:=⟨i - m,by omega⟩
    rw [zsh (by omega)]
    have:=F.il c (by omega)
    omega
   ·rw [show i=m+n by omega,zrL]
    split <;> omega
 obtain ⟨i,j,h1,h2,h3⟩:=zrr ((n+m+2) ^ (m+n+1)) (fun x=>cde (n+m+2) (kyF m n (st x) (su x)) (m+n+1)) fun x hx=>zrf _ (lt x (by omega))
 have same:=zn7 _ (lt i (by omega)) (lt j (by omega)) h3
 refine R.never (i:=i) (w:=j - i) (by omega) (by omega) (fun k hk=>?_) (fun c hc=>?_) ?_
 ·rw [show i+(j - i)=j by omega]
  have e:=same k (by omega)
  rwa [zsY hk,zsY hk] at e
 ·rw [show i+(j - i)=j by omega]
  have e:=same (m+c) (by omega)
  rwa [zsh hc,zsh hc] at e
 ·rw [show i+(j - i)=j by omega]
  have e:=same (m+n) (by omega)
  rw [zrL,zrL] at e
  cases a:su i <;> cases b:su j <;> rw [a,b] at e
  ·exact absurd e (by decide)
  ·exact absurd e (by decide)
def zbH (a:Nat→Nat→Int) (m n q j:Nat):Int:=if q<n then (if j<m then a q j else if j=m then -1 else 0) else if q≤n+m then (if j+n=q then 1 else 0) else if j<m then 1 else 0
section
variable {a:Nat→Nat→Int}
theorem znS {q j:Nat} (h:q<n) (h2:j<m):zbH a m n q j=a q j:=by unfold zbH;rw [if_pos h,if_pos h2]
theorem vt_m {q:Nat} (h:q<n):zbH a m n q m=-1:=by unfold zbH;rw [if_pos h,if_neg (Nat.lt_irrefl m),if_pos rfl]
theorem zrz {q j:Nat} (h:m<j):zbH a m n q j=0:=by
 unfold zbH
 split
 ·rw [if_neg (by omega),if_neg (by omega)]
 ·split
  ·rw [if_neg (by omega)]
  ·rw [if_neg (by omega)]
theorem zpm {k j:Nat} (h:k≤m):zbH a m n (n+k) j=if j=k then 1 else 0:=by
 unfold zbH
 rw [if_neg (by omega),if_pos (by omega)]
 by_cases q:j=k
 ·rw [if_pos (by omega),if_pos q]
 ·rw [if_neg (by omega),if_neg q]
theorem zlf {j:Nat}:zbH a m n (n+m+1) j=if j<m then 1 else 0:=by unfold zbH;rw [if_neg (by omega),if_neg (by omega)]
theorem vt_le {A:Nat} (hA:1≤A) (h:∀ q j,q<n→j<m→(a q j).natAbs≤A) (q j:Nat):(zbH a m n q j).natAbs≤A:=by
 unfold zbH
 split
 ·split
  ·exact h q j (by assumption) (by assumption)
  ·split <;> simp <;> omega
 ·split
  ·split <;> simp <;> omega
  ·split <;> simp <;> omega
theorem zry (q j:Nat):zbH a m n q j=S (m+1) fun k=>zbH a m n q k*zbH a m n (n+k) j:=by
 by_cases h:j<m+1
 ·rw [zlc (m+1) (r:=j) h fun k hk ne=>by rw [zpm (by omega),if_neg (Ne.symm ne),Int.mul_zero],zpm (by omega),if_pos rfl,Int.mul_one]
 ·rw [zrz (by omega),zim (m+1) fun k hk=>by rw [zrz (j:=j) (by omega),Int.mul_zero]]
def sx0 (a:Nat→Nat→Int) (m n:Nat):Sx where
 g:=fun k c=>if k<m then (if c<n then a c k else 1) else if c<n then -1 else 0
 d:=1
 bs:=fun k=>n+k
 id:=fun c=>if c<n then c else n+m+1
theorem zrj:Fea m n (zbH a m n) (sx0 a m n):=by
 have gv:∀ k c,k≤m→c≤n→(sx0 a m n).g k c=zbH a m n ((sx0 a m n).id c) k:=fun k c hk hc=>by
  show (if k<m then (if c<n then a c k else 1) else if c<n then -1 else 0)=zbH a m n (if c<n then c else n+m+1) k
  by_cases h:c<n
  ·simp only [if_pos h]
   by_cases h2:k<m
   ·rw [if_pos h2,znS h h2]
   ·rw [if_neg h2,show k=m by omega,vt_m h]
  ·simp only [if_neg h]
   rw [zlf]
 refine ⟨⟨Int.one_pos,fun c hc j=>?_,?_⟩,rfl,if_neg (Nat.lt_irrefl n),fun k hk=>?_,fun c hc=>?_,fun q hq=>?_,fun k hk=>?_⟩
 ·show 1*zbH a m n ((sx0 a m n).id c) j=S (m+1) fun k=>(sx0 a m n).g k c*zbH a m n (n+k) j
  rw [Int.one_mul,zry,zbp (m+1) fun k hk=>by rw [← gv k c (by omega) hc]]
 ·show 1=Dt m fun k=>zbH a m n (n+k)
  exact (W_id (m+1) fun k j hk hj=>zpm (by omega)).symm
 ·show n+k<n+m
  omega
 ·show (if c<n then c else n+m+1)<n+m
  rw [if_pos hc]
  omega
 ·by_cases h:q<n
  ·exact .inr ⟨q,h,if_pos h⟩
  ·exact .inl ⟨q - n,by omega,by show n+(q - n)=q;omega⟩
 ·show 0≤(if k<m then (if n<n then a n k else 1) else if n<n then -1 else 0)
  rw [if_pos hk,if_neg (Nat.lt_irrefl n)]
  decide
theorem zoo (h1:∀ q j,q<n→j<m→1≤a q j) {q j:Nat} (hq:q<n+m) (hj:j<m):0≤zbH a m n q j:=by
 by_cases h:q<n
 ·rw [znS h hj]
  have:=h1 q j h hj
  omega
 ·rw [show q=n+(q - n) by omega,zpm (by omega)]
  split <;> omega
theorem Fea.out {t:Sx} (F:Fea m n (zbH a m n) t) (m1:0<m) (h1:∀ q j,q<n→j<m→1≤a q j) {c:Nat} (hc:c<n):∃ r,r<m∧0<t.g r c:=by
 refine Classical.byContradiction fun no=>?_
 have ng:∀ k,k<m→t.g k c≤0:=fun k hk=>by
  refine Classical.byContradiction fun q=>no ⟨k,hk,by omega⟩
 have hi:=F.il c hc
 obtain ⟨j,hj,pj⟩:∃ j,j<m∧0<zbH a m n (t.id c) j:=by
  by_cases q:t.id c<n
  ·refine ⟨0,m1,?_⟩
   rw [znS q m1]
   have:=h1 _ 0 q m1
   omega
  ·refine ⟨t.id c - n,by omega,?_⟩
   rw [show t.id c=n+(t.id c - n) by omega,zpm (by omega),if_pos (by omega)]
   exact Int.one_pos
 have E:=F.tok.lin c (by omega) j
 have E':(S (m+1) fun k=>t.g k c*zbH a m n (t.bs k) j)=(S m fun k=>t.g k c*zbH a m n (t.bs k) j)+t.g m c*zbH a m n (t.bs m) j:=rfl
 rw [E',F.bm,zpm (Nat.le_refl m),if_neg (by omega),Int.mul_zero] at E
 have p:=Int.mul_pos F.tok.pos pj
 have:0≤S m fun k=>(-1)*(t.g k c*zbH a m n (t.bs k) j):=zez m fun k hk=>by
  have:=Int.mul_nonneg (show 0≤- t.g k c by have:=ng k hk;omega) (zoo h1 (F.bl k hk) hj)
  rw [Int.neg_mul] at this
  omega
 rw [zkD] at this
 omega
theorem zrw (f:Nat→Nat→Int) (N:Nat):∀ M,(S M fun i=>S N fun k=>f i k)=S N fun k=>S M fun i=>f i k
 | 0=>(zim N fun _ _=>rfl).symm
 | M+1=>by
  show (S M fun i=>S N fun k=>f i k)+(S N fun k=>f M k)=S N fun k=>(S M fun i=>f i k)+f M k
  rw [zrw f N M]
  have:=zkd 1 1 (fun k=>S M fun i=>f i k) (fun k=>f M k) N
  rw [zbp (g:=fun k=>(S M fun i=>f i k)+f M k) N (fun k _=>by omega)] at this
  omega
def xw (m n:Nat) (t:Sx) (i:Nat):Int:=S m fun k=>if t.bs k=i then t.g k n else 0
theorem zrB (t:Sx) (f:Nat→Int):(S n fun i=>xw m n t i*f i)=S m fun k=>if t.bs k<n then t.g k n*f (t.bs k) else 0:=by
 have e:(S n fun i=>xw m n t i*f i)=S n fun i=>S m fun k=>(if t.bs k=i then t.g k n else 0)*f i:=zbp n fun i _=>by
  unfold xw
  rw [Int.mul_comm,← zkD]
  exact zbp m fun k _=>Int.mul_comm _ _
 rw [e,zrw (fun i k=>(if t.bs k=i then t.g k n else 0)*f i)]
 refine zbp m fun k _=>?_
 by_cases q:t.bs k<n
 ·rw [if_pos q,zlc n q fun i _ ne=>by rw [if_neg (Ne.symm ne),Int.zero_mul],if_pos rfl]
 ·rw [if_neg q,zim n fun i hi=>by rw [if_neg (by omega),Int.zero_mul]]
theorem Fea.x0 {t:Sx} (F:Fea m n vec t) (i:Nat):0≤xw m n t i:=zez m fun k hk=>by
 have:=F.fea k hk
 split <;> omega
theorem Fea.xcol {t:Sx} (F:Fea m n (zbH a m n) t) {j:Nat} (hj:j<m):(S n fun i=>xw m n t i*a i j)≤t.d:=by
 have E:=F.tok.lin n (Nat.le_refl n) j
 have E':(S (m+1) fun k=>t.g k n*zbH a m n (t.bs k) j)=(S m fun k=>t.g k n*zbH a m n (t.bs k) j)+t.g m n*zbH a m n (t.bs m) j:=rfl
 rw [E',F.idn,zlf,if_pos hj,F.bm,zpm (Nat.le_refl m),if_neg (by omega),Int.mul_zero] at E
 rw [zrB t fun i=>a i j]
 have:0≤S m fun k=>1*(t.g k n*zbH a m n (t.bs k) j)+(-1)*(if t.bs k<n then t.g k n*a (t.bs k) j else 0):=zez m fun k hk=>by
  by_cases q:t.bs k<n
  ·rw [if_pos q,znS q hj];omega
  ·have b:=F.bl k hk
   rw [if_neg q,show t.bs k=n+(t.bs k - n) by omega,zpm (by omega)]
   have:=F.fea k hk
   split <;> omega
 rw [zkd] at this
 omega
theorem Fea.xsum {t:Sx} (F:Fea m n (zbH a m n) t):(S n fun i=>xw m n t i)=t.g m n:=by
 have E:=F.tok.lin n (Nat.le_refl n) m
 have E':(S (m+1) fun k=>t.g k n*zbH a m n (t.bs k) m)=(S m fun k=>t.g k n*zbH a m n (t.bs k) m)+t.g m n*zbH a m n (t.bs m) m:=rfl
 rw [E',F.idn,zlf,if_neg (Nat.lt_irrefl m),F.bm,zpm (Nat.le_refl m),if_pos rfl,Int.mul_zero] at E
 have X:=zrB (m:=m) (n:=n) t fun _=>1
 rw [zbp (g:=fun i=>xw m n t i) n (fun i _=>Int.mul_one _)] at X
 rw [X]
 have:(S m fun k=>t.g k n*zbH a m n (t.bs k) m)=S m fun k=>(-1)*(if t.bs k<n then t.g k n*1 else 0):=zbp m fun k hk=>by
  by_cases q:t.bs k<n
  ·rw [if_pos q,vt_m q];omega
  ·have b:=F.bl k hk
   rw [if_neg q,show t.bs k=n+(t.bs k - n) by omega,zpm (by omega),if_neg (by omega)]
   omega
 rw [this,zkD] at E
 omega
def znN (m n:Nat) (t:Sx):Prop:=∀ c,c<n→0≤t.g m c
def yw (a:Nat→Nat→Int) (m n:Nat) (t:Sx) (j:Nat):Int:=rc m (zbH a m n) t (n+j)
theorem Fea.rc0 {t:Sx} (F:Fea m n vec t) (h:znN m n t) {q:Nat} (hq:q<n+m):0≤rc m vec t q:=by
 rcases F.cov q hq with ⟨k,hk,rfl⟩ | ⟨c,hc,rfl⟩
 ·rw [zii hk];exact Int.le_refl 0
 ·rw [zf2 F.tok (by omega)];exact h c hc
theorem Fea.rcsum {t:Sx} (q:Nat):rc m (zbH a m n) t q=S (m+1) fun k=>zbH a m n q k*rc m (zbH a m n) t (n+k):=by
 exact (congrArg (fun v=>Dt m (zbt (fun k=>zbH a m n (t.bs k)) m v)) (funext fun j=>zry q j)).trans (W_S (r:=m) (M:=m+1) (Nat.lt_succ_self m) (fun k=>zbH a m n q k) (fun k=>zbH a m n (n+k)) _ _)
theorem Fea.yrow {t:Sx} (F:Fea m n (zbH a m n) t) (h:znN m n t) {i:Nat} (hi:i<n):t.d≤S m fun j=>yw a m n t j*a i j:=by
 have r0:=F.rc0 h (q:=i) (by omega)
 have E:=Fea.rcsum (a:=a) (m:=m) (n:=n) (t:=t) i
 have E':(S (m+1) fun k=>zbH a m n i k*rc m (zbH a m n) t (n+k))=(S m fun k=>zbH a m n i k*rc m (zbH a m n) t (n+k))+zbH a m n i m*rc m (zbH a m n) t (n+m):=rfl
 have tp:=zrn F.tok
 rw [F.bm] at tp
 rw [E',vt_m hi,tp] at E
 rw [zbp (g:=fun k=>zbH a m n i k*rc m (zbH a m n) t (n+k)) m fun j hj=>by rw [znS hi hj,Int.mul_comm];rfl]
 omega
theorem Fea.ysum {t:Sx} (F:Fea m n (zbH a m n) t):(S m fun j=>yw a m n t j)=t.g m n:=by
 have E:=Fea.rcsum (a:=a) (m:=m) (n:=n) (t:=t) (n+m+1)
 have E':(S (m+1) fun k=>zbH a m n (n+m+1) k*rc m (zbH a m n) t (n+k))=(S m fun k=>zbH a m n (n+m+1) k*rc m (zbH a m n) t (n+k))+zbH a m n (n+m+1) m*rc m (zbH a m n) t (n+m):=rfl
 have ii:=zf2 F.tok (c:=n) (Nat.le_refl n)
 rw [F.idn] at ii
 rw [E',ii,zlf,if_neg (Nat.lt_irrefl m),Int.zero_mul,Int.add_zero] at E
 rw [E]
 exact zbp m fun j hj=>by rw [zlf,if_pos hj,Int.one_mul];rfl
theorem Fea.y0 {t:Sx} (F:Fea m n (zbH a m n) t) (h:znN m n t) {j:Nat} (hj:j<m):0≤yw a m n t j:=F.rc0 h (by omega)
theorem Fea.vpos {t:Sx} (F:Fea m n (zbH a m n) t) (h:znN m n t) (n1:0<n):0<t.g m n:=by
 have d0:=F.tok.pos
 have yr:=F.yrow h n1
 obtain ⟨j,hj,pj⟩:=zqT (n:=m) (f:=fun j=>yw a m n t j*a 0 j) (by omega)
 have y0:=F.y0 h hj
 have:0<yw a m n t j:=by
  refine Classical.byContradiction fun no=>?_
  have e:yw a m n t j=0:=by omega
  have pj:0<yw a m n t j*a 0 j:=pj
  rw [e,Int.zero_mul] at pj
  omega
 rw [← F.ysum,zqs m hj]
 have:=zez (f:=fun k=>if k=j then 0 else yw a m n t k) m fun k hk=>by
  show 0≤if k=j then 0 else yw a m n t k
  have:=F.y0 h hk
  split <;> omega
 show 0<yw a m n t j+_
 omega
theorem zsW {t:Sx} (h:Tok m n vec t) {k:Nat} (hk:k<m):xw m n t (t.bs k)=t.g k n:=by
 unfold xw
 rw [zlc m hk fun l hl ne=>if_neg fun z=>ne (h.inj (by omega) (by omega) z),if_pos rfl]
theorem zsq {t:Sx} {i:Nat} (h:∀ k,k<m→t.bs k≠i):xw m n t i=0:=zim m fun k hk=>if_neg (h k hk)
theorem zr6 {t:Sx} (h:Tok m n (zbH a m n) t) {c:Nat} (hc:c<n) (hn:n≤t.id c):yw a m n t (t.id c - n)=t.g m c:=by
 unfold yw
 rw [show n+(t.id c - n)=t.id c by omega,zf2 h (by omega)]
theorem zty {t:Sx} (F:Fea m n (zbH a m n) t) {j:Nat} (hj:j<m) (h:∀ c,c<n→t.id c≠n+j):yw a m n t j=0:=by
 rcases F.cov (n+j) (by omega) with ⟨k,hk,e⟩ | ⟨c,hc,e⟩
 ·unfold yw
  rw [← e,zii hk]
 ·exact absurd e (h c hc)
theorem Tok.bound {t:Sx} (h:Tok m n vec t) {A:Nat} (hA:∀ q j,(vec q j).natAbs≤A) {k c:Nat} (hk:k≤m) (hc:c≤n):(t.g k c).natAbs≤fct (m+1)*A ^ (m+1):=by
 rw [h.ent hk hc]
 refine W_le (fun l j=>?_) _ _ (zfL _)
 unfold zbt
 split
 ·exact hA _ _
 ·exact hA _ _
theorem Tok.boundD {t:Sx} (h:Tok m n vec t) {A:Nat} (hA:∀ q j,(vec q j).natAbs≤A):t.d.natAbs≤fct (m+1)*A ^ (m+1):=by
 rw [h.det]
 exact W_le (fun l j=>hA _ _) _ _ (zfL _)
theorem zqv {t:Sx} {A:Nat} (hA:∀ q j,(zbH a m n q j).natAbs≤A) (j:Nat):(yw a m n t j).natAbs≤fct (m+1)*A ^ (m+1):=by
 refine W_le (fun l i=>?_) _ _ (zfL _)
 unfold zbt
 split
 ·exact hA _ _
 ·exact hA _ _
end
end
structure Tb (H:Hp) (t:Addr) (rs:List Addr) (rows:List (List Int)) (w:Nat):Prop where
 ht:H t=some (.lst (rs.map V.ref))
 len:rs.length=rows.length
 hr:∀ (i:Nat) r row,rs[i]?=some r→rows[i]?=some row→H r=some (.lst (row.map V.int))
 hw:∀ row∈rows,row.length=w
 l1:1≤rows.length
 l6:rows.length≤12
 w1:1≤w
 w6:w≤12
 bd:∀ row∈rows,∀ x∈row,Bd 102 x
theorem Tb.same {H H':Hp} {t:Addr} {rs:List Addr} {rows:List (List Int)} {w:Nat} (h:Tb H t rs rows w) (s:za0 H H'):Tb H' t rs rows w :=
 ⟨s _ _ h.ht,h.len,fun i r row e1 e2=>s _ _ (h.hr i r row e1 e2),h.hw,h.l1,h.l6,h.w1,h.w6,h.bd⟩
theorem Tb.at {H:Hp} {t:Addr} {rs:List Addr} {rows:List (List Int)} {w:Nat} (h:Tb H t rs rows w) {i:Nat} {r:Addr} (e:rs[i]?=some r):∃ row,rows[i]?=some row∧H r=some (.lst (row.map V.int))∧row.length=w:=by
 have hi:=(List.getElem?_eq_some_iff.mp e).1
 rw [h.len] at hi
 exact ⟨rows[i],List.getElem?_eq_getElem hi,h.hr i r _ e (List.getElem?_eq_getElem hi),h.hw _ (List.getElem_mem hi)⟩
theorem Tb.first {H:Hp} {t:Addr} {rs:List Addr} {rows:List (List Int)} {w:Nat} (h:Tb H t rs rows w):∃ (r:Addr) (row:List Int),atI (rs.map V.ref) 0=some (.ref r)∧H r=some (.lst (row.map V.int))∧row.length=w:=by
 have l:=h.l1
 rw [← h.len] at l
 have e:rs[0]?=some rs[0]:=List.getElem?_eq_getElem l
 obtain ⟨row,_,h2,h3⟩:=h.at e
 exact ⟨_,row,zcc (j:=0) (by rw [List.getElem?_map,e];rfl),h2,h3⟩
def zmb:Str:="Board.entering.<locals>.<lambda>"
abbrev LT (H:Hp) (P:Addr):Prop:=zbX H P zoT zmb
def zfZ (t:Sx) (n k:Nat):List V:=(List.range (n+1)).map fun c=>V.int (t.g k c)
def nmL (f:Nat→Nat) (k:Nat):List V:=(List.range k).map fun i=>V.int (f i:Int)
theorem zhi (t:Sx) (n k:Nat):(zfZ t n k).length=n+1:=by rw [zfZ,List.length_map,List.length_range]
theorem zds (f:Nat→Nat) (k:Nat):(nmL f k).length=k:=by rw [nmL,List.length_map,List.length_range]
theorem zmO {t:Sx} {n k c:Nat} (h:c≤n):(zfZ t n k)[c]?=some (.int (t.g k c)):=by rw [zfZ,List.getElem?_map,List.getElem?_range (by omega)];rfl
theorem zmd {f:Nat→Nat} {k i:Nat} (h:i<k):(nmL f k)[i]?=some (.int (f i:Int)):=by rw [nmL,List.getElem?_map,List.getElem?_range h];rfl
theorem zck {t:Sx} {n k c:Nat} (h:c≤n):atI (zfZ t n k) (c:Int)=some (.int (t.g k c)):=zcc (zmO h)
theorem zkB {f:Nat→Nat} {k i:Nat} (h:i<k):atI (nmL f k) (i:Int)=some (.int (f i:Int)):=zcc (zmd h)
theorem zlK {xs:List V} {v:V} {n:Nat} (l:xs.length=n+1) (h:xs[n]?=some v):atI xs (-1)=some v:=by
 have e:xs=xs.dropLast++[v]:=by
  have ne:xs≠[]:=fun z=>by rw [z] at l;cases l
  have:=List.dropLast_concat_getLast ne
  rw [List.getLast_eq_getElem] at this
  have hv:xs[xs.length - 1]'(by omega)=v:=by
   have h2:xs[xs.length - 1]?=some v:=by rw [l];exact h
   exact (List.getElem?_eq_some_iff.mp h2).2
  rw [hv] at this
  exact this.symm
 rw [e]
 exact zq5 _ _
theorem zfN {t:Sx} {n k:Nat}:atI (zfZ t n k) (-1)=some (.int (t.g k n)):=zlK (zhi t n k) (zmO (Nat.le_refl n))
structure Brd (H:Hp) (C b dx gl il ul:Addr) (rows:List Addr) (m n:Nat) (t:Sx) (s:Bool):Prop where
 hb:H b=some (.ins C dx [("grid",.ref gl),("scale",.int t.d),("idle",.ref il),("busy",.ref ul),("stuck",.bl s)])
 hg:H gl=some (.lst (rows.map V.ref))
 len:rows.length=m+1
 row:∀ (k:Nat) r,rows[k]?=some r→H r=some (.lst (zfZ t n k))
 hi:H il=some (.lst (nmL t.id n))
 hu:H ul=some (.lst (nmL t.bs m))
 ne:il≠ul
section
variable {H H':Hp} {C b dx gl il ul P:Addr} {rows:List Addr} {m n:Nat} {t:Sx} {s:Bool}
theorem Brd.same (B:Brd H C b dx gl il ul rows m n t s) (e:za0 H H'):Brd H' C b dx gl il ul rows m n t s:=⟨e _ _ B.hb,e _ _ B.hg,B.len,fun k r h=>e _ _ (B.row k r h),e _ _ B.hi,e _ _ B.hu,B.ne⟩
theorem Brd.bar (B:Brd H C b dx gl il ul rows m n t s) (L:LT H P) (e:Bar P H H'):Brd H' C b dx gl il ul rows m n t s :=
 ⟨e _ _ (L.neI B.hb) B.hb,e _ _ (L.neL B.hg) B.hg,B.len,fun k r h=>e _ _ (L.neL (B.row k r h)) (B.row k r h),e _ _ (L.neL B.hi) B.hi,e _ _ (L.neL B.hu) B.hu,B.ne⟩
theorem Brd.rowAt (B:Brd H C b dx gl il ul rows m n t s) {k:Nat} (h:k≤m):∃ r,rows[k]?=some r∧H r=some (.lst (zfZ t n k))∧atI (rows.map V.ref) (k:Int)=some (.ref r):=by
 have hk:k<rows.length:=by rw [B.len];omega
 refine ⟨rows[k],List.getElem?_eq_getElem hk,B.row k _ (List.getElem?_eq_getElem hk),zcc ?_⟩
 rw [List.getElem?_map,List.getElem?_eq_getElem hk]
 rfl
theorem Brd.rowEnd (B:Brd H C b dx gl il ul rows m n t s):∃ r,H r=some (.lst (zfZ t n m))∧atI (rows.map V.ref) (-1)=some (.ref r):=by
 have hk:m<rows.length:=by rw [B.len];omega
 refine ⟨rows[m],B.row m _ (List.getElem?_eq_getElem hk),zlK (by rw [List.length_map,B.len]) ?_⟩
 rw [List.getElem?_map,List.getElem?_eq_getElem hk]
 rfl
end
structure LP (a:Nat→Nat→Int) (m n:Nat) (t:Sx):Prop where
 m1:1≤m
 m12:m≤12
 n1:1≤n
 n12:n≤12
 a1:∀ q j,q<n→j<m→1≤a q j
 ab:∀ q j,q<n→j<m→(a q j).natAbs≤2 ^ 104
 F:Fea m n (zbH a m n) t
theorem zuH:∀ m,m<13→fct (m+1)≤2 ^ 33:=by decide
theorem zoL {m:Nat} (h:m≤12):fct (m+1)*(2 ^ 104) ^ (m+1)<2 ^ 1400:=by
 have h1:=zuH m (by omega)
 have h2:(2 ^ 104) ^ (m+1)≤2 ^ (104*13):=by
  rw [← Nat.pow_mul]
  exact Nat.pow_le_pow_right (by decide) (by omega)
 have h3:fct (m+1)*(2 ^ 104) ^ (m+1)≤2 ^ 33*2 ^ (104*13):=Nat.mul_le_mul h1 h2
 rw [← Nat.pow_add] at h3
 exact Nat.lt_of_le_of_lt h3 (Nat.pow_lt_pow_right (by decide) (by decide))
section
variable {a:Nat→Nat→Int} {m n:Nat} {t:Sx}
theorem LP.vb (L:LP a m n t) (q j:Nat):(zbH a m n q j).natAbs≤2 ^ 104:=vt_le (Nat.one_le_two_pow) L.ab q j
theorem LP.g (L:LP a m n t) {k c:Nat} (hk:k≤m) (hc:c≤n):Bd 1400 (t.g k c):=Nat.lt_of_le_of_lt (L.F.tok.bound L.vb hk hc) (zoL L.m12)
theorem LP.d (L:LP a m n t):Bd 1400 t.d:=Nat.lt_of_le_of_lt (L.F.tok.boundD L.vb) (zoL L.m12)
theorem LP.y (L:LP a m n t) (j:Nat):Bd 1400 (yw a m n t j):=Nat.lt_of_le_of_lt (zqv L.vb j) (zoL L.m12)
theorem LP.piv (L:LP a m n t) {s:Bool} {r c:Nat} (h:Stp m n t s r c):LP a m n (piv t r c):=⟨L.m1,L.m12,L.n1,L.n12,L.a1,L.ab,L.F.piv h⟩
end
def zjQ (C:Addr):Sp:=fun vs H Q _=>∃ (b dx gl il ul:Addr) (rows:List Addr) (a:Nat→Nat→Int) (m n:Nat) (t:Sx) (s:Bool) (k l c:Nat),vs=[.ref b,.int k,.int l,.int c]∧Brd H C b dx gl il ul rows m n t s∧LP a m n t∧k<m∧l<m∧c<n ∧
 ∀ r:Bool,(r=true↔t.g k n*t.g l c<t.g l n*t.g k c∨(t.g k n*t.g l c=t.g l n*t.g k c∧t.bs k<t.bs l))→Q (.bl r) H
def zl1 (C:Addr):Sp:=fun vs H Q _=>∃ (b dx gl il ul:Addr) (rows:List Addr) (a:Nat→Nat→Int) (m n:Nat) (t:Sx) (s:Bool) (c:Nat),vs=[.ref b,.int c]∧Brd H C b dx gl il ul rows m n t s∧LP a m n t∧c<n ∧
 ∀ r:Nat,r<m→0<t.g r c→(∀ k,k<m→0<t.g k c→t.g r n*t.g k c<t.g k n*t.g r c∨(t.g r n*t.g k c=t.g k n*t.g r c∧t.bs r≤t.bs k))→Q (.int r) H
def zjx (C:Addr):Sp:=fun vs H Q _=>∃ (b dx gl il ul:Addr) (rows:List Addr) (a:Nat→Nat→Int) (m n:Nat) (t:Sx) (s:Bool) (c:Nat),vs=[.ref b,.int c]∧Brd H C b dx gl il ul rows m n t s∧LP a m n t∧c<n ∧
 ∀ (x y:Int) (r:Addr) (H':Hp),za0 H H'→H' r=some (.tup [.int x,.int y])→Bd 2900 x→Bd 2900 y→Q (.ref r) H'
def zi4 (C:Addr):Sp:=fun vs H Q _=>∃ (b dx gl il ul cl:Addr) (rows:List Addr) (a:Nat→Nat→Int) (m n:Nat) (t:Sx) (s:Bool) (cs:List Nat),vs=[.ref b,.ref cl]∧Brd H C b dx gl il ul rows m n t s∧LP a m n t∧H cl=some (.lst (cs.map fun c:Nat=>V.int c))∧1≤cs.length∧cs.length≤12∧(∀ c∈cs,c<n) ∧
 ∀ c∈cs,∀ H',za0 H H'→Q (.int c) H'
def zkq (C P:Addr):Sp:=fun vs H Q _=>∃ (b dx gl il ul:Addr) (rows:List Addr) (a:Nat→Nat→Int) (m n:Nat) (t:Sx) (s:Bool),vs=[.ref b]∧Brd H C b dx gl il ul rows m n t s∧LP a m n t∧LT H P ∧
 (znN m n t→∀ H',za0 H H'→Q .non H')∧∀ (c:Nat) (H':Hp),c<n→t.g m c<0→(s=true→∀ j,j<n→t.g m j<0→t.id c≤t.id j)→Bar P H H'→LT H' P→Q (.int c) H'
def zoO (C:Addr):Sp:=fun vs H Q _=>∃ (b dx gl il ul:Addr) (rows:List Addr) (a:Nat→Nat→Int) (m n:Nat) (t:Sx) (s:Bool) (k r c:Nat),vs=[.ref b,.int k,.int r,.int c]∧Brd H C b dx gl il ul rows m n t s∧LP a m n t∧k≤m∧r<m∧c<n∧0<t.g r c ∧
 ∀ (l:Addr) (H':Hp),za0 H H'→H l=none→H' l=some (.lst (zfZ (piv t r c) n k))→Q (.ref l) H'
def zo6 (C:Addr):Sp:=fun vs H Q _=>∃ (b dx gl il ul:Addr) (rows:List Addr) (a:Nat→Nat→Int) (m n:Nat) (t:Sx) (s:Bool) (r c:Nat),vs=[.ref b,.int r,.int c]∧Brd H C b dx gl il ul rows m n t s∧LP a m n t∧r<m∧c<n∧0<t.g r c ∧
 ∀ (gl':Addr) (rows':List Addr) (H':Hp),(∀ x o,x≠b→x≠il→x≠ul→H x=some o→H' x=some o)→Brd H' C b dx gl' il ul rows' m n (piv t r c) (decide (t.g r n=0))→Q .non H'
structure Grd (H:Hp) (gl:Addr) (rows:List Addr) (m n:Nat) (t:Sx):Prop where
 hg:H gl=some (.lst (rows.map V.ref))
 len:rows.length=m+1
 row:∀ (k:Nat) r,rows[k]?=some r→H r=some (.lst (zfZ t n k))
theorem Grd.same {H H':Hp} {gl:Addr} {rows:List Addr} {m n:Nat} {t:Sx} (B:Grd H gl rows m n t) (e:za0 H H'):Grd H' gl rows m n t:=⟨e _ _ B.hg,B.len,fun k r h=>e _ _ (B.row k r h)⟩
def znT (C:Addr):Sp:=fun vs H Q _=>∃ (b dx gl:Addr) (rows:List Addr) (m n:Nat) (t:Sx),vs=[.ref b,.ref gl]∧H b=some (.ins C dx [])∧Grd H gl rows m n t∧m≤12∧n≤12∧t.d=1∧t.id=(fun c=>if c<n then c else n+m+1)∧t.bs=(fun k=>n+k) ∧
 ∀ (il ul:Addr) (H':Hp),(∀ x o,x≠b→H x=some o→H' x=some o)→H il=none→H ul=none→Brd H' C b dx gl il ul rows m n t false→Q .non H'
section
variable {P:Program} {w:World} {mg:Str→Option Value} {base:Heap}
variable {K:PySem.W.Frag} {H:Hp} {Q:VK} {a:Ad}
def zh9:TS :=
 (zaM (za6 (tOp (rI (fun _ j=>j≠0) fun i j=>.int (i.fmod j)) (zad 0) (zad 1)) (zao 2))
 (zaM (za6 (zad 1) (zao 0))
 (za6 (zad 2) (zao 1))))
theorem zeU (D:zbO) (σ:St) (H:Hp):zh9 D σ H=(zaM (za6 (tOp (rI (fun _ j=>j≠0) fun i j=>.int (i.fmod j)) (zad 0) (zad 1)) (zao 2))
 (zaM (za6 (zad 1) (zao 0))
 (za6 (zad 2) (zao 1)))) D σ H:=rfl
def zhN (K:PySem.W.Frag):TS :=
 (zaM (za6 (tCB (fun xs H Q=>∃ i,xs=[.int i]∧Q (.int (if i<0 then -i else i)) H) (zab (zad 0) zam)) (zao 0))
 (zaM (za6 (tCB (fun xs H Q=>∃ i,xs=[.int i]∧Q (.int (if i<0 then -i else i)) H) (zab (zad 1) zam)) (zao 1))
 (zaM (zjh (tTru K (zad 1)) (zh9))
 (zbo (zad 0)))))
theorem zns {x y:Int} (q:Q (.int (Int.gcd x y:Nat)) H):zhN K { nx:=fun _ H'=>Q .non H',rt:=Q } (L2.zbi ["one","other","rest"] [.int x,.int y]) H:=by
 unfold zhN
 simp_all only [zeU,zad]
 refine zp3 (fun σ H'=>H'=H∧∃ u v r,σ=[some (.int u),some (.int v),r]∧0≤u∧0≤v∧Int.gcd u v=Int.gcd x y) (fun σ _=>match σ with | [_,some (.int y),_]=>y.toNat | _=>0) ?_ ?_ ?_
 ·rw [zre,zre]
  exact ⟨rfl,_,_,_,rfl,by omega,by omega,rfl⟩
 ·rintro σ H' ⟨rfl,u,v,r,rfl,hu,hv,hg⟩
  simp_all only [zeU,zad]
  refine zdH (fun c=>?_) (fun c=>?_)
  ·have c':v≠0:=by simpa using c
   have hv':0<v:=by omega
   refine ⟨c',hv,Int.fmod_nonneg_of_pos u hv',?_,?_⟩
   ·rw [znX hu hv',hg]
   ·have:=Int.fmod_lt_of_pos u hv'
    omega
  ·have c':v=0:=by simpa using c
   subst c'
   rw [← hg,znB u hu] at q
   exact q
 ·rintro σ H1 Q1 Q2 hQ ⟨v,hv,k,hk,h⟩
  exact ⟨v,hv,k,hk,hQ _ _ h⟩
theorem zcV:zaI ["one","other","rest"] ["one","other"] (zaj zhT):=⟨rfl,rfl,rfl,by decide +kernel,rfl,by decide +kernel,by decide +kernel⟩
theorem zji (T:Txt K mg base a):zcw P w K mg base CX0 1 a.f_divisor a.d_divisor ["one","other"] zpX:=by
 refine T.F_divisor.ok zcV (fun vs H Q E h=>?_) (fun cdv A outer s H vs Q E hr h=>?_)
 ·obtain ⟨x,y,rfl,q⟩:=h
  rfl
 obtain ⟨x,y,rfl,q⟩:=h
 exact ⟨zhN K,(zaf (zaL (i:=0) zcV.nd rfl (Or.inl rfl) (zas zmG rfl T.z_abs PyProof.Rows.boot_abs (zaa (pv 0) zae)))
 (zaf (zaL (i:=1) zcV.nd rfl (Or.inl rfl) (zas zmG rfl T.z_abs PyProof.Rows.boot_abs (zaa (pv 1) zae)))
 (zaf (zmt PassesOwn.never (zmP (pv 1) (fun _=>rfl)) (zaf (zaL (i:=2) zcV.nd rfl (Or.inl rfl) (zaP zsA (pv 0) (pv 1)))
 (zaf (zaL (i:=0) zcV.nd rfl (Or.inl rfl) (pv 1))
 (zak (zaL (i:=1) zcV.nd rfl (Or.inl rfl) (pv 2))))))
 (zak (zaJ (pv 0)))))),
  zns q⟩
def zhP:TS :=
 (zbo (zgS (zab (tOp (rI (fun _ j=>j≠0∧j.natAbs.log2<9000) fun i j=>.int (i.fdiv j)) (zad 0) (zad 2)) (zab (tOp (rI (fun _ j=>j≠0∧j.natAbs.log2<9000) fun i j=>.int (i.fdiv j)) (zad 1) (zad 2)) zam))))
theorem zcz (D:zbO) (σ:St) (H:Hp):zhP D σ H=(zbo (zgS (zab (tOp (rI (fun _ j=>j≠0∧j.natAbs.log2<9000) fun i j=>.int (i.fdiv j)) (zad 0) (zad 2)) (zab (tOp (rI (fun _ j=>j≠0∧j.natAbs.log2<9000) fun i j=>.int (i.fdiv j)) (zad 1) (zad 2)) zam)))) D σ H:=rfl
def zkT:TS :=
 (zaM (za6 (zaK zpX [] E0 (zab (zad 0) (zab (zad 1) zam))) (zao 2))
 (zaM (zdy (zbE (zaQ (tOp (rI0 fun i j=>.bl (decide (i<j))) (zad 1) (tC (.int 0)))) (za6 (tUn (rU fun i=>.int (-i)) (zad 2)) (zao 2)) zaR))
 (zhP)))
theorem zcA (D:zbO) (σ:St) (H:Hp):zkT D σ H=(zaM (za6 (zaK zpX [] E0 (zab (zad 0) (zab (zad 1) zam))) (zao 2))
 (zaM (zdy (zbE (zaQ (tOp (rI0 fun i j=>.bl (decide (i<j))) (zad 1) (tC (.int 0)))) (za6 (tUn (rU fun i=>.int (-i)) (zad 2)) (zao 2)) zaR))
 (zhP))) D σ H:=rfl
def zmn:TS :=
 (zaM (zdy (zbE (zaQ (tOp rEq (zad 1) (tC (.int 0)))) zrC zaR))
 (zkT))
theorem zqx {t b:Int} (h:b≠0) (hb:Bd 6000 b) (q:∀ (r:Addr) (H':Hp),za0 H H'→H' r=some (.tup (fr (Rat.divInt t b)))→Q (.ref r) H') :
  zmn { nx:=fun _ H'=>Q .non H',rt:=Q } (L2.zbi ["top","bottom","shared"] [.int t,.int b]) H:=by
 unfold zmn
 simp_all only [zcz,zcA,zad]
 refine ⟨fun σ H'=>H'=H∧σ=[some (.int t),some (.int b),none],?_,?_⟩
 ·simp_all only [zcz,zcA,zad]
  exact zdH (fun c=>absurd c h) (fun _=>trivial)
 ·rintro σ H' ⟨e,rfl⟩
  rw [e]
  simp_all only [zcz,zcA,zad]
  refine ⟨t,b,rfl,?_⟩
  refine ⟨fun σ H'=>H'=H∧σ=[some (.int t),some (.int b),some (.int (sg t b))],?_,?_⟩
  ·simp_all only [zcz,zcA,zad]
   unfold sg
   exact zdH (fun c=>by rw [if_pos c]) (fun c=>by rw [if_neg c])
  ·rintro σ H' ⟨e,rfl⟩
   rw [e]
   simp_all only [zcz,zcA,zad]
   refine ⟨zn0 h,zrq h hb,zn0 h,zrq h hb,by decide,fun p hp=>q p _ (zap hp _) ?_⟩
   rw [fr,(zoH h).1,(zoH h).2]
   exact zag
theorem zkb:zaI ["top","bottom","shared"] ["top","bottom"] (zaj zlZ):=⟨rfl,rfl,rfl,by decide +kernel,rfl,by decide +kernel,by decide +kernel⟩
theorem zmA (T:Txt K mg base a):zcw P w K mg base CX0 2 a.f_ratio a.d_ratio ["top","bottom"] zps:=by
 have G_divisor:=zji (P:=P) (w:=w) (base:=base) T
 refine T.F_ratio.ok zkb (fun vs H Q E h=>?_) (fun cdv A outer s H vs Q E hr h=>?_)
 ·obtain ⟨t,b,rfl,h,hb,q⟩:=h
  rfl
 obtain ⟨t,b,rfl,h,hb,q⟩:=h
 exact ⟨zmn,(zaf (zbq (zbD (zaU zgh (pv 1) zai (za4 _)) (zak zra) zaN))
 (zaf (zaL (i:=2) zkb.nd rfl (Or.inl rfl) (zaG G_divisor (hr.mono (by decide)) rfl T.m_divisor T.F_divisor.kp T.b_divisor .nil zbd (zaa (pv 0) (zaa (pv 1) zae))))
 (zaf (zbq (zbD (zaU zhQ (pv 1) zai (za4 _)) (zak (zaL (i:=2) zkb.nd rfl (Or.inl rfl) (ze6 zc7 (pv 2)))) zaN))
 (zak (zaJ (zdY (zaa (zaP zhf (pv 0) (pv 2)) (zaa (zaP zhf (pv 1) (pv 2)) zae)))))))),
  zqx h hb q⟩
def zmj:Sp:=fun vs H Q _=>∃ (x y:Addr) (u v:Rat),vs=[.ref x,.ref y]∧H x=some (.tup (fr u))∧H y=some (.tup (fr v))∧Bq 2900 u∧Bq 2900 v∧∀ (r:Addr) (H':Hp),za0 H H'→H' r=some (.tup (fr (u+v)))→Q (.ref r) H'
def zoD (K:PySem.W.Frag):TS :=
 (zbo (zaK zps [] E0 (zab (tOp (rI0 fun i j=>.int (i+j)) (tOp (rI IntMulOk fun i j=>.int (i*j)) (tOp (zky K) (zad 0) (tC (.int 0))) (tOp (zky K) (zad 1) (tC (.int 1)))) (tOp (rI IntMulOk fun i j=>.int (i*j)) (tOp (zky K) (zad 1) (tC (.int 0))) (tOp (zky K) (zad 0) (tC (.int 1))))) (zab (tOp (rI IntMulOk fun i j=>.int (i*j)) (tOp (zky K) (zad 0) (tC (.int 1))) (tOp (zky K) (zad 1) (tC (.int 1)))) zam))))
theorem ztl {x y:Addr} {u v:Rat} (hx:H x=some (.tup (fr u))) (hy:H y=some (.tup (fr v))) (bu:Bq 2900 u) (bv:Bq 2900 v) (q:∀ (r:Addr) (H':Hp),za0 H H'→H' r=some (.tup (fr (u+v)))→Q (.ref r) H') :
  zoD K { nx:=fun _ H'=>Q .non H',rt:=Q } (L2.zbi ["one","other"] [.ref x,.ref y]) H:=by
 unfold zoD
 simp_all only [zad]
 rw [← zom] at q
 have hx:=SqT.of (K:=K) hx
 have hy:=SqT.of (K:=K) hy
 exact ⟨_,hx,_,rfl,_,hy,_,rfl,_,rfl,_,rfl,znL 2900 2900 bu.top bv.bot,_,hy,_,rfl,_,hx,_,rfl,_,rfl,_,rfl,znL 2900 2900 bv.top bu.bot,_,hx,_,rfl,_,hy,_,rfl,_,rfl,_,rfl,znL 2900 2900 bu.bot bv.bot,_,_,rfl,Int.mul_ne_zero (zi1 u) (zi1 v),(bu.bot.mul bv.bot).mono (by decide),q⟩
theorem zsO:zaI ["one","other"] ["one","other"] (zaj zpf):=⟨rfl,rfl,rfl,by decide +kernel,rfl,by decide +kernel,by decide +kernel⟩
theorem zsF (T:Txt K mg base a):zcw P w K mg base CX0 3 a.f_plus a.d_plus ["one","other"] zmj:=by
 have G_ratio:=zmA (P:=P) (w:=w) (base:=base) T
 refine T.F_plus.ok zsO (fun vs H Q E h=>?_) (fun cdv A outer s H vs Q E hr h=>?_)
 ·obtain ⟨x,y,u,v,rfl,hx,hy,bu,bv,q⟩:=h
  rfl
 obtain ⟨x,y,u,v,rfl,hx,hy,bu,bv,q⟩:=h
 exact ⟨zoD K,(zak (zaJ (zaG G_ratio (hr.mono (by decide)) rfl T.m_ratio T.F_ratio.kp T.b_ratio .nil zbd (zaa (zaP zdV (zaP zbC (zaO zeO (pv 0) zai (fun _ _=>rfl)) (zaO zeO (pv 1) zai (fun _ _=>rfl))) (zaP zbC (zaO zeO (pv 1) zai (fun _ _=>rfl)) (zaO zeO (pv 0) zai (fun _ _=>rfl)))) (zaa (zaP zbC (zaO zeO (pv 0) zai (fun _ _=>rfl)) (zaO zeO (pv 1) zai (fun _ _=>rfl))) zae))))),
  ztl hx hy bu bv q⟩
theorem zeA {p D:Addr} {xs:List V} {te:TE} {rest:St} {x0:Option V} {vs:List V} (hp:H p=some (.lst xs)) (lq:vs.length=xs.length) (l6:vs.length≤1000) (hD:H D=none)
  (st:∀ (i:Nat) (x v:V) (H':Hp) (R:VK),xs[i]?=some x→vs[i]?=some v→za0 H H'→(∀ H2:Hp,za0 H' H2→R v H2)→te (some x::rest) H' R)
  (hd:∀ H':Hp,za0 H H'→H' D=some (.lst vs)→Q (.ref D) H') :
  zjp (Itl K p) (zao 0) za7 te D Q (x0::rest) (upd H D (.lst [])):=by
 refine zgg (K:=K) (xs:=xs) (fun i ys σ H'=>za0 H H'∧ys=vs.take i∧∃ x,σ=x::rest) ⟨zap hD _,rfl,_,rfl⟩ ?_ ?_ ?_
 ·rintro i ys σ H' _ ⟨s,_⟩
  exact SqL.of (s _ _ hp)
 ·rintro i x ys σ H' hx hD' ⟨s,rfl,u,rfl⟩
  have i1:=(List.getElem?_eq_some_iff.mp hx).1
  have hw:vs[i]?=some (vs[i]'(by omega)):=List.getElem?_eq_getElem (by omega)
  refine st i x _ _ _ hx hw s fun H2 s2=>?_
  refine ⟨D,_,_,rfl,rfl,s2 _ _ hD',zbl (by rw [List.length_take];omega),_,zag,(s.trans s2).put hD,?_,_,rfl⟩
  rw [List.take_add_one,hw]
  rfl
 ·rintro ys σ H' hD' ⟨s,rfl,u,rfl⟩
  rw [← lq,List.take_length] at hD'
  exact hd H' s hD'
structure znP (ns:List Int) (g:Int):Prop where
 g0:0≤g
 all:∀ n∈ns,g∣n
 most:∀ d:Int,(∀ n∈ns,d∣n)→d∣g
theorem znP.ne {ns:List Int} {g n:Int} (h:znP ns g) (hn:n∈ns) (n0:n≠0):0<g:=by
 have h1:=h.all n hn
 have h2:=h.g0
 refine Classical.byContradiction fun c=>n0 ?_
 have:g=0:=by omega
 subst this
 exact Int.zero_dvd.mp h1
theorem znP.le {ns:List Int} {g n:Int} (h:znP ns g) (hn:n∈ns) (n0:n≠0):g.natAbs≤n.natAbs:=Nat.le_of_dvd (by omega) (Int.natAbs_dvd_natAbs.mpr (h.all n hn))
theorem znP.log {ns:List Int} {g n:Int} (h:znP ns g) (hn:n∈ns) (n0:n≠0) (b:Bd 9000 n):g.natAbs.log2<9000:=zmJ 9000 (by have:=h.ne hn n0;omega) (b.le (h.le hn n0))
def zmR:Sp:=fun vs H Q _=>∃ (l:Addr) (ns:List Int),vs=[.ref l]∧H l=some (.lst (ns.map V.int))∧∀ g:Int,znP ns g→Q (.int g) H
def zcQ (K:PySem.W.Frag):TS :=
 (zaM (za6 (tC (.int 0)) (zao 1))
 (zaM (zmu (zdJ K (zad 0)) (zao 2)
 (za6 (zaK zpX [] E0 (zab (zad 1) (zab (zad 2) zam))) (zao 1)))
 (zbo (zad 1))))
theorem zgA {l:Addr} {ns:List Int} (hl:H l=some (.lst (ns.map V.int))) (q:∀ g:Int,znP ns g→Q (.int g) H) :
  zcQ K { nx:=fun _ H'=>Q .non H',rt:=Q } (L2.zbi ["numbers","shared","number"] [.ref l]) H:=by
 unfold zcQ
 simp_all only [zad]
 refine ⟨⟨_,SqL.of hl⟩,?_⟩
 refine zej (K:=K) (xs:=ns.map V.int) (fun i σ H'=>H'=H∧∃ (g:Int) (x:Option V),znP (ns.take i) g∧σ=[some (.ref l),some (.int g),x]) ⟨rfl,0,_,⟨by decide,by simp,fun d _=>Int.dvd_zero d⟩,rfl⟩ ?_ ?_ ?_
 ·rintro i σ H' _ ⟨rfl,_⟩
  exact SqL.of hl
 ·rintro i v σ H1 hx ⟨rfl,g,x,G,rfl⟩
  obtain ⟨n,en,rfl⟩:=zbU hx
  simp_all only [zad]
  refine ⟨g,n,rfl,rfl,_,⟨by omega,fun m hm=>?_,fun d hd=>?_⟩,rfl⟩
  ·rw [List.take_add_one,en] at hm
   rcases List.mem_append.mp hm with h | h
   ·exact Int.dvd_trans (Int.gcd_dvd_left ..) (G.all m h)
   ·have:m=n:=by simpa using h
    rw [this]
    exact Int.gcd_dvd_right ..
  ·rw [List.take_add_one,en] at hd
   exact Int.dvd_coe_gcd (G.most d fun m hm=>hd m (List.mem_append_left _ hm)) (hd n (List.mem_append_right _ (by simp)))
 ·rintro σ H1 ⟨rfl,g,x,G,rfl⟩
  rw [List.length_map,List.take_length] at G
  simp_all only [zad]
  exact q g G
theorem zbN:zaI ["numbers","shared","number"] ["numbers"] (zaj zcP):=⟨rfl,rfl,rfl,by decide +kernel,rfl,by decide +kernel,by decide +kernel⟩
theorem zf6 (T:Txt K mg base a):zcw P w K mg base CX0 2 a.f_shared_divisor a.d_shared_divisor ["numbers"] zmR:=by
 have G_divisor:=zji (P:=P) (w:=w) (base:=base) T
 refine T.F_shared_divisor.ok zbN (fun vs H Q E h=>?_) (fun cdv A outer s H vs Q E hr h=>?_)
 ·obtain ⟨l,ns,rfl,hl,q⟩:=h
  rfl
 obtain ⟨l,ns,rfl,hl,q⟩:=h
 exact ⟨zcQ K,(zaf (zaL (i:=1) zbN.nd rfl (Or.inl rfl) zai)
 (zaf (zfP PassesOwn.never rfl (zci (pv 0)) (zaW (i:=2) zbN.nd rfl (Or.inl rfl))
 (zak (zaL (i:=1) zbN.nd rfl (Or.inl rfl) (zaG G_divisor (hr.mono (by decide)) rfl T.m_divisor T.F_divisor.kp T.b_divisor .nil zbd (zaa (pv 1) (zaa (pv 2) zae))))))
 (zak (zaJ (pv 1))))),
  zgA hl q⟩
def zjU:Sp:=fun vs H Q _=>∃ (l:Addr) (ns:List Int) (m:Int),vs=[.ref l]∧H l=some (.lst (ns.map V.int))∧ns.length≤1000∧m∈ns∧m≠0∧Bd 9000 m∧∀ (r:Addr) (g:Int) (H':Hp),za0 H H'→znP ns g→H' r=some (.lst ((ns.map fun n=>n.fdiv g).map V.int))→Q (.ref r) H'
def zjy (K:PySem.W.Frag):TS :=
 (zaM (za6 (zaK zmR [] E0 (zab (zad 0) zam)) (zao 1))
 (zbo (zbW (zdJ K (zad 0)) (zao 0) za7 (tOp (rI (fun _ j=>j≠0∧j.natAbs.log2<9000) fun i j=>.int (i.fdiv j)) (zad 0) (zad 1)) [none,some 1])))
theorem zo2 {l:Addr} {ns:List Int} {m:Int} (hl:H l=some (.lst (ns.map V.int))) (l1:ns.length≤1000) (hm:m∈ns) (m0:m≠0) (mb:Bd 9000 m) (q:∀ (r:Addr) (g:Int) (H':Hp),za0 H H'→znP ns g→H' r=some (.lst ((ns.map fun n=>n.fdiv g).map V.int))→Q (.ref r) H') :
  zjy K { nx:=fun _ H'=>Q .non H',rt:=Q } (L2.zbi ["weights","shared"] [.ref l]) H:=by
 unfold zjy
 simp_all only [zad]
 refine ⟨l,ns,rfl,hl,fun g G=>?_⟩
 refine ⟨⟨_,SqL.of hl⟩,fun D hD=>?_⟩
 refine zeA (vs:=(ns.map fun n=>n.fdiv g).map V.int) hl (by simp) (by simpa using l1) hD (fun i x v H' R hx hv s k=>?_) fun H1 s1 h1=>q D g H1 s1 G h1
 obtain ⟨n,en,rfl⟩:=zbU hx
 obtain ⟨y,ey,rfl⟩:=zbU hv
 obtain ⟨n',en',rfl⟩:=zbU ey
 rw [en] at en'
 cases en'
 simp_all only [zad]
 exact ⟨by have:=G.ne hm m0;omega,G.log hm m0 mb,k _ (.refl _)⟩
theorem zlv:zaI ["weights","shared"] ["weights"] (zaj zhj):=⟨rfl,rfl,rfl,by decide +kernel,rfl,by decide +kernel,by decide +kernel⟩
theorem zkO (T:Txt K mg base a):zcw P w K mg base CX0 3 a.f_lowest a.d_lowest ["weights"] zjU:=by
 have G_shared_divisor:=zf6 (P:=P) (w:=w) (base:=base) T
 refine T.F_lowest.ok zlv (fun vs H Q E h=>?_) (fun cdv A outer s H vs Q E hr h=>?_)
 ·obtain ⟨l,ns,m,rfl,hl,l1,hm,m0,mb,q⟩:=h
  rfl
 obtain ⟨l,ns,m,rfl,hl,l1,hm,m0,mb,q⟩:=h
 exact ⟨zjy K,(zaf (zaL (i:=1) zlv.nd rfl (Or.inr rfl) (zaG G_shared_divisor (hr.mono (by decide)) rfl T.m_shared_divisor T.F_shared_divisor.kp T.b_shared_divisor .nil zbd (zaa (pv 0) zae)))
 (zak (zaJ (zcj (sc:=zaj zhj) (N:=["weights","shared"]) (Nc:=["weight","shared"]) (cap:=[none,some 1]) rfl rfl rfl (.of (by decide +kernel)) (zci (pv 0)) (fun _ _ _ _=>(zaW (i:=0) (show List.Nodup (["weight","shared"]:List Str) from by decide) rfl (Or.inl rfl))) (fun _ _ _ _=>zbQ) (fun _ _ _ _=>(zaP zhf (pv 0) (pv 1))))))),
  zo2 hl l1 hm m0 mb q⟩
def znO (n k:Int):Int:=((n*n+k*n+7*k*k)*1103515245 % 2147483629)*((n*n+k*n+7*k*k)*1103515245 % 2147483629) % 2147483587
structure Ps where
 n:Int
 f:Int
 c:Int
def Ps.o (s:Ps):HO:=.lst [.int s.n,.int s.f,.int s.c]
structure Ps.ok (s:Ps):Prop where
 bn:s.n.natAbs<2 ^ 2 ^ 20
 hf:s.f=0∨s.f=1∧0≤s.n
 c0:0≤s.c
def drF (s:Ps) (m:Int):Int:=if s.f=0 then znO s.n (s.c+1)*(znO s.n (s.c+1)+2) % 2147483579 % m else s.n % m
def nxF (s:Ps) (m:Int):Ps:=⟨if s.f=0 then s.n else s.n / m,s.f,s.c+1⟩
theorem zeT {s:Ps} {m:Int} (m0:0<m):0≤drF s m∧drF s m<m:=by
 unfold drF
 split
 ·exact ⟨Int.emod_nonneg _ (by omega),Int.emod_lt_of_pos _ m0⟩
 ·exact ⟨Int.emod_nonneg _ (by omega),Int.emod_lt_of_pos _ m0⟩
theorem Ps.ok.nx {s:Ps} (h:s.ok) {m:Int} (m0:0<m):(nxF s m).ok:=by
 refine ⟨?_,?_,by have:=h.c0;show 0≤s.c+1;omega⟩
 ·show (if s.f=0 then s.n else s.n / m).natAbs<_
  split
  ·exact h.bn
  ·rcases h.hf with z | ⟨_,n0⟩
   ·exact absurd z (by assumption)
   ·have d0:0≤s.n / m:=Int.ediv_nonneg n0 (by omega)
    have d1:s.n / m≤s.n:=Int.ediv_le_self m n0
    exact Nat.lt_of_le_of_lt (by omega) h.bn
 ·show s.f=0∨s.f=1∧0≤(if s.f=0 then s.n else s.n / m)
  rcases h.hf with z | ⟨z,n0⟩
  ·exact .inl z
  ·refine .inr ⟨z,?_⟩
   rw [if_neg (by omega)]
   exact Int.ediv_nonneg n0 (by omega)
def zpc:Sp:=fun vs H Q _=>∃ n k:Int,vs=[.int n,.int k]∧n.natAbs<2 ^ 2 ^ 20∧0≤k∧k≤100000∧Q (.int (znO n k)) H
def lfF (x:Int):Ps:=if x<1000000000000000000 then ⟨x,0,0⟩ else ⟨x - 1000000000000000000,1,0⟩
theorem zrt {x:Int} (bx:x.natAbs<2 ^ 2 ^ 20):(lfF x).ok:=by
 unfold lfF
 split
 ·exact ⟨bx,.inl rfl,Int.le_refl 0⟩
 ·exact ⟨Nat.lt_of_le_of_lt (by show (x - 1000000000000000000).natAbs≤x.natAbs;omega) bx,.inr ⟨rfl,by show 0≤x - 1000000000000000000;omega⟩,Int.le_refl 0⟩
def zio:Sp:=fun vs H Q _=>∃ (p:Addr) (x:Int),vs=[.ref p,.int 0]∧H p=some (.lst [.int x])∧∀ l:Addr,H l=none→Q (.ref l) (upd H l (lfF x).o)
def zbB:Sp:=fun vs H Q _=>∃ (p:Addr) (s:Ps) (m:Int),vs=[.ref p,.int m]∧H p=some s.o∧s.ok∧s.c<10000∧0<m∧m≤1000000000000000000000000000000∧Q (.int (drF s m)) (upd H p (nxF s m).o)
def zgd:TS :=
 (zaM (za6 (tOp (rI (fun _ j=>0<j) fun i j=>.int (i % j)) (tOp (rI IntMulOk fun i j=>.int (i*j)) (tOp (rI0 fun i j=>.int (i+j)) (tOp (rI0 fun i j=>.int (i+j)) (tOp (rI IntMulOk fun i j=>.int (i*j)) (zad 0) (zad 0)) (tOp (rI IntMulOk fun i j=>.int (i*j)) (zad 1) (zad 0))) (tOp (rI IntMulOk fun i j=>.int (i*j)) (tOp (rI IntMulOk fun i j=>.int (i*j)) (tC (.int 7)) (zad 1)) (zad 1))) (tC (.int 1103515245))) (tC (.int 2147483629))) (zao 2))
 (zbo (tOp (rI (fun _ j=>0<j) fun i j=>.int (i % j)) (tOp (rI IntMulOk fun i j=>.int (i*j)) (zad 2) (zad 2)) (tC (.int 2147483587)))))
theorem zl5 {n k:Int} (hn:n.natAbs<2 ^ 2 ^ 20) (k0:0≤k) (k1:k≤100000) (q:Q (.int (znO n k)) H) :
  zgd { nx:=fun _ H'=>Q .non H',rt:=Q } (L2.zbi ["_law_number","_law_k","_law_mixed"] [.int n,.int k]) H:=by
 unfold zgd
 simp_all only [zad]
 refine ⟨znL 1048576 1048576 hn hn,mulL (by omega) (by omega),zux (by omega) (by omega),zux (by omega) (by omega),zux (by decide) (by decide),by decide,?_⟩
 have b3:=Int.emod_nonneg ((n*n+k*n+7*k*k)*1103515245) (show (2147483629:Int)≠0 by decide)
 have b4:=Int.emod_lt_of_pos ((n*n+k*n+7*k*k)*1103515245) (show (0:Int)<2147483629 by decide)
 unfold znO at q
 generalize (n*n+k*n+7*k*k)*1103515245 % 2147483629=x at b3 b4 q ⊢
 exact ⟨zux (by omega) (by omega),by decide,q⟩
theorem zh4:zaI ["_law_number","_law_k","_law_mixed"] ["_law_number","_law_k"] (zaj zgt):=⟨rfl,rfl,rfl,by decide +kernel,rfl,by decide +kernel,by decide +kernel⟩
theorem zlL (T:Txt K mg base a):zcw P w K mg base CX0 1 a.f__law_mix a.d__law_mix ["_law_number","_law_k"] zpc:=by
 refine T.F__law_mix.ok zh4 (fun vs H Q E h=>?_) (fun cdv A outer s H vs Q E hr h=>?_)
 ·obtain ⟨n,k,rfl,hn,k0,k1,q⟩:=h
  rfl
 obtain ⟨n,k,rfl,hn,k0,k1,q⟩:=h
 exact ⟨zgd,(zaf (zaL (i:=2) zh4.nd rfl (Or.inl rfl) (zaP zkA (zaP zbC (zaP zdV (zaP zdV (zaP zbC (pv 0) (pv 0)) (zaP zbC (pv 1) (pv 0))) (zaP zbC (zaP zbC zai (pv 1)) (pv 1))) zai) zai))
 (zak (zaJ (zaP zkA (zaP zbC (pv 2) (pv 2)) zai)))),
  zl5 hn k0 k1 q⟩
def zdX (K:PySem.W.Frag):TS :=
 (zbE (zaQ (tOp (rI0 fun i j=>.bl (decide (i<j))) (zad 1) (tCB (fun xs H Q=>∃ p ys,xs=[.ref p]∧(SqL K H p ys∨SqT K H p ys)∧Q (.int ys.length) H) (zab (zad 0) zam)))) (zbo (tOp (zbf K) (zad 0) (zad 1))) zaR)
theorem zc8 (K:PySem.W.Frag) (D:zbO) (σ:St) (H:Hp):zdX K D σ H=(zbE (zaQ (tOp (rI0 fun i j=>.bl (decide (i<j))) (zad 1) (tCB (fun xs H Q=>∃ p ys,xs=[.ref p]∧(SqL K H p ys∨SqT K H p ys)∧Q (.int ys.length) H) (zab (zad 0) zam)))) (zbo (tOp (zbf K) (zad 0) (zad 1))) zaR) D σ H:=rfl
def zdq (K:PySem.W.Frag):TS :=
 (zaM (zdy (zdX K))
 (zbo (tC (.int 0))))
theorem zhJ {p:Addr} {x:Int} (hp:H p=some (.lst [.int x])) (q:Q (.int x) H) :
  zdq K { nx:=fun _ H'=>Q .non H',rt:=Q } (L2.zbi ["_law_script","_law_k"] [.ref p,.int 0]) H:=by
 unfold zdq
 simp_all only [zc8,zad]
 refine ⟨fun _ _=>False,?_,fun _ _ z=>z.elim⟩
 simp_all only [zc8,zad]
 refine ⟨_,.inl (SqL.of hp),?_⟩
 exact zdH (fun _=>⟨_,SqL.of hp,_,rfl,q⟩) (fun z=>absurd (show (0:Int)<1 by decide) z)
theorem zie:zaI ["_law_script","_law_k"] ["_law_script","_law_k"] (zaj zdr):=⟨rfl,rfl,rfl,by decide +kernel,rfl,by decide +kernel,by decide +kernel⟩
theorem zhK (T:Txt K mg base a):zcw P w K mg base CX0 1 a.f__law_cell_at a.d__law_cell_at ["_law_script","_law_k"] (zmw K):=by
 refine T.F__law_cell_at.ok zie (fun vs H Q E h=>?_) (fun cdv A outer s H vs Q E hr h=>?_)
 ·obtain ⟨p,x,rfl,hp,q⟩:=h
  rfl
 obtain ⟨p,x,rfl,hp,q⟩:=h
 exact ⟨zdq K,(zaf (zbq (zbD (zaU zhQ (pv 1) (zas zar rfl T.z_len PySem.boot_len (zaa (pv 0) zae)) (za4 _)) (zak (zaJ (zaO zat (pv 0) (pv 1) (fun _ _=>rfl)))) zaN))
 (zak (zaJ zai))),
  zhJ hp q⟩
def zfX:TS :=
 (zbo (zb5 (zab (tOp (rI0 fun i j=>.int (i - j)) (zad 2) (tOp (rI ztE fun i j=>.int (i ^ j.toNat)) (tC (.int 10)) (tC (.int 18)))) (zab (tC (.int 1)) (zab (tC (.int 0)) zam)))))
theorem zcK (D:zbO) (σ:St) (H:Hp):zfX D σ H=(zbo (zb5 (zab (tOp (rI0 fun i j=>.int (i - j)) (zad 2) (tOp (rI ztE fun i j=>.int (i ^ j.toNat)) (tC (.int 10)) (tC (.int 18)))) (zab (tC (.int 1)) (zab (tC (.int 0)) zam))))) D σ H:=rfl
def zfI:TS :=
 (zbE (zaQ (tOp (rI0 fun i j=>.bl (decide (i<j))) (zad 2) (tOp (rI ztE fun i j=>.int (i ^ j.toNat)) (tC (.int 10)) (tC (.int 18))))) (zbo (zb5 (zab (zad 2) (zab (tC (.int 0)) (zab (tC (.int 0)) zam))))) zaR)
theorem zcF (D:zbO) (σ:St) (H:Hp):zfI D σ H=(zbE (zaQ (tOp (rI0 fun i j=>.bl (decide (i<j))) (zad 2) (tOp (rI ztE fun i j=>.int (i ^ j.toNat)) (tC (.int 10)) (tC (.int 18))))) (zbo (zb5 (zab (zad 2) (zab (tC (.int 0)) (zab (tC (.int 0)) zam))))) zaR) D σ H:=rfl
def ze0 (K:PySem.W.Frag):TS :=
 (zaM (za6 (zaK (zmw K) [] E0 (zab (zad 0) (zab (zad 1) zam))) (zao 2))
 (zaM (zdy (zfI))
 (zfX)))
theorem zls {p:Addr} {x:Int} (hp:H p=some (.lst [.int x])) (q:∀ l:Addr,H l=none→Q (.ref l) (upd H l (lfF x).o)) :
  ze0 K { nx:=fun _ H'=>Q .non H',rt:=Q } (L2.zbi ["_law_script","_law_k","_law_cell"] [.ref p,.int 0]) H:=by
 unfold ze0
 simp_all only [zcK,zcF,zad]
 refine ⟨p,x,rfl,hp,?_⟩
 unfold lfF at q
 refine ⟨fun σ H'=>H'=H∧1000000000000000000≤x∧σ=[some (.ref p),some (.int 0),some (.int x)],?_,?_⟩
 ·simp_all only [zcK,zcF,zad]
  refine ⟨zur,zdH (fun c=>⟨by decide,fun l hl=>?_⟩) (fun c=>by omega)⟩
  have:=q l hl
  rw [if_pos c] at this
  exact this
 ·rintro σ H1 ⟨rfl,c,rfl⟩
  simp_all only [zcK,zcF,zad]
  refine ⟨zur,by decide,fun l hl=>?_⟩
  have:=q l hl
  rw [if_neg (by omega)] at this
  exact this
theorem zgL:zaI ["_law_script","_law_k","_law_cell"] ["_law_script","_law_k"] (zaj zeY):=⟨rfl,rfl,rfl,by decide +kernel,rfl,by decide +kernel,by decide +kernel⟩
theorem zk8 (T:Txt K mg base a):zcw P w K mg base CX0 2 a.f__law_left a.d__law_left ["_law_script","_law_k"] zio:=by
 have G__law_cell_at:=zhK (P:=P) (w:=w) (base:=base) T
 refine T.F__law_left.ok zgL (fun vs H Q E h=>?_) (fun cdv A outer s H vs Q E hr h=>?_)
 ·obtain ⟨p,x,rfl,hp,q⟩:=h
  rfl
 obtain ⟨p,x,rfl,hp,q⟩:=h
 exact ⟨ze0 K,(zaf (zaL (i:=2) zgL.nd rfl (Or.inl rfl) (zaG G__law_cell_at (hr.mono (by decide)) rfl T.m__law_cell_at T.F__law_cell_at.kp T.b__law_cell_at .nil zbd (zaa (pv 0) (zaa (pv 1) zae))))
 (zaf (zbq (zbD (zaU zhQ (pv 2) (zaP zrk zai zai) (za4 _)) (zak (zaJ (za9 (zaa (pv 2) (zaa zai (zaa zai zae)))))) zaN))
 (zak (zaJ (za9 (zaa (zaP zgK (pv 2) (zaP zrk zai zai)) (zaa zai (zaa zai zae)))))))),
  zls hp q⟩
theorem logM {m:Int} (h0:0<m) (h1:m≤1000000000000000000000000000000):m.natAbs.log2<9000:=zmJ 100 (by omega) (by omega)
theorem upd2 {H:Hp} {p:Addr} {o o':HO}:L2.upd (L2.upd H p o) p o'=L2.upd H p o':=by
 funext b
 by_cases z:b=p
 ·rw [z,zag,zag]
 ·rw [zal z,zal z,zal z]
theorem zth (n k:Int):0≤znO n k∧znO n k<2147483587:=⟨Int.emod_nonneg _ (by decide),Int.emod_lt_of_pos _ (by decide)⟩
def zfC (K:PySem.W.Frag):TS :=
 (zaM (za6 (tOp (rI (fun _ j=>0<j) fun i j=>.int (i % j)) (tOp (zbf K) (zad 0) (tC (.int 0))) (zad 1)) (zao 3))
 (zaM (za6 (tOp (rI (fun _ j=>0<j∧j.natAbs.log2<9000) fun i j=>.int (i / j)) (tOp (zbf K) (zad 0) (tC (.int 0))) (zad 1)) (zj5 (zad 0) (tC (.int 0)) zdN))
 (zbo (zad 3))))
theorem zbY (K:PySem.W.Frag) (D:zbO) (σ:St) (H:Hp):zfC K D σ H=(zaM (za6 (tOp (rI (fun _ j=>0<j) fun i j=>.int (i % j)) (tOp (zbf K) (zad 0) (tC (.int 0))) (zad 1)) (zao 3))
 (zaM (za6 (tOp (rI (fun _ j=>0<j∧j.natAbs.log2<9000) fun i j=>.int (i / j)) (tOp (zbf K) (zad 0) (tC (.int 0))) (zad 1)) (zj5 (zad 0) (tC (.int 0)) zdN))
 (zbo (zad 3)))) D σ H:=rfl
def zfA (K:PySem.W.Frag):TS :=
 (zbE (zaQ (tOp rEq (tOp (zbf K) (zad 0) (tC (.int 1))) (tC (.int 0)))) (zaM (za6 (zaK zpc [] E0 (zab (tOp (zbf K) (zad 0) (tC (.int 0))) (zab (tOp (zbf K) (zad 0) (tC (.int 2))) zam))) (zao 2))
 (zbo (tOp (rI (fun _ j=>0<j) fun i j=>.int (i % j)) (tOp (rI (fun _ j=>0<j) fun i j=>.int (i % j)) (tOp (rI IntMulOk fun i j=>.int (i*j)) (zad 2) (tOp (rI0 fun i j=>.int (i+j)) (zad 2) (tC (.int 2)))) (tC (.int 2147483579))) (zad 1)))) zaR)
theorem zb6 (K:PySem.W.Frag) (D:zbO) (σ:St) (H:Hp):zfA K D σ H=(zbE (zaQ (tOp rEq (tOp (zbf K) (zad 0) (tC (.int 1))) (tC (.int 0)))) (zaM (za6 (zaK zpc [] E0 (zab (tOp (zbf K) (zad 0) (tC (.int 0))) (zab (tOp (zbf K) (zad 0) (tC (.int 2))) zam))) (zao 2))
 (zbo (tOp (rI (fun _ j=>0<j) fun i j=>.int (i % j)) (tOp (rI (fun _ j=>0<j) fun i j=>.int (i % j)) (tOp (rI IntMulOk fun i j=>.int (i*j)) (zad 2) (tOp (rI0 fun i j=>.int (i+j)) (zad 2) (tC (.int 2)))) (tC (.int 2147483579))) (zad 1)))) zaR) D σ H:=rfl
def zff (K:PySem.W.Frag):TS :=
 (zaM (za6 (tOp (rI0 fun i j=>.int (i+j)) (tOp (zbf K) (zad 0) (tC (.int 2))) (tC (.int 1))) (zj5 (zad 0) (tC (.int 2)) zdN))
 (zaM (zdy (zfA K))
 (zfC K)))
theorem zlk {p:Addr} {s:Ps} {m:Int} (hp:H p=some s.o) (hs:s.ok) (c1:s.c<10000) (m0:0<m) (m1:m≤1000000000000000000000000000000) (q:Q (.int (drF s m)) (upd H p (nxF s m).o)) :
  zff K { nx:=fun _ H'=>Q .non H',rt:=Q } (L2.zbi ["_law_left_here","_law_base","_law_mixed","_law_digit"] [.ref p,.int m]) H:=by
 unfold zff
 obtain ⟨n,f,c⟩:=s
 obtain ⟨bn,hf,c0⟩:=hs
 have hp:H p=some (.lst [.int n,.int f,.int c]):=hp
 dsimp only at bn hf c0 c1
 simp_all only [zbY,zb6,zad]
 refine ⟨_,SqL.of hp,_,rfl,_,rfl,_,hp,2,rfl,?_⟩
 simp_all only [zbY,zb6,zad]
 have hp2:(L2.upd H p (.lst [.int n,.int f,.int (c+1)])) p=some (.lst [.int n,.int f,.int (c+1)]):=zag
 refine ⟨fun σ H'=>H'=L2.upd H p (.lst [.int n,.int f,.int (c+1)])∧f=1∧0≤n∧σ=[some (.ref p),some (.int m),none,none],?_,?_⟩
 ·simp_all only [zbY,zb6,zad]
  refine ⟨_,SqL.of hp2,_,rfl,rfl,zdH (fun z=>?_) (fun z=>?_)⟩
  ·have z:f=0:=by injection z
   obtain ⟨x0,x1⟩:=zth n (c+1)
   have q':Q (.int (znO n (c+1)*(znO n (c+1)+2) % 2147483579 % m)) (L2.upd H p (.lst [.int n,.int f,.int (c+1)])):=by
    have e1:drF ⟨n,f,c⟩ m=znO n (c+1)*(znO n (c+1)+2) % 2147483579 % m:=if_pos z
    have e2:(nxF ⟨n,f,c⟩ m).o=.lst [.int n,.int f,.int (c+1)]:=by
     show HO.lst [.int (if f=0 then n else n / m),.int f,.int (c+1)]=_
     rw [if_pos z]
    rw [← e1,← e2]
    exact q
   refine ⟨_,SqL.of hp2,_,rfl,_,SqL.of hp2,_,rfl,n,c+1,rfl,bn,by omega,by omega,?_⟩
   generalize znO n (c+1)=x at x0 x1 q' ⊢
   exact ⟨x,rfl,x,rfl,zux (by omega) (by omega),by decide,m0,q'⟩
  ·rcases hf with rfl | h
   ·exact absurd rfl z
   ·exact h
 ·rintro σ H' ⟨rfl,rfl,n0,rfl⟩
  simp_all only [zbY,zb6,zad]
  have q':Q (.int (n % m)) (L2.upd (L2.upd H p (.lst [.int n,.int 1,.int (c+1)])) p (.lst [.int (n / m),.int 1,.int (c+1)])):=by
   rw [upd2]
   exact q
  exact ⟨_,SqL.of hp2,_,rfl,n,rfl,m0,_,SqL.of hp2,_,rfl,n,rfl,m0,logM m0 m1,_,hp2,0,rfl,q'⟩
theorem zei:zaI ["_law_left_here","_law_base","_law_mixed","_law_digit"] ["_law_left_here","_law_base"] (zaj ze7):=⟨rfl,rfl,rfl,by decide +kernel,rfl,by decide +kernel,by decide +kernel⟩
theorem zlg (T:Txt K mg base a):zcw P w K mg base CX0 2 a.f__law_draw a.d__law_draw ["_law_left_here","_law_base"] zbB:=by
 have G__law_mix:=zlL (P:=P) (w:=w) (base:=base) T
 refine T.F__law_draw.ok zei (fun vs H Q E h=>?_) (fun cdv A outer s H vs Q E hr h=>?_)
 ·obtain ⟨p,s,m,rfl,hp,hs,c1,m0,m1,q⟩:=h
  rfl
 obtain ⟨p,s,m,rfl,hp,hs,c1,m0,m1,q⟩:=h
 exact ⟨zff K,(zaf (zeR (zaP zdV (zaO zat (pv 0) zai (fun _ _=>rfl)) zai) (zeS (pv 0) zai zcr))
 (zaf (zbq (zbD (zaU zgh (zaO zat (pv 0) zai (fun _ _=>rfl)) zai (za4 _)) (zaf (zaL (i:=2) zei.nd rfl (Or.inl rfl) (zaG G__law_mix (hr.mono (by decide)) rfl T.m__law_mix T.F__law_mix.kp T.b__law_mix .nil zbd (zaa (zaO zat (pv 0) zai (fun _ _=>rfl)) (zaa (zaO zat (pv 0) zai (fun _ _=>rfl)) zae))))
 (zak (zaJ (zaP zkA (zaP zkA (zaP zbC (pv 2) (zaP zdV (pv 2) zai)) zai) (pv 1))))) zaN))
 (zaf (zaL (i:=3) zei.nd rfl (Or.inl rfl) (zaP zkA (zaO zat (pv 0) zai (fun _ _=>rfl)) (pv 1)))
 (zaf (zeR (zaP zpB (zaO zat (pv 0) zai (fun _ _=>rfl)) (pv 1)) (zeS (pv 0) zai zcr))
 (zak (zaJ (pv 3))))))),
  zlk hp hs c1 m0 m1 q⟩
inductive Sh (H:Hp):Tr→V→Prop where
 | int (i:Int):Sh H (.int i) (.int i)
 | bl (b:Bool):Sh H (.bl b) (.bl b)
 | str (x:Str):Sh H (.str x) (.str x)
 | non:Sh H .non .non
 | lst {p:Addr} {xs:List V} {ts:List Tr} (h:H p=some (.lst xs)) (l:xs.length=ts.length) (e:∀ (i:Nat) x t,xs[i]?=some x→ts[i]?=some t→Sh H t x):Sh H (.lst ts) (.ref p)
 | tup {p:Addr} {xs:List V} {ts:List Tr} (h:H p=some (.tup xs)) (l:xs.length=ts.length) (e:∀ (i:Nat) x t,xs[i]?=some x→ts[i]?=some t→Sh H t x):Sh H (.tup ts) (.ref p)
theorem Sh.same {H H':Hp} {t:Tr} {v:V} (h:Sh H t v) (s:za0 H H'):Sh H' t v:=by
 induction h with
 | int i=>exact .int i
 | bl b=>exact .bl b
 | str x=>exact .str x
 | non=>exact .non
 | lst h l _ ih=>exact .lst (s _ _ h) l ih
 | tup h l _ ih=>exact .tup (s _ _ h) l ih
def isW:Tr→Bool
 | .int _=>true
 | _=>false
def zlF:Tr→Bool
 | .lst ts=>decide (1≤ts.length)&&decide (ts.length≤12)&&ts.all isW
 | _=>false
theorem zfk (ts:List Tr):zlF (.lst ts)=(decide (1≤ts.length)&&decide (ts.length≤12)&&ts.all isW):=rfl
def trL:Tr→Nat
 | .lst ts=>ts.length
 | _=>0
def zeG:Tr→Bool
 | .lst ts=>decide (1≤ts.length)&&decide (ts.length≤12)&&ts.all zlF&&ts.all fun r=>decide (trL r=trL (ts.headD .non))
 | _=>false
theorem zc2 (ts:List Tr):zeG (.lst ts)=(decide (1≤ts.length)&&decide (ts.length≤12)&&ts.all zlF&&ts.all fun r=>decide (trL r=trL (ts.headD .non))):=rfl
def ztA:Tr→Prop
 | .lst ts=>ts.length≤100
 | _=>True
def zmC:Sp:=fun vs H Q _=>∃ (v:V) (t:Tr),vs=[v]∧Sh H t v∧Q (.bl (isW t)) H
def zoF:Sp:=fun vs H Q _=>∃ (v:V) (t:Tr),vs=[v]∧Sh H t v∧ztA t∧∀ H',za0 H H'→Q (.bl (zlF t)) H'
def ShO (H:Hp):Option Tr→V→Prop
 | some t,v=>Sh H t v
 | none,v=>∃ p,v=.ref p∧H p=some (.dK [])
theorem ShO.same {H H':Hp} {o:Option Tr} {v:V} (h:ShO H o v) (s:za0 H H'):ShO H' o v:=by
 cases o with
 | some t=>exact Sh.same h s
 | none =>
  obtain ⟨p,e,hp⟩:=h
  exact ⟨p,e,s _ _ hp⟩
def zbA:Option Tr→Bool
 | some t=>zeG t
 | none=>false
def zms:Option Tr→Prop
 | some t=>ztA t∧∀ ts,t=.lst ts→∀ r∈ts,ztA r
 | none=>True
def zrp:Sp:=fun vs H Q _=>∃ (v:V) (o:Option Tr),vs=[v]∧ShO H o v∧zms o∧∀ H',za0 H H'→Q (.bl (zbA o)) H'
theorem zfd {K:PySem.W.Frag} {a:Addr} {xs:List V} {cs:List Bool} {te:TE} {σ:St} {H:Hp} {D:Addr} {Q:VK} (lc:xs.length=cs.length) (hl:SqL K H a xs) (hD:H D=none) (hx:xs.length≤900)
  (hs:∀ (i:Nat) x c H' (R:VK),xs[i]?=some x→cs[i]?=some c→za0 H H'→(∀ H'',za0 H' H''→R (.bl c) H'')→te (σ.set 0 (some x)) H' R)
  (hd:∀ H',za0 H H'→H' D=some (.lst (cs.map V.bl))→Q (.ref D) H'):zjp (Itl K a) (zao 0) za7 te D Q σ (L2.upd H D (.lst [])):=by
 refine zgg (xs:=xs) (fun i ys σ' H'=>za0 H H'∧(∀ x,σ'.set 0 x=σ.set 0 x)∧ys=(cs.take i).map V.bl) ⟨zap hD _,fun _=>rfl,rfl⟩ ?_ ?_ ?_
 ·rintro i ys σ' H' _ ⟨s,_⟩
  exact s.seq hl
 ·rintro i x ys σ' H' e hD' ⟨s,es,rfl⟩
  have li:=(List.getElem?_eq_some_iff.mp e).1
  have ec:cs[i]?=some cs[i]:=List.getElem?_eq_getElem (by omega)
  show te (σ'.set 0 (some x)) H' _
  rw [es]
  refine hs i x _ H' _ e ec s fun H'' s2=>?_
  refine ⟨D,_,_,rfl,rfl,s2 _ _ hD',zbl (by rw [List.length_map,List.length_take];omega),_,zag,(s.trans s2).put hD,fun y=>by rw [List.set_set],?_⟩
  rw [List.take_add_one,ec,List.map_append]
  rfl
 ·rintro ys σ' H' hD' ⟨s,es,rfl⟩
  rw [List.take_of_length_le (by omega)] at hD'
  exact hd H' s hD'
theorem zmD {t:Tr} {v:V} (h:Sh H t v) (n:∀ ts,t≠.lst ts) (q:Q (.bl false) H):zgW K [v,.ty "list"] H Q:=by
 cases h with
 | non=>exact zbP .non (zgj K) q
 | bl b=>exact zbP (.bl b) (zjw K) q
 | int i=>exact zbP (.int i) (zll K) q
 | str x=>exact zbP (.str x) (zk9 K) q
 | lst h l e=>exact absurd rfl (n _)
 | tup h _ _=>exact zbP (.tup h) (ziM K) q
def zf1 (K:PySem.W.Frag):TS :=
 (zbo (ziU (tCB (zgW K) (zab (zad 0) (zab (tC (.ty "int")) zam))) (zs2 (tCB (zgW K) (zab (zad 0) (zab (tC (.ty "bool")) zam))))))
theorem zl6 {v:V} {t:Tr} (h:Sh H t v) (q:Q (.bl (isW t)) H):zf1 K { nx:=fun _ H'=>Q .non H',rt:=Q } (L2.zbi ["thing"] [v]) H:=by
 unfold zf1
 simp_all only [zad]
 cases h with
 | non=>exact zbP .non (zdZ K) ⟨_,rfl,znt q⟩
 | bl b =>
  refine zbP (.bl b) (zk5 K) ⟨_,rfl,zuh ?_⟩
  exact zbP (.bl b) rfl ⟨_,rfl,q⟩
 | int i =>
  refine zhz ⟨_,rfl,zuh ?_⟩
  exact zgN ⟨_,rfl,q⟩
 | str x=>exact zbP (.str x) (zhR K) ⟨_,rfl,znt q⟩
 | lst h _ _=>exact zbP (.lst h) (zgI K) ⟨_,rfl,znt q⟩
 | tup h _ _=>exact zbP (.tup h) (zfl K) ⟨_,rfl,znt q⟩
theorem zml:zaI ["thing"] ["thing"] (zaj zf3):=⟨rfl,rfl,rfl,by decide +kernel,rfl,by decide +kernel,by decide +kernel⟩
theorem zl8 (T:Txt K mg base a):zcw P w K mg base CX0 1 a.f_is_whole a.d_is_whole ["thing"] zmC:=by
 refine T.F_is_whole.ok zml (fun vs H Q E h=>?_) (fun cdv A outer s H vs Q E hr h=>?_)
 ·obtain ⟨v,t,rfl,h,q⟩:=h
  rfl
 obtain ⟨v,t,rfl,h,q⟩:=h
 exact ⟨zf1 K,(zak (zaJ (zje (zas zbn rfl T.z_isinstance PyProof.Rows.boot_isinstance (zaa (pv 0) (zaa (zdI rfl T.z_int zmQ rfl) zae))) (zja (ztT (zas zbn rfl T.z_isinstance PyProof.Rows.boot_isinstance (zaa (pv 0) (zaa (zdI rfl T.z_bool zlt rfl) zae)))))))),
  zl6 h q⟩
def zjZ (K:PySem.W.Frag):TS :=
 (zbo (ziU (tCB (zgW K) (zab (zad 0) (zab (tC (.ty "list")) zam))) (ziU (zjq (rI0 fun i j=>.bl (decide (i≤j))) (rI0 fun i j=>.bl (decide (i≤j))) (tC (.int 1)) (tCB (fun xs H Q=>∃ p ys,xs=[.ref p]∧(SqL K H p ys∨SqT K H p ys)∧Q (.int ys.length) H) (zab (zad 0) zam)) (tC (.int 12))) (tCB (zsm K) (zab (zbW (zdJ K (zad 0)) (zao 0) za7 (zaK zmC [] E0 (zab (zad 0) zam)) [none]) zam)))))
theorem zoG {v:V} {t:Tr} (h:Sh H t v) (l100:ztA t) (q:∀ H',za0 H H'→Q (.bl (zlF t)) H'):zjZ K { nx:=fun _ H'=>Q .non H',rt:=Q } (L2.zbi ["thing"] [v]) H:=by
 unfold zjZ
 simp_all only [zad]
 by_cases il:∃ ts,t=.lst ts
 ·obtain ⟨ts,rfl⟩:=il
  cases h with
  | lst h l e =>
   have l100:ts.length≤100:=l100
   refine zdO h ⟨true,rfl,zuh ⟨_,rfl,_,.inl (SqL.of h),?_⟩⟩
   have qf:∀ {b:Bool},zlF (.lst ts)=b→∀ H',za0 H H'→Q (.bl b) H':=fun e H' s=>by rw [← e];exact q H' s
   refine zdH (fun c1=>zdH (fun c2=>?_) (fun c2=>?_)) (fun c1=>?_)
   ·refine ⟨_,rfl,⟨_,SqL.of h⟩,fun D hD=>?_⟩
    refine zfd (cs:=ts.map isW) (by rw [List.length_map,l]) (SqL.of h) hD (by omega) (fun i x c H' R ex ec s hR=>?_) fun H' s hD'=>?_
    ·obtain ⟨u,eu,rfl⟩:=zbU ec
     simp_all only [zad]
     exact ⟨_,u,rfl,(e i x u ex eu).same s,hR _ (.refl _)⟩
    ·refine ⟨D,rfl,_,SqL.of hD',qf ?_ H' s⟩
     rw [zfk]
     rw [decide_eq_true (by omega),decide_eq_true (by omega),Bool.true_and,Bool.true_and,List.all_map]
     rfl
   ·refine qf ?_ H (.refl _)
    rw [zfk]
    rw [decide_eq_false (p:=ts.length≤12) (by omega),Bool.and_false,Bool.false_and]
   ·refine qf ?_ H (.refl _)
    rw [zfk]
    rw [decide_eq_false (p:=1≤ts.length) (by omega),Bool.false_and,Bool.false_and]
 ·have nl:∀ ts,t≠.lst ts:=fun ts z=>il ⟨ts,z⟩
  refine zmD h nl ⟨false,rfl,znt ?_⟩
  have e:zlF t=false:=by cases t with
   | lst ts=>exact absurd rfl (nl ts)
   | _=>rfl
  have:=q H (.refl _)
  rw [e] at this
  exact this
theorem zn2:zaI ["thing"] ["thing"] (zaj zhv):=⟨rfl,rfl,rfl,by decide +kernel,rfl,by decide +kernel,by decide +kernel⟩
theorem zor (T:Txt K mg base a):zcw P w K mg base CX0 2 a.f_is_row a.d_is_row ["thing"] zoF:=by
 have G_is_whole:=zl8 (P:=P) (w:=w) (base:=base) T
 refine T.F_is_row.ok zn2 (fun vs H Q E h=>?_) (fun cdv A outer s H vs Q E hr h=>?_)
 ·obtain ⟨v,t,rfl,h,l100,q⟩:=h
  rfl
 obtain ⟨v,t,rfl,h,l100,q⟩:=h
 exact ⟨zjZ K,(zak (zaJ (zje (zas zbn rfl T.z_isinstance PyProof.Rows.boot_isinstance (zaa (pv 0) (zaa (zdI rfl T.z_list zc4 rfl) zae))) (zje (zqu zq6 zq6 zai (zas zar rfl T.z_len PySem.boot_len (zaa (pv 0) zae)) (zbr rfl T.m_MOST ⟨_,rfl⟩)) (zja (zas (zkv rfl) rfl T.z_all PyProof.Rows.boot_all (zaa (zcj (sc:=zaj zhv) (N:=["thing"]) (Nc:=["number"]) (cap:=[none]) rfl rfl rfl (.of (by decide +kernel)) (zci (pv 0)) (fun _ _ _ _=>(zaW (i:=0) (show List.Nodup (["number"]:List Str) from by decide) rfl (Or.inl rfl))) (fun _ _ _ _=>zbQ) (fun _ _ _ _=>(zaG G_is_whole (hr.mono (by decide)) rfl T.m_is_whole T.F_is_whole.kp T.b_is_whole .nil zbd (zaa (pv 0) zae)))) zae))))))),
  zoG h l100 q⟩
theorem Sh.row {t:Tr} {v:V} (h:Sh H t v) (r:zlF t=true):∃ p xs,v=.ref p∧H p=some (.lst xs)∧xs.length=trL t:=by
 cases h with
 | lst h l e=>exact ⟨_,_,rfl,h,l⟩
 | _=>cases r
def zgO (K:PySem.W.Frag):TS :=
 (zbo (ziU (tCB (zsm K) (zab (zbW (zdJ K (zad 0)) (zao 0) za7 (zaK zoF [] E0 (zab (zad 0) zam)) [none]) zam)) (tCB (zsm K) (zab (zbW (zdJ K (zad 0)) (zao 0) za7 (tOp rEq (tCB (fun xs H Q=>∃ p ys,xs=[.ref p]∧(SqL K H p ys∨SqT K H p ys)∧Q (.int ys.length) H) (zab (zad 0) zam)) (tCB (fun xs H Q=>∃ p ys,xs=[.ref p]∧(SqL K H p ys∨SqT K H p ys)∧Q (.int ys.length) H) (zab (tOp (zbf K) (zad 1) (tC (.int 0))) zam))) [none,some 0]) zam))))
theorem za2 (K:PySem.W.Frag) (D:zbO) (σ:St) (H:Hp):zgO K D σ H=(zbo (ziU (tCB (zsm K) (zab (zbW (zdJ K (zad 0)) (zao 0) za7 (zaK zoF [] E0 (zab (zad 0) zam)) [none]) zam)) (tCB (zsm K) (zab (zbW (zdJ K (zad 0)) (zao 0) za7 (tOp rEq (tCB (fun xs H Q=>∃ p ys,xs=[.ref p]∧(SqL K H p ys∨SqT K H p ys)∧Q (.int ys.length) H) (zab (zad 0) zam)) (tCB (fun xs H Q=>∃ p ys,xs=[.ref p]∧(SqL K H p ys∨SqT K H p ys)∧Q (.int ys.length) H) (zab (tOp (zbf K) (zad 1) (tC (.int 0))) zam))) [none,some 0]) zam)))) D σ H:=rfl
def zgQ (K:PySem.W.Frag):TS :=
 (zbE (tOr (ziw (tB (tCB (zgW K) (zab (zad 0) (zab (tC (.ty "list")) zam))))) (ziw (zaQ (zjq (rI0 fun i j=>.bl (decide (i≤j))) (rI0 fun i j=>.bl (decide (i≤j))) (tC (.int 1)) (tCB (fun xs H Q=>∃ p ys,xs=[.ref p]∧(SqL K H p ys∨SqT K H p ys)∧Q (.int ys.length) H) (zab (zad 0) zam)) (tC (.int 12)))))) (zbo (tC (.bl false))) zaR)
theorem za1 (K:PySem.W.Frag) (D:zbO) (σ:St) (H:Hp):zgQ K D σ H=(zbE (tOr (ziw (tB (tCB (zgW K) (zab (zad 0) (zab (tC (.ty "list")) zam))))) (ziw (zaQ (zjq (rI0 fun i j=>.bl (decide (i≤j))) (rI0 fun i j=>.bl (decide (i≤j))) (tC (.int 1)) (tCB (fun xs H Q=>∃ p ys,xs=[.ref p]∧(SqL K H p ys∨SqT K H p ys)∧Q (.int ys.length) H) (zab (zad 0) zam)) (tC (.int 12)))))) (zbo (tC (.bl false))) zaR) D σ H:=rfl
def zdD (K:PySem.W.Frag):TS :=
 (zaM (zdy (zgQ K))
 (zgO K))
theorem zk6 {v:V} {t:Tr} (h:Sh H t v) (l100:ztA t) (r100:∀ ts,t=.lst ts→∀ r∈ts,ztA r) (q:∀ H',za0 H H'→Q (.bl (zeG t)) H'):zdD K { nx:=fun _ H'=>Q .non H',rt:=Q } (L2.zbi ["thing"] [v]) H:=by
 unfold zdD
 simp_all only [za2,za1,zad]
 by_cases il:∃ ts,t=.lst ts
 ·obtain ⟨ts,rfl⟩:=il
  cases h with
  | @lst p xs _ h l e =>
   have l100:ts.length≤100:=l100
   have qf:∀ {b:Bool},zeG (.lst ts)=b→∀ H',za0 H H'→Q (.bl b) H':=fun e H' s=>by rw [← e];exact q H' s
   refine ⟨fun σ H'=>H'=H∧1≤ts.length∧ts.length≤12∧σ=[some (.ref p)],?_,?_⟩
   ·simp_all only [za2,za1,zad]
    refine zdO h ⟨true,rfl,?_⟩
    simp_all only [za2,za1,zad]
    refine ⟨_,.inl (SqL.of h),?_⟩
    refine zdH (fun c1=>zdH (fun c2=>?_) (fun c2=>⟨by omega,by omega⟩)) (fun c1=>?_)
    ·refine qf ?_ H (.refl _)
     rw [zc2,decide_eq_false (p:=ts.length≤12) (by omega),Bool.and_false,Bool.false_and,Bool.false_and]
    ·refine qf ?_ H (.refl _)
     rw [zc2,decide_eq_false (p:=1≤ts.length) (by omega),Bool.false_and,Bool.false_and,Bool.false_and]
   ·rintro σ H1 ⟨rfl,c1,c2,rfl⟩
    simp_all only [za2,za1,zad]
    refine ⟨⟨_,SqL.of h⟩,fun D hD=>?_⟩
    refine zfd (cs:=ts.map zlF) (by rw [List.length_map,l]) (SqL.of h) hD (by omega) (fun i x c H' R ex ec s hR=>?_) fun H' s hD'=>?_
    ·obtain ⟨u,eu,rfl⟩:=zbU ec
     simp_all only [za2,za1,zad]
     exact ⟨_,u,rfl,(e i x u ex eu).same s,r100 _ rfl u (zb8 eu),fun H2 s2=>hR _ s2⟩
    ·have et:zeG (.lst ts)=(ts.all zlF&&ts.all fun r=>decide (trL r=trL (ts.headD .non))):=by rw [zc2,decide_eq_true c1,decide_eq_true c2,Bool.true_and,Bool.true_and]
     have em:(ts.map zlF).all id=ts.all zlF:=by rw [List.all_map];rfl
     refine ⟨D,rfl,_,SqL.of hD',?_⟩
     refine zdH (fun al=>?_) (fun al=>?_)
     ·rw [em,List.all_eq_true] at al
      have h':=s _ _ h
      refine ⟨⟨_,SqL.of h'⟩,fun D2 hD2=>?_⟩
      have t0:ts[0]?=some (ts[0]'(by omega)):=List.getElem?_eq_getElem _
      have x0:xs[0]?=some (xs[0]'(by omega)):=List.getElem?_eq_getElem _
      have hd:ts.headD .non=ts[0]'(by omega):=by
       cases ts with
       | nil=>exact absurd c1 (by decide)
       | cons u v=>rfl
      obtain ⟨p0,y0,e0,h0,l0⟩:=((e 0 _ _ x0 t0).same s).row (al _ (zb8 t0))
      refine zfd (cs:=ts.map fun r=>decide (trL r=trL (ts.headD .non))) (by rw [List.length_map,l]) (SqL.of h') hD2 (by omega) (fun i x c H2 R ex ec s2 hR=>?_) fun H2 s2 hD3=>?_
      ·obtain ⟨u,eu,rfl⟩:=zbU ec
       obtain ⟨pi,yi,rfl,hi,li⟩:=((e i x u ex eu).same s).row (al _ (zb8 eu))
       simp_all only [za2,za1,zad]
       refine ⟨_,.inl (SqL.of (s2 _ _ hi)),_,SqL.of (s2 _ _ h'),_,zcc (j:=0) (by rw [x0,e0]),_,rfl,_,.inl (SqL.of (s2 _ _ h0)),?_⟩
       have ed:decide ((yi.length:Int)=y0.length)=decide (trL u=trL (ts.headD .non)):=by
        rw [hd,li,l0]
        by_cases z:trL u=trL (ts[0]'(by omega))
        ·rw [decide_eq_true z,decide_eq_true (by rw [z])]
        ·rw [decide_eq_false z,decide_eq_false (fun y=>z (by exact_mod_cast y))]
       rw [ed]
       exact hR _ (.refl _)
      ·refine ⟨D2,rfl,_,SqL.of hD3,qf ?_ H2 (s.trans s2)⟩
       rw [et,List.all_eq_true.mpr al,Bool.true_and,List.all_map]
       rfl
     ·refine qf ?_ H' s
      rw [em,Bool.not_eq_true] at al
      rw [et,al,Bool.false_and]
 ·have nl:∀ ts,t≠.lst ts:=fun ts z=>il ⟨ts,z⟩
  have e:zeG t=false:=by cases t with
   | lst ts=>exact absurd rfl (nl ts)
   | _=>rfl
  refine ⟨fun _ _=>False,?_,fun _ _ z=>z.elim⟩
  simp_all only [za2,za1,zad]
  refine zmD h nl ⟨false,rfl,?_⟩
  have:=q H (.refl _)
  rw [e] at this
  exact this
theorem zfE (K:PySem.W.Frag):PySem.W.kitOne K (.type "dict") (.type "list")=some false:=by first | rfl | kernel_rfl
theorem zmi {v:V} {o:Option Tr} (h:ShO H o v) (l:zms o) (q:∀ H',za0 H H'→Q (.bl (zbA o)) H'):zdD K { nx:=fun _ H'=>Q .non H',rt:=Q } (L2.zbi ["thing"] [v]) H:=by
 cases o with
 | some t=>exact zk6 h l.1 l.2 q
 | none =>
  obtain ⟨p,rfl,hp⟩:=h
  unfold zdD
  simp_all only [za2,za1,zad]
  refine ⟨fun _ _=>False,?_,fun _ _ z=>z.elim⟩
  simp_all only [za2,za1,zad]
  exact zbP (.dK hp) (zfE K) ⟨false,rfl,q H (.refl _)⟩
theorem zl9:zaI ["thing"] ["thing"] (zaj zdE):=⟨rfl,rfl,rfl,by decide +kernel,rfl,by decide +kernel,by decide +kernel⟩
theorem zlM (T:Txt K mg base a):zcw P w K mg base CX0 3 a.f_is_table a.d_is_table ["thing"] zrp:=by
 have G_is_row:=zor (P:=P) (w:=w) (base:=base) T
 refine T.F_is_table.ok zl9 (fun vs H Q E h=>?_) (fun cdv A outer s H vs Q E hr h=>?_)
 ·obtain ⟨v,o,rfl,h,l,q⟩:=h
  rfl
 obtain ⟨v,o,rfl,h,l,q⟩:=h
 exact ⟨zdD K,(zaf (zbq (zbD (PW.pt (zkN (zet (zc5 (zas zbn rfl T.z_isinstance PyProof.Rows.boot_isinstance (zaa (pv 0) (zaa (zdI rfl T.z_list zc4 rfl) zae))))) (zk4 (zet (zpO zq6 zq6 zai (zas zar rfl T.z_len PySem.boot_len (zaa (pv 0) zae)) (zbr rfl T.m_MOST ⟨_,rfl⟩)))))) (zak (zaJ zft)) zaN))
 (zak (zaJ (zje (zas (zkv rfl) rfl T.z_all PyProof.Rows.boot_all (zaa (zcj (sc:=zaj zdE) (N:=["thing"]) (Nc:=["row"]) (cap:=[none]) rfl rfl rfl (.of (by decide +kernel)) (zci (pv 0)) (fun _ _ _ _=>(zaW (i:=0) (show List.Nodup (["row"]:List Str) from by decide) rfl (Or.inl rfl))) (fun _ _ _ _=>zbQ) (fun _ _ _ _=>(zaG G_is_row (hr.mono (by decide)) rfl T.m_is_row T.F_is_row.kp T.b_is_row .nil zbd (zaa (pv 0) zae)))) zae)) (zja (zas (zkv rfl) rfl T.z_all PyProof.Rows.boot_all (zaa (zcj (sc:=zaj zdE) (N:=["thing"]) (Nc:=["row","thing"]) (cap:=[none,some 0]) rfl rfl rfl (.of (by decide +kernel)) (zci (pv 0)) (fun _ _ _ _=>(zaW (i:=0) (show List.Nodup (["row","thing"]:List Str) from by decide) rfl (Or.inl rfl))) (fun _ _ _ _=>zbQ) (fun _ _ _ _=>(zhS zgh (zas zar rfl T.z_len PySem.boot_len (zaa (pv 0) zae)) (zas zar rfl T.z_len PySem.boot_len (zaa (zaO zat (pv 1) zai (fun _ _=>rfl)) zae)) (za4 _)))) zae))))))),
  zmi h l q⟩
def zhV (a:Ad):Sp:=fun vs H Q E=>∃ (v:V) (o:Option Tr),vs=[v]∧ShO H o v∧zms o∧(zbA o=true→∀ H',za0 H H'→Q .non H')∧(zbA o=false→∀ H',za0 H H'→E (.ref a.c_NoTable) none H')
def zeb (a:Ad) (E:XK):TS :=
 (zbE (ziw (tB (zaK zrp [] E0 (zab (zad 0) zam)))) (zh0 (.ref a.c_NoTable) E) zaR)
theorem zka {E:XK} {v:V} {o:Option Tr} (h:ShO H o v) (l:zms o) (q:zbA o=true→∀ H',za0 H H'→Q .non H') (e:zbA o=false→∀ H',za0 H H'→E (.ref a.c_NoTable) none H') :
  zeb a E { nx:=fun _ H'=>Q .non H',rt:=Q } (L2.zbi ["table"] [v]) H:=by
 unfold zeb
 simp_all only [zad]
 refine ⟨v,o,rfl,h,l,fun H' s=>⟨_,rfl,?_⟩⟩
 refine zdH (fun c=>?_) (fun c=>?_)
 ·exact e (by cases z:zbA o with
   | true=>rw [z] at c;cases c
   | false=>rfl) H' s
 ·exact q (by cases z:zbA o with
   | true=>rfl
   | false=>rw [z] at c;exact absurd rfl c) H' s
theorem zjB:zaI ["table"] ["table"] (zaj zef):=⟨rfl,rfl,rfl,by decide +kernel,rfl,by decide +kernel,by decide +kernel⟩
theorem zcS (T:Txt K mg base a):zcw P w K mg base (CXE P w) 4 a.f_look_table a.d_look_table ["table"] (zhV a):=by
 have G_is_table:=zlM (P:=P) (w:=w) (base:=base) T
 refine T.F_look_table.okX zjB (fun vs H Q E h=>?_) (fun cdv A outer s H vs Q E hr h=>?_)
 ·obtain ⟨v,o,rfl,h,l,q,e⟩:=h
  rfl
 obtain ⟨v,o,rfl,h,l,q,e⟩:=h
 exact ⟨zeb a E,(zak (zbD (zet (zc5 (zaG G_is_table (hr.mono (by decide)) rfl T.m_is_table T.F_is_table.kp T.b_is_table .nil zbd (zaa (pv 0) zae)))) (zak (zjG T.m_NoTable T.x_NoTable rfl rfl zmf)) zaN)),
  zka h l q e⟩
def zco (K:PySem.W.Frag) (a:Ad):TS :=
 (zaM (za6 (tOp (rI IntMulOk fun i j=>.int (i*j)) (tOp (zbf K) (tOp (zbf K) (tAt a.c_Board (zad 0) "grid") (zad 1)) (tUn (rU fun i=>.int (-i)) (tC (.int 1)))) (tOp (zbf K) (tOp (zbf K) (tAt a.c_Board (zad 0) "grid") (zad 2)) (zad 3))) (zao 4))
 (zaM (za6 (tOp (rI IntMulOk fun i j=>.int (i*j)) (tOp (zbf K) (tOp (zbf K) (tAt a.c_Board (zad 0) "grid") (zad 2)) (tUn (rU fun i=>.int (-i)) (tC (.int 1)))) (tOp (zbf K) (tOp (zbf K) (tAt a.c_Board (zad 0) "grid") (zad 1)) (zad 3))) (zao 5))
 (zbo (tOrV (tOp (rI0 fun i j=>.bl (decide (i<j))) (zad 4) (zad 5)) (ziU (tOp rEq (zad 4) (zad 5)) (tOp (rI0 fun i j=>.bl (decide (i<j))) (tOp (zbf K) (tAt a.c_Board (zad 0) "busy") (zad 1)) (tOp (zbf K) (tAt a.c_Board (zad 0) "busy") (zad 2))))))))
theorem zfv {b dx gl il ul:Addr} {rows:List Addr} {α:Nat→Nat→Int} {m n:Nat} {t:Sx} {s:Bool} {k l c:Nat} (B:Brd H a.c_Board b dx gl il ul rows m n t s) (L:LP α m n t) (hk:k<m) (hl:l<m) (hc:c<n)
  (q:∀ r:Bool,(r=true↔t.g k n*t.g l c<t.g l n*t.g k c∨(t.g k n*t.g l c=t.g l n*t.g k c∧t.bs k<t.bs l))→Q (.bl r) H) :
  zco K a { nx:=fun _ H'=>Q .non H',rt:=Q } (L2.zbi ["self","k","best","column","here","there"] [.ref b,.int k,.int l,.int c]) H:=by
 unfold zco
 obtain ⟨rk,_,hk1,hk2⟩:=B.rowAt (k:=k) (by omega)
 obtain ⟨rl,_,hl1,hl2⟩:=B.rowAt (k:=l) (by omega)
 have hg:=SqL.of (K:=K) B.hg
 have hu:=SqL.of (K:=K) B.hu
 have b1:=znL (i:=t.g k n) (j:=t.g l c) 1400 1400 (L.g (by omega) (by omega)) (L.g (by omega) (by omega))
 have b2:=znL (i:=t.g l n) (j:=t.g k c) 1400 1400 (L.g (by omega) (by omega)) (L.g (by omega) (by omega))
 simp_all only [zad]
 refine ⟨_,_,B.hb,_,rfl,gl,rfl,_,hg,_,hk2,rk,rfl,_,SqL.of hk1,_,zfN,_,_,B.hb,_,rfl,gl,rfl,_,hg,_,hl2,rl,rfl,_,SqL.of hl1,_,zck (by omega),_,rfl,_,rfl,b1,?_⟩
 refine ⟨_,_,B.hb,_,rfl,gl,rfl,_,hg,_,hl2,rl,rfl,_,SqL.of hl1,_,zfN,_,_,B.hb,_,rfl,gl,rfl,_,hg,_,hk2,rk,rfl,_,SqL.of hk1,_,zck (by omega),_,rfl,_,rfl,b2,?_⟩
 refine zdH (fun z=>q true ⟨fun _=>.inl z,fun _=>rfl⟩) (fun z=>zdH (fun z2=>?_) (fun z2=>q false ⟨fun h=>(by cases h),fun h=>?_⟩))
 ·refine ⟨_,_,B.hb,_,rfl,ul,rfl,_,hu,_,zkB hk,_,_,B.hb,_,rfl,ul,rfl,_,hu,_,zkB hl,_,rfl,_,rfl,?_⟩
  refine q _ ⟨fun h=>.inr ⟨z2,?_⟩,fun h=>?_⟩
  ·have:=of_decide_eq_true h
   omega
  ·rcases h with h | h
   ·exact absurd h z
   ·refine decide_eq_true ?_
    have:=h.2
    omega
 ·rcases h with h | h
  ·exact absurd h z
  ·exact absurd h.1 z2
theorem zcb:zaI ["self","k","best","column","here","there"] ["self","k","best","column"] (zaj zcm):=⟨rfl,rfl,rfl,by decide +kernel,rfl,by decide +kernel,by decide +kernel⟩
theorem zfK (T:Txt K mg base a):zcw P w K mg base CX0 1 a.f_Board_is_sooner a.d_Board_is_sooner ["self","k","best","column"] (zjQ a.c_Board):=by
 refine T.F_Board_is_sooner.ok zcb (fun vs H Q E h=>?_) (fun cdv A outer s H vs Q E hr h=>?_)
 ·obtain ⟨b,dx,gl,il,ul,rows,α,m,n,t,s,k,l,c,rfl,B,L,hk,hl,hc,q⟩:=h
  rfl
 obtain ⟨b,dx,gl,il,ul,rows,α,m,n,t,s,k,l,c,rfl,B,L,hk,hl,hc,q⟩:=h
 exact ⟨zco K a,(zaf (zaL (i:=4) zcb.nd rfl (Or.inl rfl) (zaP zbC (zaO zat (zaO zat (zbS T.cl_Board T.na_Board_grid (pv 0)) (pv 1) (fun _ _=>rfl)) (ze6 zc7 zai) (fun _ _=>rfl)) (zaO zat (zaO zat (zbS T.cl_Board T.na_Board_grid (pv 0)) (pv 2) (fun _ _=>rfl)) (pv 3) (fun _ _=>rfl))))
 (zaf (zaL (i:=5) zcb.nd rfl (Or.inl rfl) (zaP zbC (zaO zat (zaO zat (zbS T.cl_Board T.na_Board_grid (pv 0)) (pv 2) (fun _ _=>rfl)) (ze6 zc7 zai) (fun _ _=>rfl)) (zaO zat (zaO zat (zbS T.cl_Board T.na_Board_grid (pv 0)) (pv 1) (fun _ _=>rfl)) (pv 3) (fun _ _=>rfl))))
 (zak (zaJ (pe_or (zhS zhQ (pv 4) (pv 5) (za4 _)) (zja (zje (zhS zgh (pv 4) (pv 5) (za4 _)) (zja (zhS zhQ (zaO zat (zbS T.cl_Board T.na_Board_busy (pv 0)) (pv 1) (fun _ _=>rfl)) (zaO zat (zbS T.cl_Board T.na_Board_busy (pv 0)) (pv 2) (fun _ _=>rfl)) (za4 _)))))))))),
  zfv B L hk hl hc q⟩
def LE (n:Nat) (t:Sx) (c r k:Nat):Prop:=t.g r n*t.g k c<t.g k n*t.g r c∨(t.g r n*t.g k c=t.g k n*t.g r c∧t.bs r≤t.bs k)
theorem LE.le {n:Nat} {t:Sx} {c r k:Nat} (h:LE n t c r k):t.g r n*t.g k c≤t.g k n*t.g r c:=by
 rcases h with h | h
 ·exact Int.le_of_lt h
 ·exact Int.le_of_eq h.1
theorem LE.trans {n:Nat} {t:Sx} {c i r k:Nat} (pi:0<t.g i c) (pr:0<t.g r c) (pk:0<t.g k c) (h1:LE n t c i r) (h2:LE n t c r k):LE n t c i k:=by
 have l:=zdx pi pr pk h1.le h2.le
 by_cases e:t.g i n*t.g k c=t.g k n*t.g i c
 ·have a1:=zdx pr pk pi h2.le (Int.le_of_eq e.symm)
  have a2:=zdx pk pi pr (Int.le_of_eq e.symm) h1.le
  refine .inr ⟨e,?_⟩
  have e1:t.bs i≤t.bs r:=by
   rcases h1 with h | h
   ·omega
   ·exact h.2
  have e2:t.bs r≤t.bs k:=by
   rcases h2 with h | h
   ·omega
   ·exact h.2
  omega
 ·exact .inl (by omega)
def zdA (K:PySem.W.Frag) (a:Ad):TS :=
 (zbE (tAnd (zaQ (tOp (rI0 fun i j=>.bl (decide (j<i))) (tOp (zbf K) (tOp (zbf K) (tAt a.c_Board (zad 0) "grid") (zad 3)) (zad 1)) (tC (.int 0)))) (tOr (zaQ (tOp (fun x y H Q=>y=.non∧Q (.bl (decide (x=.non))) H) (zad 2) (tC .non))) (tB (zeq a.c_Board "is_sooner" (zjQ a.c_Board) [] E0 (zad 0) (zab (zad 3) (zab (zad 2) (zab (zad 1) zam))))))) (za6 (zad 3) (zao 2)) zaR)
theorem zbR (K:PySem.W.Frag) (a:Ad) (D:zbO) (σ:St) (H:Hp):zdA K a D σ H=(zbE (tAnd (zaQ (tOp (rI0 fun i j=>.bl (decide (j<i))) (tOp (zbf K) (tOp (zbf K) (tAt a.c_Board (zad 0) "grid") (zad 3)) (zad 1)) (tC (.int 0)))) (tOr (zaQ (tOp (fun x y H Q=>y=.non∧Q (.bl (decide (x=.non))) H) (zad 2) (tC .non))) (tB (zeq a.c_Board "is_sooner" (zjQ a.c_Board) [] E0 (zad 0) (zab (zad 3) (zab (zad 2) (zab (zad 1) zam))))))) (za6 (zad 3) (zao 2)) zaR) D σ H:=rfl
def zcZ (K:PySem.W.Frag) (a:Ad):TS :=
 (zaM (za6 (tC .non) (zao 2))
 (zaM (zmu (zeh (zab (tCB (fun xs H Q=>∃ p ys,xs=[.ref p]∧(SqL K H p ys∨SqT K H p ys)∧Q (.int ys.length) H) (zab (tAt a.c_Board (zad 0) "busy") zam)) zam)) (zao 3)
 (zdA K a))
 (zbo (zad 2))))
theorem zgX {b dx gl il ul:Addr} {rows:List Addr} {α:Nat→Nat→Int} {m n:Nat} {t:Sx} {s:Bool} {c:Nat} (B:Brd H a.c_Board b dx gl il ul rows m n t s) (L:LP α m n t) (hc:c<n)
  (q:∀ r:Nat,r<m→0<t.g r c→(∀ k,k<m→0<t.g k c→t.g r n*t.g k c<t.g k n*t.g r c∨(t.g r n*t.g k c=t.g k n*t.g r c∧t.bs r≤t.bs k))→Q (.int r) H) :
  zcZ K a { nx:=fun _ H'=>Q .non H',rt:=Q } (L2.zbi ["self","column","best","k"] [.ref b,.int c]) H:=by
 unfold zcZ
 have m12:=L.m12
 simp_all only [zbR,zad]
 refine ⟨_,_,B.hb,_,rfl,ul,rfl,_,.inl (SqL.of B.hu),?_⟩
 rw [zds]
 refine ⟨by omega,by omega,?_⟩
 refine zi7 (fun i σ H'=>H'=H∧∃ (v:V) (z:Option V),σ=[some (.ref b),some (.int c),some v,z]∧((v=.non∧∀ k,k<i→¬ 0<t.g k c)∨∃ r:Nat,r<m∧v=.int r∧0<t.g r c∧∀ k,k<i→0<t.g k c→LE n t c r k)) ⟨rfl,_,_,rfl,.inl ⟨rfl,fun k hk=>absurd hk (Nat.not_lt_zero k)⟩⟩ ?_ ?_
 ·rintro i σ H' hi ⟨rfl,v,z,rfl,st⟩
  have hi:i<m:=by omega
  obtain ⟨ri,_,h1,h2⟩:=B.rowAt (k:=i) (by omega)
  simp_all only [zbR,zad]
  rw [Int.zero_add]
  refine ⟨_,_,B.hb,_,rfl,gl,rfl,_,SqL.of B.hg,_,h2,ri,rfl,_,SqL.of h1,_,zck (by omega),_,rfl,?_⟩
  have keep:¬ 0<t.g i c→((v=.non∧∀ k,k<i+1→¬ 0<t.g k c)∨∃ r:Nat,r<m∧v=.int r∧0<t.g r c∧∀ k,k<i+1→0<t.g k c→LE n t c r k):=fun no=>by
   rcases st with ⟨e,st⟩ | ⟨r,hr,e,p,st⟩
   ·refine .inl ⟨e,fun k hk=>?_⟩
    by_cases ek:k=i
    ·rw [ek];exact no
    ·exact st k (by omega)
   ·refine .inr ⟨r,hr,e,p,fun k hk pk=>?_⟩
    by_cases ek:k=i
    ·rw [ek] at pk;exact absurd pk no
    ·exact st k (by omega) pk
  refine zdH (fun pi=>?_) (fun pi=>keep pi)
  rcases st with ⟨rfl,st⟩ | ⟨r,hr,rfl,pr,st⟩
  ·refine zdH (fun _=>?_) (fun z=>absurd rfl z)
   refine .inr ⟨i,hi,rfl,pi,fun k hk pk=>?_⟩
   by_cases ek:k=i
   ·rw [ek];exact .inr ⟨rfl,Nat.le_refl _⟩
   ·exact absurd pk (st k (by omega))
  ·refine zdH (fun z=>(by cases z)) (fun _=>⟨_,_,B.hb,rfl,?_⟩)
   refine ⟨_,_,_,_,_,_,_,_,_,_,_,i,r,c,rfl,B,L,hi,hr,hc,fun x hx=>⟨x,rfl,?_⟩⟩
   refine zdH (fun zx=>⟨rfl,.inr ⟨i,hi,rfl,pi,fun k hk pk=>?_⟩⟩) (fun zx=>⟨rfl,.inr ⟨r,hr,rfl,pr,fun k hk pk=>?_⟩⟩)
   ·by_cases ek:k=i
    ·rw [ek];exact .inr ⟨rfl,Nat.le_refl _⟩
    ·refine LE.trans pi pr pk ?_ (st k (by omega) pk)
     rcases hx.mp zx with h | h
     ·exact .inl h
     ·exact .inr ⟨h.1,Nat.le_of_lt h.2⟩
   ·by_cases ek:k=i
    ·rw [ek]
     have no:=fun h=>zx (hx.mpr h)
     by_cases e:t.g r n*t.g i c=t.g i n*t.g r c
     ·refine .inr ⟨e,Nat.le_of_not_lt fun h=>no (.inr ⟨e.symm,h⟩)⟩
     ·refine .inl ?_
      have:¬ t.g i n*t.g r c<t.g r n*t.g i c:=fun h=>no (.inl h)
      omega
    ·exact st k (by omega) pk
 ·rintro σ H' ⟨rfl,v,z,rfl,st⟩
  simp_all only [zbR,zad]
  rcases st with ⟨rfl,st⟩ | ⟨r,hr,rfl,pr,st⟩
  ·obtain ⟨r,hr,pr⟩:=L.F.out L.m1 L.a1 hc
   exact absurd pr (st r (by omega))
  ·exact q r hr pr fun k hk pk=>st k (by omega) pk
theorem zb3:zaI ["self","column","best","k"] ["self","column"] (zaj zc6):=⟨rfl,rfl,rfl,by decide +kernel,rfl,by decide +kernel,by decide +kernel⟩
theorem zg4 (T:Txt K mg base a):zcw P w K mg base CX0 2 a.f_Board_leaving a.d_Board_leaving ["self","column"] (zl1 a.c_Board):=by
 have G_Board_is_sooner:=zfK (P:=P) (w:=w) (base:=base) T
 refine T.F_Board_leaving.ok zb3 (fun vs H Q E h=>?_) (fun cdv A outer s H vs Q E hr h=>?_)
 ·obtain ⟨b,dx,gl,il,ul,rows,α,m,n,t,s,c,rfl,B,L,hc,q⟩:=h
  rfl
 obtain ⟨b,dx,gl,il,ul,rows,α,m,n,t,s,c,rfl,B,L,hc,q⟩:=h
 exact ⟨zcZ K a,(zaf (zaL (i:=2) zb3.nd rfl (Or.inl rfl) zd2)
 (zaf (zfP PassesOwn.never rfl (zbF rfl T.z_range (zaa (zas zar rfl T.z_len PySem.boot_len (zaa (zbS T.cl_Board T.na_Board_busy (pv 0)) zae)) zae)) (zaW (i:=3) zb3.nd rfl (Or.inl rfl))
 (zak (zbD (PW.pt (ztG (zaU zqz (zaO zat (zaO zat (zbS T.cl_Board T.na_Board_grid (pv 0)) (pv 3) (fun _ _=>rfl)) (pv 1) (fun _ _=>rfl)) zai (za4 _)) (zse (PW.pt (zkN (zaU zub (pv 2) zd2 (za4 _)) (zk4 (zc5 (ze1 (pv 0) T.cl_Board T.M_Board_is_sooner G_Board_is_sooner (hr.mono (by decide)) T.b_Board_is_sooner .nil zbd (zaa (pv 3) (zaa (pv 2) (zaa (pv 1) zae))))))))))) (zak (zaL (i:=2) zb3.nd rfl (Or.inl rfl) (pv 3))) zaN)))
 (zak (zaJ (pv 2))))),
  zgX B L hc q⟩
theorem zte {m:Nat}:∀ (l:List Int),(∀ x∈l,Bd m x)→l.length≤13→Bd (m+13) l.sum:=fun l h hl=>by
 have key:∀ l:List Int,(∀ x∈l,Bd m x)→l.sum.natAbs≤l.length*2 ^ m:=by
  intro l
  induction l with
  | nil=>intro _;exact Nat.zero_le _
  | cons x l ih =>
   intro h
   have h1:=ih fun y hy=>h y (List.mem_cons_of_mem _ hy)
   have h2:x.natAbs<2 ^ m:=h x List.mem_cons_self
   have h3:=Int.natAbs_add_le x l.sum
   rw [List.sum_cons,List.length_cons,Nat.add_mul,Nat.one_mul]
   omega
 have h1:=key l h
 have h2:l.length*2 ^ m≤13*2 ^ m:=Nat.mul_le_mul_right _ hl
 show l.sum.natAbs<2 ^ (m+13)
 rw [Nat.pow_add]
 have h4:0<2 ^ m:=Nat.two_pow_pos m
 have h5:2 ^ m*2 ^ 13=8192*2 ^ m:=by rw [Nat.mul_comm]
 omega
def zcg (K:PySem.W.Frag) (a:Ad):TS :=
 (zaM (za6 (zbW (zdJ K (tAt a.c_Board (zad 0) "grid")) (zao 0) za7 (tOp (rI IntMulOk fun i j=>.int (i*j)) (tOp (zbf K) (zad 0) (zad 1)) (tOp (zbf K) (zad 0) (zad 1))) [none,some 1]) (zao 2))
 (zbo (zgS (zab (tOp (zbf K) (zad 2) (tUn (rU fun i=>.int (-i)) (tC (.int 1)))) (zab (tOp (rI0 fun i j=>.int (i+j)) (tOp (rI IntMulOk fun i j=>.int (i*j)) (tAt a.c_Board (zad 0) "scale") (tAt a.c_Board (zad 0) "scale")) (tCB (rSum K) (zab (tSl (znQ K) (zad 2) zcE (zgU (tUn (rU fun i=>.int (-i)) (tC (.int 1))))) zam))) zam)))))
open HT in
theorem zfJ {b dx gl il ul:Addr} {rows:List Addr} {α:Nat→Nat→Int} {m n:Nat} {t:Sx} {s:Bool} {c:Nat} (B:Brd H a.c_Board b dx gl il ul rows m n t s) (L:LP α m n t) (hc:c<n)
  (q:∀ (x y:Int) (r:Addr) (H':Hp),za0 H H'→H' r=some (.tup [.int x,.int y])→Bd 2900 x→Bd 2900 y→Q (.ref r) H') :
  zcg K a { nx:=fun _ H'=>Q .non H',rt:=Q } (L2.zbi ["self","column","squares"] [.ref b,.int c]) H:=by
 unfold zcg
 have m12:=L.m12
 have rl:=B.len
 simp_all only [zad]
 refine ⟨_,_,B.hb,_,rfl,gl,rfl,⟨_,SqL.of B.hg⟩,fun D hD=>?_⟩
 have lq:(((List.range (m+1)).map fun k=>t.g k c*t.g k c).map V.int).length=(rows.map V.ref).length:=by rw [List.length_map,List.length_map,List.length_map,List.length_range,rl]
 refine zeA B.hg lq (by rw [lq,List.length_map];omega) hD (fun i x v H' R hx hv s' hR=>?_) fun H' s' hD'=>?_
 ·obtain ⟨r,hr,rfl⟩:=zbU hx
  have hi:=(List.getElem?_eq_some_iff.mp hr).1
  have h1:=(B.same s').row i r hr
  rw [List.getElem?_map,List.getElem?_map,List.getElem?_range (by omega)] at hv
  cases hv
  simp_all only [zad]
  exact ⟨_,SqL.of h1,_,zck (by omega),_,SqL.of h1,_,zck (by omega),_,rfl,_,rfl,znL 1400 1400 (L.g (by omega) (by omega)) (L.g (by omega) (by omega)),hR H' (.refl _)⟩
 ·have B':=B.same s'
  have g2:∀ k,k≤m→Bd 2800 (t.g k c*t.g k c):=fun k hk=>(L.g hk (by omega)).mul (L.g hk (by omega))
  have dB:=L.d
  have d2:Bd 2800 (t.d*t.d):=dB.mul dB
  have hm:∀ x∈(List.range (m+1)).map fun k=>t.g k c*t.g k c,Bd 2800 x:=fun x hx=>by
   obtain ⟨k,hk,rfl⟩:=List.mem_map.mp hx
   exact g2 k (by have:=List.mem_range.mp hk;omega)
  have hl:((List.range (m+1)).map fun k=>t.g k c*t.g k c).length=m+1:=by rw [List.length_map,List.length_range]
  generalize hns:(List.range (m+1)).map (fun k=>t.g k c*t.g k c)=ns at hD' hm hl
  have e1:atI (ns.map V.int) (-1)=some (.int (ns.getD m 0)):=zlK (n:=m) (by rw [List.length_map,hl]) (by rw [List.getElem?_map,List.getElem?_eq_getElem (by omega),List.getD_eq_getElem?_getD,List.getElem?_eq_getElem (by omega)];rfl)
  have m1:ns.getD m 0∈ns:=by rw [List.getD_eq_getElem?_getD,List.getElem?_eq_getElem (by omega)];exact List.getElem_mem _
  refine ⟨D,rfl,_,SqL.of hD',_,e1,_,_,B'.hb,_,rfl,_,_,B'.hb,_,rfl,_,rfl,_,rfl,znL 1400 1400 dB dB,D,rfl,_,SqL.of hD',fun p hp=>?_⟩
  have ec:zkG (ns.map V.int) none (some (-1))=((ns.drop (sIx ns.length 0 none)).take (sIx ns.length ns.length (some (-1)) - sIx ns.length 0 none)).map V.int:=by
   unfold zkG
   rw [List.length_map,List.map_take,List.map_drop]
  refine ⟨_,SqL.of (by rw [ec];exact zag),by decide,fun r hr=>?_⟩
  have hs:za0 H (L2.upd H' p (.lst (zkG (ns.map V.int) none (some (-1))))):=s'.trans (zap hp _)
  refine q _ _ r _ (hs.trans (zap hr _)) zag ((hm _ m1).mono (by decide)) ?_
  refine ((d2.mono (show 2800≤2813 by decide)).add (zte (m:=2800) _ (fun x hx=>hm x (List.mem_of_mem_drop (List.mem_of_mem_take hx))) ?_)).mono (by decide)
  rw [List.length_take,List.length_drop]
  omega
theorem zde:zaI ["self","column","squares"] ["self","column"] (zaj zbL):=⟨rfl,rfl,rfl,by decide +kernel,rfl,by decide +kernel,by decide +kernel⟩
theorem zfw (T:Txt K mg base a):zcw P w K mg base CX0 1 a.f_Board_steepness a.d_Board_steepness ["self","column"] (zjx a.c_Board):=by
 refine T.F_Board_steepness.ok zde (fun vs H Q E h=>?_) (fun cdv A outer s H vs Q E hr h=>?_)
 ·obtain ⟨b,dx,gl,il,ul,rows,α,m,n,t,s,c,rfl,B,L,hc,q⟩:=h
  rfl
 obtain ⟨b,dx,gl,il,ul,rows,α,m,n,t,s,c,rfl,B,L,hc,q⟩:=h
 exact ⟨zcg K a,(zaf (zdC (i:=2) zde.nd rfl rfl (sc:=zaj zbL) (N:=["self","column","squares"]) (Nc:=["row","column"]) (cap:=[none,some 1]) rfl rfl rfl (.of (by decide +kernel)) (zci (zbS T.cl_Board T.na_Board_grid (pv 0))) (fun _ _ _ _=>(zaW (i:=0) (show List.Nodup (["row","column"]:List Str) from by decide) rfl (Or.inl rfl))) (fun _ _ _ _=>zbQ) (fun _ _ _ _=>(zaP zbC (zaO zat (pv 0) (pv 1) (fun _ _=>rfl)) (zaO zat (pv 0) (pv 1) (fun _ _=>rfl)))))
 (zak (zaJ (zdY (zaa (zaO zat (pv 2) (ze6 zc7 zai) (fun _ _=>rfl)) (zaa (zaP zdV (zaP zbC (zbS T.cl_Board T.na_Board_scale (pv 0)) (zbS T.cl_Board T.na_Board_scale (pv 0))) (zas (zqD rfl) rfl T.z_sum PyProof.Rows.boot_sum (zaa (zeB zgk (pv 2) zgB (zgq (ze6 zc7 zai))) zae))) zae)))))),
  zfJ B L hc q⟩
def zdc (K:PySem.W.Frag) (a:Ad):TS :=
 (zaM (za6 (zeq a.c_Board "steepness" (zjx a.c_Board) [] E0 (zad 0) (zab (zad 4) zam)) (zao 5))
 (zbE (zaQ (tOp (rI0 fun i j=>.bl (decide (j<i))) (tOp (rI IntMulOk fun i j=>.int (i*j)) (tOp (zky K) (zad 5) (tC (.int 0))) (tOp (zky K) (zad 3) (tC (.int 1)))) (tOp (rI IntMulOk fun i j=>.int (i*j)) (tOp (zky K) (zad 3) (tC (.int 0))) (tOp (zky K) (zad 5) (tC (.int 1)))))) (zaM (za6 (zad 4) (zao 2))
 (za6 (zad 5) (zao 3))) zaR))
theorem zbj (K:PySem.W.Frag) (a:Ad) (D:zbO) (σ:St) (H:Hp):zdc K a D σ H=(zaM (za6 (zeq a.c_Board "steepness" (zjx a.c_Board) [] E0 (zad 0) (zab (zad 4) zam)) (zao 5))
 (zbE (zaQ (tOp (rI0 fun i j=>.bl (decide (j<i))) (tOp (rI IntMulOk fun i j=>.int (i*j)) (tOp (zky K) (zad 5) (tC (.int 0))) (tOp (zky K) (zad 3) (tC (.int 1)))) (tOp (rI IntMulOk fun i j=>.int (i*j)) (tOp (zky K) (zad 3) (tC (.int 0))) (tOp (zky K) (zad 5) (tC (.int 1)))))) (zaM (za6 (zad 4) (zao 2))
 (za6 (zad 5) (zao 3))) zaR)) D σ H:=rfl
def zcM (K:PySem.W.Frag) (a:Ad):TS :=
 (zaM (za6 (tOp (zbf K) (zad 1) (tC (.int 0))) (zao 2))
 (zaM (za6 (zeq a.c_Board "steepness" (zjx a.c_Board) [] E0 (zad 0) (zab (zad 2) zam)) (zao 3))
 (zaM (zmu (zdJ K (tSl (znQ K) (zad 1) (zgU (tC (.int 1))) zcE)) (zao 4)
 (zdc K a))
 (zbo (zad 2)))))
open HT in
theorem zgx {b dx gl il ul cl:Addr} {rows:List Addr} {α:Nat→Nat→Int} {m n:Nat} {t:Sx} {s:Bool} {cs:List Nat} (B:Brd H a.c_Board b dx gl il ul rows m n t s) (L:LP α m n t) (hcl:H cl=some (.lst (cs.map fun c:Nat=>V.int c))) (l1:1≤cs.length) (l12:cs.length≤12) (hn:∀ c∈cs,c<n)
  (q:∀ c∈cs,∀ H',za0 H H'→Q (.int c) H') :
  zcM K a { nx:=fun _ H'=>Q .non H',rt:=Q } (L2.zbi ["self","columns","best","most","k","here"] [.ref b,.ref cl]) H:=by
 unfold zcM
 obtain ⟨c0,cs',rfl⟩:∃ c0 cs',cs=c0::cs':=by
  cases cs with
  | nil=>cases l1
  | cons x y=>exact ⟨x,y,rfl⟩
 have h0:=hn c0 List.mem_cons_self
 simp_all only [zbj,zad]
 have e0:atI ((c0::cs').map fun c:Nat=>V.int c) 0=some (.int c0):=zcc (j:=0) rfl
 refine ⟨_,SqL.of hcl,_,e0,_,_,B.hb,rfl,?_⟩
 refine ⟨_,_,_,_,_,_,_,_,_,_,_,c0,rfl,B,L,h0,fun x y r H1 s1 h1 bx by'=>?_⟩
 refine ⟨_,SqL.of (s1 _ _ hcl),fun p hp=>?_⟩
 have ec:zkG ((c0::cs').map fun c:Nat=>V.int c) (some 1) none=cs'.map fun c:Nat=>V.int c:=by
  unfold zkG
  rw [show sIx ((c0::cs').map fun c:Nat=>V.int c).length 0 (some 1)=1 from by rw [List.length_map];exact (ztp _ _ 1).trans (by rw [List.length_cons];omega),zq8,List.map_cons,List.drop_succ_cons,List.drop_zero,List.take_of_length_le (by rw [List.length_cons];omega)]
 rw [ec]
 have hp':(L2.upd H1 p (.lst (cs'.map fun c:Nat=>V.int c))) p=some (.lst (cs'.map fun c:Nat=>V.int c)):=zag
 have s2:za0 H (L2.upd H1 p (.lst (cs'.map fun c:Nat=>V.int c))):=s1.trans (zap hp _)
 have h2:=zap hp (.lst (cs'.map fun c:Nat=>V.int c)) _ _ h1
 generalize L2.upd H1 p (.lst (cs'.map fun c:Nat=>V.int c))=H2 at hp' s2 h2
 refine ⟨⟨_,SqL.of hp'⟩,?_⟩
 refine zej (K:=K) (xs:=cs'.map fun c:Nat=>V.int c) (fun i σ H'=>za0 H2 H'∧∃ (c:Nat) (x y:Int) (r:Addr) (u v:Option V),c∈c0::cs'∧H' r=some (.tup [.int x,.int y])∧Bd 2900 x∧Bd 2900 y∧σ=[some (.ref b),some (.ref cl),some (.int c),some (.ref r),u,v]) ⟨.refl _,c0,x,y,r,_,_,List.mem_cons_self,h2,bx,by',rfl⟩ ?_ ?_ ?_
 ·rintro i σ H' _ ⟨s3,_⟩
  exact SqL.of (s3 _ _ hp')
 ·rintro i z σ H3 hz ⟨s3,c,x,y,r,u,v,mc,hr,bx,by',rfl⟩
  obtain ⟨d,hd,rfl⟩:=zbU hz
  have md:d∈c0::cs':=List.mem_cons_of_mem _ (zb8 hd)
  have B3:=B.same (s2.trans s3)
  simp_all only [zbj,zad]
  refine ⟨_,_,B3.hb,rfl,?_⟩
  refine ⟨_,_,_,_,_,_,_,_,_,_,_,d,rfl,B3,L,hn d md,fun x' y' r' H4 s4 h4 bx' by''=>?_⟩
  have hr4:=s4 _ _ hr
  simp_all only [zbj,zad]
  refine ⟨_,SqT.of h4,_,rfl,_,SqT.of hr4,_,rfl,_,rfl,_,rfl,znL 2900 2900 bx' by',_,SqT.of hr4,_,rfl,_,SqT.of h4,_,rfl,_,rfl,_,rfl,znL 2900 2900 bx by'',?_⟩
  exact zdH (fun _=>⟨s3.trans s4,d,md,x',y',r',h4,bx',by'',rfl,rfl⟩) (fun _=>⟨s3.trans s4,c,mc,x,y,r,hr4,bx,by',rfl,rfl⟩)
 ·rintro σ H3 ⟨s3,c,x,y,r,u,v,mc,hr,bx,by',rfl⟩
  simp_all only [zbj,zad]
  exact q c mc H3 (s2.trans s3)
theorem za5:zaI ["self","columns","best","most","k","here"] ["self","columns"] (zaj zcJ):=⟨rfl,rfl,rfl,by decide +kernel,rfl,by decide +kernel,by decide +kernel⟩
theorem zgy (T:Txt K mg base a):zcw P w K mg base CX0 2 a.f_Board_steepest a.d_Board_steepest ["self","columns"] (zi4 a.c_Board):=by
 have G_Board_steepness:=zfw (P:=P) (w:=w) (base:=base) T
 refine T.F_Board_steepest.ok za5 (fun vs H Q E h=>?_) (fun cdv A outer s H vs Q E hr h=>?_)
 ·obtain ⟨b,dx,gl,il,ul,cl,rows,α,m,n,t,s,cs,rfl,B,L,hcl,l1,l12,hn,q⟩:=h
  rfl
 obtain ⟨b,dx,gl,il,ul,cl,rows,α,m,n,t,s,cs,rfl,B,L,hcl,l1,l12,hn,q⟩:=h
 exact ⟨zcM K a,(zaf (zaL (i:=2) za5.nd rfl (Or.inl rfl) (zaO zat (pv 1) zai (fun _ _=>rfl)))
 (zaf (zaL (i:=3) za5.nd rfl (Or.inl rfl) (ze1 (pv 0) T.cl_Board T.M_Board_steepness G_Board_steepness (hr.mono (by decide)) T.b_Board_steepness .nil zbd (zaa (pv 2) zae)))
 (zaf (zfP PassesOwn.never rfl (zci (zeB zgk (pv 1) (zgq zai) zgB)) (zaW (i:=4) za5.nd rfl (Or.inl rfl))
 (zaf (zaL (i:=5) za5.nd rfl (Or.inl rfl) (ze1 (pv 0) T.cl_Board T.M_Board_steepness G_Board_steepness (hr.mono (by decide)) T.b_Board_steepness .nil zbd (zaa (pv 4) zae)))
 (zak (zbD (zaU zqz (zaP zbC (zaO zeO (pv 5) zai (fun _ _=>rfl)) (zaO zeO (pv 3) zai (fun _ _=>rfl))) (zaP zbC (zaO zeO (pv 3) zai (fun _ _=>rfl)) (zaO zeO (pv 5) zai (fun _ _=>rfl))) (za4 _)) (zaf (zaL (i:=2) za5.nd rfl (Or.inl rfl) (pv 4))
 (zak (zaL (i:=3) za5.nd rfl (Or.inl rfl) (pv 5)))) zaN))))
 (zak (zaJ (pv 2)))))),
  zgx B L hcl l1 l12 hn q⟩
def hlp (m:Nat) (t:Sx) (k:Nat):List Nat:=(List.range k).filter fun c=>decide (t.g m c<0)
theorem zmz {m:Nat} {t:Sx} {k:Nat}:hlp m t (k+1)=if t.g m k<0 then hlp m t k++[k] else hlp m t k:=by
 unfold hlp
 rw [List.range_succ,List.filter_append]
 by_cases h:t.g m k<0
 ·rw [if_pos h,List.filter_cons_of_pos (by simpa using h),List.filter_nil]
 ·rw [if_neg h,List.filter_cons_of_neg (by simpa using h),List.filter_nil,List.append_nil]
theorem zoX (m:Nat) (t:Sx) (k:Nat):(hlp m t k).length≤k:=Nat.le_trans (List.length_filter_le _ _) (by rw [List.length_range];exact Nat.le_refl _)
theorem zgp {m:Nat} {t:Sx} {k c:Nat}:c∈hlp m t k↔c<k∧t.g m c<0:=by
 unfold hlp
 rw [List.mem_filter,List.mem_range,decide_eq_true_eq]
def zda (K:PySem.W.Frag) (a:Ad):TS :=
 (zbE (tB (tAt a.c_Board (zad 0) "stuck")) (zbo (zkm K a.p_lam zoT zmb [0] (zab (zad 1) zam) (tOp (zbf K) (tAt a.c_Board (zad 1) "idle") (zad 0)))) zaR)
theorem zaZ (K:PySem.W.Frag) (a:Ad) (D:zbO) (σ:St) (H:Hp):zda K a D σ H=(zbE (tB (tAt a.c_Board (zad 0) "stuck")) (zbo (zkm K a.p_lam zoT zmb [0] (zab (zad 1) zam) (tOp (zbf K) (tAt a.c_Board (zad 1) "idle") (zad 0)))) zaR) D σ H:=rfl
def zcH (K:PySem.W.Frag) (a:Ad):TS :=
 (zaM (za6 (zbW (zeh (zab (tCB (fun xs H Q=>∃ p ys,xs=[.ref p]∧(SqL K H p ys∨SqT K H p ys)∧Q (.int ys.length) H) (zab (tAt a.c_Board (zad 0) "idle") zam)) zam)) (zao 0) (zaQ (tOp (rI0 fun i j=>.bl (decide (i<j))) (tOp (zbf K) (tOp (zbf K) (tAt a.c_Board (zad 1) "grid") (tUn (rU fun i=>.int (-i)) (tC (.int 1)))) (zad 0)) (tC (.int 0)))) (zad 0) [none,some 0]) (zao 1))
 (zaM (zdy (zbE (ziw (tTru K (zad 1))) (zbo (tC .non)) zaR))
 (zaM (zdy (zda K a))
 (zbo (zeq a.c_Board "steepest" (zi4 a.c_Board) [] E0 (zad 0) (zab (zad 1) zam))))))
theorem zgz {b dx gl il ul:Addr} {rows:List Addr} {α:Nat→Nat→Int} {m n:Nat} {t:Sx} {s:Bool} (B:Brd H a.c_Board b dx gl il ul rows m n t s) (L:LP α m n t) (LH:LT H a.p_lam) (q0:znN m n t→∀ H',za0 H H'→Q .non H')
  (q:∀ (c:Nat) (H':Hp),c<n→t.g m c<0→(s=true→∀ j,j<n→t.g m j<0→t.id c≤t.id j)→Bar a.p_lam H H'→LT H' a.p_lam→Q (.int c) H') :
  zcH K a { nx:=fun _ H'=>Q .non H',rt:=Q } (L2.zbi ["self","helping"] [.ref b]) H:=by
 unfold zcH
 have n12:=L.n12
 simp_all only [zaZ,zad]
 refine ⟨_,_,B.hb,_,rfl,il,rfl,_,.inl (SqL.of B.hi),?_⟩
 rw [zds]
 refine ⟨by omega,by omega,fun D hD=>?_⟩
 rw [Int.toNat_natCast]
 refine zbu (fun i ys σ H'=>za0 H H'∧ys=(hlp m t i).map (fun c:Nat=>V.int c)∧∃ z,σ=[z,some (.ref b)]) ⟨zap hD _,rfl,_,rfl⟩ ?_ ?_
 ·rintro i ys σ H' hi hD' ⟨s',rfl,z,rfl⟩
  have B':=B.same s'
  obtain ⟨r,h1,h2⟩:=B'.rowEnd
  simp_all only [zaZ,zad]
  rw [Int.zero_add]
  refine ⟨_,_,B'.hb,_,rfl,gl,rfl,_,SqL.of B'.hg,_,h2,r,rfl,_,SqL.of h1,_,zck (by omega),_,rfl,?_⟩
  have hl:=zoX m t i
  refine zdH (fun c=>?_) (fun c=>?_)
  ·refine ⟨_,hD',zbl (by rw [List.length_map];omega),_,zag,s'.put hD,?_⟩
   rw [zmz,if_pos c,List.map_append]
   rfl
  ·refine ⟨_,hD',s',?_⟩
   rw [zmz,if_neg c]
 ·rintro ys σ H' hD' ⟨s',rfl,z,rfl⟩
  have B':=B.same s'
  have LH':=LH.same s'
  refine ⟨fun σ H2=>H2=H'∧1≤(hlp m t n).length∧σ=[some (.ref b),some (.ref D)],?_,?_⟩
  ·simp_all only [zaZ,zad]
   refine ⟨_,.inl ⟨_,SqL.of hD',rfl⟩,?_⟩
   cases e:hlp m t n with
   | nil =>
    refine zdH (fun _=>q0 (fun c hc=>?_) H' s') (fun z=>absurd rfl z)
    refine Classical.byContradiction fun no=>?_
    have:c∈hlp m t n:=zgp.mpr ⟨hc,by omega⟩
    rw [e] at this
    cases this
   | cons x l=>exact zdH (fun z=>absurd z (by simp)) (fun _=>Nat.le_add_left _ _)
  ·rintro σ H2 ⟨rfl,hl,rfl⟩
   have l12:=zoX m t n
   refine ⟨fun σ H3=>H3=H2∧s=false∧σ=[some (.ref b),some (.ref D)],?_,?_⟩
   ·simp_all only [zaZ,zad]
    refine ⟨_,_,B'.hb,_,rfl,s,rfl,zdH (fun hs=>?_) (fun hs=>by cases s;rfl;exact absurd rfl hs)⟩
    have el:(hlp m t n).map (fun c:Nat=>V.int c)=((hlp m t n).map fun c:Nat=>(c:Int)).map V.int:=by rw [List.map_map];rfl
    refine ⟨(hlp m t n).map fun c:Nat=>(c:Int),SqL.of (by rw [← el];exact hD'),by rw [List.length_map];omega,[.ref b],rfl,LH',fun H3 bar L3=>?_⟩
    have B3:=B'.bar LH' bar
    refine ⟨fun x=>(t.id x.toNat:Int),fun x hx=>?_,fun x hx best=>?_⟩
    ·obtain ⟨c,hc,rfl⟩:=List.mem_map.mp hx
     simp_all only [zaZ,zad]
     refine ⟨_,_,B3.hb,_,rfl,il,rfl,_,SqL.of B3.hi,_,zkB (zgp.mp hc).1,?_⟩
     rw [Int.toNat_natCast]
    ·obtain ⟨c,hc,rfl⟩:=List.mem_map.mp hx
     obtain ⟨c1,c2⟩:=zgp.mp hc
     refine q c H3 c1 c2 (fun _ j hj ng=>?_) (fun x o nx e=>bar _ _ nx (s' _ _ e)) L3
     have:(t.id (c:Int).toNat:Int)≤(t.id (j:Int).toNat:Int):=best j (List.mem_map.mpr ⟨j,zgp.mpr ⟨hj,ng⟩,rfl⟩)
     rw [Int.toNat_natCast,Int.toNat_natCast] at this
     omega
   ·rintro σ H3 ⟨rfl,hs,rfl⟩
    simp_all only [zaZ,zad]
    refine ⟨_,_,B'.hb,rfl,?_⟩
    refine ⟨_,_,_,_,_,_,_,_,_,_,_,_,_,rfl,B',L,hD',hl,by omega,fun c hc=>(zgp.mp hc).1,fun c hc H4 s4=>?_⟩
    obtain ⟨c1,c2⟩:=zgp.mp hc
    exact q c H4 c1 c2 (fun z=>by rw [hs] at z;cases z) (fun x o _ e=>s4 _ _ (s' _ _ e)) (LH'.same s4)
theorem zdw:zaI ["self","helping"] ["self"] (zaj zbz):=⟨rfl,rfl,rfl,by decide +kernel,rfl,by decide +kernel,by decide +kernel⟩
theorem zgC (T:Txt K mg base a):zcw P w K mg base CX0 4 a.f_Board_entering a.d_Board_entering ["self"] (zkq a.c_Board a.p_lam):=by
 have G_Board_steepest:=zgy (P:=P) (w:=w) (base:=base) T
 refine T.F_Board_entering.ok zdw (fun vs H Q E h=>?_) (fun A outer s H vs Q E hr h=>?_)
 ·obtain ⟨b,dx,gl,il,ul,rows,α,m,n,t,s,rfl,B,L,LH,q0,q⟩:=h
  rfl
 obtain ⟨b,dx,gl,il,ul,rows,α,m,n,t,s,rfl,B,L,LH,q0,q⟩:=h
 exact ⟨zcH K a,(zaf (zdC (i:=1) zdw.nd rfl rfl (sc:=zaj zbz) (N:=["self","helping"]) (Nc:=["k","self"]) (cap:=[none,some 0]) rfl rfl rfl (.of (by decide +kernel)) (zbF rfl T.z_range (zaa (zas zar rfl T.z_len PySem.boot_len (zaa (zbS T.cl_Board T.na_Board_idle (pv 0)) zae)) zae)) (fun _ _ _ _=>(zaW (i:=0) (show List.Nodup (["k","self"]:List Str) from by decide) rfl (Or.inl rfl))) (fun _ _ _ _=>(zmo (zaU zhQ (zaO zat (zaO zat (zbS T.cl_Board T.na_Board_grid (pv 1)) (ze6 zc7 zai) (fun _ _=>rfl)) (pv 0) (fun _ _=>rfl)) zai (za4 _)))) (fun _ _ _ _=>(pv 0)))
 (zaf (zbq (zbD (zet (zmP (pv 1) (fun _=>rfl))) (zak (zaJ zd2)) zaN))
 (zaf (zbq (zbD (zc5 (zbS T.cl_Board T.na_Board_stuck (pv 0))) (zak (zaJ (zoK (k:=0) (hr.mono (by decide)) rfl T.z_min (zaa (pv 1) zae) rfl T.hC T.hB rfl rfl rfl (ztD.one (j:=0) rfl rfl rfl rfl (by decide +kernel)) (fun _ _ _ _=>rfl) rfl rfl rfl rfl (by decide +kernel) (fun _ _ _ _ _ _=>(zaO zat (zbS T.cl_Board T.na_Board_idle (pv 1)) (pv 0) (fun _ _=>rfl)))))) zaN))
 (zak (zaJ (ze1 (pv 0) T.cl_Board T.M_Board_steepest G_Board_steepest (hr.mono (by decide)) T.b_Board_steepest .nil zbd (zaa (pv 1) zae))))))),
  zgz B L LH q0 q⟩
theorem zi3 {n c:Nat} (h:c<n):ixN n (c:Int)=some c:=by
 have e:atI (List.replicate n V.non) (c:Int)=some .non:=zcc (by rw [List.getElem?_replicate,if_pos h])
 unfold ixN
 have h1:¬ ((c:Int)<0):=by omega
 simp [PySem.seqIndex?,h1,h]
theorem zoz {f g:Nat→Int} {n c:Nat} {x:Int} (hc:c≤n) (h1:g c=x) (h2:∀ j,j≤n→j≠c→g j=f j):((List.range (n+1)).map fun j=>V.int (f j)).set c (.int x)=(List.range (n+1)).map fun j=>V.int (g j):=by
 refine List.ext_getElem? fun j=>?_
 rw [List.getElem?_set,List.getElem?_map,List.getElem?_map]
 by_cases hj:j<n+1
 ·rw [List.getElem?_range hj]
  by_cases e:c=j
  ·subst e
   rw [if_pos rfl,if_pos (by rw [List.length_map,List.length_range];omega),Option.map_some,h1]
  ·rw [if_neg e,Option.map_some,Option.map_some,h2 j (by omega) (Ne.symm e)]
 ·rw [if_neg (by omega),List.getElem?_eq_none (by rw [List.length_range];omega)]
  rfl
def zcx (K:PySem.W.Frag) (a:Ad):TS :=
 (zaM (za6 (tOp (zbf K) (tAt a.c_Board (zad 0) "grid") (zad 1)) (zao 6))
 (zaM (za6 (zbW (zeh (zab (tCB (fun xs H Q=>∃ p ys,xs=[.ref p]∧(SqL K H p ys∨SqT K H p ys)∧Q (.int ys.length) H) (zab (zad 6) zam)) zam)) (zao 0) za7 (tOp (rI (fun _ j=>j≠0∧j.natAbs.log2<9000) fun i j=>.int (i.fdiv j)) (tOp (rI0 fun i j=>.int (i - j)) (tOp (rI IntMulOk fun i j=>.int (i*j)) (tOp (zbf K) (zad 2) (zad 3)) (tOp (zbf K) (zad 4) (zad 0))) (tOp (rI IntMulOk fun i j=>.int (i*j)) (tOp (zbf K) (zad 4) (zad 3)) (tOp (zbf K) (zad 2) (zad 0)))) (tAt a.c_Board (zad 1) "scale")) [none,some 0,some 4,some 3,some 6]) (zao 5))
 (zaM (za6 (tUn (rU fun i=>.int (-i)) (tOp (zbf K) (zad 6) (zad 3))) (zj5 (zad 5) (zad 3) zdN))
 (zbo (zad 5)))))
theorem zaY (K:PySem.W.Frag) (a:Ad) (D:zbO) (σ:St) (H:Hp):zcx K a D σ H=(zaM (za6 (tOp (zbf K) (tAt a.c_Board (zad 0) "grid") (zad 1)) (zao 6))
 (zaM (za6 (zbW (zeh (zab (tCB (fun xs H Q=>∃ p ys,xs=[.ref p]∧(SqL K H p ys∨SqT K H p ys)∧Q (.int ys.length) H) (zab (zad 6) zam)) zam)) (zao 0) za7 (tOp (rI (fun _ j=>j≠0∧j.natAbs.log2<9000) fun i j=>.int (i.fdiv j)) (tOp (rI0 fun i j=>.int (i - j)) (tOp (rI IntMulOk fun i j=>.int (i*j)) (tOp (zbf K) (zad 2) (zad 3)) (tOp (zbf K) (zad 4) (zad 0))) (tOp (rI IntMulOk fun i j=>.int (i*j)) (tOp (zbf K) (zad 4) (zad 3)) (tOp (zbf K) (zad 2) (zad 0)))) (tAt a.c_Board (zad 1) "scale")) [none,some 0,some 4,some 3,some 6]) (zao 5))
 (zaM (za6 (tUn (rU fun i=>.int (-i)) (tOp (zbf K) (zad 6) (zad 3))) (zj5 (zad 5) (zad 3) zdN))
 (zbo (zad 5))))) D σ H:=rfl
def zcy (K:PySem.W.Frag) (a:Ad):TS :=
 (zbE (zaQ (tOp rEq (zad 1) (zad 2))) (zaM (za6 (tCB (fun xs H Q=>∃ p ys,xs=[.ref p]∧(SqL K H p ys∨SqT K H p ys)∧∀ l,H l=none→Q (.ref l) (upd H l (.lst ys))) (zab (zad 4) zam)) (zao 5))
 (zaM (za6 (tAt a.c_Board (zad 0) "scale") (zj5 (zad 5) (zad 3) zdN))
 (zbo (zad 5)))) zaR)
theorem zaX (K:PySem.W.Frag) (a:Ad) (D:zbO) (σ:St) (H:Hp):zcy K a D σ H=(zbE (zaQ (tOp rEq (zad 1) (zad 2))) (zaM (za6 (tCB (fun xs H Q=>∃ p ys,xs=[.ref p]∧(SqL K H p ys∨SqT K H p ys)∧∀ l,H l=none→Q (.ref l) (upd H l (.lst ys))) (zab (zad 4) zam)) (zao 5))
 (zaM (za6 (tAt a.c_Board (zad 0) "scale") (zj5 (zad 5) (zad 3) zdN))
 (zbo (zad 5)))) zaR) D σ H:=rfl
def zb7 (K:PySem.W.Frag) (a:Ad):TS :=
 (zaM (za6 (tOp (zbf K) (tAt a.c_Board (zad 0) "grid") (zad 2)) (zao 4))
 (zaM (zdy (zcy K a))
 (zcx K a)))
theorem zeL {b dx gl il ul:Addr} {rows:List Addr} {α:Nat→Nat→Int} {m n:Nat} {t:Sx} {s:Bool} {k r c:Nat} (B:Brd H a.c_Board b dx gl il ul rows m n t s) (L:LP α m n t) (hk:k≤m) (hr:r<m) (hc:c<n) (hp:0<t.g r c)
  (q:∀ (l:Addr) (H':Hp),za0 H H'→H l=none→H' l=some (.lst (zfZ (piv t r c) n k))→Q (.ref l) H') :
  zb7 K a { nx:=fun _ H'=>Q .non H',rt:=Q } (L2.zbi ["self","k","row","column","ahead","fresh","old"] [.ref b,.int k,.int r,.int c]) H:=by
 unfold zb7
 obtain ⟨rr,_,hr1,hr2⟩:=B.rowAt (k:=r) (by omega)
 obtain ⟨rk,_,hk1,hk2⟩:=B.rowAt hk
 have hg:=SqL.of (K:=K) B.hg
 have n12:=L.n12
 simp_all only [zaY,zaX,zad]
 refine ⟨_,_,B.hb,_,rfl,gl,rfl,_,hg,_,hr2,?_⟩
 refine ⟨fun σ H'=>H'=H∧k≠r∧σ=[some (.ref b),some (.int k),some (.int r),some (.int c),some (.ref rr),none,none],?_,?_⟩
 ·simp_all only [zaY,zaX,zad]
  refine zdH (fun e=>?_) (fun e=>fun z=>e (by rw [z]))
  have e:k=r:=by omega
  subst e
  refine ⟨_,.inl (SqL.of hr1),fun l hl=>?_⟩
  have B':=B.same (zap hl (.lst (zfZ t n k)))
  refine ⟨_,_,B'.hb,_,rfl,_,zag,c,zi3 (by rw [zhi];omega),?_⟩
  rw [zj7]
  refine q l _ (zap hl _) hl ?_
  rw [zag]
  exact congrArg (fun z=>some (HO.lst z)) (zoz (by omega) zrs fun j _ ne=>zpE ne)
 ·rintro σ H' ⟨rfl,ne,rfl⟩
  simp_all only [zaY,zaX,zad]
  refine ⟨_,_,B.hb,_,rfl,gl,rfl,_,hg,_,hk2,rk,rfl,_,.inl (SqL.of hk1),?_⟩
  rw [zhi]
  refine ⟨by omega,by omega,fun D hD=>?_⟩
  rw [Int.toNat_natCast]
  have d0:=L.F.tok.pos
  have dl:t.d.natAbs.log2<9000:=zmJ 1400 (by omega) L.d
  let f:Nat→Int:=fun j=>(t.g r c*t.g k j - t.g k c*t.g r j).fdiv t.d
  refine zbu (fun i ys σ H2=>za0 H' H2∧ys=(List.range i).map (fun j=>V.int (f j))∧∃ z,σ=[z,some (.ref b),some (.ref rr),some (.int c),some (.ref rk)]) ⟨zap hD _,rfl,_,rfl⟩ ?_ ?_
  ·rintro i ys σ H2 hi hD2 ⟨s2,rfl,z,rfl⟩
   have B2:=B.same s2
   have h1:=s2 _ _ hr1
   have h2:=s2 _ _ hk1
   simp_all only [zaY,zaX,zad]
   rw [Int.zero_add]
   refine ⟨_,SqL.of h1,_,zck (by omega),_,SqL.of h2,_,zck (by omega),_,rfl,_,rfl,znL 1400 1400 (L.g (by omega) (by omega)) (L.g (by omega) (by omega)),_,SqL.of h2,_,zck (by omega),_,SqL.of h1,_,zck (by omega),_,rfl,_,rfl,znL 1400 1400 (L.g (by omega) (by omega)) (L.g (by omega) (by omega)),_,_,B2.hb,_,rfl,_,rfl,by omega,dl,_,hD2,zbl (by rw [List.length_map,List.length_range];omega),_,zag,s2.put hD,?_⟩
   rw [List.range_succ,List.map_append]
   rfl
  ·rintro ys σ H2 hD2 ⟨s2,rfl,z,rfl⟩
   have h2:=s2 _ _ hk1
   simp_all only [zaY,zaX,zad]
   refine ⟨_,SqL.of h2,_,zck (by omega),_,rfl,_,hD2,c,zi3 (by rw [List.length_map,List.length_range];omega),?_⟩
   refine q D _ (s2.put hD) hD ?_
   rw [zag]
   refine congrArg (fun z=>some (HO.lst z)) (zoz (by omega) (zuy ne) fun j hj nj=>?_)
   show (if k=r then (if j=c then t.d else t.g r j) else if j=c then - t.g k c else (t.g r c*t.g k j - t.g k c*t.g r j).fdiv t.d)=_
   rw [if_neg ne,if_neg nj]
theorem zba:zaI ["self","k","row","column","ahead","fresh","old"] ["self","k","row","column"] (zaj zbv):=⟨rfl,rfl,rfl,by decide +kernel,rfl,by decide +kernel,by decide +kernel⟩
theorem zeH (T:Txt K mg base a):zcw P w K mg base CX0 1 a.f_Board_swapped_row a.d_Board_swapped_row ["self","k","row","column"] (zoO a.c_Board):=by
 refine T.F_Board_swapped_row.ok zba (fun vs H Q E h=>?_) (fun cdv A outer s H vs Q E hr h=>?_)
 ·obtain ⟨b,dx,gl,il,ul,rows,α,m,n,t,s,k,r,c,rfl,B,L,hk,hr1,hc,hp,q⟩:=h
  rfl
 obtain ⟨b,dx,gl,il,ul,rows,α,m,n,t,s,k,r,c,rfl,B,L,hk,hr1,hc,hp,q⟩:=h
 exact ⟨zb7 K a,(zaf (zaL (i:=4) zba.nd rfl (Or.inr rfl) (zaO zat (zbS T.cl_Board T.na_Board_grid (pv 0)) (pv 2) (fun _ _=>rfl)))
 (zaf (zbq (zbD (zaU zgh (pv 1) (pv 2) (za4 _)) (zaf (zaL (i:=5) zba.nd rfl (Or.inl rfl) (zes zly rfl T.z_list zc4 (zaa (pv 4) zae)))
 (zaf (zeR (zbS T.cl_Board T.na_Board_scale (pv 0)) (zeS (pv 5) (pv 3) zcr))
 (zak (zaJ (pv 5))))) zaN))
 (zaf (zaL (i:=6) zba.nd rfl (Or.inr rfl) (zaO zat (zbS T.cl_Board T.na_Board_grid (pv 0)) (pv 1) (fun _ _=>rfl)))
 (zaf (zdC (i:=5) zba.nd rfl rfl (sc:=zaj zbv) (N:=["self","k","row","column","ahead","fresh","old"]) (Nc:=["j","self","ahead","column","old"]) (cap:=[none,some 0,some 4,some 3,some 6]) rfl rfl rfl (.of (by decide +kernel)) (zbF rfl T.z_range (zaa (zas zar rfl T.z_len PySem.boot_len (zaa (pv 6) zae)) zae)) (fun _ _ _ _=>(zaW (i:=0) (show List.Nodup (["j","self","ahead","column","old"]:List Str) from by decide) rfl (Or.inl rfl))) (fun _ _ _ _=>zbQ) (fun _ _ _ _=>(zaP zhf (zaP zgK (zaP zbC (zaO zat (pv 2) (pv 3) (fun _ _=>rfl)) (zaO zat (pv 4) (pv 0) (fun _ _=>rfl))) (zaP zbC (zaO zat (pv 4) (pv 3) (fun _ _=>rfl)) (zaO zat (pv 2) (pv 0) (fun _ _=>rfl)))) (zbS T.cl_Board T.na_Board_scale (pv 1)))))
 (zaf (zeR (ze6 zc7 (zaO zat (pv 6) (pv 3) (fun _ _=>rfl))) (zeS (pv 5) (pv 3) zcr))
 (zak (zaJ (pv 5)))))))),
  zeL B L hk hr1 hc hp q⟩
theorem zro {f:Nat→Nat} {k r x:Nat} (h:r<k):(nmL f k).set r (.int (x:Int))=nmL (zkt f r x) k:=by
 unfold nmL
 refine List.ext_getElem? fun j=>?_
 rw [List.getElem?_set,List.getElem?_map,List.getElem?_map]
 by_cases hj:j<k
 ·rw [List.getElem?_range hj]
  by_cases e:r=j
  ·subst e
   rw [if_pos rfl,if_pos (by rw [List.length_map,List.length_range];exact h),Option.map_some,zcB]
  ·rw [if_neg e,Option.map_some,Option.map_some,zdu (Ne.symm e)]
 ·rw [if_neg (by omega),List.getElem?_eq_none (by rw [List.length_range];omega)]
  rfl
def zer (K:PySem.W.Frag) (a:Ad):TS :=
 (zaM (za6 (tOp (zbf K) (tOp (zbf K) (tAt a.c_Board (zad 0) "grid") (zad 1)) (zad 2)) (zao 3))
 (zaM (sAt a.c_Board (zad 0) (tOp rEq (tOp (zbf K) (tOp (zbf K) (tAt a.c_Board (zad 0) "grid") (zad 1)) (tUn (rU fun i=>.int (-i)) (tC (.int 1)))) (tC (.int 0))) "stuck")
 (zaM (sAt a.c_Board (zad 0) (zbW (zeh (zab (tCB (fun xs H Q=>∃ p ys,xs=[.ref p]∧(SqL K H p ys∨SqT K H p ys)∧Q (.int ys.length) H) (zab (tAt a.c_Board (zad 0) "grid") zam)) zam)) (zao 0) za7 (zeq a.c_Board "swapped_row" (zoO a.c_Board) [] E0 (zad 3) (zab (zad 0) (zab (zad 1) (zab (zad 2) zam)))) [none,some 1,some 2,some 0]) "grid")
 (zaM (sAt a.c_Board (zad 0) (zad 3) "scale")
 (zaM (za6 (tOp (zbf K) (tAt a.c_Board (zad 0) "busy") (zad 1)) (zao 4))
 (zaM (za6 (tOp (zbf K) (tAt a.c_Board (zad 0) "idle") (zad 2)) (zj5 (tAt a.c_Board (zad 0) "busy") (zad 1) zdN))
 (za6 (zad 4) (zj5 (tAt a.c_Board (zad 0) "idle") (zad 2) zdN))))))))
theorem zjJ {b dx gl il ul:Addr} {rows:List Addr} {α:Nat→Nat→Int} {m n:Nat} {t:Sx} {s:Bool} {r c:Nat} (B:Brd H a.c_Board b dx gl il ul rows m n t s) (L:LP α m n t) (hr:r<m) (hc:c<n) (hp:0<t.g r c)
  (q:∀ (gl':Addr) (rows':List Addr) (H':Hp),(∀ x o,x≠b→x≠il→x≠ul→H x=some o→H' x=some o)→Brd H' a.c_Board b dx gl' il ul rows' m n (piv t r c) (decide (t.g r n=0))→Q .non H') :
  zer K a { nx:=fun _ H'=>Q .non H',rt:=Q } (L2.zbi ["self","row","column","pivot","name"] [.ref b,.int r,.int c]) H:=by
 unfold zer
 obtain ⟨rr,_,hr1,hr2⟩:=B.rowAt (k:=r) (by omega)
 have hg:=SqL.of (K:=K) B.hg
 have n12:=L.n12
 have m12:=L.m12
 simp_all only [zad]
 refine ⟨_,_,B.hb,_,rfl,gl,rfl,_,hg,_,hr2,rr,rfl,_,SqL.of hr1,_,zck (by omega),?_⟩
 refine ⟨_,_,B.hb,_,rfl,gl,rfl,_,hg,_,hr2,rr,rfl,_,SqL.of hr1,_,zfN,rfl,_,_,B.hb,show 5<1000 by decide,?_⟩
 have e1:zho "stuck" (V.bl (decide (V.int (t.g r n)=V.int 0))) [("grid",V.ref gl),("scale",V.int t.d),("idle",V.ref il),("busy",V.ref ul),("stuck",V.bl s)]=([("grid",V.ref gl),("scale",V.int t.d),("idle",V.ref il),("busy",V.ref ul),("stuck",V.bl (decide (t.g r n=0)))]:List (Str×V)):=by
  rw [show decide (V.int (t.g r n)=V.int 0)=decide (t.g r n=0) from by simp]
  rfl
 rw [e1]
 have k1:∀ x o,x≠b→H x=some o→(L2.upd H b (.ins a.c_Board dx [("grid",V.ref gl),("scale",V.int t.d),("idle",V.ref il),("busy",V.ref ul),("stuck",V.bl (decide (t.g r n=0)))])) x=some o:=fun x o nx e=>(zal nx).trans e
 have nb:∀ x xs,H x=some (.lst xs)→x≠b:=fun x xs e z=>by rw [z,B.hb] at e;cases e
 have B1:Brd (L2.upd H b (.ins a.c_Board dx [("grid",V.ref gl),("scale",V.int t.d),("idle",V.ref il),("busy",V.ref ul),("stuck",V.bl (decide (t.g r n=0)))])) a.c_Board b dx gl il ul rows m n t (decide (t.g r n=0)) :=
  ⟨zag,k1 _ _ (nb _ _ B.hg) B.hg,B.len,fun k x e=>k1 _ _ (nb _ _ (B.row k x e)) (B.row k x e),k1 _ _ (nb _ _ B.hi) B.hi,k1 _ _ (nb _ _ B.hu) B.hu,B.ne⟩
 generalize L2.upd H b (.ins a.c_Board dx [("grid",V.ref gl),("scale",V.int t.d),("idle",V.ref il),("busy",V.ref ul),("stuck",V.bl (decide (t.g r n=0)))])=H1 at k1 B1 ⊢
 refine ⟨_,_,B1.hb,_,rfl,gl,rfl,_,.inl (SqL.of B1.hg),?_⟩
 rw [List.length_map,B.len]
 refine ⟨by omega,by omega,fun D hD=>?_⟩
 rw [Int.toNat_natCast]
 refine zbu (fun i ys σ H2=>za0 H1 H2∧(∃ us:List Addr,ys=us.map V.ref∧us.length=i∧∀ (k:Nat) x,us[k]?=some x→x≠D∧H1 x=none∧H2 x=some (.lst (zfZ (piv t r c) n k)))∧∃ z,σ=[z,some (.int r),some (.int c),some (.ref b)]) ⟨zap hD _,⟨[],rfl,rfl,fun k x e=>nomatch e⟩,_,rfl⟩ ?_ ?_
 ·rintro i ys σ H2 hi hD2 ⟨s2,⟨us,rfl,lu,hu⟩,z,rfl⟩
  have B2:=B1.same s2
  simp_all only [zad]
  rw [Int.zero_add]
  refine ⟨_,_,B2.hb,rfl,?_⟩
  refine ⟨_,_,_,_,_,_,_,_,_,_,_,i,r,c,rfl,B2,L,by omega,hr,hc,hp,fun l H3 s3 nl hl=>?_⟩
  have nlD:l≠D:=fun z=>by rw [z,hD2] at nl;cases nl
  refine ⟨_,s3 _ _ hD2,zbl (by rw [List.length_map];omega),_,zag,(s2.trans s3).put hD,us++[l],by rw [List.map_append];rfl,by rw [List.length_append,lu];rfl,fun k x e=>?_⟩
  by_cases hk:k<us.length
  ·rw [List.getElem?_append_left hk] at e
   obtain ⟨z1,z0,z2⟩:=hu k x e
   exact ⟨z1,z0,by rw [zal z1];exact s3 _ _ z2⟩
  ·rw [List.getElem?_append_right (by omega)] at e
   have zk:k - us.length=0:=by
    have:=(List.getElem?_eq_some_iff.mp e).1
    simp only [List.length_cons,List.length_nil] at this
    omega
   rw [zk] at e
   cases e
   refine ⟨nlD,s2.free nl,?_⟩
   rw [zal nlD,show k=i by omega]
   exact hl
 ·rintro ys σ H2 hD2 ⟨s2,⟨us,rfl,lu,hu⟩,z,rfl⟩
  have B2:=B1.same s2
  refine ⟨_,_,B2.hb,show 5<1000 by decide,_,_,zag,show 5<1000 by decide,?_⟩
  rw [zj7]
  have e2:zho "scale" (V.int (t.g r c)) (zho "grid" (V.ref D) [("grid",V.ref gl),("scale",V.int t.d),("idle",V.ref il),("busy",V.ref ul),("stuck",V.bl (decide (t.g r n=0)))])=([("grid",V.ref D),("scale",V.int (t.g r c)),("idle",V.ref il),("busy",V.ref ul),("stuck",V.bl (decide (t.g r n=0)))]:List (Str×V)):=rfl
  rw [e2]
  have nb2:∀ x xs,H2 x=some (.lst xs)→x≠b:=fun x xs e z=>by rw [z,B2.hb] at e;cases e
  have k3:∀ x o,x≠b→H2 x=some o→(L2.upd H2 b (.ins a.c_Board dx [("grid",V.ref D),("scale",V.int (t.g r c)),("idle",V.ref il),("busy",V.ref ul),("stuck",V.bl (decide (t.g r n=0)))])) x=some o:=fun x o nx e=>(zal nx).trans e
  have hb3:(L2.upd H2 b (.ins a.c_Board dx [("grid",V.ref D),("scale",V.int (t.g r c)),("idle",V.ref il),("busy",V.ref ul),("stuck",V.bl (decide (t.g r n=0)))])) b=some (.ins a.c_Board dx [("grid",V.ref D),("scale",V.int (t.g r c)),("idle",V.ref il),("busy",V.ref ul),("stuck",V.bl (decide (t.g r n=0)))]):=zag
  generalize L2.upd H2 b (.ins a.c_Board dx [("grid",V.ref D),("scale",V.int (t.g r c)),("idle",V.ref il),("busy",V.ref ul),("stuck",V.bl (decide (t.g r n=0)))])=H3 at k3 hb3 ⊢
  have hi3:=k3 _ _ (nb2 _ _ B2.hi) B2.hi
  have hu3:=k3 _ _ (nb2 _ _ B2.hu) B2.hu
  have hD3:=k3 _ _ (nb2 _ _ hD2) hD2
  refine ⟨_,_,hb3,_,rfl,ul,rfl,_,SqL.of hu3,_,zkB hr,?_⟩
  refine ⟨_,_,hb3,_,rfl,il,rfl,_,SqL.of hi3,_,zkB hc,?_⟩
  refine ⟨_,_,hb3,_,rfl,ul,rfl,_,hu3,r,zi3 (by rw [zds];exact hr),?_⟩
  rw [zro hr]
  have ub:ul≠b:=nb2 _ _ B2.hu
  have ib:il≠b:=nb2 _ _ B2.hi
  have hb4:(L2.upd H3 ul (.lst (nmL (zkt t.bs r (t.id c)) m))) b=_:=(zal (Ne.symm ub)).trans hb3
  have hi4:(L2.upd H3 ul (.lst (nmL (zkt t.bs r (t.id c)) m))) il=_:=(zal B.ne).trans hi3
  refine ⟨_,_,hb4,_,rfl,il,rfl,_,hi4,c,zi3 (by rw [zds];exact hc),?_⟩
  rw [zro hc]
  refine q D us _ (fun x o n1 n2 n3 e=>?_) ⟨?_,?_,lu,fun k x e=>?_,zag,?_,B.ne⟩
  ·rw [zal n2,zal n3]
   exact k3 _ _ n1 (s2 _ _ (k1 _ _ n1 e))
  ·rw [zal (Ne.symm ib)]
   exact hb4
  ·have h1:D≠il:=fun z=>by rw [z,B1.hi] at hD;cases hD
   have h2:D≠ul:=fun z=>by rw [z,B1.hu] at hD;cases hD
   rw [zal h1,zal h2]
   exact hD3
  ·obtain ⟨z1,z0,z2⟩:=hu k x e
   have h1:x≠il:=fun z=>by rw [z,B1.hi] at z0;cases z0
   have h2:x≠ul:=fun z=>by rw [z,B1.hu] at z0;cases z0
   rw [zal h1,zal h2]
   exact k3 _ _ (nb2 _ _ z2) z2
  ·rw [zal (Ne.symm B.ne)]
   exact zag
theorem zdP:zaI ["self","row","column","pivot","name"] ["self","row","column"] (zaj zdf):=⟨rfl,rfl,rfl,by decide +kernel,rfl,by decide +kernel,by decide +kernel⟩
theorem zjv (T:Txt K mg base a):zcw P w K mg base CX0 2 a.f_Board_swap a.d_Board_swap ["self","row","column"] (zo6 a.c_Board):=by
 have G_Board_swapped_row:=zeH (P:=P) (w:=w) (base:=base) T
 refine T.F_Board_swap.ok zdP (fun vs H Q E h=>?_) (fun cdv A outer s H vs Q E hr h=>?_)
 ·obtain ⟨b,dx,gl,il,ul,rows,α,m,n,t,s,r,c,rfl,B,L,hr1,hc,hp,q⟩:=h
  rfl
 obtain ⟨b,dx,gl,il,ul,rows,α,m,n,t,s,r,c,rfl,B,L,hr1,hc,hp,q⟩:=h
 exact ⟨zer K a,(zaf (zaL (i:=3) zdP.nd rfl (Or.inl rfl) (zaO zat (zaO zat (zbS T.cl_Board T.na_Board_grid (pv 0)) (pv 1) (fun _ _=>rfl)) (pv 2) (fun _ _=>rfl)))
 (zaf (zlm T.cl_Board T.na_Board_stuck (pv 0) (zhS zgh (zaO zat (zaO zat (zbS T.cl_Board T.na_Board_grid (pv 0)) (pv 1) (fun _ _=>rfl)) (ze6 zc7 zai) (fun _ _=>rfl)) zai (za4 _)))
 (zaf (zlm T.cl_Board T.na_Board_grid (pv 0) (zcj (sc:=zaj zdf) (N:=["self","row","column","pivot","name"]) (Nc:=["k","row","column","self"]) (cap:=[none,some 1,some 2,some 0]) rfl rfl rfl (.of (by decide +kernel)) (zbF rfl T.z_range (zaa (zas zar rfl T.z_len PySem.boot_len (zaa (zbS T.cl_Board T.na_Board_grid (pv 0)) zae)) zae)) (fun _ _ _ _=>(zaW (i:=0) (show List.Nodup (["k","row","column","self"]:List Str) from by decide) rfl (Or.inl rfl))) (fun _ _ _ _=>zbQ) (fun _ _ _ _=>(ze1 (pv 3) T.cl_Board T.M_Board_swapped_row G_Board_swapped_row (hr.mono (by decide)) T.b_Board_swapped_row .nil zbd (zaa (pv 0) (zaa (pv 1) (zaa (pv 2) zae)))))))
 (zaf (zlm T.cl_Board T.na_Board_scale (pv 0) (pv 3))
 (zaf (zaL (i:=4) zdP.nd rfl (Or.inl rfl) (zaO zat (zbS T.cl_Board T.na_Board_busy (pv 0)) (pv 1) (fun _ _=>rfl)))
 (zaf (zeR (zaO zat (zbS T.cl_Board T.na_Board_idle (pv 0)) (pv 2) (fun _ _=>rfl)) (zeS (zbS T.cl_Board T.na_Board_busy (pv 0)) (pv 1) zcr))
 (zak (zeR (pv 4) (zeS (zbS T.cl_Board T.na_Board_idle (pv 0)) (pv 2) zcr))))))))),
  zjJ B L hr1 hc hp q⟩
def zcI (K:PySem.W.Frag) (a:Ad):TS :=
 (zaM (sAt a.c_Board (zad 0) (zad 1) "grid")
 (zaM (sAt a.c_Board (zad 0) (tC (.int 1)) "scale")
 (zaM (sAt a.c_Board (zad 0) (tCB zhu (zab (zqI (zab (tOp (rI0 fun i j=>.int (i - j)) (tCB (fun xs H Q=>∃ p ys,xs=[.ref p]∧(SqL K H p ys∨SqT K H p ys)∧Q (.int ys.length) H) (zab (tOp (zbf K) (zad 1) (tC (.int 0))) zam)) (tC (.int 1))) zam)) zam)) "idle")
 (zaM (sAt a.c_Board (zad 0) (zbW (zeh (zab (tOp (rI0 fun i j=>.int (i - j)) (tCB (fun xs H Q=>∃ p ys,xs=[.ref p]∧(SqL K H p ys∨SqT K H p ys)∧Q (.int ys.length) H) (zab (zad 1) zam)) (tC (.int 1))) zam)) (zao 0) za7 (tOp (rI0 fun i j=>.int (i+j)) (tCB (fun xs H Q=>∃ p ys,xs=[.ref p]∧(SqL K H p ys∨SqT K H p ys)∧Q (.int ys.length) H) (zab (tAt a.c_Board (zad 1) "idle") zam)) (zad 0)) [none,some 0]) "busy")
 (sAt a.c_Board (zad 0) (tC (.bl false)) "stuck")))))
theorem zf4 {b dx gl:Addr} {rows:List Addr} {m n:Nat} {t:Sx} (hb:H b=some (.ins a.c_Board dx [])) (G:Grd H gl rows m n t) (m12:m≤12) (n12:n≤12) (td:t.d=1) (ti:t.id=(fun c=>if c<n then c else n+m+1)) (tb:t.bs=(fun k=>n+k))
  (q:∀ (il ul:Addr) (H':Hp),(∀ x o,x≠b→H x=some o→H' x=some o)→H il=none→H ul=none→Brd H' a.c_Board b dx gl il ul rows m n t false→Q .non H') :
  zcI K a { nx:=fun _ H'=>Q .non H',rt:=Q } (L2.zbi ["self","grid"] [.ref b,.ref gl]) H:=by
 unfold zcI
 have nb:∀ x xs,H x=some (.lst xs)→x≠b:=fun x xs e z=>by rw [z,hb] at e;cases e
 simp_all only [zad]
 refine ⟨_,_,hb,show 0<1000 by decide,_,_,zag,show 1<1000 by decide,?_⟩
 rw [zj7]
 have k1:∀ x o,x≠b→H x=some o→(L2.upd H b (.ins a.c_Board dx [("grid",V.ref gl),("scale",V.int 1)])) x=some o:=fun x o nx e=>(zal nx).trans e
 have hb1:(L2.upd H b (.ins a.c_Board dx [("grid",V.ref gl),("scale",V.int 1)])) b=some (.ins a.c_Board dx [("grid",V.ref gl),("scale",V.int 1)]):=zag
 have e1:zho "scale" (V.int 1) (zho "grid" (V.ref gl) [])=([("grid",V.ref gl),("scale",V.int 1)]:List (Str×V)):=rfl
 rw [e1]
 have f1:∀ x,(L2.upd H b (.ins a.c_Board dx [("grid",V.ref gl),("scale",V.int 1)])) x=none→H x=none:=fun x e=>by
  by_cases z:x=b
  ·rw [z,zag] at e;cases e
  ·rwa [zal z] at e
 generalize L2.upd H b (.ins a.c_Board dx [("grid",V.ref gl),("scale",V.int 1)])=H1 at k1 hb1 f1 ⊢
 have l0:0<rows.length:=by rw [G.len];omega
 have g1:=k1 _ _ (nb _ _ G.hg) G.hg
 have r0:=G.row 0 rows[0] (List.getElem?_eq_getElem l0)
 have r1:=k1 _ _ (nb _ _ r0) r0
 refine ⟨_,SqL.of g1,_,zcc (j:=0) (by rw [List.getElem?_map,List.getElem?_eq_getElem l0];rfl),rows[0],rfl,_,.inl (SqL.of r1),?_⟩
 rw [zhi]
 refine ⟨by omega,by omega,fun p hp=>⟨_,_,zag,by decide,by decide,by omega,by omega,by omega,fun il hil=>?_⟩⟩
 have ep:((List.range (((n+1:Nat):Int) - 1 - 0).toNat).map fun k:Nat=>V.int (0+(k:Int)))=nmL t.id n:=by
  rw [show (((n+1:Nat):Int) - 1 - 0).toNat=n by omega,nmL,ti]
  refine List.map_congr_left fun k hk=>?_
  show V.int (0+(k:Int))=V.int ((if k<n then k else n+m+1:Nat):Int)
  rw [if_pos (List.mem_range.mp hk),Int.zero_add]
 rw [ep]
 have s2:=(zap hp (.rng 0 (((n+1:Nat):Int) - 1))).trans (zap hil (.lst (nmL t.id n)))
 have f2:∀ x,(L2.upd (L2.upd H1 p (.rng 0 (((n+1:Nat):Int) - 1))) il (.lst (nmL t.id n))) x=none→H1 x=none:=fun x e=>s2.free e
 have hi2:(L2.upd (L2.upd H1 p (.rng 0 (((n+1:Nat):Int) - 1))) il (.lst (nmL t.id n))) il=some (.lst (nmL t.id n)):=zag
 have ni:H1 il=none:=(zap hp _).free hil
 generalize L2.upd (L2.upd H1 p (.rng 0 (((n+1:Nat):Int) - 1))) il (.lst (nmL t.id n))=H2 at s2 f2 hi2 ⊢
 refine ⟨_,_,s2 _ _ hb1,show 2<1000 by decide,?_⟩
 have ib:il≠b:=fun z=>by rw [z,hb1] at ni;cases ni
 have e2:zho "idle" (V.ref il) [("grid",V.ref gl),("scale",V.int 1)]=([("grid",V.ref gl),("scale",V.int 1),("idle",V.ref il)]:List (Str×V)):=rfl
 rw [e2]
 have k3:∀ x o,x≠b→H2 x=some o→(L2.upd H2 b (.ins a.c_Board dx [("grid",V.ref gl),("scale",V.int 1),("idle",V.ref il)])) x=some o:=fun x o nx e=>(zal nx).trans e
 have hb3:(L2.upd H2 b (.ins a.c_Board dx [("grid",V.ref gl),("scale",V.int 1),("idle",V.ref il)])) b=some (.ins a.c_Board dx [("grid",V.ref gl),("scale",V.int 1),("idle",V.ref il)]):=zag
 have f3:∀ x,(L2.upd H2 b (.ins a.c_Board dx [("grid",V.ref gl),("scale",V.int 1),("idle",V.ref il)])) x=none→H2 x=none:=fun x e=>by
  by_cases z:x=b
  ·rw [z,zag] at e;cases e
  ·rwa [zal z] at e
 generalize L2.upd H2 b (.ins a.c_Board dx [("grid",V.ref gl),("scale",V.int 1),("idle",V.ref il)])=H3 at k3 hb3 f3 ⊢
 have g3:=k3 _ _ (nb _ _ G.hg) (s2 _ _ g1)
 refine ⟨_,.inl (SqL.of g3),?_⟩
 rw [List.length_map,G.len]
 refine ⟨by omega,by omega,fun D hD=>?_⟩
 rw [show (((m+1:Nat):Int) - 1).toNat=m by omega]
 have hi3:=k3 _ _ ib hi2
 refine zbu (fun i ys σ H'=>za0 H3 H'∧ys=nmL t.bs i∧∃ z,σ=[z,some (.ref b)]) ⟨zap hD _,rfl,_,rfl⟩ ?_ ?_
 ·rintro i ys σ H' hi hD' ⟨s',rfl,z,rfl⟩
  simp_all only [zad]
  refine ⟨_,_,s' _ _ hb3,_,rfl,il,rfl,_,.inl (SqL.of (s' _ _ hi3)),_,hD',zbl (by rw [zds];omega),_,zag,s'.put hD,?_⟩
  rw [zds,nmL,nmL,List.range_succ,List.map_append,tb,Int.zero_add]
  rfl
 ·rintro ys σ H' hD' ⟨s',rfl,z,rfl⟩
  refine ⟨_,_,s' _ _ hb3,show 3<1000 by decide,_,_,zag,show 4<1000 by decide,?_⟩
  rw [zj7]
  have e4:zho "stuck" (V.bl false) (zho "busy" (V.ref D) [("grid",V.ref gl),("scale",V.int 1),("idle",V.ref il)])=([("grid",V.ref gl),("scale",V.int 1),("idle",V.ref il),("busy",V.ref D),("stuck",V.bl false)]:List (Str×V)):=rfl
  rw [e4]
  have ne:il≠D:=fun z=>by rw [← z,hi3] at hD;cases hD
  have nD:D≠b:=fun z=>by rw [z,hb3] at hD;cases hD
  have kk:∀ x o,x≠b→H x=some o→(L2.upd H' b (.ins a.c_Board dx [("grid",V.ref gl),("scale",V.int 1),("idle",V.ref il),("busy",V.ref D),("stuck",V.bl false)])) x=some o:=fun x o nx e=>(zal nx).trans (s' _ _ (k3 _ _ nx (s2 _ _ (k1 _ _ nx e))))
  refine q il D _ kk (f1 _ ni) (f1 _ (f2 _ (f3 _ hD))) ⟨by rw [td];exact zag,kk _ _ (nb _ _ G.hg) G.hg,G.len,fun k x e=>kk _ _ (nb _ _ (G.row k x e)) (G.row k x e),(zal ib).trans (s' _ _ hi3),(zal nD).trans hD',ne⟩
theorem zf8:zaI ["self","grid"] ["self","grid"] (zaj zb2):=⟨rfl,rfl,rfl,by decide +kernel,rfl,by decide +kernel,by decide +kernel⟩
theorem zgG (T:Txt K mg base a):zcw P w K mg base CX0 1 a.f_Board___init__ a.d_Board___init__ ["self","grid"] (znT a.c_Board):=by
 refine T.F_Board___init__.ok zf8 (fun vs H Q E h=>?_) (fun cdv A outer s H vs Q E hr h=>?_)
 ·obtain ⟨b,dx,gl,rows,m,n,t,rfl,hb,G,m12,n12,td,ti,tb,q⟩:=h
  rfl
 obtain ⟨b,dx,gl,rows,m,n,t,rfl,hb,G,m12,n12,td,ti,tb,q⟩:=h
 exact ⟨zcI K a,(zaf (zlm T.cl_Board T.na_Board_grid (pv 0) (pv 1))
 (zaf (zlm T.cl_Board T.na_Board_scale (pv 0) zai)
 (zaf (zlm T.cl_Board T.na_Board_idle (pv 0) (zes (zfp rfl) rfl T.z_list zc4 (zaa (zoN rfl T.z_range (zaa (zaP zgK (zas zar rfl T.z_len PySem.boot_len (zaa (zaO zat (pv 1) zai (fun _ _=>rfl)) zae)) zai) zae)) zae)))
 (zaf (zlm T.cl_Board T.na_Board_busy (pv 0) (zcj (sc:=zaj zb2) (N:=["self","grid"]) (Nc:=["k","self"]) (cap:=[none,some 0]) rfl rfl rfl (.of (by decide +kernel)) (zbF rfl T.z_range (zaa (zaP zgK (zas zar rfl T.z_len PySem.boot_len (zaa (pv 1) zae)) zai) zae)) (fun _ _ _ _=>(zaW (i:=0) (show List.Nodup (["k","self"]:List Str) from by decide) rfl (Or.inl rfl))) (fun _ _ _ _=>zbQ) (fun _ _ _ _=>(zaP zdV (zas zar rfl T.z_len PySem.boot_len (zaa (zbS T.cl_Board T.na_Board_idle (pv 1)) zae)) (pv 0)))))
 (zak (zlm T.cl_Board T.na_Board_stuck (pv 0) zft)))))),
  zf4 hb G m12 n12 td ti tb q⟩
def aOf (rows:List (List Int)) (lift:Int) (i j:Nat):Int:=(rows.getD i []).getD j 0+lift
theorem zuZ {rows:List (List Int)} {lift:Int} {w j:Nat} (h:j<w):zfZ (sx0 (aOf rows lift) w rows.length) rows.length j=(rows.map fun row=>V.int (row.getD j 0+lift))++[V.int 1]:=by
 rw [zfZ,List.range_succ,List.map_append]
 congr 1
 ·refine List.ext_getElem? fun i=>?_
  rw [List.getElem?_map,List.getElem?_map]
  by_cases hi:i<rows.length
  ·rw [List.getElem?_range hi,List.getElem?_eq_getElem hi,Option.map_some,Option.map_some]
   show some (V.int (if j<w then (if i<rows.length then aOf rows lift i j else 1) else _))=_
   rw [if_pos h,if_pos hi,aOf,show rows.getD i []=rows[i] from by rw [List.getD_eq_getElem?_getD,List.getElem?_eq_getElem hi];rfl]
  ·rw [List.getElem?_eq_none (by rw [List.length_range];omega),List.getElem?_eq_none (by omega)]
   rfl
 ·show [V.int (if j<w then (if rows.length<rows.length then _ else 1) else _)]=_
  rw [if_pos h,if_neg (Nat.lt_irrefl _)]
theorem zti {rows:List (List Int)} {lift:Int} {w:Nat}:zfZ (sx0 (aOf rows lift) w rows.length) rows.length w=(rows.map fun _=>V.int (-1))++[V.int 0]:=by
 rw [zfZ,List.range_succ,List.map_append]
 congr 1
 ·refine List.ext_getElem? fun i=>?_
  rw [List.getElem?_map,List.getElem?_map]
  by_cases hi:i<rows.length
  ·rw [List.getElem?_range hi,List.getElem?_eq_getElem hi,Option.map_some,Option.map_some]
   show some (V.int (if w<w then _ else if i<rows.length then -1 else 0))=_
   rw [if_neg (Nat.lt_irrefl w),if_pos hi]
  ·rw [List.getElem?_eq_none (by rw [List.length_range];omega),List.getElem?_eq_none (by omega)]
   rfl
 ·show [V.int (if w<w then _ else if rows.length<rows.length then -1 else 0)]=_
  rw [if_neg (Nat.lt_irrefl w),if_neg (Nat.lt_irrefl _)]
def zo1:Sp:=fun vs H Q _=>∃ (tt:Addr) (rs:List Addr) (rows:List (List Int)) (w:Nat) (lift:Int),vs=[.ref tt,.int lift]∧Tb H tt rs rows w ∧
 ∀ (gl:Addr) (us:List Addr) (H':Hp),za0 H H'→Grd H' gl us w rows.length (sx0 (aOf rows lift) w rows.length)→Q (.ref gl) H'
def zed (K:PySem.W.Frag):TS :=
 (zaM (za6 (zbW (zeh (zab (tCB (fun xs H Q=>∃ p ys,xs=[.ref p]∧(SqL K H p ys∨SqT K H p ys)∧Q (.int ys.length) H) (zab (tOp (zbf K) (zad 0) (tC (.int 0))) zam)) zam)) (zao 0) za7 (tOp zkX (zbW (zdJ K (zad 2)) (zao 0) za7 (tOp (rI0 fun i j=>.int (i+j)) (tOp (zbf K) (zad 0) (zad 2)) (zad 1)) [none,some 1,some 0]) (zb5 (zab (tC (.int 1)) zam))) [none,some 1,some 0]) (zao 2))
 (zbo (tOp zkX (zad 2) (zb5 (zab (tOp zkX (zbW (zdJ K (zad 0)) (zao 0) za7 (tUn (rU fun i=>.int (-i)) (tC (.int 1))) [none]) (zb5 (zab (tC (.int 0)) zam))) zam)))))
theorem zjP {tt:Addr} {rs:List Addr} {rows:List (List Int)} {w:Nat} {lift:Int} (B:Tb H tt rs rows w) (q:∀ (gl:Addr) (us:List Addr) (H':Hp),za0 H H'→Grd H' gl us w rows.length (sx0 (aOf rows lift) w rows.length)→Q (.ref gl) H') :
  zed K { nx:=fun _ H'=>Q .non H',rt:=Q } (L2.zbi ["table","lift","grid"] [.ref tt,.int lift]) H:=by
 unfold zed
 have l12:=B.l6
 have w12:=B.w6
 have ln:=B.len
 obtain ⟨r0,row0,a0,h0,w0⟩:=B.first
 simp_all only [zad]
 refine ⟨_,SqL.of B.ht,_,a0,r0,rfl,_,.inl (SqL.of h0),?_⟩
 rw [List.length_map,w0]
 refine ⟨by omega,by omega,fun D hD=>?_⟩
 rw [Int.toNat_natCast]
 refine zbu (fun i ys σ H'=>za0 H H'∧(∃ us:List Addr,ys=us.map V.ref∧us.length=i∧∀ (k:Nat) x,us[k]?=some x→x≠D∧H' x=some (.lst (zfZ (sx0 (aOf rows lift) w rows.length) rows.length k)))∧∃ z,σ=[z,some (.int lift),some (.ref tt)]) ⟨zap hD _,⟨[],rfl,rfl,fun k x e=>nomatch e⟩,_,rfl⟩ ?_ ?_
 ·rintro i ys σ H2 hi hD2 ⟨s2,⟨us,rfl,lu,hu⟩,z,rfl⟩
  have B2:=B.same s2
  simp_all only [zad]
  refine ⟨⟨_,SqL.of B2.ht⟩,fun F hF=>?_⟩
  have lq:(rows.map fun row=>V.int (row.getD i 0+lift)).length=(rs.map V.ref).length:=by rw [List.length_map,List.length_map,ln]
  refine zeA B2.ht lq (by rw [List.length_map];omega) hF (fun j x v H3 R hx hv s3 hR=>?_) fun H3 s3 hF3=>?_
  ·obtain ⟨r,hr,rfl⟩:=zbU hx
   obtain ⟨row,e1,e2,e3⟩:=(B2.same s3).at hr
   rw [List.getElem?_map,e1] at hv
   cases hv
   simp_all only [zad]
   rw [Int.zero_add]
   refine ⟨_,SqL.of e2,_,zcc (by rw [List.getElem?_map,List.getElem?_eq_getElem (by omega)];rfl),_,rfl,?_⟩
   have:row[i]'(by omega)=row.getD i 0:=by rw [List.getD_eq_getElem?_getD,List.getElem?_eq_getElem (by omega)];rfl
   rw [this]
   exact hR H3 (.refl _)
  ·refine ⟨by decide,fun p hp=>?_⟩
   have nF:F≠p:=fun z=>by rw [← z,hF3] at hp;cases hp
   refine ⟨F,rfl,_,(zal nF).trans hF3,_,zag,by rw [List.length_map];simp only [sizeLine,List.length_cons,List.length_nil];omega,fun x hx=>?_⟩
   rw [← zuZ hi]
   have s4:za0 H2 (L2.upd (L2.upd H3 p (.lst [V.int 1])) x (.lst (zfZ (sx0 (aOf rows lift) w rows.length) rows.length i))):=s3.trans ((zap hp _).trans (zap hx _))
   have hx4:(L2.upd (L2.upd H3 p (.lst [V.int 1])) x (.lst (zfZ (sx0 (aOf rows lift) w rows.length) rows.length i))) x=some (.lst (zfZ (sx0 (aOf rows lift) w rows.length) rows.length i)):=zag
   have nx:H2 x=none:=s3.free ((zap hp _).free hx)
   generalize L2.upd (L2.upd H3 p (.lst [V.int 1])) x (.lst (zfZ (sx0 (aOf rows lift) w rows.length) rows.length i))=H4 at s4 hx4 ⊢
   have nxD:x≠D:=fun z=>by rw [z,hD2] at nx;cases nx
   refine ⟨_,s4 _ _ hD2,zbl (by rw [List.length_map];omega),_,zag,(s2.trans s4).put hD,us++[x],by rw [List.map_append];rfl,by rw [List.length_append,lu];rfl,fun k y e=>?_⟩
   by_cases hk:k<us.length
   ·rw [List.getElem?_append_left hk] at e
    obtain ⟨z1,z2⟩:=hu k y e
    exact ⟨z1,by rw [zal z1];exact s4 _ _ z2⟩
   ·rw [List.getElem?_append_right (by omega)] at e
    have zk:k - us.length=0:=by
     have:=(List.getElem?_eq_some_iff.mp e).1
     simp only [List.length_cons,List.length_nil] at this
     omega
    rw [zk] at e
    cases e
    refine ⟨nxD,?_⟩
    rw [zal nxD,show k=i by omega]
    exact hx4
 ·rintro ys σ H2 hD2 ⟨s2,⟨us,rfl,lu,hu⟩,z,rfl⟩
  have B2:=B.same s2
  simp_all only [zad]
  refine ⟨⟨_,SqL.of B2.ht⟩,fun F hF=>?_⟩
  have lq:(rows.map fun _=>V.int (-1)).length=(rs.map V.ref).length:=by rw [List.length_map,List.length_map,ln]
  refine zeA B2.ht lq (by rw [List.length_map];omega) hF (fun j x v H3 R hx hv s3 hR=>?_) fun H3 s3 hF3=>?_
  ·rw [List.getElem?_map] at hv
   cases e:rows[j]? with
   | none=>rw [e] at hv;cases hv
   | some y =>
    rw [e] at hv
    cases hv
    simp_all only [zad]
    exact hR H3 (.refl _)
  ·refine ⟨by decide,fun p hp=>?_⟩
   have nF:F≠p:=fun z=>by rw [← z,hF3] at hp;cases hp
   refine ⟨F,rfl,_,(zal nF).trans hF3,_,zag,by rw [List.length_map];simp only [sizeLine,List.length_cons,List.length_nil];omega,fun x hx=>?_⟩
   rw [← zti (lift:=lift) (w:=w)]
   have s4:za0 H2 (L2.upd (L2.upd H3 p (.lst [V.int 0])) x (.lst (zfZ (sx0 (aOf rows lift) w rows.length) rows.length w))):=s3.trans ((zap hp _).trans (zap hx _))
   have hx4:(L2.upd (L2.upd H3 p (.lst [V.int 0])) x (.lst (zfZ (sx0 (aOf rows lift) w rows.length) rows.length w))) x=some (.lst (zfZ (sx0 (aOf rows lift) w rows.length) rows.length w)):=zag
   generalize L2.upd (L2.upd H3 p (.lst [V.int 0])) x (.lst (zfZ (sx0 (aOf rows lift) w rows.length) rows.length w))=H4 at s4 hx4 ⊢
   refine ⟨by decide,fun y hy=>?_⟩
   have s5:=zap hy (.lst [V.ref x])
   refine ⟨_,s5 _ _ (s4 _ _ hD2),_,zag,by rw [List.length_map];simp only [sizeLine,List.length_cons,List.length_nil];omega,fun g hg=>?_⟩
   have s6:=s5.trans (zap hg (.lst (us.map V.ref++[V.ref x])))
   refine q g (us++[x]) _ (s2.trans (s4.trans s6)) ⟨?_,by rw [List.length_append,lu];rfl,fun k v e=>?_⟩
   ·rw [zag,List.map_append]
    rfl
   ·by_cases hk:k<us.length
    ·rw [List.getElem?_append_left hk] at e
     exact s6 _ _ (s4 _ _ (hu k v e).2)
    ·rw [List.getElem?_append_right (by omega)] at e
     have zk:k - us.length=0:=by
      have:=(List.getElem?_eq_some_iff.mp e).1
      simp only [List.length_cons,List.length_nil] at this
      omega
     rw [zk] at e
     cases e
     rw [show k=w by omega]
     exact s6 _ _ hx4
theorem zfx:zaI ["table","lift","grid"] ["table","lift"] (zaj zb9):=⟨rfl,rfl,rfl,by decide +kernel,rfl,by decide +kernel,by decide +kernel⟩
theorem zj8 (T:Txt K mg base a):zcw P w K mg base CX0 1 a.f_first_grid a.d_first_grid ["table","lift"] zo1:=by
 refine T.F_first_grid.ok zfx (fun vs H Q E h=>?_) (fun cdv A outer s H vs Q E hr h=>?_)
 ·obtain ⟨tt,rs,rows,w,lift,rfl,B,q⟩:=h
  rfl
 obtain ⟨tt,rs,rows,w,lift,rfl,B,q⟩:=h
 exact ⟨zed K,(zaf (zlW (i:=2) zfx.nd rfl rfl (sc:=zaj zb9) (N:=["table","lift","grid"]) (Nc:=["j","lift","table"]) (cap:=[none,some 1,some 0]) rfl rfl rfl (.of (by decide +kernel)) (zbF rfl T.z_range (zaa (zas zar rfl T.z_len PySem.boot_len (zaa (zaO zat (pv 0) zai (fun _ _=>rfl)) zae)) zae)) (fun _ _ _ _=>(zaW (i:=0) (show List.Nodup (["j","lift","table"]:List Str) from by decide) rfl (Or.inr rfl))) (fun _ _ _ _=>zbQ) (fun _ _ _ _=>(zaP zfO (zcj (N:=["j","lift","table"]) (Nc:=["row","lift","j"]) (cap:=[none,some 1,some 0]) rfl (zr0.trans (congrArg (zmv _) (rfl:_=zaj zb9))) rfl (.of (by decide +kernel)) (zci (pv 2)) (fun _ _ _ _=>(zaW (i:=0) (show List.Nodup (["row","lift","j"]:List Str) from by decide) rfl (Or.inl rfl))) (fun _ _ _ _=>zbQ) (fun _ _ _ _=>(zaP zdV (zaO zat (pv 0) (pv 2) (fun _ _=>rfl)) (pv 1)))) (za9 (zaa zai zae)))))
 (zak (zaJ (zaP zfO (pv 2) (za9 (zaa (zaP zfO (zcj (sc:=zaj zb9) (N:=["table","lift","grid"]) (Nc:=["row"]) (cap:=[none]) rfl rfl rfl (.of (by decide +kernel)) (zci (pv 0)) (fun _ _ _ _=>(zaW (i:=0) (show List.Nodup (["row"]:List Str) from by decide) rfl (Or.inl rfl))) (fun _ _ _ _=>zbQ) (fun _ _ _ _=>(ze6 zc7 zai))) (za9 (zaa zai zae))) zae)))))),
  zjP B q⟩
def Lst (f:Nat→Int) (n:Nat):List Int:=(List.range n).map f
structure Low (f:Nat→Int) (n:Nat) (ws:List Int) (g:Int):Prop where
 pos:0<g
 len:ws.length=n
 at':∀ i,i<n→f i=g*ws.getD i 0
theorem zrD {f:Nat→Int} {n:Nat} {g:Int} (G:znP (Lst f n) g) {i:Nat} (hi:i<n) (n0:f i≠0):Low f n ((Lst f n).map fun x=>x.fdiv g) g:=by
 have mem:∀ j,j<n→f j∈Lst f n:=fun j hj=>List.mem_map.mpr ⟨j,List.mem_range.mpr hj,rfl⟩
 have p:=G.ne (mem i hi) n0
 refine ⟨p,by rw [List.length_map,Lst,List.length_map,List.length_range],fun j hj=>?_⟩
 rw [List.getD_eq_getElem?_getD,List.getElem?_map,Lst,List.getElem?_map,List.getElem?_range hj]
 show f j=g*(f j).fdiv g
 obtain ⟨d,hd⟩:=G.all _ (mem j hj)
 rw [hd,Int.mul_fdiv_cancel_left _ (by omega)]
theorem zn1 {f:Nat→Int} {n j:Nat} {x:Int} (h:j<n):((Lst f n).map V.int).set j (.int x)=(Lst (fun i=>if i=j then x else f i) n).map V.int:=by
 unfold Lst
 rw [List.map_map,List.map_map]
 refine List.ext_getElem? fun i=>?_
 rw [List.getElem?_set,List.getElem?_map,List.getElem?_map]
 by_cases hi:i<n
 ·rw [List.getElem?_range hi]
  by_cases e:j=i
  ·subst e
   rw [if_pos rfl,if_pos (by rw [List.length_map,List.length_range];exact h),Option.map_some]
   show _=some (V.int (if j=j then x else f j))
   rw [if_pos rfl]
  ·rw [if_neg e,Option.map_some,Option.map_some]
   show some (V.int (f i))=some (V.int (if i=j then x else f i))
   rw [if_neg (Ne.symm e)]
 ·rw [if_neg (by omega),List.getElem?_eq_none (by rw [List.length_range];omega)]
  rfl
def zn4 (C:Addr):Sp:=fun vs H Q _=>∃ (b dx gl il ul:Addr) (rows:List Addr) (α:Nat→Nat→Int) (m n:Nat) (t:Sx) (s:Bool),vs=[.ref b,.int n]∧Brd H C b dx gl il ul rows m n t s∧LP α m n t∧znN m n t ∧
 ∀ (l:Addr) (ws:List Int) (g:Int) (H':Hp),za0 H H'→H' l=some (.lst (ws.map V.int))→Low (xw m n t) n ws g→Q (.ref l) H'
def zek (K:PySem.W.Frag) (a:Ad):TS :=
 (zbE (zaQ (tOp (rI0 fun i j=>.bl (decide (i<j))) (zad 4) (zad 1))) (za6 (tOp (zbf K) (tOp (zbf K) (tAt a.c_Board (zad 0) "grid") (zad 3)) (tUn (rU fun i=>.int (-i)) (tC (.int 1)))) (zj5 (zad 2) (zad 4) zdN)) zaR)
theorem zbm (K:PySem.W.Frag) (a:Ad) (D:zbO) (σ:St) (H:Hp):zek K a D σ H=(zbE (zaQ (tOp (rI0 fun i j=>.bl (decide (i<j))) (zad 4) (zad 1))) (za6 (tOp (zbf K) (tOp (zbf K) (tAt a.c_Board (zad 0) "grid") (zad 3)) (tUn (rU fun i=>.int (-i)) (tC (.int 1)))) (zj5 (zad 2) (zad 4) zdN)) zaR) D σ H:=rfl
def zdR (K:PySem.W.Frag) (a:Ad):TS :=
 (zaM (za6 (zbW (zeh (zab (zad 1) zam)) (zao 0) za7 (tC (.int 0)) [none]) (zao 2))
 (zaM (zmu (zkM K (zab (tAt a.c_Board (zad 0) "busy") zam)) (zrl K 2 (zfS (zao 3) (zfS (zao 4) zrA)))
 (zek K a))
 (zbo (zaK zjU [] E0 (zab (zad 2) zam)))))
theorem ziE {b dx gl il ul:Addr} {rows:List Addr} {α:Nat→Nat→Int} {m n:Nat} {t:Sx} {s:Bool} (B:Brd H a.c_Board b dx gl il ul rows m n t s) (L:LP α m n t) (Dn:znN m n t)
  (q:∀ (l:Addr) (ws:List Int) (g:Int) (H':Hp),za0 H H'→H' l=some (.lst (ws.map V.int))→Low (xw m n t) n ws g→Q (.ref l) H') :
  zdR K a { nx:=fun _ H'=>Q .non H',rt:=Q } (L2.zbi ["board","many","weights","k","name"] [.ref b,.int n]) H:=by
 unfold zdR
 have m12:=L.m12
 have n12:=L.n12
 simp_all only [zbm,zad]
 refine ⟨by omega,by omega,fun D hD=>?_⟩
 rw [Int.toNat_natCast]
 refine zbu (fun i ys σ H'=>za0 H H'∧ys=(Lst (fun _=>0) i).map V.int∧∃ z,σ=[z]) ⟨zap hD _,rfl,_,rfl⟩ ?_ ?_
 ·rintro i ys σ H' hi hD' ⟨s',rfl,z,rfl⟩
  simp_all only [zbm,zad]
  refine ⟨_,hD',zbl (by rw [List.length_map,Lst,List.length_map,List.length_range];omega),_,zag,s'.put hD,?_⟩
  rw [Lst,Lst,List.range_succ,List.map_append,List.map_append]
  rfl
 ·rintro ys σ H1 hD1 ⟨s1,rfl,z,rfl⟩
  have B1:=B.same s1
  refine ⟨_,_,B1.hb,_,rfl,ul,rfl,⟨_,SqL.of B1.hu⟩,?_⟩
  refine zkQ (K:=K) (xs:=nmL t.bs m) (fun i σ H'=>za0 H H'∧H' D=some (.lst ((Lst (fun j=>S i fun k=>if t.bs k=j then t.g k n else 0) n).map V.int))∧∃ x y,σ=[some (.ref b),some (.int n),some (.ref D),x,y]) ⟨s1,hD1,_,_,rfl⟩ ?_ ?_ ?_
  ·rintro i σ H' _ ⟨s',_⟩
   exact SqL.of (B.same s').hu
  ·rintro i v tp σ H2 hx ⟨s2,hD2,x,y,rfl⟩ ht
   have hi:i<m:=by
    have:=(List.getElem?_eq_some_iff.mp hx).1
    rwa [zds] at this
   rw [zmd hi] at hx
   cases hx
   have ntD:D≠tp:=fun z=>by rw [← z,hD2] at ht;cases ht
   have s3:=s2.trans (zap ht (.tup [V.int (i:Int),V.int (t.bs i:Int)]))
   have hD3:=(zap ht (.tup [V.int (i:Int),V.int (t.bs i:Int)])) _ _ hD2
   have ht3:(L2.upd H2 tp (.tup [V.int (i:Int),V.int (t.bs i:Int)])) tp=some (.tup [V.int (i:Int),V.int (t.bs i:Int)]):=zag
   generalize L2.upd H2 tp (.tup [V.int (i:Int),V.int (t.bs i:Int)])=H3 at s3 hD3 ht3 ⊢
   have B3:=B.same s3
   obtain ⟨ri,_,h1,h2⟩:=B3.rowAt (k:=i) (by omega)
   simp_all only [zbm,zad]
   refine ⟨_,SqT.of ht3,rfl,_,_,rfl,_,_,rfl,rfl,?_⟩
   simp_all only [zbm,zad]
   refine zdH (fun c=>?_) (fun c=>?_)
   ·have c:t.bs i<n:=by omega
    refine ⟨_,_,B3.hb,_,rfl,gl,rfl,_,SqL.of B3.hg,_,h2,ri,rfl,_,SqL.of h1,_,zfN,_,hD3,t.bs i,zi3 (by rw [List.length_map,Lst,List.length_map,List.length_range];exact c),s3.put hD,?_⟩
    rw [zag,zn1 c]
    refine congrArg (fun z=>some (HO.lst (z.map V.int))) (List.map_congr_left fun j hj=>?_)
    show (if j=t.bs i then t.g i n else S i fun k=>if t.bs k=j then t.g k n else 0)=(S i fun k=>if t.bs k=j then t.g k n else 0)+if t.bs i=j then t.g i n else 0
    by_cases e:j=t.bs i
    ·rw [if_pos e,if_pos e.symm,zim i fun k hk=>if_neg fun z=>by have:=L.F.tok.inj (k:=k) (l:=i) (by omega) (by omega) (z.trans e);omega]
     omega
    ·rw [if_neg e,if_neg (Ne.symm e)]
     omega
   ·refine ⟨s3,?_⟩
    rw [hD3]
    refine congrArg (fun z=>some (HO.lst (z.map V.int))) (List.map_congr_left fun j hj=>?_)
    have hj:=List.mem_range.mp hj
    show (S i fun k=>if t.bs k=j then t.g k n else 0)=(S i fun k=>if t.bs k=j then t.g k n else 0)+if t.bs i=j then t.g i n else 0
    rw [if_neg (by omega)]
    omega
  ·rintro σ H2 ⟨s2,hD2,x,y,rfl⟩
   rw [zds] at hD2
   simp_all only [zbm,zad]
   have vp:=L.F.vpos Dn (by have:=L.n1;omega)
   rw [← L.F.xsum] at vp
   obtain ⟨i,hi,pi⟩:=zqT vp
   have bi:Bd 9000 (xw m n t i):=by
    by_cases z:∃ k,k<m∧t.bs k=i
    ·obtain ⟨k,hk,rfl⟩:=z
     rw [zsW L.F.tok hk]
     exact (L.g (by omega) (by omega)).mono (by decide)
    ·rw [zsq fun k hk e=>z ⟨k,hk,e⟩]
     exact Nat.two_pow_pos _
   refine ⟨D,Lst (xw m n t) n,xw m n t i,rfl,hD2,by rw [Lst,List.length_map,List.length_range];omega,List.mem_map.mpr ⟨i,List.mem_range.mpr hi,rfl⟩,by omega,bi,fun r g H3 s3 G hr=>?_⟩
   exact q r _ g H3 (s2.trans s3) hr (zrD G hi (by omega))
theorem zcv:zaI ["board","many","weights","k","name"] ["board","many"] (zaj zcT):=⟨rfl,rfl,rfl,by decide +kernel,rfl,by decide +kernel,by decide +kernel⟩
theorem ziG (T:Txt K mg base a):zcw P w K mg base CX0 4 a.f_row_weights a.d_row_weights ["board","many"] (zn4 a.c_Board):=by
 have G_lowest:=zkO (P:=P) (w:=w) (base:=base) T
 refine T.F_row_weights.ok zcv (fun vs H Q E h=>?_) (fun cdv A outer s H vs Q E hr h=>?_)
 ·obtain ⟨b,dx,gl,il,ul,rows,α,m,n,t,s,rfl,B,L,Dn,q⟩:=h
  rfl
 obtain ⟨b,dx,gl,il,ul,rows,α,m,n,t,s,rfl,B,L,Dn,q⟩:=h
 exact ⟨zdR K a,(zaf (zdC (i:=2) zcv.nd rfl rfl (sc:=zaj zcT) (N:=["board","many","weights","k","name"]) (Nc:=["k"]) (cap:=[none]) rfl rfl rfl (.of (by decide +kernel)) (zbF rfl T.z_range (zaa (pv 1) zae)) (fun _ _ _ _=>(zaW (i:=0) (show List.Nodup (["k"]:List Str) from by decide) rfl (Or.inl rfl))) (fun _ _ _ _=>zbQ) (fun _ _ _ _=>zai))
 (zaf (zfP PassesOwn.never rfl (zkk rfl T.z_enumerate (zaa (zbS T.cl_Board T.na_Board_busy (pv 0)) zae)) (zmN rfl (zdd (zaW (i:=3) zcv.nd rfl (Or.inl rfl)) (zdd (zaW (i:=4) zcv.nd rfl (Or.inl rfl)) zju)))
 (zak (zbD (zaU zhQ (pv 4) (pv 1) (za4 _)) (zak (zeR (zaO zat (zaO zat (zbS T.cl_Board T.na_Board_grid (pv 0)) (pv 3) (fun _ _=>rfl)) (ze6 zc7 zai) (fun _ _=>rfl)) (zeS (pv 2) (pv 4) zcr))) zaN)))
 (zak (zaJ (zaG G_lowest (hr.mono (by decide)) rfl T.m_lowest T.F_lowest.kp T.b_lowest .nil zbd (zaa (pv 2) zae)))))),
  ziE B L Dn q⟩
def yp (α:Nat→Nat→Int) (m n:Nat) (t:Sx) (i j:Nat):Int:=if (List.range i).any (fun k=>t.id k == n+j)=true then yw α m n t j else 0
theorem zpi {α:Nat→Nat→Int} {m n:Nat} {t:Sx} {i j:Nat}:yp α m n t (i+1) j=if t.id i=n+j then yw α m n t j else yp α m n t i j:=by
 unfold yp
 rw [List.range_succ,List.any_append]
 by_cases e:t.id i=n+j
 ·rw [if_pos e,if_pos]
  simp [e]
 ·rw [if_neg e]
  have:([i].any fun k=>t.id k == n+j)=false:=by simp [e]
  rw [this,Bool.or_false]
theorem ztP {α:Nat→Nat→Int} {m n:Nat} {t:Sx} (F:Fea m n (zbH α m n) t) {j:Nat} (hj:j<m):yp α m n t n j=yw α m n t j:=by
 unfold yp
 by_cases e:((List.range n).any fun k=>t.id k == n+j)=true
 ·rw [if_pos e]
 ·rw [if_neg e,zty F hj]
  intro c hc z
  refine e (List.any_eq_true.mpr ⟨c,List.mem_range.mpr hc,?_⟩)
  rw [z]
  exact beq_self_eq_true _
def zpe (C:Addr):Sp:=fun vs H Q _=>∃ (b dx gl il ul:Addr) (rows:List Addr) (α:Nat→Nat→Int) (m n:Nat) (t:Sx) (s:Bool),vs=[.ref b,.int n,.int m]∧Brd H C b dx gl il ul rows m n t s∧LP α m n t∧znN m n t ∧
 ∀ (l:Addr) (ws:List Int) (g:Int) (H':Hp),za0 H H'→H' l=some (.lst (ws.map V.int))→Low (yw α m n t) m ws g→Q (.ref l) H'
def zc9 (K:PySem.W.Frag) (a:Ad):TS :=
 (zbE (zaQ (tOp (rI0 fun i j=>.bl (decide (j≤i))) (zad 5) (zad 1))) (za6 (tOp (zbf K) (tOp (zbf K) (tAt a.c_Board (zad 0) "grid") (tUn (rU fun i=>.int (-i)) (tC (.int 1)))) (zad 4)) (zj5 (zad 3) (tOp (rI0 fun i j=>.int (i - j)) (zad 5) (zad 1)) zdN)) zaR)
theorem za8 (K:PySem.W.Frag) (a:Ad) (D:zbO) (σ:St) (H:Hp):zc9 K a D σ H=(zbE (zaQ (tOp (rI0 fun i j=>.bl (decide (j≤i))) (zad 5) (zad 1))) (za6 (tOp (zbf K) (tOp (zbf K) (tAt a.c_Board (zad 0) "grid") (tUn (rU fun i=>.int (-i)) (tC (.int 1)))) (zad 4)) (zj5 (zad 3) (tOp (rI0 fun i j=>.int (i - j)) (zad 5) (zad 1)) zdN)) zaR) D σ H:=rfl
def zcN (K:PySem.W.Frag) (a:Ad):TS :=
 (zaM (za6 (zbW (zeh (zab (zad 2) zam)) (zao 0) za7 (tC (.int 0)) [none]) (zao 3))
 (zaM (zmu (zkM K (zab (tAt a.c_Board (zad 0) "idle") zam)) (zrl K 2 (zfS (zao 4) (zfS (zao 5) zrA)))
 (zc9 K a))
 (zbo (zaK zjU [] E0 (zab (zad 3) zam)))))
theorem zgl {b dx gl il ul:Addr} {rows:List Addr} {α:Nat→Nat→Int} {m n:Nat} {t:Sx} {s:Bool} (B:Brd H a.c_Board b dx gl il ul rows m n t s) (L:LP α m n t) (Dn:znN m n t)
  (q:∀ (l:Addr) (ws:List Int) (g:Int) (H':Hp),za0 H H'→H' l=some (.lst (ws.map V.int))→Low (yw α m n t) m ws g→Q (.ref l) H') :
  zcN K a { nx:=fun _ H'=>Q .non H',rt:=Q } (L2.zbi ["board","rows","many","weights","k","name"] [.ref b,.int n,.int m]) H:=by
 unfold zcN
 have m12:=L.m12
 have n12:=L.n12
 simp_all only [za8,zad]
 refine ⟨by omega,by omega,fun D hD=>?_⟩
 rw [Int.toNat_natCast]
 refine zbu (fun i ys σ H'=>za0 H H'∧ys=(Lst (fun _=>0) i).map V.int∧∃ z,σ=[z]) ⟨zap hD _,rfl,_,rfl⟩ ?_ ?_
 ·rintro i ys σ H' hi hD' ⟨s',rfl,z,rfl⟩
  simp_all only [za8,zad]
  refine ⟨_,hD',zbl (by rw [List.length_map,Lst,List.length_map,List.length_range];omega),_,zag,s'.put hD,?_⟩
  rw [Lst,Lst,List.range_succ,List.map_append,List.map_append]
  rfl
 ·rintro ys σ H1 hD1 ⟨s1,rfl,z,rfl⟩
  have B1:=B.same s1
  refine ⟨_,_,B1.hb,_,rfl,il,rfl,⟨_,SqL.of B1.hi⟩,?_⟩
  refine zkQ (K:=K) (xs:=nmL t.id n) (fun i σ H'=>za0 H H'∧H' D=some (.lst ((Lst (yp α m n t i) m).map V.int))∧∃ x y,σ=[some (.ref b),some (.int n),some (.int m),some (.ref D),x,y]) ⟨s1,hD1,_,_,rfl⟩ ?_ ?_ ?_
  ·rintro i σ H' _ ⟨s',_⟩
   exact SqL.of (B.same s').hi
  ·rintro i v tp σ H2 hx ⟨s2,hD2,x,y,rfl⟩ ht
   have hi:i<n:=by
    have:=(List.getElem?_eq_some_iff.mp hx).1
    rwa [zds] at this
   rw [zmd hi] at hx
   cases hx
   have s3:=s2.trans (zap ht (.tup [V.int (i:Int),V.int (t.id i:Int)]))
   have hD3:=(zap ht (.tup [V.int (i:Int),V.int (t.id i:Int)])) _ _ hD2
   have ht3:(L2.upd H2 tp (.tup [V.int (i:Int),V.int (t.id i:Int)])) tp=some (.tup [V.int (i:Int),V.int (t.id i:Int)]):=zag
   generalize L2.upd H2 tp (.tup [V.int (i:Int),V.int (t.id i:Int)])=H3 at s3 hD3 ht3 ⊢
   have B3:=B.same s3
   have il':=L.F.il i hi
   obtain ⟨re,h1,h2⟩:=B3.rowEnd
   simp_all only [za8,zad]
   refine ⟨_,SqT.of ht3,rfl,_,_,rfl,_,_,rfl,rfl,?_⟩
   simp_all only [za8,zad]
   refine zdH (fun c=>?_) (fun c=>?_)
   ·have c:n≤t.id i:=by omega
    have ej:(t.id i:Int) - (n:Int)=((t.id i - n:Nat):Int):=by omega
    rw [ej]
    refine ⟨_,_,B3.hb,_,rfl,gl,rfl,_,SqL.of B3.hg,_,h2,re,rfl,_,SqL.of h1,_,zck (by omega),_,hD3,t.id i - n,zi3 (by rw [List.length_map,Lst,List.length_map,List.length_range];omega),s3.put hD,?_⟩
    rw [zag,zn1 (by omega)]
    refine congrArg (fun z=>some (HO.lst (z.map V.int))) (List.map_congr_left fun j hj=>?_)
    show (if j=t.id i - n then t.g m i else yp α m n t i j)=yp α m n t (i+1) j
    rw [zpi]
    by_cases e:j=t.id i - n
    ·rw [if_pos e,if_pos (by omega),e,zr6 L.F.tok hi c]
    ·rw [if_neg e,if_neg (by omega)]
   ·refine ⟨s3,?_⟩
    rw [hD3]
    refine congrArg (fun z=>some (HO.lst (z.map V.int))) (List.map_congr_left fun j hj=>?_)
    rw [zpi,if_neg (by omega)]
  ·rintro σ H2 ⟨s2,hD2,x,y,rfl⟩
   rw [zds,show Lst (yp α m n t n) m=Lst (yw α m n t) m from List.map_congr_left fun j hj=>ztP L.F (List.mem_range.mp hj)] at hD2
   simp_all only [za8,zad]
   have vp:=L.F.vpos Dn (by have:=L.n1;omega)
   rw [← L.F.ysum] at vp
   obtain ⟨i,hi,pi⟩:=zqT vp
   refine ⟨D,Lst (yw α m n t) m,yw α m n t i,rfl,hD2,by rw [Lst,List.length_map,List.length_range];omega,List.mem_map.mpr ⟨i,List.mem_range.mpr hi,rfl⟩,by omega,(L.y i).mono (by decide),fun r g H3 s3 G hr=>?_⟩
   exact q r _ g H3 (s2.trans s3) hr (zrD G hi (by omega))
theorem zbM:zaI ["board","rows","many","weights","k","name"] ["board","rows","many"] (zaj zb4):=⟨rfl,rfl,rfl,by decide +kernel,rfl,by decide +kernel,by decide +kernel⟩
theorem zgm (T:Txt K mg base a):zcw P w K mg base CX0 4 a.f_column_weights a.d_column_weights ["board","rows","many"] (zpe a.c_Board):=by
 have G_lowest:=zkO (P:=P) (w:=w) (base:=base) T
 refine T.F_column_weights.ok zbM (fun vs H Q E h=>?_) (fun cdv A outer s H vs Q E hr h=>?_)
 ·obtain ⟨b,dx,gl,il,ul,rows,α,m,n,t,s,rfl,B,L,Dn,q⟩:=h
  rfl
 obtain ⟨b,dx,gl,il,ul,rows,α,m,n,t,s,rfl,B,L,Dn,q⟩:=h
 exact ⟨zcN K a,(zaf (zdC (i:=3) zbM.nd rfl rfl (sc:=zaj zb4) (N:=["board","rows","many","weights","k","name"]) (Nc:=["k"]) (cap:=[none]) rfl rfl rfl (.of (by decide +kernel)) (zbF rfl T.z_range (zaa (pv 2) zae)) (fun _ _ _ _=>(zaW (i:=0) (show List.Nodup (["k"]:List Str) from by decide) rfl (Or.inl rfl))) (fun _ _ _ _=>zbQ) (fun _ _ _ _=>zai))
 (zaf (zfP PassesOwn.never rfl (zkk rfl T.z_enumerate (zaa (zbS T.cl_Board T.na_Board_idle (pv 0)) zae)) (zmN rfl (zdd (zaW (i:=4) zbM.nd rfl (Or.inl rfl)) (zdd (zaW (i:=5) zbM.nd rfl (Or.inl rfl)) zju)))
 (zak (zbD (zaU op_ge (pv 5) (pv 1) (za4 _)) (zak (zeR (zaO zat (zaO zat (zbS T.cl_Board T.na_Board_grid (pv 0)) (ze6 zc7 zai) (fun _ _=>rfl)) (pv 4) (fun _ _=>rfl)) (zeS (pv 3) (zaP zgK (pv 5) (pv 1)) zcr))) zaN)))
 (zak (zaJ (zaG G_lowest (hr.mono (by decide)) rfl T.m_lowest T.F_lowest.kp T.b_lowest .nil zbd (zaa (pv 3) zae)))))),
  zgl B L Dn q⟩
theorem zsz {c:TT} {tb:TS} {D:zbO} {σ:St} {H:Hp} (W:Nat→St→Hp→Prop) {m:Nat} (h0:W m σ H)
  (hs:∀ m σ H,W m σ H→c σ H fun b H1=>if b=true then ∃ N:St→Hp→Prop,(∀ σ' H',N σ' H'→∃ m',m'<m∧W m' σ' H')∧tb { D with nx:=N,ct:=N,bk:=D.nx } σ H1 else D.nx σ H1):zjh c tb D σ H:=⟨W,⟨m,h0⟩,hs⟩
def zqA (m n:Nat) (vec:Nat→Nat→Int) (t:Sx) (s:Bool) (L:Nat):Prop:=∃ st rr cc su,Run m n vec st rr cc su L∧st L=t∧su L=s
theorem zqA.zero {m n:Nat} {vec:Nat→Nat→Int} {t:Sx} (F:Fea m n vec t) (s:Bool):zqA m n vec t s 0 :=
 ⟨fun _=>t,fun _=>0,fun _=>0,fun _=>s,⟨fun _ _=>F,fun i h=>absurd h (Nat.not_lt_zero i),fun i h=>absurd h (Nat.not_lt_zero i),fun i h=>absurd h (Nat.not_lt_zero i)⟩,rfl,rfl⟩
theorem zqA.lt {m n:Nat} {vec:Nat→Nat→Int} {t:Sx} {s:Bool} {L:Nat} (h:zqA m n vec t s L):L<(n+m+2) ^ (m+n+1):=by
 obtain ⟨_,_,_,_,R,_⟩:=h
 exact R.ends
theorem zqA.step {m n:Nat} {vec:Nat→Nat→Int} {t:Sx} {s:Bool} {L r c:Nat} (h:zqA m n vec t s L) (hs:Stp m n t s r c):zqA m n vec (piv t r c) (decide (t.g r n=0)) (L+1):=by
 obtain ⟨st,rr,cc,su,R,e1,e2⟩:=h
 have a1:∀ i,i≤L→(if i≤L then st i else piv t r c)=st i:=fun i hi=>if_pos hi
 have a2:(if L+1≤L then st (L+1) else piv t r c)=piv t r c:=if_neg (by omega)
 have b1:∀ i,i≤L→(if i≤L then su i else decide (t.g r n=0))=su i:=fun i hi=>if_pos hi
 have b2:(if L+1≤L then su (L+1) else decide (t.g r n=0))=decide (t.g r n=0):=if_neg (by omega)
 have c1:∀ i,i<L→(if i<L then rr i else r)=rr i:=fun i hi=>if_pos hi
 have c2:(if L<L then rr L else r)=r:=if_neg (by omega)
 have d1:∀ i,i<L→(if i<L then cc i else c)=cc i:=fun i hi=>if_pos hi
 have d2:(if L<L then cc L else c)=c:=if_neg (by omega)
 refine ⟨fun i=>if i≤L then st i else piv t r c,fun i=>if i<L then rr i else r,fun i=>if i<L then cc i else c,fun i=>if i≤L then su i else decide (t.g r n=0),⟨fun i hi=>?_,fun i hi=>?_,fun i hi=>?_,fun i hi=>?_⟩,a2,b2⟩
 ·by_cases q:i≤L
  ·show Fea m n vec (if i≤L then st i else piv t r c)
   rw [a1 i q]
   exact R.ok i q
  ·show Fea m n vec (if i≤L then st i else piv t r c)
   rw [if_neg q]
   have:=R.ok L (Nat.le_refl L)
   rw [e1] at this
   exact this.piv hs
 ·show (if i+1≤L then st (i+1) else piv t r c)=piv (if i≤L then st i else piv t r c) (if i<L then rr i else r) (if i<L then cc i else c)
  by_cases q:i<L
  ·rw [a1 (i+1) q,a1 i (by omega),c1 i q,d1 i q,R.nx i q]
  ·have:i=L:=by omega
   subst this
   rw [a2,a1 i (by omega),c2,d2,e1]
 ·show Stp m n (if i≤L then st i else piv t r c) (if i≤L then su i else decide (t.g r n=0)) (if i<L then rr i else r) (if i<L then cc i else c)
  by_cases q:i<L
  ·rw [a1 i (by omega),b1 i (by omega),c1 i q,d1 i q]
   exact R.by' i q
  ·have:i=L:=by omega
   subst this
   rw [a1 i (by omega),b1 i (by omega),c2,d2,e1,e2]
   exact hs
 ·show (if i+1≤L then su (i+1) else decide (t.g r n=0))=decide ((if i≤L then st i else piv t r c).g (if i<L then rr i else r) n=0)
  by_cases q:i<L
  ·rw [b1 (i+1) q,a1 i (by omega),c1 i q]
   exact R.sk i q
  ·have:i=L:=by omega
   subst this
   rw [b2,a1 i (by omega),c2,e1]
def ent (rows:List (List Int)) (i j:Nat):Int:=(rows.getD i []).getD j 0
structure Sol (rows:List (List Int)) (w:Nat) (W:Rat) (R C:List Int):Prop where
 rl:R.length=rows.length
 cl:C.length=w
 r0:∀ i,i<rows.length→0≤R.getD i 0
 c0:∀ j,j<w→0≤C.getD j 0
 rp:0<S rows.length fun i=>R.getD i 0
 cp:0<S w fun j=>C.getD j 0
 col:∀ j,j<w→(((S rows.length fun i=>R.getD i 0*ent rows i j:Int)):Rat)≤W*((S rows.length fun i=>R.getD i 0:Int):Rat)
 row:∀ i,i<rows.length→W*((S w fun j=>C.getD j 0:Int):Rat)≤((S w fun j=>C.getD j 0*ent rows i j:Int):Rat)
theorem zol {f h:Nat→Int} {n:Nat} {ws:List Int} {g:Int} (L:Low f n ws g):(S n fun i=>f i*h i)=g*S n fun i=>ws.getD i 0*h i:=by
 rw [← zkD]
 exact zbp n fun i hi=>by rw [L.at' i hi,Int.mul_assoc]
theorem zmy {f:Nat→Int} {n:Nat} {ws:List Int} {g:Int} (L:Low f n ws g):(S n fun i=>f i)=g*S n fun i=>ws.getD i 0:=by
 rw [← zkD]
 exact zbp n fun i hi=>L.at' i hi
theorem zuX {rows:List (List Int)} {w:Nat} {lift:Int} {t:Sx} {R C:List Int} {g h:Int} (L:LP (aOf rows lift) w rows.length t) (D:znN w rows.length t) (lR:Low (xw w rows.length t) rows.length R g) (lC:Low (yw (aOf rows lift) w rows.length t) w C h) :
  Sol rows w (Rat.divInt t.d (t.g w rows.length)+((-lift:Int):Rat)) R C:=by
 have F:=L.F
 have n1:=L.n1
 have vp:=F.vpos D (by omega)
 have gp:=lR.pos
 have hp:=lC.pos
 have vq:((t.g w rows.length:Int):Rat)≠0:=fun z=>by
  have:t.g w rows.length=0:=by exact_mod_cast z
  omega
 have vr:(0:Rat)<((t.g w rows.length:Int):Rat):=by exact_mod_cast vp
 have gr:(0:Rat)<(g:Rat):=by exact_mod_cast gp
 have hr:(0:Rat)<(h:Rat):=by exact_mod_cast hp
 have key:(Rat.divInt t.d (t.g w rows.length)+((-lift:Int):Rat))*((t.g w rows.length:Int):Rat)=((t.d - lift*t.g w rows.length:Int):Rat):=by
  rw [Rat.divInt_eq_div]
  push_cast
  grind
 generalize Rat.divInt t.d (t.g w rows.length)+((-lift:Int):Rat)=W at key ⊢
 have sx:=zmy lR
 rw [F.xsum] at sx
 have sy:=zmy lC
 rw [F.ysum] at sy
 refine ⟨lR.len,lC.len,fun i hi=>?_,fun j hj=>?_,?_,?_,fun j hj=>?_,fun i hi=>?_⟩
 ·have:=F.x0 i
  rw [lR.at' i hi] at this
  exact Int.nonneg_of_mul_nonneg_right this gp
 ·have:=F.y0 D hj
  rw [lC.at' j hj] at this
  exact Int.nonneg_of_mul_nonneg_right this hp
 ·rw [sx] at vp
  exact Int.pos_of_mul_pos_right vp gp
 ·rw [sy] at vp
  exact Int.pos_of_mul_pos_right vp hp
 ·have xc:=F.xcol hj
  have e:(S rows.length fun i=>xw w rows.length t i*aOf rows lift i j)=(S rows.length fun i=>xw w rows.length t i*ent rows i j)+lift*t.g w rows.length:=by
   have:(S rows.length fun i=>xw w rows.length t i*aOf rows lift i j)=S rows.length fun i=>1*(xw w rows.length t i*ent rows i j)+lift*xw w rows.length t i:=zbp _ fun i _=>by
    show xw w rows.length t i*(ent rows i j+lift)=_
    grind
   rw [this,zkd,show (S rows.length fun i=>xw w rows.length t i)=t.g w rows.length from F.xsum,Int.one_mul]
  rw [e,zol lR] at xc
  generalize (S rows.length fun i=>R.getD i 0*ent rows i j)=A at xc ⊢
  generalize (S rows.length fun i=>R.getD i 0)=B at sx ⊢
  have xq:((g*A:Int):Rat)≤((t.d - lift*t.g w rows.length:Int):Rat):=by
   have:g*A≤t.d - lift*t.g w rows.length:=by omega
   exact_mod_cast this
  rw [← key,sx] at xq
  push_cast at xq
  have:(g:Rat)*(A:Rat)≤(g:Rat)*(W*(B:Rat)):=by
   have z:W*((g:Rat)*(B:Rat))=(g:Rat)*(W*(B:Rat)):=by grind
   rw [← z]
   exact xq
  exact Rat.le_of_mul_le_mul_left this gr
 ·have yr:=F.yrow D hi
  have e:(S w fun j=>yw (aOf rows lift) w rows.length t j*aOf rows lift i j)=(S w fun j=>yw (aOf rows lift) w rows.length t j*ent rows i j)+lift*t.g w rows.length:=by
   have:(S w fun j=>yw (aOf rows lift) w rows.length t j*aOf rows lift i j)=S w fun j=>1*(yw (aOf rows lift) w rows.length t j*ent rows i j)+lift*yw (aOf rows lift) w rows.length t j:=zbp _ fun j _=>by
    show yw (aOf rows lift) w rows.length t j*(ent rows i j+lift)=_
    grind
   rw [this,zkd,show (S w fun j=>yw (aOf rows lift) w rows.length t j)=t.g w rows.length from F.ysum,Int.one_mul]
  rw [e,zol lC] at yr
  generalize (S w fun j=>C.getD j 0*ent rows i j)=A at yr ⊢
  generalize (S w fun j=>C.getD j 0)=B at sy ⊢
  have yq:((t.d - lift*t.g w rows.length:Int):Rat)≤((h*A:Int):Rat):=by
   have:t.d - lift*t.g w rows.length≤h*A:=by omega
   exact_mod_cast this
  rw [← key,sy] at yq
  push_cast at yq
  have:(h:Rat)*(W*(B:Rat))≤(h:Rat)*(A:Rat):=by
   have z:W*((h:Rat)*(B:Rat))=(h:Rat)*(W*(B:Rat)):=by grind
   rw [← z]
   exact yq
  exact Rat.le_of_mul_le_mul_left this hr
def Col (m n:Nat) (t:Sx) (s:Bool) (v:V):Prop:=(v=.non∧znN m n t)∨∃ c:Nat,v=.int c∧c<n∧t.g m c<0∧(s=true→∀ j,j<n→t.g m j<0→t.id c≤t.id j)
def zmM (P:Addr):Sp:=fun vs H Q _=>∃ (tt:Addr) (rs:List Addr) (rows:List (List Int)) (w:Nat),vs=[.ref tt]∧Tb H tt rs rows w∧LT H P ∧
 ∀ (r wr rl cl:Addr) (W:Rat) (R C:List Int) (H':Hp),Bar P H H'→LT H' P→H' r=some (.tup [.ref wr,.ref rl,.ref cl])→H' wr=some (.tup (fr W))→H' rl=some (.lst (R.map V.int))→H' cl=some (.lst (C.map V.int))→Sol rows w W R C→Bq 2801 W→Q (.ref r) H'
theorem Tb.bar {H H':Hp} {P tt:Addr} {rs:List Addr} {rows:List (List Int)} {w:Nat} (B:Tb H tt rs rows w) (L:LT H P) (e:Bar P H H'):Tb H' tt rs rows w :=
 ⟨e _ _ (L.neL B.ht) B.ht,B.len,fun i r row e1 e2=>e _ _ (L.neL (B.hr i r row e1 e2)) (B.hr i r row e1 e2),B.hw,B.l1,B.l6,B.w1,B.w6,B.bd⟩
theorem za0.bar {P:Addr} {H H':Hp} (s:za0 H H'):Bar P H H':=fun _ _ _ e=>s _ _ e
theorem zel {P:Addr} {H H' H2:Hp} (s:Bar P H H') (s2:Bar P H' H2):Bar P H H2:=fun x o n e=>s2 _ _ n (s _ _ n e)
def zf7 (a:Ad):TS :=
 (zaM (zfH (zeq a.c_Board "swap" (zo6 a.c_Board) [] E0 (zad 2) (zab (zeq a.c_Board "leaving" (zl1 a.c_Board) [] E0 (zad 2) (zab (zad 3) zam)) (zab (zad 3) zam))))
 (za6 (zeq a.c_Board "entering" (zkq a.c_Board a.p_lam) [] E0 (zad 2) zam) (zao 3)))
theorem zdL (a:Ad) (D:zbO) (σ:St) (H:Hp):zf7 a D σ H=(zaM (zfH (zeq a.c_Board "swap" (zo6 a.c_Board) [] E0 (zad 2) (zab (zeq a.c_Board "leaving" (zl1 a.c_Board) [] E0 (zad 2) (zab (zad 3) zam)) (zab (zad 3) zam))))
 (za6 (zeq a.c_Board "entering" (zkq a.c_Board a.p_lam) [] E0 (zad 2) zam) (zao 3))) D σ H:=rfl
def zgb (K:PySem.W.Frag) (a:Ad):TS :=
 (zaM (za6 (zaK zmj [] E0 (zab (zaK zps [] E0 (zab (tAt a.c_Board (zad 2) "scale") (zab (tOp (zbf K) (tOp (zbf K) (tAt a.c_Board (zad 2) "grid") (tUn (rU fun i=>.int (-i)) (tC (.int 1)))) (tUn (rU fun i=>.int (-i)) (tC (.int 1)))) zam))) (zab (zgS (zab (tUn (rU fun i=>.int (-i)) (zad 1)) (zab (tC (.int 1)) zam))) zam))) (zao 4))
 (zaM (za6 (tCB (fun xs H Q=>∃ p ys,xs=[.ref p]∧(SqL K H p ys∨SqT K H p ys)∧Q (.int ys.length) H) (zab (zad 0) zam)) (zao 5))
 (zbo (zgS (zab (zad 4) (zab (zaK (zn4 a.c_Board) [] E0 (zab (zad 2) (zab (zad 5) zam))) (zab (zaK (zpe a.c_Board) [] E0 (zab (zad 2) (zab (zad 5) (zab (tCB (fun xs H Q=>∃ p ys,xs=[.ref p]∧(SqL K H p ys∨SqT K H p ys)∧Q (.int ys.length) H) (zab (tOp (zbf K) (zad 0) (tC (.int 0))) zam)) zam)))) zam)))))))
theorem zdT (K:PySem.W.Frag) (a:Ad) (D:zbO) (σ:St) (H:Hp):zgb K a D σ H=(zaM (za6 (zaK zmj [] E0 (zab (zaK zps [] E0 (zab (tAt a.c_Board (zad 2) "scale") (zab (tOp (zbf K) (tOp (zbf K) (tAt a.c_Board (zad 2) "grid") (tUn (rU fun i=>.int (-i)) (tC (.int 1)))) (tUn (rU fun i=>.int (-i)) (tC (.int 1)))) zam))) (zab (zgS (zab (tUn (rU fun i=>.int (-i)) (zad 1)) (zab (tC (.int 1)) zam))) zam))) (zao 4))
 (zaM (za6 (tCB (fun xs H Q=>∃ p ys,xs=[.ref p]∧(SqL K H p ys∨SqT K H p ys)∧Q (.int ys.length) H) (zab (zad 0) zam)) (zao 5))
 (zbo (zgS (zab (zad 4) (zab (zaK (zn4 a.c_Board) [] E0 (zab (zad 2) (zab (zad 5) zam))) (zab (zaK (zpe a.c_Board) [] E0 (zab (zad 2) (zab (zad 5) (zab (tCB (fun xs H Q=>∃ p ys,xs=[.ref p]∧(SqL K H p ys∨SqT K H p ys)∧Q (.int ys.length) H) (zab (tOp (zbf K) (zad 0) (tC (.int 0))) zam)) zam)))) zam))))))) D σ H:=rfl
def zjE (K:PySem.W.Frag) (a:Ad):TS :=
 (zaM (za6 (tOp (rI0 fun i j=>.int (i - j)) (tC (.int 1)) (tCB (zm2 K) (zab (zbW (zdJ K (zad 0)) (zao 0) za7 (tCB (zm2 K) (zab (zad 0) zam)) [none]) zam))) (zao 1))
 (zaM (za6 (zsv a.c_Board (znT a.c_Board) [] E0 (zab (zaK zo1 [] E0 (zab (zad 0) (zab (zad 1) zam))) zam)) (zao 2))
 (zaM (za6 (zeq a.c_Board "entering" (zkq a.c_Board a.p_lam) [] E0 (zad 2) zam) (zao 3))
 (zaM (zjh (zaQ (tOp (fun x y H Q=>y=.non∧Q (.bl (!decide (x=.non))) H) (zad 3) (tC .non))) (zf7 a))
 (zgb K a)))))
theorem zoE {tt:Addr} {rs:List Addr} {rows:List (List Int)} {w:Nat} (B:Tb H tt rs rows w) (LH:LT H a.p_lam)
  (q:∀ (r wr rl cl:Addr) (W:Rat) (R C:List Int) (H':Hp),Bar a.p_lam H H'→LT H' a.p_lam→H' r=some (.tup [.ref wr,.ref rl,.ref cl])→H' wr=some (.tup (fr W))→H' rl=some (.lst (R.map V.int))→H' cl=some (.lst (C.map V.int))→Sol rows w W R C→Bq 2801 W→Q (.ref r) H') :
  zjE K a { nx:=fun _ H'=>Q .non H',rt:=Q } (L2.zbi ["table","lift","board","column","worth","rows"] [.ref tt]) H:=by
 unfold zjE
 have l1:=B.l1
 have l12:=B.l6
 have w1:=B.w1
 have w12:=B.w6
 have ln:=B.len
 simp_all only [zdL,zdT,zad]
 refine ⟨⟨_,SqL.of B.ht⟩,fun D hD=>?_⟩
 refine zgg (K:=K) (xs:=rs.map V.ref) (fun i ys σ H'=>za0 H H'∧(∃ ms:List Int,ys=ms.map V.int∧ms.length=i∧(∀ x∈ms,Bd 102 x)∧∀ k,k<i→∀ j,j<w→ms.getD k 0≤ent rows k j)∧∃ z,σ=[z]) ⟨zap hD _,⟨[],rfl,rfl,fun x h=>(nomatch h),fun k hk=>absurd hk (Nat.not_lt_zero k)⟩,_,rfl⟩ ?_ ?_ ?_
 ·rintro i ys σ H' _ ⟨s,_⟩
  exact SqL.of (s _ _ B.ht)
 ·rintro i x ys σ H' hx hD' ⟨s,⟨ms,rfl,lm,mb,ml⟩,z,rfl⟩
  obtain ⟨r,hr,rfl⟩:=zbU hx
  obtain ⟨row,e1,e2,e3⟩:=B.at hr
  have hi:=(List.getElem?_eq_some_iff.mp e1).1
  simp_all only [zdL,zdT,zad]
  have er:rows.getD i []=row:=by rw [List.getD_eq_getElem?_getD,e1];rfl
  refine ⟨row,SqL.of (s _ _ e2),by omega,fun m hm le=>⟨_,hD',zbl (by rw [List.length_map];omega),_,zag,s.put hD,ms++[m],by rw [List.map_append];rfl,by rw [List.length_append,lm];rfl,fun x hx=>?_,fun k hk j hj=>?_⟩⟩
  ·rcases List.mem_append.mp hx with h | h
   ·exact mb x h
   ·rw [List.mem_singleton.mp h]
    exact B.bd row (zb8 e1) m hm
  ·by_cases ek:k=i
   ·subst ek
    rw [List.getD_eq_getElem?_getD,List.getElem?_append_right (by omega),lm,Nat.sub_self,ent,er]
    refine le _ ?_
    rw [List.getD_eq_getElem?_getD,List.getElem?_eq_getElem (by omega)]
    exact List.getElem_mem _
   ·rw [List.getD_eq_getElem?_getD,List.getElem?_append_left (by omega),← List.getD_eq_getElem?_getD]
    exact ml k (by omega) j hj
 ·rintro ys σ H1 hD1 ⟨s1,⟨ms,rfl,lm,mb,ml⟩,z,rfl⟩
  rw [List.length_map,ln] at lm ml
  refine ⟨D,rfl,ms,SqL.of hD1,by omega,fun M hM le=>?_⟩
  have bM:=mb M hM
  have B1:=B.same s1
  have LH1:=LH.same s1
  refine ⟨tt,rs,rows,w,1 - M,rfl,B1,fun gl us H2 s2 G2=>?_⟩
  have B2:=B1.same s2
  have LH2:=LH1.same s2
  have L0:LP (aOf rows (1 - M)) w rows.length (sx0 (aOf rows (1 - M)) w rows.length):=by
   refine ⟨w1,w12,l1,l12,fun i j hi hj=>?_,fun i j hi hj=>?_,zrj⟩
   ·have h1:=ml i (by omega) j hj
    have h2:M≤ms.getD i 0:=le _ (by rw [List.getD_eq_getElem?_getD,List.getElem?_eq_getElem (by omega)];exact List.getElem_mem _)
    show 1≤ent rows i j+(1 - M)
    omega
   ·have hr:rows.getD i []=rows[i]:=by rw [List.getD_eq_getElem?_getD,List.getElem?_eq_getElem hi];rfl
    have hw:=B.hw rows[i] (List.getElem_mem _)
    have h1:Bd 102 (ent rows i j):=B.bd rows[i] (List.getElem_mem _) _ (by rw [ent,hr,List.getD_eq_getElem?_getD,List.getElem?_eq_getElem (by omega)];exact List.getElem_mem _)
    have h1:(ent rows i j).natAbs<2 ^ 102:=h1
    have h2:M.natAbs<2 ^ 102:=bM
    show (ent rows i j+(1 - M)).natAbs≤2 ^ 104
    omega
  intro b dx nb nd nbd
  have s3:za0 H2 (L2.upd (L2.upd H2 dx (.own b)) b (.ins a.c_Board dx [])):=(zap nd _).trans (zap ((zal (Ne.symm nbd)).trans nb) _)
  have hb3:(L2.upd (L2.upd H2 dx (.own b)) b (.ins a.c_Board dx [])) b=some (.ins a.c_Board dx []):=zag
  generalize L2.upd (L2.upd H2 dx (.own b)) b (.ins a.c_Board dx [])=H3 at s3 hb3 ⊢
  refine ⟨b,dx,gl,us,w,rows.length,_,rfl,hb3,G2.same s3,w12,l12,rfl,rfl,rfl,fun il ul H4 k4 ni nu B4=>⟨rfl,?_⟩⟩
  have base4:∀ x o,H x=some o→H4 x=some o:=fun x o e=>k4 _ _ (fun z=>by rw [z] at e;rw [s2 _ _ (s1 _ _ e)] at nb;cases nb) (s3 _ _ (s2 _ _ (s1 _ _ e)))
  have fb:H b=none:=s1.free (s2.free nb)
  have fi:H il=none:=s1.free (s2.free (s3.free ni))
  have fu:H ul=none:=s1.free (s2.free (s3.free nu))
  have LH4:LT H4 a.p_lam:=LH.same base4
  refine ⟨_,_,B4.hb,rfl,?_⟩
  have loop:∀ (v:V) (H5:Hp),Bar a.p_lam H4 H5→LT H5 a.p_lam→Col w rows.length (sx0 (aOf rows (1 - M)) w rows.length) false v →
    zjh (zaQ (tOp (fun x y H Q=>y=.non∧Q (.bl (!decide (x=.non))) H) (zad 3) (tC .non))) (zf7 a) { nx:=zgb K a { nx:=fun x H'=>Q .non H',rt:=Q },rt:=Q } [some (.ref tt),some (.int (1 - M)),some (.ref b),some v,none,none] H5:=by
   intro v H5 bar5 LH5 C5
   refine zsz (m:=(rows.length+w+2) ^ (w+rows.length+1)) (fun k σ H'=>∃ (gl:Addr) (us:List Addr) (t:Sx) (s:Bool) (v:V) (Z:Nat),Brd H' a.c_Board b dx gl il ul us w rows.length t s∧LP (aOf rows (1 - M)) w rows.length t∧LT H' a.p_lam∧Bar a.p_lam H H'∧Col w rows.length t s v∧zqA w rows.length (zbH (aOf rows (1 - M)) w rows.length) t s Z∧k+Z=(rows.length+w+2) ^ (w+rows.length+1)∧σ=[some (.ref tt),some (.int (1 - M)),some (.ref b),some v,none,none]) ⟨gl,us,_,false,v,0,B4.bar LH4 bar5,L0,LH5,zel (za0.bar base4) bar5,C5,zqA.zero zrj false,rfl,rfl⟩ ?_
   rintro k σ H6 ⟨gl,us,t,s,v,Z,B6,L6,LH6,bar6,C6,Hi,ek,rfl⟩
   simp_all only [zdL,zdT,zad]
   refine zdH (fun nv=>?_) (fun nv=>?_)
   ·rcases C6 with ⟨z,_⟩ | ⟨c,rfl,c1,c2,c3⟩
    ·exact absurd z nv
    refine ⟨_,fun _ _ h=>h,_,_,B6.hb,rfl,_,_,B6.hb,rfl,⟨b,dx,gl,il,ul,us,_,w,rows.length,t,s,c,rfl,B6,L6,c1,fun r hr pr lv=>?_⟩⟩
    have stp:Stp w rows.length t s r c:=⟨hr,c1,c2,pr,lv,c3⟩
    refine ⟨b,dx,gl,il,ul,us,_,w,rows.length,t,s,r,c,rfl,B6,L6,hr,c1,pr,fun gl' us' H7 k7 B7=>?_⟩
    have LH7:LT H7 a.p_lam:=LH6.put fun x o n1 n2 e=>k7 x o (fun z=>by rw [z,B6.hb] at e;cases e;exact n2 _ _ _ rfl) (fun z=>by rw [z,B6.hi] at e;cases e;exact n1 _ rfl) (fun z=>by rw [z,B6.hu] at e;cases e;exact n1 _ rfl) e
    have bar7:Bar a.p_lam H H7:=fun x o nx e=>k7 x o (fun z=>by rw [z,fb] at e;cases e) (fun z=>by rw [z,fi] at e;cases e) (fun z=>by rw [z,fu] at e;cases e) (bar6 _ _ nx e)
    have L7:=L6.piv stp
    have zl:=Hi.lt
    have H7i:=Hi.step stp
    refine ⟨_,_,B7.hb,rfl,b,dx,gl',il,ul,us',_,w,rows.length,_,_,rfl,B7,L7,LH7,fun Dn H8 s8=>?_,fun c' H8 d1 d2 d3 bar LT8=>?_⟩
    ·exact ⟨k - 1,by omega,gl',us',_,_,B7.same s8,L7,LH7.same s8,zel bar7 (za0.bar s8),_,.inl ⟨rfl,Dn⟩,_,H7i,by omega,rfl⟩
    ·exact ⟨k - 1,by omega,gl',us',_,_,B7.bar LH7 bar,L7,LT8,zel bar7 bar,_,.inr ⟨c',rfl,d1,d2,d3⟩,_,H7i,by omega,rfl⟩
   ·rcases C6 with ⟨rfl,Dn⟩ | ⟨c,rfl,_⟩
    ·obtain ⟨re,h1,h2⟩:=B6.rowEnd
     have vp:=L6.F.vpos Dn (by omega)
     have T6:=B.bar LH bar6
     refine ⟨_,_,B6.hb,_,rfl,_,_,B6.hb,_,rfl,gl,rfl,_,SqL.of B6.hg,_,h2,re,rfl,_,SqL.of h1,_,zfN,⟨t.d,t.g w rows.length,rfl,by omega,(L6.g (by omega) (by omega)).mono (by decide),fun u H7 s7 h7=>?_⟩⟩
     refine ⟨by decide,fun p hp=>?_⟩
     have ep:[V.int (-(1 - M)),V.int 1]=fr (((-(1 - M):Int)):Rat):=rfl
     rw [ep]
     have s8:=zap hp (.tup (fr (((-(1 - M):Int)):Rat)))
     have bl:Bd 104 (-(1 - M)):=by
      have h2:M.natAbs<2 ^ 102:=bM
      show (-(1 - M)).natAbs<2 ^ 104
      omega
     have bq1:Bq 1400 (Rat.divInt t.d (t.g w rows.length)):=zkC (by omega) L6.d (L6.g (by omega) (by omega))
     have bq2:Bq 1400 (((-(1 - M):Int)):Rat):=⟨bl.mono (by decide),by show (1:Nat)<2 ^ 1400;exact Nat.one_lt_two_pow (by decide)⟩
     refine ⟨u,p,_,_,rfl,s8 _ _ h7,zag,bq1.mono (by decide),bq2.mono (by decide),fun wr H9 s9 h9=>?_⟩
     have S9:=s7.trans (s8.trans s9)
     have T9:=T6.same S9
     have B9:=B6.same S9
     refine ⟨_,.inl (SqL.of T9.ht),?_⟩
     rw [List.length_map,ln]
     refine ⟨b,dx,gl,il,ul,us,_,w,rows.length,t,s,rfl,B9,L6,Dn,fun rl R g Ha sa hR lR=>?_⟩
     have Ta:=T9.same sa
     obtain ⟨r0,row0,a0,h0,w0⟩:=Ta.first
     refine ⟨_,SqL.of Ta.ht,_,a0,r0,rfl,_,.inl (SqL.of h0),?_⟩
     rw [List.length_map,w0]
     refine ⟨b,dx,gl,il,ul,us,_,w,rows.length,t,s,rfl,B9.same sa,L6,Dn,fun cl C h Hb sb hC lC=>⟨by decide,fun r hr=>?_⟩⟩
     have sc:=zap hr (.tup [V.ref wr,V.ref rl,V.ref cl])
     refine q r wr rl cl _ R C _ (zel bar6 (za0.bar (S9.trans (sa.trans (sb.trans sc))))) (LH6.same (S9.trans (sa.trans (sb.trans sc)))) zag (sc _ _ (sb _ _ (sa _ _ h9))) (sc _ _ (sb _ _ hR)) (sc _ _ hC) (zuX L6 Dn lR lC) ((bq1.add bq2).mono (by decide))
    ·exact absurd (fun z=>by cases z) nv
  refine ⟨b,dx,gl,il,ul,us,_,_,_,_,_,rfl,B4,L0,LH4,fun Dn H5 s5=>?_,fun c H5 c1 c2 c3 bar LT5=>?_⟩
  ·exact loop _ H5 (za0.bar s5) (LH4.same s5) (.inl ⟨rfl,Dn⟩)
  ·exact loop _ H5 bar LT5 (.inr ⟨c,rfl,c1,c2,c3⟩)
theorem zcY:zaI ["table","lift","board","column","worth","rows"] ["table"] (zaj zg7):=⟨rfl,rfl,rfl,by decide +kernel,rfl,by decide +kernel,by decide +kernel⟩
theorem zn3 (T:Txt K mg base a):zcw P w K mg base CX0 6 a.f_solved a.d_solved ["table"] (zmM a.p_lam):=by
 have G_Board___init__:=zgG (P:=P) (w:=w) (base:=base) T
 have G_Board_entering:=zgC (P:=P) (w:=w) (base:=base) T
 have G_Board_leaving:=zg4 (P:=P) (w:=w) (base:=base) T
 have G_Board_swap:=zjv (P:=P) (w:=w) (base:=base) T
 have G_column_weights:=zgm (P:=P) (w:=w) (base:=base) T
 have G_first_grid:=zj8 (P:=P) (w:=w) (base:=base) T
 have G_plus:=zsF (P:=P) (w:=w) (base:=base) T
 have G_ratio:=zmA (P:=P) (w:=w) (base:=base) T
 have G_row_weights:=ziG (P:=P) (w:=w) (base:=base) T
 refine T.F_solved.ok zcY (fun vs H Q E h=>?_) (fun cdv A outer s H vs Q E hr h=>?_)
 ·obtain ⟨tt,rs,rows,w,rfl,B,LH,q⟩:=h
  rfl
 obtain ⟨tt,rs,rows,w,rfl,B,LH,q⟩:=h
 exact ⟨zjE K a,(zaf (zaL (i:=1) zcY.nd rfl (Or.inl rfl) (zaP zgK zai (zas (zih rfl) rfl T.z_min PyProof.Rows.boot_min (zaa (zcj (sc:=zaj zg7) (N:=["table","lift","board","column","worth","rows"]) (Nc:=["row"]) (cap:=[none]) rfl rfl rfl (.of (by decide +kernel)) (zci (pv 0)) (fun _ _ _ _=>(zaW (i:=0) (show List.Nodup (["row"]:List Str) from by decide) rfl (Or.inl rfl))) (fun _ _ _ _=>zbQ) (fun _ _ _ _=>(zas (zih rfl) rfl T.z_min PyProof.Rows.boot_min (zaa (pv 0) zae)))) zae))))
 (zaf (zaL (i:=2) zcY.nd rfl (Or.inl rfl) (zr2 T.K_Board G_Board___init__ (hr.mono (by decide)) rfl T.m_Board T.b_Board___init__ .nil zbd (zaa (zaG G_first_grid (hr.mono (by decide)) rfl T.m_first_grid T.F_first_grid.kp T.b_first_grid .nil zbd (zaa (pv 0) (zaa (pv 1) zae))) zae)))
 (zaf (zaL (i:=3) zcY.nd rfl (Or.inl rfl) (zmB (pv 2) T.cl_Board T.M_Board_entering G_Board_entering (hr.mono (by decide)) T.b_Board_entering .nil zbd))
 (zaf (zmt PassesOwn.never (zaU zl2 (pv 3) zd2 (za4 _)) (zaf (zdo (ze1 (pv 2) T.cl_Board T.M_Board_swap G_Board_swap (hr.mono (by decide)) T.b_Board_swap .nil zbd (zaa (ze1 (pv 2) T.cl_Board T.M_Board_leaving G_Board_leaving (hr.mono (by decide)) T.b_Board_leaving .nil zbd (zaa (pv 3) zae)) (zaa (pv 3) zae))))
 (zak (zaL (i:=3) zcY.nd rfl (Or.inl rfl) (zmB (pv 2) T.cl_Board T.M_Board_entering G_Board_entering (hr.mono (by decide)) T.b_Board_entering .nil zbd)))))
 (zaf (zaL (i:=4) zcY.nd rfl (Or.inl rfl) (zaG G_plus (hr.mono (by decide)) rfl T.m_plus T.F_plus.kp T.b_plus .nil zbd (zaa (zaG G_ratio (hr.mono (by decide)) rfl T.m_ratio T.F_ratio.kp T.b_ratio .nil zbd (zaa (zbS T.cl_Board T.na_Board_scale (pv 2)) (zaa (zaO zat (zaO zat (zbS T.cl_Board T.na_Board_grid (pv 2)) (ze6 zc7 zai) (fun _ _=>rfl)) (ze6 zc7 zai) (fun _ _=>rfl)) zae))) (zaa (zdY (zaa (ze6 zc7 (pv 1)) (zaa zai zae))) zae))))
 (zaf (zaL (i:=5) zcY.nd rfl (Or.inl rfl) (zas zar rfl T.z_len PySem.boot_len (zaa (pv 0) zae)))
 (zak (zaJ (zdY (zaa (pv 4) (zaa (zaG G_row_weights (hr.mono (by decide)) rfl T.m_row_weights T.F_row_weights.kp T.b_row_weights .nil zbd (zaa (pv 2) (zaa (pv 5) zae))) (zaa (zaG G_column_weights (hr.mono (by decide)) rfl T.m_column_weights T.F_column_weights.kp T.b_column_weights .nil zbd (zaa (pv 2) (zaa (pv 5) (zaa (zas zar rfl T.z_len PySem.boot_len (zaa (zaO zat (pv 0) zai (fun _ _=>rfl)) zae)) zae)))) zae)))))))))))),
  zoE B LH q⟩
def zbh:Sp:=fun _ _ _ _=>False
theorem zfr {P:Program} {w:World} {K:PySem.W.Frag} {mg:Str→Option Value} {base:Heap} {CX:CXT} {k:Nat} {f:Addr} {fd:FuncData} {ps:List Str}:zcw P w K mg base CX k f fd ps zbh :=
 ⟨fun _ _ _ _ h=>h.elim,fun _ _ _ _ _ _ _ _ _ _ _ _ _ h=>h.elim⟩
def ztB:Option Tr→Prop
 | some t=>∀ ts,t=.lst ts→∀ r∈ts,∀ us,r=.lst us→∀ u∈us,∀ i,u=.int i→Bd 102 i
 | none=>True
def zrV:Tr→Int
 | .int i=>i
 | _=>0
def ztj:Tr→List Int
 | .lst us=>us.map zrV
 | _=>[]
def zuf:V→Addr
 | .ref p=>p
 | _=>0
theorem zh5 {r:Tr} (h:zlF r=true):∃ us:List Tr,r=.lst us∧1≤us.length∧us.length≤12∧∀ u∈us,∃ i,u=.int i:=by
 cases r with
 | lst us =>
  rw [zfk,Bool.and_eq_true,Bool.and_eq_true,decide_eq_true_eq,decide_eq_true_eq,List.all_eq_true] at h
  refine ⟨us,rfl,h.1.1,h.1.2,fun u hu=>?_⟩
  have:=h.2 u hu
  cases u with
  | int i=>exact ⟨i,rfl⟩
  | _=>cases this
 | _=>cases h
theorem tb_of {t:Tr} {v:V} (h:Sh H t v) (e:zeG t=true) (b:ztB (some t)):∃ tt rs rows w,v=.ref tt∧Tb H tt rs rows w:=by
 cases h with
 | @lst p xs ts hp l el =>
  rw [zc2,Bool.and_eq_true,Bool.and_eq_true,Bool.and_eq_true,decide_eq_true_eq,decide_eq_true_eq,List.all_eq_true,List.all_eq_true] at e
  obtain ⟨⟨⟨l1,l12⟩,ar⟩,aw⟩:=e
  have row:∀ (i:Nat) (r:Tr),ts[i]?=some r→∃ (q:Addr) (ys:List V),xs[i]?=some (.ref q)∧H q=some (.lst ys)∧ys=(ztj r).map V.int∧(ztj r).length=trL r∧1≤trL r∧trL r≤12:=fun i r hr=>by
   obtain ⟨us,rfl,u1,u12,uu⟩:=zh5 (ar r (zb8 hr))
   have hi:i<xs.length:=by
    have:=(List.getElem?_eq_some_iff.mp hr).1
    omega
   have ex:=List.getElem?_eq_getElem hi
   have sh:=el i _ _ ex hr
   generalize xs[i]=x at ex sh
   cases sh with
   | @lst q ys _ hq ly ey =>
    refine ⟨q,ys,ex,hq,?_,by show (us.map zrV).length=us.length;rw [List.length_map],u1,u12⟩
    show ys=(us.map zrV).map V.int
    refine List.ext_getElem? fun j=>?_
    rw [List.getElem?_map,List.getElem?_map]
    cases hy:ys[j]? with
    | none =>
     have:us[j]?=none:=List.getElem?_eq_none_iff.mpr (by have:=List.getElem?_eq_none_iff.mp hy;omega)
     rw [this]
     rfl
    | some y =>
     have hj:=(List.getElem?_eq_some_iff.mp hy).1
     have eu:us[j]?=some (us[j]'(by omega)):=List.getElem?_eq_getElem _
     obtain ⟨n,en⟩:=uu _ (zb8 eu)
     rw [en] at eu
     have s2:=ey j y _ hy eu
     rw [eu]
     cases s2
     rfl
  have hd:ts.headD .non=ts[0]'(by omega):=by
   cases ts with
   | nil=>exact absurd l1 (by decide)
   | cons u v=>rfl
  have t0:ts[0]?=some (ts[0]'(by omega)):=List.getElem?_eq_getElem _
  obtain ⟨q0,_,_,_,_,_,w1,w12⟩:=row 0 _ t0
  have ex:xs=(xs.map zuf).map V.ref:=by
   refine List.ext_getElem? fun j=>?_
   rw [List.getElem?_map,List.getElem?_map]
   cases hx:xs[j]? with
   | none=>rfl
   | some x =>
    have hj:=(List.getElem?_eq_some_iff.mp hx).1
    obtain ⟨q,_,e1,_⟩:=row j _ (List.getElem?_eq_getElem (by omega))
    rw [hx] at e1
    cases e1
    rfl
  refine ⟨p,xs.map zuf,ts.map ztj,trL (ts[0]'(by omega)),rfl,⟨by rw [← ex];exact hp,by rw [List.length_map,List.length_map,l],fun i r rw' e1 e2=>?_,fun rw' hr=>?_,by rw [List.length_map];exact l1,by rw [List.length_map];exact l12,w1,w12,fun rw' hr x hx=>?_⟩⟩
  ·obtain ⟨x,hx,rfl⟩:=zbU e1
   obtain ⟨u,hu,rfl⟩:=zbU e2
   obtain ⟨q,ys,f1,f2,f3,_⟩:=row i u hu
   rw [hx] at f1
   cases f1
   rw [← f3]
   exact f2
  ·obtain ⟨u,hu,rfl⟩:=List.mem_map.mp hr
   obtain ⟨i,hi⟩:=List.mem_iff_getElem?.mp hu
   obtain ⟨_,_,_,_,_,f4,_⟩:=row i u hi
   rw [f4]
   have:=aw u hu
   rw [hd,decide_eq_true_eq] at this
   exact this
  ·obtain ⟨u,hu,rfl⟩:=List.mem_map.mp hr
   obtain ⟨us,rfl,_,_,uu⟩:=zh5 (ar u hu)
   obtain ⟨z,hz,rfl⟩:=List.mem_map.mp hx
   obtain ⟨n,rfl⟩:=uu z hz
   exact b ts rfl _ hu us rfl _ hz n rfl
 | _=>cases e
def zhb (a:Ad):Sp:=fun vs H Q E=>∃ (v:V) (o:Option Tr),vs=[v]∧ShO H o v∧zms o∧ztB o∧LT H a.p_lam∧(zbA o=true→∀ (r x y z:Addr) (H':Hp),Bar a.p_lam H H'→LT H' a.p_lam→H' r=some (.tup [.ref x,.ref y,.ref z])→Q (.ref r) H')∧(zbA o=false→∀ H',za0 H H'→E (.ref a.c_NoTable) none H')
def zdQ (a:Ad) (E:XK):TS :=
 (zaM (zfH (zaK (zhV a) [] E (zab (zad 0) zam)))
 (zbo (zaK (zmM a.p_lam) [] E0 (zab (zad 0) zam))))
theorem ziF {E:XK} {v:V} {o:Option Tr} (h:ShO H o v) (l:zms o) (b:ztB o) (LH:LT H a.p_lam) (q:zbA o=true→∀ (r x y z:Addr) (H':Hp),Bar a.p_lam H H'→LT H' a.p_lam→H' r=some (.tup [.ref x,.ref y,.ref z])→Q (.ref r) H') (e:zbA o=false→∀ H',za0 H H'→E (.ref a.c_NoTable) none H') :
  zdQ a E { nx:=fun _ H'=>Q .non H',rt:=Q } (L2.zbi ["table"] [v]) H:=by
 unfold zdQ
 simp_all only [zad]
 refine ⟨v,o,rfl,h,l,fun z H1 s1=>?_,e⟩
 cases o with
 | none=>cases z
 | some t =>
  obtain ⟨tt,rs,rows,w,rfl,B⟩:=tb_of h z b
  exact ⟨tt,rs,rows,w,rfl,B.same s1,LH.same s1,fun r wr rl cl W R C H' bar L' h1 _ _ _ _ _=>q z r wr rl cl H' (zel (za0.bar s1) bar) L' h1⟩
theorem ziS:zaI ["table"] ["table"] (zaj zdM):=⟨rfl,rfl,rfl,by decide +kernel,rfl,by decide +kernel,by decide +kernel⟩
theorem zeP (T:Txt K mg base a):zcw P w K mg base (CXE P w) 7 a.f_table_worth a.d_table_worth ["table"] (zhb a):=by
 have G_look_table:=zcS (P:=P) (w:=w) (base:=base) T
 have G_solved:=zn3 (P:=P) (w:=w) (base:=base) T
 refine T.F_table_worth.okX ziS (fun vs H Q E h=>?_) (fun cdv A outer s H vs Q E hr h=>?_)
 ·obtain ⟨v,o,rfl,h,l,b,LH,q,e⟩:=h
  rfl
 obtain ⟨v,o,rfl,h,l,b,LH,q,e⟩:=h
 exact ⟨zdQ a E,(zaf (zdo (zaG G_look_table (hr.mono (by decide)) rfl T.m_look_table T.F_look_table.kp T.b_look_table .nil zq2 (zaa (pv 0) zae)))
 (zak (zaJ (zaG G_solved (hr.mono (by decide)) rfl T.m_solved T.F_solved.kp T.b_solved .nil zbd (zaa (pv 0) zae))))),
  ziF h l b LH q e⟩
theorem zdv (T:Txt K mg base a):zcw P w K mg base CX0 1 a.f_are_weights a.d_are_weights ["thing","many"] zbh:=zfr
theorem zme (T:Txt K mg base a):zcw P w K mg base CX0 1 a.f_row_sums a.d_row_sums ["table","columns"] zbh:=zfr
theorem ziA (T:Txt K mg base a):zcw P w K mg base CX0 1 a.f_column_sums a.d_column_sums ["table","rows"] zbh:=zfr
theorem zep (T:Txt K mg base a):zcw P w K mg base CX0 1 a.f_first_column_above a.d_first_column_above ["table","worth","rows"] zbh:=zfr
theorem zfo (T:Txt K mg base a):zcw P w K mg base CX0 1 a.f_first_row_below a.d_first_row_below ["table","worth","columns"] zbh:=zfr
def zrH (a:Ad):Sp:=fun vs H Q E=>∃ (v x y z:V) (o:Option Tr),vs=[v,x,y,z]∧ShO H o v∧zms o∧zbA o=false∧∀ H',za0 H H'→E (.ref a.c_NoTable) none H'
def zcL:TS :=
 (zbE (zaQ (tOp (fun x y H Q=>y=.non∧Q (.bl (!decide (x=.non))) H) (zad 5) (tC .non))) (zbo (zgS (zab (tC (.str "row")) (zab (zad 5) zam)))) zaR)
theorem zeW (D:zbO) (σ:St) (H:Hp):zcL D σ H=(zbE (zaQ (tOp (fun x y H Q=>y=.non∧Q (.bl (!decide (x=.non))) H) (zad 5) (tC .non))) (zbo (zgS (zab (tC (.str "row")) (zab (zad 5) zam)))) zaR) D σ H:=rfl
def zcD:TS :=
 (zaM (za6 (zaK zbh [] E0 (zab (zad 0) (zab (zad 1) (zab (zad 3) zam)))) (zao 5))
 (zaM (zdy (zcL))
 (zbo (tC .non))))
theorem zeX (D:zbO) (σ:St) (H:Hp):zcD D σ H=(zaM (za6 (zaK zbh [] E0 (zab (zad 0) (zab (zad 1) (zab (zad 3) zam)))) (zao 5))
 (zaM (zdy (zcL))
 (zbo (tC .non)))) D σ H:=rfl
def zcG:TS :=
 (zbE (zaQ (tOp (fun x y H Q=>y=.non∧Q (.bl (!decide (x=.non))) H) (zad 4) (tC .non))) (zbo (zgS (zab (tC (.str "column")) (zab (zad 4) zam)))) zaR)
theorem zeZ (D:zbO) (σ:St) (H:Hp):zcG D σ H=(zbE (zaQ (tOp (fun x y H Q=>y=.non∧Q (.bl (!decide (x=.non))) H) (zad 4) (tC .non))) (zbo (zgS (zab (tC (.str "column")) (zab (zad 4) zam)))) zaR) D σ H:=rfl
def zd3:TS :=
 (zaM (za6 (zaK zbh [] E0 (zab (zad 0) (zab (zad 1) (zab (zad 2) zam)))) (zao 4))
 (zaM (zdy (zcG))
 (zcD)))
theorem ze5 (D:zbO) (σ:St) (H:Hp):zd3 D σ H=(zaM (za6 (zaK zbh [] E0 (zab (zad 0) (zab (zad 1) (zab (zad 2) zam)))) (zao 4))
 (zaM (zdy (zcG))
 (zcD))) D σ H:=rfl
def zdU (K:PySem.W.Frag):TS :=
 (zbE (ziw (tB (zaK zbh [] E0 (zab (zad 3) (zab (tCB (fun xs H Q=>∃ p ys,xs=[.ref p]∧(SqL K H p ys∨SqT K H p ys)∧Q (.int ys.length) H) (zab (tOp (zbf K) (zad 0) (tC (.int 0))) zam)) zam))))) (zbo (zgS (zab (tC (.str "columns")) zam))) zaR)
theorem ze9 (K:PySem.W.Frag) (D:zbO) (σ:St) (H:Hp):zdU K D σ H=(zbE (ziw (tB (zaK zbh [] E0 (zab (zad 3) (zab (tCB (fun xs H Q=>∃ p ys,xs=[.ref p]∧(SqL K H p ys∨SqT K H p ys)∧Q (.int ys.length) H) (zab (tOp (zbf K) (zad 0) (tC (.int 0))) zam)) zam))))) (zbo (zgS (zab (tC (.str "columns")) zam))) zaR) D σ H:=rfl
def zd1 (K:PySem.W.Frag):TS :=
 (zbE (ziw (tB (zaK zbh [] E0 (zab (zad 2) (zab (tCB (fun xs H Q=>∃ p ys,xs=[.ref p]∧(SqL K H p ys∨SqT K H p ys)∧Q (.int ys.length) H) (zab (zad 0) zam)) zam))))) (zbo (zgS (zab (tC (.str "rows")) zam))) zaR)
theorem ze4 (K:PySem.W.Frag) (D:zbO) (σ:St) (H:Hp):zd1 K D σ H=(zbE (ziw (tB (zaK zbh [] E0 (zab (zad 2) (zab (tCB (fun xs H Q=>∃ p ys,xs=[.ref p]∧(SqL K H p ys∨SqT K H p ys)∧Q (.int ys.length) H) (zab (zad 0) zam)) zam))))) (zbo (zgS (zab (tC (.str "rows")) zam))) zaR) D σ H:=rfl
def zdm (K:PySem.W.Frag) (a:Ad) (E:XK):TS :=
 (zaM (zfH (zaK (zhV a) [] E (zab (zad 0) zam)))
 (zaM (zdy (zd1 K))
 (zaM (zdy (zdU K))
 (zd3))))
theorem zif {E:XK} {v x y z:V} {o:Option Tr} (h:ShO H o v) (l:zms o) (b:zbA o=false) (e:∀ H',za0 H H'→E (.ref a.c_NoTable) none H') :
  zdm K a E { nx:=fun _ H'=>Q .non H',rt:=Q } (L2.zbi ["table","worth","rows","columns","j","i"] [v,x,y,z]) H:=by
 unfold zdm
 simp_all only [zeW,zeX,zeZ,ze5,ze9,ze4,zad]
 exact ⟨v,o,rfl,h,l,fun z=>(by rw [b] at z;cases z),fun _=>e⟩
theorem zc1:zaI ["table","worth","rows","columns","j","i"] ["table","worth","rows","columns"] (zaj zdt):=⟨rfl,rfl,rfl,by decide +kernel,rfl,by decide +kernel,by decide +kernel⟩
theorem zhF (T:Txt K mg base a):zcw P w K mg base (CXE P w) 5 a.f_table_judged a.d_table_judged ["table","worth","rows","columns"] (zrH a):=by
 have G_are_weights:=zdv (P:=P) (w:=w) (base:=base) T
 have G_first_column_above:=zep (P:=P) (w:=w) (base:=base) T
 have G_first_row_below:=zfo (P:=P) (w:=w) (base:=base) T
 have G_look_table:=zcS (P:=P) (w:=w) (base:=base) T
 refine T.F_table_judged.okX zc1 (fun vs H Q E h=>?_) (fun cdv A outer s H vs Q E hr h=>?_)
 ·obtain ⟨v,x,y,z,o,rfl,h,l,b,e⟩:=h
  rfl
 obtain ⟨v,x,y,z,o,rfl,h,l,b,e⟩:=h
 exact ⟨zdm K a E,(zaf (zdo (zaG G_look_table (hr.mono (by decide)) rfl T.m_look_table T.F_look_table.kp T.b_look_table .nil zq2 (zaa (pv 0) zae)))
 (zaf (zbq (zbD (zet (zc5 (zaG G_are_weights (hr.mono (by decide)) rfl T.m_are_weights T.F_are_weights.kp T.b_are_weights .nil zbd (zaa (pv 2) (zaa (zas zar rfl T.z_len PySem.boot_len (zaa (pv 0) zae)) zae))))) (zak (zaJ (zdY (zaa zgM zae)))) zaN))
 (zaf (zbq (zbD (zet (zc5 (zaG G_are_weights (hr.mono (by decide)) rfl T.m_are_weights T.F_are_weights.kp T.b_are_weights .nil zbd (zaa (pv 3) (zaa (zas zar rfl T.z_len PySem.boot_len (zaa (zaO zat (pv 0) zai (fun _ _=>rfl)) zae)) zae))))) (zak (zaJ (zdY (zaa zgM zae)))) zaN))
 (zaf (zaL (i:=4) zc1.nd rfl (Or.inl rfl) (zaG G_first_column_above (hr.mono (by decide)) rfl T.m_first_column_above T.F_first_column_above.kp T.b_first_column_above .nil zbd (zaa (pv 0) (zaa (pv 1) (zaa (pv 2) zae)))))
 (zaf (zbq (zbD (zaU zl2 (pv 4) zd2 (za4 _)) (zak (zaJ (zdY (zaa zgM (zaa (pv 4) zae))))) zaN))
 (zaf (zaL (i:=5) zc1.nd rfl (Or.inl rfl) (zaG G_first_row_below (hr.mono (by decide)) rfl T.m_first_row_below T.F_first_row_below.kp T.b_first_row_below .nil zbd (zaa (pv 0) (zaa (pv 1) (zaa (pv 3) zae)))))
 (zaf (zbq (zbD (zaU zl2 (pv 5) zd2 (za4 _)) (zak (zaJ (zdY (zaa zgM (zaa (pv 5) zae))))) zaN))
 (zak (zaJ zd2))))))))),
  zif h l b e⟩
def zjM (a:Ad):Sp:=fun vs H Q E=>∃ (v x:V) (o:Option Tr),vs=[v,x]∧ShO H o v∧zms o∧zbA o=false∧∀ H',za0 H H'→E (.ref a.c_NoTable) none H'
def zfj (K:PySem.W.Frag):TS :=
 (zaM (za6 (zaK zbh [] E0 (zab (zad 0) (zab (zad 1) zam))) (zao 2))
 (zaM (za6 (tCB (zm2 K) (zab (zad 2) zam)) (zao 3))
 (zbo (zbW (zkM K (zab (zad 2) zam)) (zrl K 2 (zfS (zao 0) (zfS (zao 1) zrA))) (zaQ (tOp rEq (zad 1) (zad 2))) (zad 0) [none,none,some 3]))))
theorem zg6 (K:PySem.W.Frag) (D:zbO) (σ:St) (H:Hp):zfj K D σ H=(zaM (za6 (zaK zbh [] E0 (zab (zad 0) (zab (zad 1) zam))) (zao 2))
 (zaM (za6 (tCB (zm2 K) (zab (zad 2) zam)) (zao 3))
 (zbo (zbW (zkM K (zab (zad 2) zam)) (zrl K 2 (zfS (zao 0) (zfS (zao 1) zrA))) (zaQ (tOp rEq (zad 1) (zad 2))) (zad 0) [none,none,some 3])))) D σ H:=rfl
def zfF (K:PySem.W.Frag) (a:Ad) (E:XK):TS :=
 (zbE (ziw (tB (zaK zbh [] E0 (zab (zad 1) (zab (tCB (fun xs H Q=>∃ p ys,xs=[.ref p]∧(SqL K H p ys∨SqT K H p ys)∧Q (.int ys.length) H) (zab (tOp (zbf K) (zad 0) (tC (.int 0))) zam)) zam))))) (zh0 (.ref a.c_NoWeights) E) zaR)
theorem zgR (K:PySem.W.Frag) (a:Ad) (E:XK) (D:zbO) (σ:St) (H:Hp):zfF K a E D σ H=(zbE (ziw (tB (zaK zbh [] E0 (zab (zad 1) (zab (tCB (fun xs H Q=>∃ p ys,xs=[.ref p]∧(SqL K H p ys∨SqT K H p ys)∧Q (.int ys.length) H) (zab (tOp (zbf K) (zad 0) (tC (.int 0))) zam)) zam))))) (zh0 (.ref a.c_NoWeights) E) zaR) D σ H:=rfl
def zfc (K:PySem.W.Frag) (a:Ad) (E:XK):TS :=
 (zaM (zfH (zaK (zhV a) [] E (zab (zad 0) zam)))
 (zaM (zdy (zfF K a E))
 (zfj K)))
theorem zkz {E:XK} {v x:V} {o:Option Tr} (h:ShO H o v) (l:zms o) (b:zbA o=false) (e:∀ H',za0 H H'→E (.ref a.c_NoTable) none H') :
  zfc K a E { nx:=fun _ H'=>Q .non H',rt:=Q } (L2.zbi ["table","columns","sums","least"] [v,x]) H:=by
 unfold zfc
 simp_all only [zg6,zgR,zad]
 exact ⟨v,o,rfl,h,l,fun z=>(by rw [b] at z;cases z),fun _=>e⟩
theorem zec:zaI ["table","columns","sums","least"] ["table","columns"] (zaj zdS):=⟨rfl,rfl,rfl,by decide +kernel,rfl,by decide +kernel,by decide +kernel⟩
theorem zk7 (T:Txt K mg base a):zcw P w K mg base (CXE P w) 5 a.f_best_rows a.d_best_rows ["table","columns"] (zjM a):=by
 have G_are_weights:=zdv (P:=P) (w:=w) (base:=base) T
 have G_look_table:=zcS (P:=P) (w:=w) (base:=base) T
 have G_row_sums:=zme (P:=P) (w:=w) (base:=base) T
 refine T.F_best_rows.okX zec (fun vs H Q E h=>?_) (fun cdv A outer s H vs Q E hr h=>?_)
 ·obtain ⟨v,x,o,rfl,h,l,b,e⟩:=h
  rfl
 obtain ⟨v,x,o,rfl,h,l,b,e⟩:=h
 exact ⟨zfc K a E,(zaf (zdo (zaG G_look_table (hr.mono (by decide)) rfl T.m_look_table T.F_look_table.kp T.b_look_table .nil zq2 (zaa (pv 0) zae)))
 (zaf (zbq (zbD (zet (zc5 (zaG G_are_weights (hr.mono (by decide)) rfl T.m_are_weights T.F_are_weights.kp T.b_are_weights .nil zbd (zaa (pv 1) (zaa (zas zar rfl T.z_len PySem.boot_len (zaa (zaO zat (pv 0) zai (fun _ _=>rfl)) zae)) zae))))) (zak (zjG T.m_NoWeights T.x_NoWeights rfl rfl zmf)) zaN))
 (zaf (zaL (i:=2) zec.nd rfl (Or.inl rfl) (zaG G_row_sums (hr.mono (by decide)) rfl T.m_row_sums T.F_row_sums.kp T.b_row_sums .nil zbd (zaa (pv 0) (zaa (pv 1) zae))))
 (zaf (zaL (i:=3) zec.nd rfl (Or.inr rfl) (zas (zih rfl) rfl T.z_min PyProof.Rows.boot_min (zaa (pv 2) zae)))
 (zak (zaJ (zcj (sc:=zaj zdS) (N:=["table","columns","sums","least"]) (Nc:=["i","paid","least"]) (cap:=[none,none,some 3]) rfl rfl rfl (.of (by decide +kernel)) (zkk rfl T.z_enumerate (zaa (pv 2) zae)) (fun _ _ _ _=>(zmN rfl (zdd (zaW (i:=0) (show List.Nodup (["i","paid","least"]:List Str) from by decide) rfl (Or.inl rfl)) (zdd (zaW (i:=1) (show List.Nodup (["i","paid","least"]:List Str) from by decide) rfl (Or.inl rfl)) zju)))) (fun _ _ _ _=>(zmo (zaU zgh (pv 1) (pv 2) (za4 _)))) (fun _ _ _ _=>(pv 0))))))))),
  zkz h l b e⟩
def zd0 (K:PySem.W.Frag):TS :=
 (zaM (za6 (zaK zbh [] E0 (zab (zad 0) (zab (zad 1) zam))) (zao 2))
 (zaM (za6 (tCB (zpZ K) (zab (zad 2) zam)) (zao 3))
 (zbo (zbW (zkM K (zab (zad 2) zam)) (zrl K 2 (zfS (zao 0) (zfS (zao 1) zrA))) (zaQ (tOp (rEqT K) (zad 1) (zad 2))) (zad 0) [none,none,some 3]))))
theorem zeV (K:PySem.W.Frag) (D:zbO) (σ:St) (H:Hp):zd0 K D σ H=(zaM (za6 (zaK zbh [] E0 (zab (zad 0) (zab (zad 1) zam))) (zao 2))
 (zaM (za6 (tCB (zpZ K) (zab (zad 2) zam)) (zao 3))
 (zbo (zbW (zkM K (zab (zad 2) zam)) (zrl K 2 (zfS (zao 0) (zfS (zao 1) zrA))) (zaQ (tOp (rEqT K) (zad 1) (zad 2))) (zad 0) [none,none,some 3])))) D σ H:=rfl
def zdW (K:PySem.W.Frag) (a:Ad) (E:XK):TS :=
 (zbE (ziw (tB (zaK zbh [] E0 (zab (zad 1) (zab (tCB (fun xs H Q=>∃ p ys,xs=[.ref p]∧(SqL K H p ys∨SqT K H p ys)∧Q (.int ys.length) H) (zab (zad 0) zam)) zam))))) (zh0 (.ref a.c_NoWeights) E) zaR)
theorem zfb (K:PySem.W.Frag) (a:Ad) (E:XK) (D:zbO) (σ:St) (H:Hp):zdW K a E D σ H=(zbE (ziw (tB (zaK zbh [] E0 (zab (zad 1) (zab (tCB (fun xs H Q=>∃ p ys,xs=[.ref p]∧(SqL K H p ys∨SqT K H p ys)∧Q (.int ys.length) H) (zab (zad 0) zam)) zam))))) (zh0 (.ref a.c_NoWeights) E) zaR) D σ H:=rfl
def zdl (K:PySem.W.Frag) (a:Ad) (E:XK):TS :=
 (zaM (zfH (zaK (zhV a) [] E (zab (zad 0) zam)))
 (zaM (zdy (zdW K a E))
 (zd0 K)))
theorem zh3 {E:XK} {v x:V} {o:Option Tr} (h:ShO H o v) (l:zms o) (b:zbA o=false) (e:∀ H',za0 H H'→E (.ref a.c_NoTable) none H') :
  zdl K a E { nx:=fun _ H'=>Q .non H',rt:=Q } (L2.zbi ["table","rows","sums","most"] [v,x]) H:=by
 unfold zdl
 simp_all only [zeV,zfb,zad]
 exact ⟨v,o,rfl,h,l,fun z=>(by rw [b] at z;cases z),fun _=>e⟩
theorem zcW:zaI ["table","rows","sums","most"] ["table","rows"] (zaj zcu):=⟨rfl,rfl,rfl,by decide +kernel,rfl,by decide +kernel,by decide +kernel⟩
theorem zhL (T:Txt K mg base a):zcw P w K mg base (CXE P w) 5 a.f_best_columns a.d_best_columns ["table","rows"] (zjM a):=by
 have G_are_weights:=zdv (P:=P) (w:=w) (base:=base) T
 have G_column_sums:=ziA (P:=P) (w:=w) (base:=base) T
 have G_look_table:=zcS (P:=P) (w:=w) (base:=base) T
 refine T.F_best_columns.okX zcW (fun vs H Q E h=>?_) (fun cdv A outer s H vs Q E hr h=>?_)
 ·obtain ⟨v,x,o,rfl,h,l,b,e⟩:=h
  rfl
 obtain ⟨v,x,o,rfl,h,l,b,e⟩:=h
 exact ⟨zdl K a E,(zaf (zdo (zaG G_look_table (hr.mono (by decide)) rfl T.m_look_table T.F_look_table.kp T.b_look_table .nil zq2 (zaa (pv 0) zae)))
 (zaf (zbq (zbD (zet (zc5 (zaG G_are_weights (hr.mono (by decide)) rfl T.m_are_weights T.F_are_weights.kp T.b_are_weights .nil zbd (zaa (pv 1) (zaa (zas zar rfl T.z_len PySem.boot_len (zaa (pv 0) zae)) zae))))) (zak (zjG T.m_NoWeights T.x_NoWeights rfl rfl zmf)) zaN))
 (zaf (zaL (i:=2) zcW.nd rfl (Or.inl rfl) (zaG G_column_sums (hr.mono (by decide)) rfl T.m_column_sums T.F_column_sums.kp T.b_column_sums .nil zbd (zaa (pv 0) (zaa (pv 1) zae))))
 (zaf (zaL (i:=3) zcW.nd rfl (Or.inr rfl) (zas (zog rfl) rfl T.z_max PyProof.Rows.boot_max (zaa (pv 2) zae)))
 (zak (zaJ (zcj (sc:=zaj zcu) (N:=["table","rows","sums","most"]) (Nc:=["j","paid","most"]) (cap:=[none,none,some 3]) rfl rfl rfl (.of (by decide +kernel)) (zkk rfl T.z_enumerate (zaa (pv 2) zae)) (fun _ _ _ _=>(zmN rfl (zdd (zaW (i:=0) (show List.Nodup (["j","paid","most"]:List Str) from by decide) rfl (Or.inl rfl)) (zdd (zaW (i:=1) (show List.Nodup (["j","paid","most"]:List Str) from by decide) rfl (Or.inl rfl)) zju)))) (fun _ _ _ _=>(zmo (zaU (zuO hr.units0) (pv 1) (pv 2) (za4 _)))) (fun _ _ _ _=>(pv 0))))))))),
  zh3 h l b e⟩
theorem zks {ts:List Tr} {i:Nat} {r:Tr} (e:ts[i]?=some r) (b:zlF r=true→trL r≠trL (ts.headD .non)):zeG (.lst ts)=false:=by
 cases z:zeG (.lst ts) with
 | false=>rfl
 | true =>
  rw [zc2,Bool.and_eq_true,Bool.and_eq_true,List.all_eq_true,List.all_eq_true] at z
  exact absurd (of_decide_eq_true (z.2 r (zb8 e))) (b (z.1.2 r (zb8 e)))
theorem zpg {ts:List Tr} (b:¬ (1≤ts.length∧ts.length≤12)):zeG (.lst ts)=false:=by
 cases z:zeG (.lst ts) with
 | false=>rfl
 | true =>
  rw [zc2,Bool.and_eq_true,Bool.and_eq_true,Bool.and_eq_true,decide_eq_true_eq,decide_eq_true_eq] at z
  exact absurd z.1.1 b
theorem zqc {ts:List Tr} (l1:1≤ts.length) (l12:ts.length≤12) (g:∀ (i:Nat) r,ts[i]?=some r→zlF r=true∧trL r=trL (ts.headD .non)):zeG (.lst ts)=true:=by
 rw [zc2,decide_eq_true l1,decide_eq_true l12,Bool.true_and,Bool.true_and,Bool.and_eq_true,List.all_eq_true,List.all_eq_true]
 refine ⟨fun r hr=>?_,fun r hr=>?_⟩
 ·obtain ⟨i,hi⟩:=List.mem_iff_getElem?.mp hr
  exact (g i r hi).1
 ·obtain ⟨i,hi⟩:=List.mem_iff_getElem?.mp hr
  exact decide_eq_true (g i r hi).2
theorem ztu {o:Option Tr} {v:V} (h:ShO H o v) (n:∀ ts,o≠some (.lst ts)) (q:Q (.bl false) H):zgW K [v,.ty "list"] H Q:=by
 cases o with
 | some t=>exact zmD h (fun ts z=>n ts (by rw [z])) q
 | none =>
  obtain ⟨p,rfl,hp⟩:=h
  exact zbP (.dK hp) (zfE K) q
theorem noTbl {o:Option Tr} (n:∀ ts,o≠some (.lst ts)):zbA o=false:=by
 cases o with
 | none=>rfl
 | some t=>cases t with
  | lst ts=>exact absurd rfl (n ts)
  | _=>rfl
def zod:Sp:=fun vs H Q _=>∃ (v:V) (o:Option Tr),vs=[v]∧ShO H o v∧Q (.bl (zbA o)) H
def zbJ (K:PySem.W.Frag):TS :=
 (zbE (tOr (tB (tCB (zgW K) (zab (zad 2) (zab (tC (.ty "bool")) zam)))) (ziw (tB (tCB (zgW K) (zab (zad 2) (zab (tC (.ty "int")) zam)))))) (zbo (tC (.bl false))) zaR)
theorem zaT (K:PySem.W.Frag) (D:zbO) (σ:St) (H:Hp):zbJ K D σ H=(zbE (tOr (tB (tCB (zgW K) (zab (zad 2) (zab (tC (.ty "bool")) zam)))) (ziw (tB (tCB (zgW K) (zab (zad 2) (zab (tC (.ty "int")) zam)))))) (zbo (tC (.bl false))) zaR) D σ H:=rfl
def zcf (K:PySem.W.Frag):TS :=
 (zbE (tOr (ziw (tB (tCB (zgW K) (zab (zad 1) (zab (tC (.ty "list")) zam))))) (tOr (zaQ (tOp (rI0 fun i j=>.bl (decide (i<j))) (tCB (fun xs H Q=>∃ p ys,xs=[.ref p]∧(SqL K H p ys∨SqT K H p ys)∧Q (.int ys.length) H) (zab (zad 1) zam)) (tC (.int 1)))) (tOr (zaQ (tOp (rI0 fun i j=>.bl (decide (j<i))) (tCB (fun xs H Q=>∃ p ys,xs=[.ref p]∧(SqL K H p ys∨SqT K H p ys)∧Q (.int ys.length) H) (zab (zad 1) zam)) (tC (.int 12)))) (zaQ (tOp rNe (tCB (fun xs H Q=>∃ p ys,xs=[.ref p]∧(SqL K H p ys∨SqT K H p ys)∧Q (.int ys.length) H) (zab (zad 1) zam)) (tCB (fun xs H Q=>∃ p ys,xs=[.ref p]∧(SqL K H p ys∨SqT K H p ys)∧Q (.int ys.length) H) (zab (tOp (zbf K) (zad 0) (tC (.int 0))) zam))))))) (zbo (tC (.bl false))) zaR)
theorem zay (K:PySem.W.Frag) (D:zbO) (σ:St) (H:Hp):zcf K D σ H=(zbE (tOr (ziw (tB (tCB (zgW K) (zab (zad 1) (zab (tC (.ty "list")) zam))))) (tOr (zaQ (tOp (rI0 fun i j=>.bl (decide (i<j))) (tCB (fun xs H Q=>∃ p ys,xs=[.ref p]∧(SqL K H p ys∨SqT K H p ys)∧Q (.int ys.length) H) (zab (zad 1) zam)) (tC (.int 1)))) (tOr (zaQ (tOp (rI0 fun i j=>.bl (decide (j<i))) (tCB (fun xs H Q=>∃ p ys,xs=[.ref p]∧(SqL K H p ys∨SqT K H p ys)∧Q (.int ys.length) H) (zab (zad 1) zam)) (tC (.int 12)))) (zaQ (tOp rNe (tCB (fun xs H Q=>∃ p ys,xs=[.ref p]∧(SqL K H p ys∨SqT K H p ys)∧Q (.int ys.length) H) (zab (zad 1) zam)) (tCB (fun xs H Q=>∃ p ys,xs=[.ref p]∧(SqL K H p ys∨SqT K H p ys)∧Q (.int ys.length) H) (zab (tOp (zbf K) (zad 0) (tC (.int 0))) zam))))))) (zbo (tC (.bl false))) zaR) D σ H:=rfl
def zdz (K:PySem.W.Frag):TS :=
 (zaM (zmu (zdJ K (zad 0)) (zao 1)
 (zaM (zdy (zcf K))
 (zmu (zdJ K (zad 1)) (zao 2)
 (zbJ K))))
 (zbo (tC (.bl true))))
theorem zaz (K:PySem.W.Frag) (D:zbO) (σ:St) (H:Hp):zdz K D σ H=(zaM (zmu (zdJ K (zad 0)) (zao 1)
 (zaM (zdy (zcf K))
 (zmu (zdJ K (zad 1)) (zao 2)
 (zbJ K))))
 (zbo (tC (.bl true)))) D σ H:=rfl
def zdB (K:PySem.W.Frag):TS :=
 (zbE (tOr (ziw (tB (tCB (zgW K) (zab (zad 0) (zab (tC (.ty "list")) zam))))) (tOr (zaQ (tOp (rI0 fun i j=>.bl (decide (i<j))) (tCB (fun xs H Q=>∃ p ys,xs=[.ref p]∧(SqL K H p ys∨SqT K H p ys)∧Q (.int ys.length) H) (zab (zad 0) zam)) (tC (.int 1)))) (zaQ (tOp (rI0 fun i j=>.bl (decide (j<i))) (tCB (fun xs H Q=>∃ p ys,xs=[.ref p]∧(SqL K H p ys∨SqT K H p ys)∧Q (.int ys.length) H) (zab (zad 0) zam)) (tC (.int 12)))))) (zbo (tC (.bl false))) zaR)
theorem zaA (K:PySem.W.Frag) (D:zbO) (σ:St) (H:Hp):zdB K D σ H=(zbE (tOr (ziw (tB (tCB (zgW K) (zab (zad 0) (zab (tC (.ty "list")) zam))))) (tOr (zaQ (tOp (rI0 fun i j=>.bl (decide (i<j))) (tCB (fun xs H Q=>∃ p ys,xs=[.ref p]∧(SqL K H p ys∨SqT K H p ys)∧Q (.int ys.length) H) (zab (zad 0) zam)) (tC (.int 1)))) (zaQ (tOp (rI0 fun i j=>.bl (decide (j<i))) (tCB (fun xs H Q=>∃ p ys,xs=[.ref p]∧(SqL K H p ys∨SqT K H p ys)∧Q (.int ys.length) H) (zab (zad 0) zam)) (tC (.int 12)))))) (zbo (tC (.bl false))) zaR) D σ H:=rfl
def zcX (K:PySem.W.Frag):TS :=
 (zaM (zdy (zdB K))
 (zdz K))
theorem zqj {t:Tr} {y:V} {x0 x1:Option V} {D:zbO} (h:Sh H t y) (q1:isW t=true→D.nx [x0,x1,some y] H) (q0:isW t=false→D.rt (.bl false) H):zbJ K D [x0,x1,some y] H:=by
 simp_all only [zaT,zay,zaz,zaA,zad]
 cases h with
 | int i =>
  refine zgN ⟨false,rfl,znt ?_⟩
  refine zhz ⟨true,rfl,?_⟩
  rw [if_neg (by decide)]
  exact q1 rfl
 | non =>
  refine zbP .non (zgE K) ⟨false,rfl,znt ?_⟩
  refine zbP .non (zdZ K) ⟨false,rfl,?_⟩
  rw [if_pos (by decide)]
  exact q0 rfl
 | bl b =>
  refine zbP (.bl b) zjT ⟨true,rfl,zuh ?_⟩
  exact q0 rfl
 | str x =>
  refine zbP (.str x) (zlB K) ⟨false,rfl,znt ?_⟩
  refine zbP (.str x) (zhR K) ⟨false,rfl,?_⟩
  rw [if_pos (by decide)]
  exact q0 rfl
 | lst h _ _ =>
  refine zbP (.lst h) (zjX K) ⟨false,rfl,znt ?_⟩
  refine zbP (.lst h) (zgI K) ⟨false,rfl,?_⟩
  rw [if_pos (by decide)]
  exact q0 rfl
 | tup h _ _ =>
  refine zbP (.tup h) (ziH K) ⟨false,rfl,znt ?_⟩
  refine zbP (.tup h) (zfl K) ⟨false,rfl,?_⟩
  rw [if_pos (by decide)]
  exact q0 rfl
theorem zgZ {v:V} {o:Option Tr} (h:ShO H o v) (q:Q (.bl (zbA o)) H):zcX K { nx:=fun _ H'=>Q .non H',rt:=Q } (L2.zbi ["_law_thing_here","_law_row","_law_number"] [v]) H:=by
 unfold zcX
 simp_all only [zaT,zay,zad]
 by_cases il:∃ ts,o=some (.lst ts)
 ·obtain ⟨ts,rfl⟩:=il
  have h:Sh H (.lst ts) v:=h
  have q:Q (.bl (zeG (.lst ts))) H:=q
  cases h with
  | @lst p xs _ hp l el =>
  have qf:zeG (.lst ts)=false→Q (.bl false) H:=fun e=>by rw [← e];exact q
  refine ⟨fun σ H'=>H'=H∧1≤ts.length∧ts.length≤12∧σ=[some (.ref p),none,none],?_,?_⟩
  ·simp_all only [zaT,zay,zaz,zaA,zad]
   refine zdO hp ⟨true,rfl,?_⟩
   simp_all only [zaT,zay,zaz,zaA,zad]
   refine ⟨_,.inl (SqL.of hp),?_⟩
   refine zdH (fun c=>qf (zpg (by omega))) (fun c=>⟨_,.inl (SqL.of hp),zdH (fun c2=>qf (zpg (by omega))) (fun c2=>⟨by omega,by omega⟩)⟩)
  ·rintro σ H1 ⟨rfl,l1,l12,rfl⟩
   simp_all only [zaz,zaA,zad]
   have hd:ts.headD .non=ts[0]'(by omega):=by
    cases ts with
    | nil=>exact absurd l1 (by decide)
    | cons u v=>rfl
   have t0:ts[0]?=some (ts[0]'(by omega)):=List.getElem?_eq_getElem _
   have x0:xs[0]?=some (xs[0]'(by omega)):=List.getElem?_eq_getElem _
   refine ⟨⟨_,SqL.of hp⟩,?_⟩
   refine zej (K:=K) (xs:=xs) (fun i σ H'=>H'=H1∧(∀ (j:Nat) r,j<i→ts[j]?=some r→zlF r=true∧trL r=trL (ts.headD .non))∧∃ x1 x2,σ=[some (.ref p),x1,x2]) ⟨rfl,fun j r hj=>absurd hj (Nat.not_lt_zero j),_,_,rfl⟩ (fun i σ H' _ ⟨e,_⟩=>by rw [e];exact SqL.of hp) ?_ ?_
   ·rintro i x σ H' hx ⟨rfl,inv,x1,x2,rfl⟩
    have hi:=(List.getElem?_eq_some_iff.mp hx).1
    have et:ts[i]?=some (ts[i]'(by omega)):=List.getElem?_eq_getElem _
    have sh:=el i x _ hx et
    generalize ts[i]'(by omega)=r at et sh
    simp_all only [zay,zaz,zaA,zad]
    refine ⟨fun σ H2=>H2=H'∧(∃ us,r=.lst us∧1≤us.length∧us.length≤12∧us.length=trL (ts.headD .non))∧σ=[some (.ref p),some x,x2],?_,?_⟩
    ·simp_all only [zay,zaz,zaA,zad]
     by_cases ir:∃ us,r=.lst us
     ·obtain ⟨us,rfl⟩:=ir
      cases sh with
      | @lst y ys _ hy ly ey =>
      have bad:(¬ (1≤us.length∧us.length≤12))→zeG (.lst ts)=false:=fun b=>zks et fun z=>by
       obtain ⟨us',e,u1,u2,_⟩:=zh5 z
       cases e
       exact (b ⟨u1,u2⟩).elim
      refine zdO hy ⟨true,rfl,?_⟩
      simp_all only [zaT,zay,zaz,zaA,zad]
      refine ⟨_,.inl (SqL.of hy),zdH (fun c=>qf (bad (by omega))) (fun c=>⟨_,.inl (SqL.of hy),zdH (fun c2=>qf (bad (by omega))) (fun c2=>?_)⟩)⟩
      have fst:∃ (p0:Addr) (y0:List V),xs[0]?=some (.ref p0)∧H' p0=some (.lst y0)∧y0.length=trL (ts.headD .non):=by
       rw [hd]
       by_cases i0:i=0
       ·subst i0
        rw [t0] at et
        injection et with et
        rw [et]
        exact ⟨y,ys,hx,hy,ly⟩
       ·obtain ⟨p0,y0,e0,h0,l0⟩:=(el 0 _ _ x0 t0).row (inv 0 _ (by omega) t0).1
        exact ⟨p0,y0,by rw [x0,e0],h0,l0⟩
      obtain ⟨p0,y0,e0,h0,l0⟩:=fst
      refine ⟨_,.inl (SqL.of hy),_,SqL.of hp,_,zcc (j:=0) e0,_,rfl,_,.inl (SqL.of h0),?_⟩
      rw [ly,l0]
      refine zdH (fun c3=>qf (zks et fun _ z=>?_)) (fun c3=>⟨us,rfl,by omega,by omega,?_⟩)
      ·have z:us.length=trL (ts.headD .non):=z
       rw [z] at c3
       simp at c3
      ·generalize trL (ts.headD .non)=z at c3 ⊢
       simp at c3
       omega
     ·refine zmD sh (fun us z=>ir ⟨us,z⟩) ⟨false,rfl,?_⟩
      refine qf (zks et fun z=>?_)
      obtain ⟨us,e,_⟩:=zh5 z
      exact (ir ⟨us,e⟩).elim
    ·rintro σ H2 ⟨rfl,⟨us,rfl,u1,u12,ul⟩,rfl⟩
     simp_all only [zay,zaz,zaA,zad]
     cases sh with
     | @lst y ys _ hy ly ey =>
     refine ⟨_,rfl,⟨_,SqL.of hy⟩,?_⟩
     refine zej (K:=K) (xs:=ys) (fun j σ H3=>H3=H2∧(∀ (k:Nat) u,k<j→us[k]?=some u→isW u=true)∧∃ x2,σ=[some (.ref p),some (.ref y),x2]) ⟨rfl,fun j r hj=>absurd hj (Nat.not_lt_zero j),_,rfl⟩ (fun i σ H' _ ⟨e,_⟩=>by rw [e];exact SqL.of hy) ?_ ?_
     ·rintro j z σ H3 hz ⟨rfl,inv2,x2,rfl⟩
      have hj:=(List.getElem?_eq_some_iff.mp hz).1
      have eu:us[j]?=some (us[j]'(by omega)):=List.getElem?_eq_getElem _
      simp_all only [zay,zaz,zaA,zad]
      refine zqj (ey j z _ hz eu) ?_ ?_
      ·intro w
       refine ⟨rfl,fun k u hk hu=>?_,_,rfl⟩
       by_cases ek:k=j
       ·subst ek
        rw [eu] at hu
        cases hu
        exact w
       ·exact inv2 k u (by omega) hu
      ·intro w
       refine qf (zks et fun g=>?_)
       obtain ⟨us',e,_,_,uu⟩:=zh5 g
       cases e
       obtain ⟨n,en⟩:=uu _ (zb8 eu)
       rw [en] at w
       cases w
     ·rintro σ H3 ⟨rfl,inv2,x2,rfl⟩
      refine ⟨rfl,fun k r hk hr=>?_,_,_,rfl⟩
      by_cases ek:k=i
      ·subst ek
       rw [et] at hr
       cases hr
       refine ⟨?_,ul⟩
       rw [zfk,decide_eq_true u1,decide_eq_true u12,Bool.true_and,Bool.true_and,List.all_eq_true]
       intro u hu
       obtain ⟨j,hj⟩:=List.mem_iff_getElem?.mp hu
       exact inv2 j u (by have:=(List.getElem?_eq_some_iff.mp hj).1;omega) hj
      ·exact inv k r (by omega) hr
   ·rintro σ H2 ⟨rfl,inv,x1,x2,rfl⟩
    simp_all only [zaT,zay,zaz,zaA,zad]
    have e:zeG (.lst ts)=true:=zqc l1 l12 fun i r hr=>inv i r (by have:=(List.getElem?_eq_some_iff.mp hr).1;omega) hr
    rw [← e]
    exact q
 ·have nl:∀ ts,o≠some (.lst ts):=fun ts z=>il ⟨ts,z⟩
  refine ⟨fun _ _=>False,?_,fun _ _ z=>z.elim⟩
  simp_all only [zaT,zay,zaz,zaA,zad]
  rw [noTbl nl] at q
  exact ztu h nl ⟨false,rfl,q⟩
theorem zcC:zaI ["_law_thing_here","_law_row","_law_number"] ["_law_thing_here"] (zaj zc3):=⟨rfl,rfl,rfl,by decide +kernel,rfl,by decide +kernel,by decide +kernel⟩
theorem zg5 (T:Txt K mg base a):zcw P w K mg base CX0 1 a.f__law_is_table a.d__law_is_table ["_law_thing_here"] zod:=by
 refine T.F__law_is_table.ok zcC (fun vs H Q E h=>?_) (fun cdv A outer s H vs Q E hr h=>?_)
 ·obtain ⟨v,o,rfl,h,q⟩:=h
  rfl
 obtain ⟨v,o,rfl,h,q⟩:=h
 exact ⟨zcX K,(zaf (zbq (zbD (PW.pt (zkN (zet (zc5 (zas zbn rfl T.z_isinstance PyProof.Rows.boot_isinstance (zaa (pv 0) (zaa (zdI rfl T.z_list zc4 rfl) zae))))) (zkN (zaU zhQ (zas zar rfl T.z_len PySem.boot_len (zaa (pv 0) zae)) zai (za4 _)) (zk4 (zaU zqz (zas zar rfl T.z_len PySem.boot_len (zaa (pv 0) zae)) zai (za4 _)))))) (zak (zaJ zft)) zaN))
 (zaf (zfP PassesOwn.never rfl (zci (pv 0)) (zaW (i:=1) zcC.nd rfl (Or.inl rfl))
 (zaf (zbq (zbD (PW.pt (zkN (zet (zc5 (zas zbn rfl T.z_isinstance PyProof.Rows.boot_isinstance (zaa (pv 1) (zaa (zdI rfl T.z_list zc4 rfl) zae))))) (zkN (zaU zhQ (zas zar rfl T.z_len PySem.boot_len (zaa (pv 1) zae)) zai (za4 _)) (zkN (zaU zqz (zas zar rfl T.z_len PySem.boot_len (zaa (pv 1) zae)) zai (za4 _)) (zk4 (zaU zs5 (zas zar rfl T.z_len PySem.boot_len (zaa (pv 1) zae)) (zas zar rfl T.z_len PySem.boot_len (zaa (zaO zat (pv 0) zai (fun _ _=>rfl)) zae)) (za4 _))))))) (zak (zaJ zft)) zaN))
 (zak (zfP PassesOwn.never rfl (zci (pv 1)) (zaW (i:=2) zcC.nd rfl (Or.inl rfl))
 (zak (zbD (PW.pt (zkN (zc5 (zas zbn rfl T.z_isinstance PyProof.Rows.boot_isinstance (zaa (pv 2) (zaa (zdI rfl T.z_bool zlt rfl) zae)))) (zk4 (zet (zc5 (zas zbn rfl T.z_isinstance PyProof.Rows.boot_isinstance (zaa (pv 2) (zaa (zdI rfl T.z_int zmQ rfl) zae)))))))) (zak (zaJ zft)) zaN))))))
 (zak (zaJ zft)))),
  zgZ h q⟩
def zsR (a:Ad):Sp:=fun vs H Q _=>∃ (v:V) (o:Option Tr) (k:Int),vs=[v,.int k]∧0≤k∧k<4∧ShO H o v∧zms o∧zbA o=false∧ztB o∧LT H a.p_lam∧∀ H',za0 H H'→Q (.bl true) H'
def zb1 (K:PySem.W.Frag) (a:Ad):TS :=
 (zbo (ziU (tCB (zgW K) (zab (zad 2) (zab (tC (.ref a.c_NoTable)) zam))) (tCB (zgW K) (zab (zad 2) (zab (tC (.ty "ValueError")) zam)))))
theorem zaC (K:PySem.W.Frag) (a:Ad) (D:zbO) (σ:St) (H:Hp):zb1 K a D σ H=(zbo (ziU (tCB (zgW K) (zab (zad 2) (zab (tC (.ref a.c_NoTable)) zam))) (tCB (zgW K) (zab (zad 2) (zab (tC (.ty "ValueError")) zam))))) D σ H:=rfl
def zbZ (K:PySem.W.Frag) (a:Ad):TS :=
 (zbE (tB (tCB (znb K) (zab (zad 2) (zab (zgS (zab (tC (.ref a.c_NoRoad)) (zab (tC (.ref a.c_NoRow)) (zab (tC (.ref a.c_NoText)) (zab (tC (.ref a.c_NoTree)) (zab (tC (.ref a.c_NoTurns)) (zab (tC (.ref a.c_NoWeb)) (zab (tC (.ref a.c_NoWeights)) (zab (tC (.ref a.c_TooGreat)) zam))))))))) zam)))) (zbo (tC (.bl false))) zaR)
theorem zaE (K:PySem.W.Frag) (a:Ad) (D:zbO) (σ:St) (H:Hp):zbZ K a D σ H=(zbE (tB (tCB (znb K) (zab (zad 2) (zab (zgS (zab (tC (.ref a.c_NoRoad)) (zab (tC (.ref a.c_NoRow)) (zab (tC (.ref a.c_NoText)) (zab (tC (.ref a.c_NoTree)) (zab (tC (.ref a.c_NoTurns)) (zab (tC (.ref a.c_NoWeb)) (zab (tC (.ref a.c_NoWeights)) (zab (tC (.ref a.c_TooGreat)) zam))))))))) zam)))) (zbo (tC (.bl false))) zaR) D σ H:=rfl
def zb0 (K:PySem.W.Frag) (a:Ad):TS :=
 (zbE (tB (tCB (znb K) (zab (zad 2) (zab (zgS (zab (tC (.ref a.c_NoBoxes)) (zab (tC (.ref a.c_NoBudget)) (zab (tC (.ref a.c_NoKind)) (zab (tC (.ref a.c_NoName)) (zab (tC (.ref a.c_NoNumber)) (zab (tC (.ref a.c_NoOrder)) (zab (tC (.ref a.c_NoPaper)) (zab (tC (.ref a.c_NoPlan)) (zab (tC (.ref a.c_NoPlay)) zam)))))))))) zam)))) (zbo (tC (.bl false))) zaR)
theorem zaD (K:PySem.W.Frag) (a:Ad) (D:zbO) (σ:St) (H:Hp):zb0 K a D σ H=(zbE (tB (tCB (znb K) (zab (zad 2) (zab (zgS (zab (tC (.ref a.c_NoBoxes)) (zab (tC (.ref a.c_NoBudget)) (zab (tC (.ref a.c_NoKind)) (zab (tC (.ref a.c_NoName)) (zab (tC (.ref a.c_NoNumber)) (zab (tC (.ref a.c_NoOrder)) (zab (tC (.ref a.c_NoPaper)) (zab (tC (.ref a.c_NoPlan)) (zab (tC (.ref a.c_NoPlay)) zam)))))))))) zam)))) (zbo (tC (.bl false))) zaR) D σ H:=rfl
def zdh (K:PySem.W.Frag) (a:Ad):TS :=
 (zaM (za6 (tC .non) (zao 2))
 (zaM (tTry K (fun E'=>(zaM (zdy (zbE (zaQ (tOp rEq (zad 1) (tC (.int 0)))) (zfH (zi5 (zhb a) [] E' (zab (zad 0) zam))) zaR))
 (zaM (zdy (zbE (zaQ (tOp rEq (zad 1) (tC (.int 1)))) (zfH (zi5 (zrH a) [] E' (zab (zad 0) (zab (zgS (zab (tC (.int 0)) (zab (tC (.int 1)) zam))) (zab (zb5 zam) (zab (tC .non) zam)))))) zaR))
 (zaM (zdy (zbE (zaQ (tOp rEq (zad 1) (tC (.int 2)))) (zfH (zi5 (zjM a) [] E' (zab (zad 0) (zab (zb5 zam) zam)))) zaR))
 (zbE (zaQ (tOp rEq (zad 1) (tC (.int 3)))) (zfH (zi5 (zjM a) [] E' (zab (zad 0) (zab (zb5 (zab (tUn (rU fun i=>.int (-i)) (tC (.int 1))) zam)) zam)))) zaR))))) (.ref a.c_HideError) 3
 (za6 (zad 3) (zao 2)))
 (zaM (zdy (zb0 K a))
 (zaM (zdy (zbZ K a))
 (zb1 K a)))))
theorem zsV {σ0 σ1:Option V} {ex:Addr} {H1:Hp} (I:Isa K a) (h1:H1 ex=some (zqh ex (.ref a.c_NoTable))) (q:∀ H',za0 H1 H'→Q (.bl true) H') {nx':St→Hp→Prop} :
  zdy (zb0 K a) { nx:=zaM (zdy (zbZ K a)) (zb1 K a) { nx:=nx',rt:=Q },rt:=Q } [σ0,σ1,some (.ref ex),none] H1:=by
 refine ⟨fun σ H'=>za0 H1 H'∧σ=[σ0,σ1,some (.ref ex),none],?_,?_⟩
 ·simp_all only [zaC,zaE,zaD,zad]
  refine ⟨by decide,fun u hu=>?_⟩
  exact ⟨_,_,zap hu _ _ _ h1,I.ec,SqT.of zag,_,rfl,false,by simp only [PySem.W.kitAny,I.k_NoBoxes,I.k_NoBudget,I.k_NoKind,I.k_NoName,I.k_NoNumber,I.k_NoOrder,I.k_NoPaper,I.k_NoPlan,I.k_NoPlay],znt (zap hu _)⟩
 rintro σ H2 ⟨s2,rfl⟩
 simp_all only [zaC,zaE,zaD,zad]
 refine ⟨fun σ H'=>za0 H1 H'∧σ=[σ0,σ1,some (.ref ex),none],?_,?_⟩
 ·simp_all only [zaC,zaE,zaD,zad]
  refine ⟨by decide,fun u hu=>?_⟩
  exact ⟨_,_,zap hu _ _ _ (s2 _ _ h1),I.ec,SqT.of zag,_,rfl,false,by simp only [PySem.W.kitAny,I.k_NoRoad,I.k_NoRow,I.k_NoText,I.k_NoTree,I.k_NoTurns,I.k_NoWeb,I.k_NoWeights,I.k_TooGreat],znt (s2.add hu)⟩
 rintro σ H3 ⟨s3,rfl⟩
 simp_all only [zaC,zaE,zaD,zad]
 refine zpa rfl (s3 _ _ h1) I.ec I.k_NoTable ⟨true,rfl,zuh ?_⟩
 exact zpa rfl (s3 _ _ h1) I.ec I.k_ValueError (q _ s3)
theorem zh7 {v:V} {o:Option Tr} {k:Int} (I:Isa K a) (k0:0≤k) (k4:k<4) (h:ShO H o v) (l:zms o) (b:zbA o=false) (sm:ztB o) (L:LT H a.p_lam) (q:∀ H',za0 H H'→Q (.bl true) H') :
  zdh K a { nx:=fun _ H'=>Q .non H',rt:=Q } (L2.zbi ["_law_thing_here","_law_which","_law_caught","e"] [v,.int k]) H:=by
 unfold zdh
 simp_all only [zaC,zaE,zaD,zad]
 have no:∀ {P:Prop},zbA o=true→P:=fun z=>by rw [b] at z;cases z
 have fin:∀ {H1:Hp} {ex:Addr} {nx':St→Hp→Prop},za0 H H1→H1 ex=none→zdy (zb0 K a) { nx:=zaM (zdy (zbZ K a)) (zb1 K a) { nx:=nx',rt:=Q },rt:=Q } [some v,some (.int k),some (.ref ex),none] (L2.upd H1 ex (zqh ex (.ref a.c_NoTable))):=fun s1 nx=>zsV I zag fun H' s=>q H' ((s1.add nx).trans s)
 refine ⟨fun σ H'=>H'=H∧k≠0∧σ=[some v,some (.int k),some .non,none],?_,?_⟩
 ·simp_all only [zaC,zaE,zaD,zad]
  refine zdH (fun z=>?_) (fun z=>z)
  exact ⟨v,o,rfl,h,l,sm,L,fun z=>no z,fun _ H1 s1=>⟨I.ec,I.sub,fun x nx=>fin s1 nx⟩⟩
 rintro σ H1 ⟨rfl,z0,rfl⟩
 simp_all only [zaC,zaE,zaD,zad]
 refine ⟨fun σ H'=>H'=H1∧k≠1∧σ=[some v,some (.int k),some .non,none],?_,?_⟩
 ·simp_all only [zaC,zaE,zaD,zad]
  refine zdH (fun z=>?_) (fun z=>z)
  refine ⟨by decide,fun u hu=>⟨by decide,fun w hw=>?_⟩⟩
  have s2:=(zap hu (.tup [.int 0,.int 1])).add hw (o:=.lst [])
  exact ⟨v,_,_,_,o,rfl,h.same s2,l,b,fun H2 s3=>⟨I.ec,I.sub,fun x nx=>fin (s2.trans s3) nx⟩⟩
 rintro σ H2 ⟨rfl,z1,rfl⟩
 simp_all only [zaC,zaE,zaD,zad]
 refine ⟨fun σ H'=>H'=H2∧k≠2∧σ=[some v,some (.int k),some .non,none],?_,?_⟩
 ·simp_all only [zaC,zaE,zaD,zad]
  refine zdH (fun z=>?_) (fun z=>z)
  refine ⟨by decide,fun u hu=>?_⟩
  have s2:=zap hu (.lst [])
  exact ⟨v,_,o,rfl,h.same s2,l,b,fun H2 s3=>⟨I.ec,I.sub,fun x nx=>fin (s2.trans s3) nx⟩⟩
 rintro σ H3 ⟨rfl,z2,rfl⟩
 simp_all only [zaC,zaE,zaD,zad]
 rw [if_pos (by omega)]
 refine ⟨by decide,fun u hu=>?_⟩
 have s2:=zap hu (.lst [.int (-1)])
 exact ⟨v,_,o,rfl,h.same s2,l,b,fun H2 s3=>⟨I.ec,I.sub,fun x nx=>fin (s2.trans s3) nx⟩⟩
theorem zce:zaI ["_law_thing_here","_law_which","_law_caught","e"] ["_law_thing_here","_law_which"] (zaj zdn):=⟨rfl,rfl,rfl,by decide +kernel,rfl,by decide +kernel,by decide +kernel⟩
theorem zin (T:Txt K mg base a):zcw P w K mg base CX0 8 a.f__law_refused a.d__law_refused ["_law_thing_here","_law_which"] (zsR a):=by
 have G_best_columns:=zhL (P:=P) (w:=w) (base:=base) T
 have G_best_rows:=zk7 (P:=P) (w:=w) (base:=base) T
 have G_table_judged:=zhF (P:=P) (w:=w) (base:=base) T
 have G_table_worth:=zeP (P:=P) (w:=w) (base:=base) T
 refine T.F__law_refused.ok zce (fun vs H Q E h=>?_) (fun cdv A outer s H vs Q E hr h=>?_)
 ·obtain ⟨v,o,k,rfl,k0,k4,h,l,b,sm,L,q⟩:=h
  rfl
 obtain ⟨v,o,k,rfl,k0,k4,h,l,b,sm,L,q⟩:=h
 exact ⟨zdh K a,(zaf (zaL (i:=2) zce.nd rfl (Or.inl rfl) zd2)
 (zaf (zul (i:=3) T.m_HideError T.x_HideError rfl zce.nd rfl rfl rfl rfl rfl rfl (fun pins E'=>(zaf (zbq (zbD (zaU zgh (pv 1) zai (za4 _)) (zak (zdo (zhe G_table_worth (hr.mono (by decide)) rfl T.m_table_worth T.F_table_worth.kp T.b_table_worth .nil zqE (zaa (pv 0) zae)))) zaN))
 (zaf (zbq (zbD (zaU zgh (pv 1) zai (za4 _)) (zak (zdo (zhe G_table_judged (hr.mono (by decide)) rfl T.m_table_judged T.F_table_judged.kp T.b_table_judged .nil zqE (zaa (pv 0) (zaa (zdY (zaa zai (zaa zai zae))) (zaa (za9 zae) (zaa zd2 zae))))))) zaN))
 (zaf (zbq (zbD (zaU zgh (pv 1) zai (za4 _)) (zak (zdo (zhe G_best_rows (hr.mono (by decide)) rfl T.m_best_rows T.F_best_rows.kp T.b_best_rows .nil zqE (zaa (pv 0) (zaa (za9 zae) zae))))) zaN))
 (zak (zbD (zaU zgh (pv 1) zai (za4 _)) (zak (zdo (zhe G_best_columns (hr.mono (by decide)) rfl T.m_best_columns T.F_best_columns.kp T.b_best_columns .nil zqE (zaa (pv 0) (zaa (za9 (zaa (ze6 zc7 zai) zae)) zae))))) zaN))))))
 (fun ea=>(zak (zaL (i:=2) zce.nd rfl (Or.inl rfl) (pv 3)))))
 (zaf (zbq (zbD (zc5 (zas zkU rfl T.z_isinstance PyProof.Rows.boot_isinstance (zaa (pv 2) (zaa (zdY (zaa (zbr rfl T.m_NoBoxes rfl) (zaa (zbr rfl T.m_NoBudget rfl) (zaa (zbr rfl T.m_NoKind rfl) (zaa (zbr rfl T.m_NoName rfl) (zaa (zbr rfl T.m_NoNumber rfl) (zaa (zbr rfl T.m_NoOrder rfl) (zaa (zbr rfl T.m_NoPaper rfl) (zaa (zbr rfl T.m_NoPlan rfl) (zaa (zbr rfl T.m_NoPlay rfl) zae)))))))))) zae)))) (zak (zaJ zft)) zaN))
 (zaf (zbq (zbD (zc5 (zas zkU rfl T.z_isinstance PyProof.Rows.boot_isinstance (zaa (pv 2) (zaa (zdY (zaa (zbr rfl T.m_NoRoad rfl) (zaa (zbr rfl T.m_NoRow rfl) (zaa (zbr rfl T.m_NoText rfl) (zaa (zbr rfl T.m_NoTree rfl) (zaa (zbr rfl T.m_NoTurns rfl) (zaa (zbr rfl T.m_NoWeb rfl) (zaa (zbr rfl T.m_NoWeights rfl) (zaa (zbr rfl T.m_TooGreat rfl) zae))))))))) zae)))) (zak (zaJ zft)) zaN))
 (zak (zaJ (zje (zas zbn rfl T.z_isinstance PyProof.Rows.boot_isinstance (zaa (pv 2) (zaa (zbr rfl T.m_NoTable rfl) zae))) (zja (zas zbn rfl T.z_isinstance PyProof.Rows.boot_isinstance (zaa (pv 2) (zaa (zdI rfl T.z_ValueError zhC rfl) zae))))))))))),
  zh7 T.I k0 k4 h l b sm L q⟩
structure ShL (H:Hp) (ts:List Tr) (xs:List V):Prop where
 len:xs.length=ts.length
 el:∀ (i:Nat) x t,xs[i]?=some x→ts[i]?=some t→Sh H t x
theorem ShL.nil:ShL H [] []:=⟨rfl,fun i x t e _=>by cases e⟩
theorem ShL.one {t:Tr} {x:V} (h:Sh H t x):ShL H [t] [x]:=⟨rfl,fun i y u e1 e2=>by
 match i,e1,e2 with
 | 0,e1,e2=>cases e1;cases e2;exact h⟩
theorem ShL.append {ts us:List Tr} {xs ys:List V} (h:ShL H ts xs) (g:ShL H us ys):ShL H (ts++us) (xs++ys):=by
 refine ⟨by rw [List.length_append,List.length_append,h.len,g.len],fun i x t e1 e2=>?_⟩
 by_cases c:i<xs.length
 ·rw [List.getElem?_append_left c] at e1
  rw [List.getElem?_append_left (by rw [← h.len];exact c)] at e2
  exact h.el i x t e1 e2
 ·rw [List.getElem?_append_right (by omega)] at e1
  rw [List.getElem?_append_right (by rw [← h.len];omega),← h.len] at e2
  exact g.el _ x t e1 e2
theorem ShL.cons {t:Tr} {ts:List Tr} {x:V} {xs:List V} (h:Sh H t x) (g:ShL H ts xs):ShL H (t::ts) (x::xs):=(ShL.one h).append g
theorem ShL.rep {ts:List Tr} {xs:List V} (h:ShL H ts xs):∀ n:Nat,ShL H (List.replicate n ts).flatten (List.replicate n xs).flatten
 | 0=>ShL.nil
 | n+1=>by
  rw [List.replicate_succ,List.replicate_succ,List.flatten_cons,List.flatten_cons]
  exact h.append (h.rep n)
theorem ShL.drop {ts:List Tr} {xs:List V} (h:ShL H ts xs) (n:Nat):ShL H (ts.drop n) (xs.drop n) :=
 ⟨by rw [List.length_drop,List.length_drop,h.len],fun i x t e1 e2=>by
  rw [List.getElem?_drop] at e1 e2
  exact h.el _ x t e1 e2⟩
theorem ShL.take {ts:List Tr} {xs:List V} (h:ShL H ts xs) (n:Nat):ShL H (ts.take n) (xs.take n) :=
 ⟨by rw [List.length_take,List.length_take,h.len],fun i x t e1 e2=>by
  by_cases c:i<n
  ·rw [List.getElem?_take_of_lt c] at e1 e2
   exact h.el _ x t e1 e2
  ·rw [List.getElem?_take_eq_none (by omega)] at e1
   cases e1⟩
theorem ShL.set {ts:List Tr} {xs:List V} (h:ShL H ts xs) {t:Tr} {x:V} (g:Sh H t x) (n:Nat):ShL H (ts.set n t) (xs.set n x) :=
 ⟨by rw [List.length_set,List.length_set,h.len],fun i y u e1 e2=>by
  rw [List.getElem?_set] at e1 e2
  by_cases c:n=i
  ·rw [if_pos c] at e1 e2
   by_cases d:n<xs.length
   ·rw [if_pos d] at e1
    rw [if_pos (by rw [← h.len];exact d)] at e2
    cases e1
    cases e2
    exact g
   ·rw [if_neg d] at e1
    cases e1
  ·rw [if_neg c] at e1 e2
   exact h.el i y u e1 e2⟩
theorem ShL.same {H':Hp} {ts:List Tr} {xs:List V} (h:ShL H ts xs) (s:za0 H H'):ShL H' ts xs:=⟨h.len,fun i x t e1 e2=>(h.el i x t e1 e2).same s⟩
theorem ShL.sh {ts:List Tr} {xs:List V} {p:Addr} (h:ShL H ts xs) (e:H p=some (.lst xs)):Sh H (.lst ts) (.ref p):=.lst e h.len h.el
theorem ShL.tp {ts:List Tr} {xs:List V} {p:Addr} (h:ShL H ts xs) (e:H p=some (.tup xs)):Sh H (.tup ts) (.ref p):=.tup e h.len h.el
theorem ShL.ints (ns:List Int):ShL H (ns.map Tr.int) (ns.map V.int):=⟨by rw [List.length_map,List.length_map],fun i x t e1 e2=>by
 obtain ⟨n,hn,rfl⟩:=zbU e1
 obtain ⟨m,hm,rfl⟩:=zbU e2
 rw [hn] at hm
 cases hm
 exact .int _⟩
theorem ShL.put {ts:List Tr} {xs:List V} {p:Addr} (h:ShL H ts xs) (hp:H p=none):Sh (L2.upd H p (.lst xs)) (.lst ts) (.ref p):=(h.same (zap hp _)).sh zag
def zqw (ts:List Tr) (lo hi:Option Int):List Tr:=(ts.drop (HT.sIx ts.length 0 lo)).take (HT.sIx ts.length ts.length hi - HT.sIx ts.length 0 lo)
theorem ShL.cut {ts:List Tr} {xs:List V} (h:ShL H ts xs) (lo hi:Option Int):ShL H (zqw ts lo hi) (zkG xs lo hi):=by
 unfold zqw zkG
 rw [h.len]
 exact (h.drop _).take _
def ziX (s:Ps):Nat→List Int×Ps
 | 0=>([],s)
 | k+1=>((ziX s k).1++[drF (ziX s k).2 5 - 2],nxF (ziX s k).2 5)
def zlE (s:Ps) (w:Nat):Nat→List (List Int)×Ps
 | 0=>([],s)
 | k+1=>((zlE s w k).1++[(ziX (zlE s w k).2 w).1],(ziX (zlE s w k).2 w).2)
theorem zjH (s:Ps):∀ k,(ziX s k).1.length=k
 | 0=>rfl
 | k+1=>by
  show ((ziX s k).1++[drF (ziX s k).2 5 - 2]).length=_
  rw [List.length_append,zjH s k]
  rfl
theorem zjS {s:Ps} (h:s.ok):∀ k,(ziX s k).2.ok∧(ziX s k).2.c=s.c+k
 | 0=>⟨h,by show s.c=s.c+((0:Nat):Int);omega⟩
 | k+1=>⟨(zjS h k).1.nx (by decide),by
  have:=(zjS h k).2
  show (ziX s k).2.c+1=_
  omega⟩
theorem zoR (s:Ps):∀ k,∀ x∈(ziX s k).1,-2≤x∧x≤2
 | 0,x,h=>absurd h List.not_mem_nil
 | k+1,x,h=>by
  rcases List.mem_append.mp h with h | h
  ·exact zoR s k x h
  ·rw [List.mem_singleton.mp h]
   have:=zeT (s:=(ziX s k).2) (m:=5) (by decide)
   omega
theorem zhm (s:Ps) (w:Nat):∀ k,(zlE s w k).1.length=k
 | 0=>rfl
 | k+1=>by
  show ((zlE s w k).1++[_]).length=_
  rw [List.length_append,zhm s w k]
  rfl
theorem zlO {s:Ps} (h:s.ok) (w:Nat):∀ k,(zlE s w k).2.ok∧(zlE s w k).2.c=s.c+((w*k:Nat):Int)
 | 0=>⟨h,by show s.c=s.c+((w*0:Nat):Int);omega⟩
 | k+1=>by
  have h1:=zlO h w k
  have h2:=zjS h1.1 w
  refine ⟨h2.1,?_⟩
  show (ziX (zlE s w k).2 w).2.c=_
  rw [h2.2,h1.2,Nat.mul_succ]
  omega
theorem zjY (s:Ps) (w:Nat):∀ k,∀ r∈(zlE s w k).1,r.length=w∧∀ x∈r,-2≤x∧x≤2
 | 0,r,h=>absurd h List.not_mem_nil
 | k+1,r,h=>by
  rcases List.mem_append.mp h with h | h
  ·exact zjY s w k r h
  ·rw [List.mem_singleton.mp h]
   exact ⟨zjH _ _,zoR _ _⟩
def rT (l:List Int):Tr:=.lst (l.map Tr.int)
def zm8 (R:List (List Int)) (w:Nat) (i:Int):List Tr :=
 [.lst [],.lst [.lst []],.lst (R.map rT++[.lst (List.replicate (w+1) [Tr.int 1]).flatten]),.lst (zqw (R.map rT) none (some i)++[.lst (zqw ((R.getD i.toNat []).map Tr.int) (some 1) none)]++zqw (R.map rT) (some (i+1)) none),.lst (R.map rT++(List.replicate 13 [Tr.lst []]).flatten),
   .lst (List.replicate 12 [Tr.lst (List.replicate w [Tr.int 0]).flatten]).flatten,.lst (List.replicate 13 [Tr.lst (List.replicate w [Tr.int 0]).flatten]).flatten,.lst [.lst (List.replicate 12 [Tr.int 1]).flatten],.lst [.lst (List.replicate 13 [Tr.int 1]).flatten],.lst (List.replicate 3 [Tr.lst []]).flatten,.tup (R.map rT)]
def ztO:List Tr:=[.bl true,.str "1",.non,.tup [.int 1]]
def thR (R:List (List Int)) (w:Nat) (i c:Int) (s:Ps):Option Tr :=
 if c<11 then some ((zm8 R w i).getD c.toNat .non)
 else if c<15 then some (.lst ((R.map rT).set i.toNat (.lst (((R.getD i.toNat []).map Tr.int).set (drF s w).toNat (ztO.getD (c - 11).toNat .non)))))
 else if c=15 then some (.lst ((R.map rT).set i.toNat ([Tr.tup ((R.getD i.toNat []).map Tr.int),.non,.int 7,.str "12"].getD (drF s 4).toNat .non)))
 else if c=16 then [some Tr.non,some (.int 5),some (.str ""),none].getD (drF s 4).toNat none
 else some (.lst (R.map rT))
def thF (s:Ps):Option Tr :=
 let w:=(1+drF s 3).toNat
 let s1:=nxF s 3
 let n:=(1+drF s1 3).toNat
 let t:=zlE (nxF s1 3) w n
 let i:=drF t.2 n
 let s4:=nxF t.2 n
 thR t.1 w i (drF s4 18) (nxF s4 18)
def okR:Tr→Prop
 | .lst us=>us.length≤100∧∀ u∈us,∀ i,u=.int i→Bd 102 i
 | _=>True
def okT:Option Tr→Prop
 | some (.lst ts)=>ts.length≤100∧∀ r∈ts,okR r
 | _=>True
theorem okT.shr {o:Option Tr} (h:okT o):zms o:=by
 cases o with
 | none=>trivial
 | some t =>
  cases t with
  | lst ts =>
   refine ⟨h.1,fun ts' e r hr=>?_⟩
   cases e
   have:=h.2 r hr
   cases r with
   | lst us=>exact this.1
   | _=>trivial
  | _=>exact ⟨trivial,fun ts' e=>by cases e⟩
theorem okT.sml {o:Option Tr} (h:okT o):ztB o:=by
 cases o with
 | none=>trivial
 | some t =>
  intro ts e r hr us eu u hu i ei
  cases e
  have:=h.2 r hr
  rw [eu] at this
  exact this.2 u hu i ei
theorem bdS {i:Int} (h:-8≤i∧i≤8):Bd 102 i:=by
 have:(9:Nat)≤2 ^ 102:=by decide
 show i.natAbs<2 ^ 102
 omega
theorem zpJ {l:List Int} (h:l.length≤100) (b:∀ x∈l,-2≤x∧x≤2):okR (rT l):=by
 refine ⟨by rw [List.length_map];exact h,fun u hu i e=>?_⟩
 obtain ⟨x,hx,rfl⟩:=List.mem_map.mp hu
 injection e with e
 rw [← e]
 have:=b x hx
 exact bdS (by omega)
theorem zmk {α:Type} {n:Nat} {x y:α} (h:y∈(List.replicate n [x]).flatten):y=x:=by
 obtain ⟨l,hl,hy⟩:=List.mem_flatten.mp h
 rw [List.eq_of_mem_replicate hl] at hy
 exact List.mem_singleton.mp hy
theorem zgi {α:Type} (n:Nat) (x:α):(List.replicate n [x]).flatten.length=n:=by
 induction n with
 | zero=>rfl
 | succ n ih=>rw [List.replicate_succ,List.flatten_cons,List.length_append,ih,List.length_singleton];omega
theorem zhB {n:Nat} {k:Int} (h:n≤100) (b:-8≤k∧k≤8):okR (.lst (List.replicate n [Tr.int k]).flatten):=by
 refine ⟨by rw [zgi];exact h,fun u hu i e=>?_⟩
 rw [zmk hu] at e
 cases e
 exact bdS b
theorem zma:okR (.lst []):=⟨Nat.zero_le _,fun u hu=>absurd hu List.not_mem_nil⟩
theorem zgs {ts:List Tr} {lo hi:Option Int} {t:Tr} (h:t∈zqw ts lo hi):t∈ts:=List.mem_of_mem_drop (List.mem_of_mem_take h)
theorem zhY (ts:List Tr) (lo hi:Option Int):(zqw ts lo hi).length≤ts.length:=by
 unfold zqw
 rw [List.length_take,List.length_drop]
 omega
theorem zgr {ts:List Tr} {n:Nat} {t r:Tr} (h:r∈ts.set n t):r∈ts∨r=t:=by
 rcases List.mem_or_eq_of_mem_set h with h | h
 ·exact .inl h
 ·exact .inr h
theorem ztX {R:List (List Int)} {w:Nat} {i c:Int} {s:Ps} (l3:R.length≤3) (w3:w≤3) (hR:∀ r∈R,r.length=w∧∀ x∈r,-2≤x∧x≤2):okT (thR R w i c s):=by
 have rk:∀ r∈R.map rT,okR r:=fun r hr=>by
  obtain ⟨l,hl,rfl⟩:=List.mem_map.mp hr
  exact zpJ (by have:=(hR l hl).1;omega) (hR l hl).2
 have rl:(R.map rT).length≤3:=by rw [List.length_map];exact l3
 have gi:∀ u∈(R.getD i.toNat []).map Tr.int,∀ k,u=.int k→Bd 102 k:=fun u hu k e=>by
  obtain ⟨x,hx,rfl⟩:=List.mem_map.mp hu
  injection e with e
  rw [← e]
  rw [List.getD_eq_getElem?_getD] at hx
  cases hz:R[i.toNat]? with
  | none=>rw [hz] at hx;cases hx
  | some r =>
   rw [hz] at hx
   have:=(hR r (zb8 hz)).2 x hx
   exact bdS (by omega)
 have gl:((R.getD i.toNat []).map Tr.int).length≤3:=by
  rw [List.length_map,List.getD_eq_getElem?_getD]
  cases hz:R[i.toNat]? with
  | none=>exact Nat.zero_le _
  | some r =>
   have:=(hR r (zb8 hz)).1
   show r.length≤3
   omega
 have app:∀ {ts us:List Tr} {n m:Nat},ts.length≤n→us.length≤m→n+m≤100→(∀ r∈ts,okR r)→(∀ r∈us,okR r)→okT (some (.lst (ts++us))):=fun h1 h2 h3 k1 k2=>⟨by rw [List.length_append];omega,fun r hr=>(List.mem_append.mp hr).elim (k1 r) (k2 r)⟩
 have one:∀ {t:Tr},okR t→∀ r∈[t],okR r:=fun h r hr=>by rw [List.mem_singleton.mp hr];exact h
 have rep:∀ {t:Tr} {n:Nat},okR t→∀ r∈(List.replicate n [t]).flatten,okR r:=fun h r hr=>by rw [zmk hr];exact h
 unfold thR
 split
 ·match c.toNat with
  | 0=>exact ⟨Nat.zero_le _,fun r hr=>absurd hr List.not_mem_nil⟩
  | 1=>exact ⟨by decide,one zma⟩
  | 2=>exact app rl (Nat.le_refl 1) (by decide) rk (one (zhB (by omega) (by decide)))
  | 3 =>
   refine app (n:=4) (m:=3) ?_ (Nat.le_trans (zhY _ _ _) rl) (by decide) (fun r hr=>?_) (fun r hr=>rk r (zgs hr))
   ·rw [List.length_append]
    have:=zhY (R.map rT) none (some i)
    show _+1≤4
    omega
   ·rcases List.mem_append.mp hr with hr | hr
    ·exact rk r (zgs hr)
    ·rw [List.mem_singleton.mp hr]
     exact ⟨Nat.le_trans (zhY _ _ _) (by omega),fun u hu=>gi u (zgs hu)⟩
  | 4=>exact app rl (Nat.le_of_eq (zgi 13 _)) (by decide) rk (rep zma)
  | 5=>exact ⟨by rw [zgi];decide,rep (zhB (by omega) (by decide))⟩
  | 6=>exact ⟨by rw [zgi];decide,rep (zhB (by omega) (by decide))⟩
  | 7=>exact ⟨by show 1≤100;decide,one (zhB (by decide) (by decide))⟩
  | 8=>exact ⟨by show 1≤100;decide,one (zhB (by decide) (by decide))⟩
  | 9=>exact ⟨by rw [zgi];decide,rep zma⟩
  | 10=>trivial
  | n+11=>trivial
 ·split
  ·refine ⟨by rw [List.length_set];omega,fun r hr=>?_⟩
   rcases zgr hr with hr | rfl
   ·exact rk r hr
   ·refine ⟨by rw [List.length_set];omega,fun u hu k e=>?_⟩
    rcases zgr hu with hu | rfl
    ·exact gi u hu k e
    ·exfalso
     match (c - 11).toNat,e with
     | 0,e=>cases e
     | 1,e=>cases e
     | 2,e=>cases e
     | 3,e=>cases e
     | n+4,e=>cases e
  ·split
   ·refine ⟨by rw [List.length_set];omega,fun r hr=>?_⟩
    rcases zgr hr with hr | rfl
    ·exact rk r hr
    ·match (drF s 4).toNat with
     | 0=>trivial
     | 1=>trivial
     | 2=>trivial
     | 3=>trivial
     | n+4=>trivial
   ·split
    ·match (drF s 4).toNat with
     | 0=>trivial
     | 1=>trivial
     | 2=>trivial
     | 3=>trivial
     | n+4=>trivial
    ·exact ⟨by omega,rk⟩
theorem zuc {s:Ps}:okT (thF s):=by
 have h1:=zeT (s:=s) (m:=3) (by decide)
 have h2:=zeT (s:=nxF s 3) (m:=3) (by decide)
 exact ztX (by rw [zhm];omega) (by omega) (zjY _ _ _)
def EvS (te:TE) (σ:St) (H:Hp) (t:Tr):Prop:=∀ (H1:Hp) (R:VK),za0 H H1→(∀ v H',za0 H1 H'→Sh H' t v→R v H')→te σ H1 R
def EvA (ta:TA) (σ:St) (H:Hp) (ts:List Tr):Prop:=∀ (H1:Hp) (R:List V→Hp→Prop),za0 H H1→(∀ vs H',za0 H1 H'→ShL H' ts vs→R vs H')→ta σ H1 R
def EvO (to:TO) (σ:St) (H:Hp) (o:Option Int):Prop:=∀ (H1:Hp) (R:Option Int→Hp→Prop),za0 H H1→(∀ H',za0 H1 H'→R o H')→to σ H1 R
section
variable {σ:St} {te ta tb:TE} {tas:TA} {tl th:TO} {t:Tr} {ts us:List Tr} {i j:Int} {o1 o2:Option Int}
theorem EvS.var {k:Nat} {v:V} (h:σ[k]?=some (some v)) (s:Sh H t v):EvS (zad k) σ H t:=fun H1 _ s1 q=>⟨v,h,q v H1 (.refl _) (s.same s1)⟩
theorem EvS.con {v:V} (s:∀ H',Sh H' t v):EvS (tC v) σ H t:=fun H1 _ _ q=>q v H1 (.refl _) (s H1)
theorem EvS.int:EvS (tC (.int i)) σ H (.int i):=.con fun _=>.int i
theorem EvA.nil:EvA zam σ H []:=fun H1 _ _ q=>q [] H1 (.refl _) .nil
theorem EvA.cons (e:EvS te σ H t) (a:EvA tas σ H ts):EvA (zab te tas) σ H (t::ts):=fun H1 _ s q=>e H1 _ s fun v H2 s2 sh=>a H2 _ (s.trans s2) fun vs H3 s3 shs=>q (v::vs) H3 (s2.trans s3) (.cons (sh.same s3) shs)
theorem EvS.lst (a:EvA tas σ H ts) (l:ts.length≤sizeLine):EvS (zb5 tas) σ H (.lst ts):=fun H1 _ s q=>a H1 _ s fun vs H2 s2 sh=>⟨by rw [sh.len];exact l,fun p hp=>q _ _ (s2.add hp) (sh.put hp)⟩
theorem EvS.tup (a:EvA tas σ H ts) (l:ts.length≤sizeLine):EvS (zgS tas) σ H (.tup ts):=fun H1 _ s q=>a H1 _ s fun vs H2 s2 sh=>⟨by rw [sh.len];exact l,fun p hp=>q _ _ (s2.add hp) ((sh.same (zap hp _)).tp zag)⟩
theorem EvS.add (a:EvS ta σ H (.int i)) (b:EvS tb σ H (.int j)):EvS (tOp (rI0 fun i j=>.int (i+j)) ta tb) σ H (.int (i+j)):=fun H1 _ s q=>a H1 _ s fun v H2 s2 sh=>b H2 _ (s.trans s2) fun u H3 s3 sh2=>by
 cases sh
 cases sh2
 exact ⟨_,_,rfl,rfl,q _ _ (s2.trans s3) (.int _)⟩
theorem EvS.sub (a:EvS ta σ H (.int i)) (b:EvS tb σ H (.int j)):EvS (tOp (rI0 fun i j=>.int (i - j)) ta tb) σ H (.int (i - j)):=fun H1 _ s q=>a H1 _ s fun v H2 s2 sh=>b H2 _ (s.trans s2) fun u H3 s3 sh2=>by
 cases sh
 cases sh2
 exact ⟨_,_,rfl,rfl,q _ _ (s2.trans s3) (.int _)⟩
theorem EvS.cat (a:EvS ta σ H (.lst ts)) (b:EvS tb σ H (.lst us)) (l:ts.length+us.length≤sizeLine):EvS (tOp zkX ta tb) σ H (.lst (ts++us)):=fun H1 _ s q=>a H1 _ s fun v H2 s2 sh=>b H2 _ (s.trans s2) fun u H3 s3 sh2=>by
 cases sh.same s3 with
 | lst h1 l1 e1 =>
  cases sh2 with
  | lst h2 l2 e2=>exact ⟨_,_,_,_,rfl,rfl,h1,h2,by rw [l1,l2];exact l,fun p hp=>q _ _ ((s2.trans s3).add hp) ((ShL.append ⟨l1,e1⟩ ⟨l2,e2⟩).put hp)⟩
theorem EvS.rep {n:Nat} (a:EvS ta σ H (.lst ts)) (b:EvS tb σ H (.int i)) (e:i=(n:Int)) (n1:n≤1000) (l:ts.length≤1000):EvS (tOp ziz ta tb) σ H (.lst (List.replicate n ts).flatten):=fun H1 _ s q=>a H1 _ s fun v H2 s2 sh=>b H2 _ (s.trans s2) fun u H3 s3 sh2=>by
 cases sh2
 subst e
 cases sh.same s3 with
 | lst h1 l1 e1 =>
  refine ⟨_,_,_,rfl,rfl,h1,by omega,by omega,?_,fun p hp=>?_⟩
  ·rw [l1,Int.toNat_natCast]
   exact Nat.le_trans (Nat.mul_le_mul l n1) (by decide)
  ·rw [Int.toNat_natCast]
   exact q _ _ ((s2.trans s3).add hp) ((ShL.rep ⟨l1,e1⟩ n).put hp)
theorem EvO.no:EvO zcE σ H none:=fun _ _ _ q=>q _ (.refl _)
theorem EvO.at (a:EvS ta σ H (.int i)):EvO (zgU ta) σ H (some i):=fun H1 R s q=>a H1 _ s fun v H2 s2 sh=>by
 cases sh
 exact ⟨i,rfl,q H2 s2⟩
theorem EvS.sl (a:EvS ta σ H (.lst ts)) (lo:EvO tl σ H o1) (hi:EvO th σ H o2):EvS (tSl (znQ K) ta tl th) σ H (.lst (zqw ts o1 o2)):=fun H1 _ s q=>a H1 _ s fun v H2 s2 sh=>lo H2 _ (s.trans s2) fun H3 s3=>hi H3 _ ((s.trans s2).trans s3) fun H4 s4=>by
 cases sh.same (s3.trans s4) with
 | lst h1 l1 e1=>exact ⟨_,_,rfl,SqL.of h1,fun p hp=>q _ _ ((s2.trans (s3.trans s4)).add hp) ((ShL.cut ⟨l1,e1⟩ o1 o2).put hp)⟩
theorem EvS.ix {n:Nat} (a:EvS ta σ H (.lst ts)) (b:EvS tb σ H (.int i)) (e:i=(n:Int)) (h:ts[n]?=some t):EvS (tOp (zbf K) ta tb) σ H t:=fun H1 _ s q=>a H1 _ s fun v H2 s2 sh=>b H2 _ (s.trans s2) fun u H3 s3 sh2=>by
 cases sh2
 subst e
 cases sh.same s3 with
 | @lst p xs _ h1 l1 e1 =>
  have hn:=(List.getElem?_eq_some_iff.mp h).1
  have ex:xs[n]?=some (xs[n]'(by omega)):=List.getElem?_eq_getElem _
  exact ⟨_,_,_,_,rfl,rfl,SqL.of h1,zcc ex,q _ _ (s2.trans s3) (e1 n _ _ ex h)⟩
theorem EvS.tupOf (a:EvS ta σ H (.lst ts)):EvS (tCB (fun xs H Q=>∃ p ys,xs=[.ref p]∧((SqL K H p ys∧∀ l,H l=none→Q (.ref l) (upd H l (.tup ys)))∨(SqT K H p ys∧Q (.ref p) H))) (zab ta zam)) σ H (.tup ts):=fun H1 _ s q=>a H1 _ s fun v H2 s2 sh=>by
 cases sh with
 | lst h1 l1 e1=>exact ⟨_,_,rfl,.inl ⟨SqL.of h1,fun p hp=>q _ _ (s2.add hp) (ShL.tp (ShL.same ⟨l1,e1⟩ (zap hp _)) zag)⟩⟩
theorem zrv {g:TG} {T:TS} {D:zbO} (e:EvS te σ H t) (k:∀ v H',za0 H H'→Sh H' t v→g v σ H' (T D)):zaM (za6 te g) T D σ H:=e H _ (.refl _) k
theorem zsU {g:TG} {D:zbO} (e:EvS te σ H t) (k:∀ v H',za0 H H'→Sh H' t v→g v σ H' D.nx):za6 te g D σ H:=e H _ (.refl _) k
theorem zuU {r:R2} {g:TG} {D:zbO} (e:EvS ta σ H t) (k:∀ v H',za0 H H'→Sh H' t v→tb σ H' fun y H2=>r v y H2 fun x H3=>g x σ H3 D.nx):za6 (tOp r ta tb) g D σ H:=e H _ (.refl _) k
end
def zh2:Sp:=fun vs H Q _=>∃ (p:Addr) (s:Ps),vs=[.ref p]∧H p=some s.o∧s.ok∧s.c=0∧∀ (v:V) (H':Hp),Bar p H H'→ShO H' (thF s) v→Q v H'
structure Tn (G:Hp) (tl:Addr) (rs:List Addr) (R:List (List Int)):Prop where
 ht:G tl=some (.lst (rs.map V.ref))
 len:rs.length=R.length
 row:∀ (i:Nat) r l,rs[i]?=some r→R[i]?=some l→G r=some (.lst (l.map V.int))
 nd:rs.Nodup
 nt:tl∉rs
theorem Tn.same {G G':Hp} {tl:Addr} {rs:List Addr} {R:List (List Int)} (h:Tn G tl rs R) (s:za0 G G'):Tn G' tl rs R:=⟨s _ _ h.ht,h.len,fun i r l e1 e2=>s _ _ (h.row i r l e1 e2),h.nd,h.nt⟩
theorem Tn.at {G:Hp} {tl:Addr} {rs:List Addr} {R:List (List Int)} (h:Tn G tl rs R) {i:Nat} (hi:i<R.length):∃ r,rs[i]?=some r∧G r=some (.lst ((R.getD i []).map V.int))∧atI (rs.map V.ref) (i:Int)=some (.ref r):=by
 have hr:rs[i]?=some (rs[i]'(by rw [h.len];exact hi)):=List.getElem?_eq_getElem _
 refine ⟨_,hr,?_,zcc (by rw [List.getElem?_map,hr];rfl)⟩
 have hl:R[i]?=some R[i]:=List.getElem?_eq_getElem hi
 rw [List.getD_eq_getElem?_getD,hl]
 exact h.row i _ _ hr hl
theorem Tn.shl {G:Hp} {tl:Addr} {rs:List Addr} {R:List (List Int)} (h:Tn G tl rs R):ShL G (R.map rT) (rs.map V.ref):=by
 refine ⟨by rw [List.length_map,List.length_map,h.len],fun i x t e1 e2=>?_⟩
 obtain ⟨r,hr,rfl⟩:=zbU e1
 obtain ⟨l,hl,rfl⟩:=zbU e2
 exact (ShL.ints l).sh (h.row i r l hr hl)
theorem ztt {H H':Hp} {p:Addr} (s:za0 (Off p p H) (Off p p H')):Bar p H H':=fun b o n h=>by
 have:=s b o (by rw [zjg n n];exact h)
 rwa [zjg n n] at this
def Brs (p tl:Addr) (rs:List Addr) (H H':Hp):Prop:=∀ b o,b≠p→b≠tl→b∉rs→H b=some o→H' b=some o
def zdk (K:PySem.W.Frag):TS :=
 (zbE (zaQ (tOp rEq (zad 4) (tC (.int 16)))) (zbo (tOp (zbf K) (zb5 (zab (tC .non) (zab (tC (.int 5)) (zab (tC (.str "")) (zab zmq zam))))) (zaK zbB [] E0 (zab (zad 0) (zab (tC (.int 4)) zam))))) zaR)
theorem zaB (K:PySem.W.Frag) (D:zbO) (σ:St) (H:Hp):zdk K D σ H=(zbE (zaQ (tOp rEq (zad 4) (tC (.int 16)))) (zbo (tOp (zbf K) (zb5 (zab (tC .non) (zab (tC (.int 5)) (zab (tC (.str "")) (zab zmq zam))))) (zaK zbB [] E0 (zab (zad 0) (zab (tC (.int 4)) zam))))) zaR) D σ H:=rfl
def zdj (K:PySem.W.Frag):TS :=
 (zbE (zaQ (tOp rEq (zad 4) (tC (.int 15)))) (za6 (tOp (zbf K) (zb5 (zab (tCB (fun xs H Q=>∃ p ys,xs=[.ref p]∧((SqL K H p ys∧∀ l,H l=none→Q (.ref l) (upd H l (.tup ys)))∨(SqT K H p ys∧Q (.ref p) H))) (zab (tOp (zbf K) (zad 1) (zad 3)) zam)) (zab (tC .non) (zab (tC (.int 7)) (zab (tC (.str "12")) zam))))) (zaK zbB [] E0 (zab (zad 0) (zab (tC (.int 4)) zam)))) (zj5 (zad 1) (zad 3) zdN)) zaR)
theorem zax (K:PySem.W.Frag) (D:zbO) (σ:St) (H:Hp):zdj K D σ H=(zbE (zaQ (tOp rEq (zad 4) (tC (.int 15)))) (za6 (tOp (zbf K) (zb5 (zab (tCB (fun xs H Q=>∃ p ys,xs=[.ref p]∧((SqL K H p ys∧∀ l,H l=none→Q (.ref l) (upd H l (.tup ys)))∨(SqT K H p ys∧Q (.ref p) H))) (zab (tOp (zbf K) (zad 1) (zad 3)) zam)) (zab (tC .non) (zab (tC (.int 7)) (zab (tC (.str "12")) zam))))) (zaK zbB [] E0 (zab (zad 0) (zab (tC (.int 4)) zam)))) (zj5 (zad 1) (zad 3) zdN)) zaR) D σ H:=rfl
def zdi (K:PySem.W.Frag):TS :=
 (zbE (zaQ (tOp (rI0 fun i j=>.bl (decide (i<j))) (zad 4) (tC (.int 15)))) (za6 (tOp (zbf K) (zb5 (zab (tC (.bl true)) (zab (tC (.str "1")) (zab (tC .non) (zab (zgS (zab (tC (.int 1)) zam)) zam))))) (tOp (rI0 fun i j=>.int (i - j)) (zad 4) (tC (.int 11)))) (zj5 (tOp (zbf K) (zad 1) (zad 3)) (zaK zbB [] E0 (zab (zad 0) (zab (zad 2) zam))) zdN)) zaR)
theorem zaw (K:PySem.W.Frag) (D:zbO) (σ:St) (H:Hp):zdi K D σ H=(zbE (zaQ (tOp (rI0 fun i j=>.bl (decide (i<j))) (zad 4) (tC (.int 15)))) (za6 (tOp (zbf K) (zb5 (zab (tC (.bl true)) (zab (tC (.str "1")) (zab (tC .non) (zab (zgS (zab (tC (.int 1)) zam)) zam))))) (tOp (rI0 fun i j=>.int (i - j)) (zad 4) (tC (.int 11)))) (zj5 (tOp (zbf K) (zad 1) (zad 3)) (zaK zbB [] E0 (zab (zad 0) (zab (zad 2) zam))) zdN)) zaR) D σ H:=rfl
def zcp (K:PySem.W.Frag):TS :=
 (zaM (zdy (zbE (zaQ (tOp (rI0 fun i j=>.bl (decide (i<j))) (zad 4) (tC (.int 11)))) (zbo (tOp (zbf K) (zad 5) (zad 4))) zaR))
 (zaM (zdy (zdi K))
 (zaM (zdy (zdj K))
 (zaM (zdy (zdk K))
 (zbo (zad 1))))))
theorem zcl (K:PySem.W.Frag) (D:zbO) (σ:St) (H:Hp):zcp K D σ H=(zaM (zdy (zbE (zaQ (tOp (rI0 fun i j=>.bl (decide (i<j))) (zad 4) (tC (.int 11)))) (zbo (tOp (zbf K) (zad 5) (zad 4))) zaR))
 (zaM (zdy (zdi K))
 (zaM (zdy (zdj K))
 (zaM (zdy (zdk K))
 (zbo (zad 1)))))) D σ H:=rfl
def zct (K:PySem.W.Frag):TS :=
 (zaM (za6 (tOp zkX (zad 5) (zb5 (zab (tOp ziz (zb5 (zab (tOp ziz (zb5 (zab (tC (.int 0)) zam)) (zad 2)) zam)) (tC (.int 12))) (zab (tOp ziz (zb5 (zab (tOp ziz (zb5 (zab (tC (.int 0)) zam)) (zad 2)) zam)) (tC (.int 13))) (zab (zb5 (zab (tOp ziz (zb5 (zab (tC (.int 1)) zam)) (tC (.int 12))) zam)) (zab (zb5 (zab (tOp ziz (zb5 (zab (tC (.int 1)) zam)) (tC (.int 13))) zam)) (zab (tOp ziz (zb5 (zab (zb5 zam) zam)) (tC (.int 3))) (zab (tCB (fun xs H Q=>∃ p ys,xs=[.ref p]∧((SqL K H p ys∧∀ l,H l=none→Q (.ref l) (upd H l (.tup ys)))∨(SqT K H p ys∧Q (.ref p) H))) (zab (zad 1) zam)) zam)))))))) (zao 5))
 (zcp K))
theorem zbI (K:PySem.W.Frag) (D:zbO) (σ:St) (H:Hp):zct K D σ H=(zaM (za6 (tOp zkX (zad 5) (zb5 (zab (tOp ziz (zb5 (zab (tOp ziz (zb5 (zab (tC (.int 0)) zam)) (zad 2)) zam)) (tC (.int 12))) (zab (tOp ziz (zb5 (zab (tOp ziz (zb5 (zab (tC (.int 0)) zam)) (zad 2)) zam)) (tC (.int 13))) (zab (zb5 (zab (tOp ziz (zb5 (zab (tC (.int 1)) zam)) (tC (.int 12))) zam)) (zab (zb5 (zab (tOp ziz (zb5 (zab (tC (.int 1)) zam)) (tC (.int 13))) zam)) (zab (tOp ziz (zb5 (zab (zb5 zam) zam)) (tC (.int 3))) (zab (tCB (fun xs H Q=>∃ p ys,xs=[.ref p]∧((SqL K H p ys∧∀ l,H l=none→Q (.ref l) (upd H l (.tup ys)))∨(SqT K H p ys∧Q (.ref p) H))) (zab (zad 1) zam)) zam)))))))) (zao 5))
 (zcp K)) D σ H:=rfl
def zcq (K:PySem.W.Frag):TS :=
 (zaM (za6 (zb5 (zab (zb5 zam) (zab (zb5 (zab (zb5 zam) zam)) (zab (tOp zkX (zad 1) (zb5 (zab (tOp ziz (zb5 (zab (tC (.int 1)) zam)) (tOp (rI0 fun i j=>.int (i+j)) (zad 2) (tC (.int 1)))) zam))) (zab (tOp zkX (tOp zkX (tSl (znQ K) (zad 1) zcE (zgU (zad 3))) (zb5 (zab (tSl (znQ K) (tOp (zbf K) (zad 1) (zad 3)) (zgU (tC (.int 1))) zcE) zam))) (tSl (znQ K) (zad 1) (zgU (tOp (rI0 fun i j=>.int (i+j)) (zad 3) (tC (.int 1)))) zcE)) (zab (tOp zkX (zad 1) (tOp ziz (zb5 (zab (zb5 zam) zam)) (tC (.int 13)))) zam)))))) (zao 5))
 (zct K))
theorem zbK (K:PySem.W.Frag) (D:zbO) (σ:St) (H:Hp):zcq K D σ H=(zaM (za6 (zb5 (zab (zb5 zam) (zab (zb5 (zab (zb5 zam) zam)) (zab (tOp zkX (zad 1) (zb5 (zab (tOp ziz (zb5 (zab (tC (.int 1)) zam)) (tOp (rI0 fun i j=>.int (i+j)) (zad 2) (tC (.int 1)))) zam))) (zab (tOp zkX (tOp zkX (tSl (znQ K) (zad 1) zcE (zgU (zad 3))) (zb5 (zab (tSl (znQ K) (tOp (zbf K) (zad 1) (zad 3)) (zgU (tC (.int 1))) zcE) zam))) (tSl (znQ K) (zad 1) (zgU (tOp (rI0 fun i j=>.int (i+j)) (zad 3) (tC (.int 1)))) zcE)) (zab (tOp zkX (zad 1) (tOp ziz (zb5 (zab (zb5 zam) zam)) (tC (.int 13)))) zam)))))) (zao 5))
 (zct K)) D σ H:=rfl
def zdp (K:PySem.W.Frag):TS :=
 (zfH (tBM K "list" zcO (zad 1) (zab (zbW (zeh (zab (zad 2) zam)) (zao 0) za7 (tOp (rI0 fun i j=>.int (i - j)) (zaK zbB [] E0 (zab (zad 1) (zab (tC (.int 5)) zam))) (tC (.int 2))) [none,some 0]) zam)))
theorem zav (K:PySem.W.Frag) (D:zbO) (σ:St) (H:Hp):zdp K D σ H=(zfH (tBM K "list" zcO (zad 1) (zab (zbW (zeh (zab (zad 2) zam)) (zao 0) za7 (tOp (rI0 fun i j=>.int (i - j)) (zaK zbB [] E0 (zab (zad 1) (zab (tC (.int 5)) zam))) (tC (.int 2))) [none,some 0]) zam))) D σ H:=rfl
def zcs (K:PySem.W.Frag):TS :=
 (zaM (za6 (zaK zbB [] E0 (zab (zad 0) (zab (tCB (fun xs H Q=>∃ p ys,xs=[.ref p]∧(SqL K H p ys∨SqT K H p ys)∧Q (.int ys.length) H) (zab (zad 1) zam)) zam))) (zao 3))
 (zaM (za6 (zaK zbB [] E0 (zab (zad 0) (zab (tC (.int 18)) zam))) (zao 4))
 (zcq K)))
theorem zau (K:PySem.W.Frag) (D:zbO) (σ:St) (H:Hp):zcs K D σ H=(zaM (za6 (zaK zbB [] E0 (zab (zad 0) (zab (tCB (fun xs H Q=>∃ p ys,xs=[.ref p]∧(SqL K H p ys∨SqT K H p ys)∧Q (.int ys.length) H) (zab (zad 1) zam)) zam))) (zao 3))
 (zaM (za6 (zaK zbB [] E0 (zab (zad 0) (zab (tC (.int 18)) zam))) (zao 4))
 (zcq K))) D σ H:=rfl
def zdg (K:PySem.W.Frag):TS :=
 (zaM (zmu (zeh (zab (tOp (rI0 fun i j=>.int (i+j)) (tC (.int 1)) (zaK zbB [] E0 (zab (zad 0) (zab (tC (.int 3)) zam)))) zam)) (zao 3)
 (zdp K))
 (zcs K))
theorem zch (K:PySem.W.Frag) (D:zbO) (σ:St) (H:Hp):zdg K D σ H=(zaM (zmu (zeh (zab (tOp (rI0 fun i j=>.int (i+j)) (tC (.int 1)) (zaK zbB [] E0 (zab (zad 0) (zab (tC (.int 3)) zam)))) zam)) (zao 3)
 (zdp K))
 (zcs K)) D σ H:=rfl
def zeQ (K:PySem.W.Frag):TS :=
 (zaM (za6 (tOp (rI0 fun i j=>.int (i+j)) (tC (.int 1)) (zaK zbB [] E0 (zab (zad 0) (zab (tC (.int 3)) zam)))) (zao 2))
 (zdg K))
theorem zcn (K:PySem.W.Frag) (D:zbO) (σ:St) (H:Hp):zeQ K D σ H=(zaM (za6 (tOp (rI0 fun i j=>.int (i+j)) (tC (.int 1)) (zaK zbB [] E0 (zab (zad 0) (zab (tC (.int 3)) zam)))) (zao 2))
 (zdg K)) D σ H:=rfl
def zew (K:PySem.W.Frag):TS :=
 (zaM (za6 (zb5 zam) (zao 1))
 (zeQ K))
theorem zpb {p tl D:Addr} {s:Ps} {w:Nat} {H':Hp} {Q':VK} (hp:H' p=some s.o) (so:s.ok) (c1:s.c<1000) (w3:w≤3) (hD:H' D=none)
  (q:∀ H2,za0 (Off p p H') (Off p p H2)→H2 p=some (ziX s w).2.o→H2 D=some (.lst ((ziX s w).1.map V.int))→Q' (.ref D) H2) :
  zjp (Itr 0 w) (zao 0) za7 (tOp (rI0 fun i j=>.int (i - j)) (zaK zbB [] E0 (zab (zad 1) (zab (tC (.int 5)) zam))) (tC (.int 2))) D Q' [none,some (.ref p)] (L2.upd H' D (.lst [])):=by
 have nD:D≠p:=(zaV hp hD).symm
 have oD:Off p p H' D=none:=zlU hD
 refine zbu (fun i ys σ H2=>za0 (Off p p H') (Off p p H2)∧H2 p=some (ziX s i).2.o∧ys=(ziX s i).1.map V.int∧∃ x,σ=[x,some (.ref p)]) ⟨?_,?_,rfl,_,rfl⟩ ?_ ?_
 ·rw [zhU nD nD]
  exact zap oD _
 ·rw [zal nD.symm]
  exact hp
 ·rintro i ys σ H2 hi hD2 ⟨s2,hp2,rfl,x,rfl⟩
  have rk:=zjS so i
  have rl:=zjH s i
  simp_all only [zaB,zax,zaw,zav,zau,zad]
  refine ⟨p,_,5,rfl,hp2,rk.1,by omega,by decide,by decide,_,rfl,?_⟩
  refine ⟨_,by rw [zal nD];exact hD2,zbl (by rw [List.length_map];omega),_,zag,?_,?_,?_⟩
  ·rw [zhU nD nD,zpL]
   exact s2.put oD
  ·rw [zal nD.symm,zag]
   rfl
  ·show _=((ziX s i).1++[drF (ziX s i).2 5 - 2]).map V.int
   rw [List.map_append]
   rfl
 ·rintro ys σ H2 hD2 ⟨s2,hp2,rfl,x,rfl⟩
  exact q H2 s2 hp2 hD2
def ztW:Tr→Prop
 | .lst _=>False
 | .tup _=>False
 | _=>True
def okV:Tr→Prop
 | .lst _=>False
 | .tup ts=>∀ u∈ts,ztW u
 | _=>True
theorem Sh.keep {H H':Hp} {t:Tr} {v:V} (h:Sh H t v) (o:okV t) (k:∀ b xs,H b=some (.tup xs)→H' b=some (.tup xs)):Sh H' t v:=by
 cases h with
 | int i=>exact .int i
 | bl b=>exact .bl b
 | str x=>exact .str x
 | non=>exact .non
 | lst h l e=>exact o.elim
 | tup h l e =>
  refine .tup (k _ _ h) l fun i x t e1 e2=>?_
  have f:=o t (zb8 e2)
  have:=e i x t e1 e2
  cases this with
  | int i=>exact .int i
  | bl b=>exact .bl b
  | str x=>exact .str x
  | non=>exact .non
  | lst _ _ _=>exact f.elim
  | tup _ _ _=>exact f.elim
theorem Tn.setRow {G H':Hp} {tl r:Addr} {rs:List Addr} {R:List (List Int)} {i:Nat} {us:List Tr} {ys:List V} (T:Tn G tl rs R) (er:rs[i]?=some r) (ht:H' tl=G tl) (hk:∀ (k:Nat) x,k≠i→rs[k]?=some x→H' x=G x) (hr:H' r=some (.lst ys)) (S:ShL H' us ys):Sh H' (.lst ((R.map rT).set i (.lst us))) (.ref tl):=by
 refine ShL.sh (xs:=rs.map V.ref) ⟨by rw [List.length_map,List.length_set,List.length_map,T.len],fun k x t e1 e2=>?_⟩ (by rw [ht];exact T.ht)
 obtain ⟨y,hy,rfl⟩:=zbU e1
 rw [List.getElem?_set] at e2
 by_cases z:i=k
 ·subst z
  rw [er] at hy
  cases hy
  rw [if_pos rfl] at e2
  by_cases d:i<(R.map rT).length
  ·rw [if_pos d] at e2
   cases e2
   exact S.sh hr
  ·rw [if_neg d] at e2
   cases e2
 ·rw [if_neg z] at e2
  obtain ⟨l,hl,rfl⟩:=zbU e2
  refine (ShL.ints l).sh ?_
  rw [hk k y (fun e=>z e.symm) hy]
  exact T.row k y l hy hl
theorem Tn.other {G:Hp} {tl r x:Addr} {rs:List Addr} {R:List (List Int)} {i k:Nat} (T:Tn G tl rs R) (er:rs[i]?=some r) (ex:rs[k]?=some x) (ne:k≠i):x≠r:=fun z=>by
 obtain ⟨h1,e1⟩:=List.getElem?_eq_some_iff.mp er
 obtain ⟨h2,e2⟩:=List.getElem?_eq_some_iff.mp ex
 have nd:=List.pairwise_iff_getElem.mp T.nd
 rcases Nat.lt_or_gt_of_ne ne with c | c
 ·exact nd k i h2 h1 c (by rw [e1,e2,z])
 ·exact nd i k h1 h2 c (by rw [e1,e2,z])
theorem zrh {n k:Nat} (h:k<n):ixN n (k:Int)=some k:=by
 unfold ixN
 rw [if_pos (by omega),if_pos (by omega),Int.toNat_natCast]
theorem zn9 {ts:List Tr} {v:V} (h:Sh H (.lst ts) v):∃ p xs,v=.ref p∧H p=some (.lst xs)∧ShL H ts xs:=by
 cases h with
 | lst h l e=>exact ⟨_,_,rfl,h,l,e⟩
theorem zpR {p tl bl:Addr} {s:Ps} {rs:List Addr} {R:List (List Int)} {w i:Nat} {c:Int} {vs:List V} {nx':St→Hp→Prop} (hp:H p=some s.o) (so:s.ok) (cs:s.c<200) (T:Tn (Off p p H) tl rs R) (li:i<R.length) (l3:R.length≤3) (w1:1≤w) (w3:w≤3) (hR:∀ r∈R,r.length=w) (c0:0≤c) (c18:c<18)
  (hb:H bl=some (.lst vs)) (S:ShL H (zm8 R w i) vs) (q:∀ (v:V) (H':Hp),Brs p tl rs H H'→ShO H' (thR R w i c s) v→Q v H') :
  zcp K { nx:=nx',rt:=Q } [some (.ref p),some (.ref tl),some (.int w),some (.int i),some (.int c),some (.ref bl)] H:=by
 ((try simp only);first | rw [zcl] | rw [zbI] | rw [zbK] | rw [zch] | rw [zcn]);simp_all only [zaB,zax,zaw,zav,zau,zad]
 have T0:=T.same (zjt p p H)
 have gR:(R.getD i []).length=w:=by
  rw [List.getD_eq_getElem?_getD,List.getElem?_eq_getElem li]
  exact hR _ (List.getElem_mem li)
 refine ⟨fun σ H'=>H'=H∧11≤c∧σ=[some (.ref p),some (.ref tl),some (.int w),some (.int i),some (.int c),some (.ref bl)],?_,?_⟩
 ·simp_all only [zaB,zax,zaw,zav,zau,zad]
  refine zdH (fun z=>?_) (fun z=>by omega)
  have lc:c.toNat<(zm8 R w i).length:=show c.toNat<11 by omega
  have ex:vs[c.toNat]?=some (vs[c.toNat]'(by rw [S.len];exact lc)):=List.getElem?_eq_getElem _
  have et:(zm8 R w i)[c.toNat]?=some ((zm8 R w i)[c.toNat]'lc):=List.getElem?_eq_getElem _
  have ea:=zcc ex
  rw [Int.toNat_of_nonneg c0] at ea
  refine ⟨_,SqL.of hb,_,ea,q _ H (fun _ _ _ _ _ h=>h) ?_⟩
  have:=S.el _ _ _ ex et
  unfold thR
  rw [if_pos z,List.getD_eq_getElem?_getD,et]
  exact this
 rintro σ H1 ⟨rfl,c11,rfl⟩
 simp_all only [zav,zau,zad]
 obtain ⟨r,er,hr,ar⟩:=T0.at li
 have nr:r≠p:=(zmL ((T.row i r _ er (List.getElem?_eq_getElem li)):Off p p H1 r=_)).1
 have nt:tl≠p:=(zmL T.ht).1
 have ntr:tl≠r:=fun z=>T.nt (by rw [z];exact zb8 er)
 have nx:∀ {k:Nat} {x:Addr},rs[k]?=some x→x≠p:=fun {k x} e=>by
  have lk:=(List.getElem?_eq_some_iff.mp e).1
  exact (zmL (T.row k x _ e (List.getElem?_eq_getElem (by rw [← T.len];exact lk)))).1
 refine ⟨fun σ H'=>Brs p tl rs H1 H'∧(c<15→Sh H' (.lst ((R.map rT).set i (.lst (((R.getD i []).map Tr.int).set (drF s w).toNat (ztO.getD (c - 11).toNat .non))))) (.ref tl))∧(15≤c→H'=H1)∧σ=[some (.ref p),some (.ref tl),some (.int w),some (.int i),some (.int c),some (.ref bl)],?_,?_⟩
 ·rw [zaw]
  simp only [↓zbE,↓zaQ,↓tOp,↓zlG,↓tC,↓zva,↓zsd,decide_eq_true_eq]
  refine zdH (fun z=>?_) (fun z=>⟨fun _ _ _ _ _ h=>h,fun y=>absurd y z,fun _=>rfl,rfl⟩)
  have hn:ztO[(c - 11).toNat]?=some (ztO.getD (c - 11).toNat .non):=by
   have:(c - 11).toNat<ztO.length:=show (c - 11).toNat<4 by omega
   rw [List.getD_eq_getElem?_getD,List.getElem?_eq_getElem this]
   rfl
  refine zsU (.ix (n:=(c - 11).toNat) (.lst (.cons (.con fun _=>.bl true) (.cons (.con fun _=>.str "1") (.cons (.con fun _=>.non) (.cons (.tup (.cons .int .nil) (by decide)) .nil)))) (by decide)) (.sub (.var rfl (.int c)) .int) (by omega) hn) fun v H2 s2 sh=>?_
  simp_all only [zaB,zax,zaw,zav,zau,zad]
  have dj:=zeT (s:=s) (m:=w) (by omega)
  obtain ⟨j,hj⟩:∃ j:Nat,drF s w=j:=⟨(drF s w).toNat,by omega⟩
  rw [hj,Int.toNat_natCast]
  refine ⟨_,SqL.of (s2 _ _ T0.ht),_,ar,p,s,w,rfl,s2 _ _ hp,so,by omega,by omega,by omega,?_⟩
  rw [hj]
  refine ⟨r,rfl,_,_,rfl,by rw [zal nr];exact s2 _ _ hr,j,zrh (by rw [List.length_map,gR];omega),fun b o n _ nb h=>?_,fun _=>?_,fun y=>by omega⟩
  ·rw [zal (fun z=>nb (by rw [z];exact zb8 er)),zal n]
   exact s2 _ _ h
  ·have up:∀ x,x≠r→x≠p→L2.upd (L2.upd H2 p (nxF s w).o) r (.lst (((R.getD i []).map V.int).set j v)) x=H2 x:=fun x h1 h2=>by rw [zal h1,zal h2]
   refine (T0.same s2).setRow er (up tl ntr nt) (fun k x nk ex=>up x (T0.other er ex nk) (nx ex)) zag (ShL.set (ShL.ints _) (sh.keep ?_ fun b xs hb=>?_) j)
   ·match (c - 11).toNat with
    | 0=>trivial
    | 1=>trivial
    | 2=>trivial
    | 3=>exact fun u hu=>by rw [List.mem_singleton.mp hu];trivial
    | n+4=>trivial
   ·rw [up b (fun z=>by rw [z,s2 _ _ hr] at hb;cases hb) (fun z=>by rw [z,s2 _ _ hp] at hb;cases hb)]
    exact hb
 rintro σ H2 ⟨b2,m2,e2,rfl⟩
 simp_all only [zaw,zav,zau,zad]
 refine ⟨fun σ H'=>Brs p tl rs H1 H'∧(c<16→∃ t,thR R w i c s=some t∧Sh H' t (.ref tl))∧(16≤c→H'=H1)∧σ=[some (.ref p),some (.ref tl),some (.int w),some (.int i),some (.int c),some (.ref bl)],?_,?_⟩
 ·rw [zax]
  simp only [↓zbE,↓zaQ,↓tOp,↓zlG,↓tC,↓rEq,↓zsd,zmF,true_and,V.int.injEq,decide_eq_true_eq]
  refine zdH (fun z=>?_) (fun z=>⟨b2,fun y=>?_,fun y=>e2 (by omega),rfl⟩)
  ·cases e2 (by omega)
   refine zuU (.lst (.cons (.tupOf (.ix (.var (k:=1) rfl (T0.shl.sh T0.ht)) (.var (k:=3) rfl (.int _)) rfl (by rw [List.getElem?_map,List.getElem?_eq_getElem li];rfl))) (.cons (.con fun _=>.non) (.cons .int (.cons (.con fun _=>.str "12") .nil)))) (show 4≤sizeLine by decide)) fun v H2 s2 sh=>?_
   obtain ⟨l,xs,rfl,hl,S2⟩:=zn9 sh
   have dk:=zeT (s:=s) (m:=4) (by decide)
   obtain ⟨j,hj⟩:∃ j:Nat,drF s 4=j:=⟨(drF s 4).toNat,by omega⟩
   have nl:l≠p:=fun z=>by
    rw [z,s2 _ _ hp] at hl
    injection hl with hl
    injection hl with hl
    have:xs.length=4:=S2.len
    rw [← hl] at this
    have:3=4:=this
    omega
   have lx:xs.length=4:=S2.len
   have ex:xs[j]?=some (xs[j]'(by omega)):=List.getElem?_eq_getElem _
   have eg:∀ T0:Tr,[Tr.tup ((R[i]).map Tr.int),.non,.int 7,.str "12"][j]?=some ([Tr.tup ((R[i]).map Tr.int),.non,.int 7,.str "12"].getD j T0):=fun T0=>by
    rw [List.getD_eq_getElem?_getD,List.getElem?_eq_getElem (show j<4 by omega)]
    rfl
   have sv:=S2.el j _ _ ex (eg .non)
   simp_all only [zaB,zax,zaw,zav,zau,zad]
   refine ⟨p,s,4,rfl,s2 _ _ hp,so,by omega,by decide,by decide,?_⟩
   rw [hj]
   have ht2:(L2.upd H2 p (nxF s 4).o) tl=some (.lst (rs.map V.ref)):=by rw [zal nt];exact s2 _ _ T0.ht
   refine ⟨_,_,rfl,SqL.of (by rw [zal nl];exact hl),_,zcc ex,_,ht2,i,zrh (by rw [List.length_map,T.len];exact li),fun b o n n2 _ h=>by rw [zal n2,zal n];exact s2 _ _ h,fun _=>⟨_,?_,ShL.sh (ShL.set (ts:=R.map rT) (t:=[Tr.tup ((R[i]).map Tr.int),.non,.int 7,.str "12"].getD j .non) (ShL.mk ?_ ?_) (sv.keep ?_ fun b xs hb=>?_) i) zag⟩,fun y=>by omega⟩
   ·unfold thR
    rw [if_neg (by omega),if_neg (by omega),if_pos z,Int.toNat_natCast,hj,Int.toNat_natCast,show R.getD i []=R[i] by rw [List.getD_eq_getElem?_getD,List.getElem?_eq_getElem li];rfl]
   ·exact T0.shl.len
   ·intro k x u e1 e2
    obtain ⟨y,hy,rfl⟩:=zbU e1
    obtain ⟨l,hl,rfl⟩:=zbU e2
    refine (ShL.ints l).sh ?_
    rw [zal (fun z=>T.nt (by rw [← z];exact zb8 hy)),zal (nx hy)]
    exact s2 _ _ (T0.row k y l hy hl)
   ·have j4:j<4:=by omega
    match j,j4 with
    | 0,_ =>
     intro u hu
     obtain ⟨n,_,rfl⟩:=List.mem_map.mp hu
     trivial
    | 1,_=>trivial
    | 2,_=>trivial
    | 3,_=>trivial
    | n+4,h=>omega
   ·rw [zal (fun z=>by rw [z,s2 _ _ T0.ht] at hb;cases hb),zal (fun z=>by rw [z,s2 _ _ hp] at hb;cases hb)]
    exact hb
  ·refine ⟨_,?_,m2 (by omega)⟩
   unfold thR
   rw [if_neg (by omega),if_pos (by omega),Int.toNat_natCast]
 rintro σ H3 ⟨b3,m3,e3,rfl⟩
 simp_all only [zax,zaw,zav,zau,zad]
 refine ⟨fun σ H'=>Brs p tl rs H1 H'∧(∃ t,thR R w i c s=some t∧Sh H' t (.ref tl))∧σ=[some (.ref p),some (.ref tl),some (.int w),some (.int i),some (.int c),some (.ref bl)],?_,?_⟩
 ·rw [zaB]
  simp_all only [zaB,zax,zaw,zav,zau,zad]
  refine zdH (fun z=>?_) (fun z=>⟨b3,?_⟩)
  ·cases e3 (by omega)
   intro d hd
   refine ⟨by decide,fun l hl=>?_⟩
   have s2:=(zap hd (.dK [])).add hl (o:=.lst [.non,.int 5,.str "",.ref d])
   have dk:=zeT (s:=s) (m:=4) (by decide)
   have hdd:(L2.upd (L2.upd H1 d (.dK [])) l (.lst [.non,.int 5,.str "",.ref d])) d=some (.dK []):=zap hl _ _ _ zag
   have hll:(L2.upd (L2.upd H1 d (.dK [])) l (.lst [.non,.int 5,.str "",.ref d])) l=some (.lst [.non,.int 5,.str "",.ref d]):=zag
   generalize L2.upd (L2.upd H1 d (.dK [])) l (.lst [.non,.int 5,.str "",.ref d])=H2 at s2 hdd hll ⊢
   have nl:l≠p:=fun z=>by
    rw [z,s2 _ _ hp] at hll
    cases hll
   have ndp:d≠p:=fun z=>by
    rw [z,s2 _ _ hp] at hdd
    cases hdd
   have hd3:(L2.upd H2 p (nxF s 4).o) d=some (.dK []):=by rw [zal ndp];exact hdd
   refine ⟨p,s,4,rfl,s2 _ _ hp,so,by omega,by decide,by decide,?_⟩
   have fin:∀ (v:V),ShO (L2.upd H2 p (nxF s 4).o) ([some Tr.non,some (.int 5),some (.str ""),none].getD (drF s 4).toNat none) v→Q v (L2.upd H2 p (nxF s 4).o):=fun v sv=>by
    refine q v _ (fun b o n _ _ h=>by rw [zal n];exact s2 _ _ h) ?_
    unfold thR
    rw [if_neg (by omega),if_neg (by omega),if_neg (by omega),if_pos z]
    exact sv
   obtain ⟨j,hj⟩:∃ j:Nat,drF s 4=j:=⟨(drF s 4).toNat,by omega⟩
   rw [hj,Int.toNat_natCast] at fin
   rw [hj]
   have j4:j<4:=by omega
   refine ⟨_,_,rfl,SqL.of (by rw [zal nl];exact hll),?_⟩
   match j,j4,fin with
   | 0,_,fin=>exact ⟨_,rfl,fin _ Sh.non⟩
   | 1,_,fin=>exact ⟨_,rfl,fin _ (Sh.int 5)⟩
   | 2,_,fin=>exact ⟨_,rfl,fin _ (Sh.str "")⟩
   | 3,_,fin=>exact ⟨_,rfl,fin _ ⟨d,rfl,hd3⟩⟩
   | n+4,h,_=>omega
  ·by_cases y:c<16
   ·exact m3 y
   ·cases e3 (by omega)
    refine ⟨_,?_,T0.shl.sh T0.ht⟩
    unfold thR
    rw [if_neg (by omega),if_neg (by omega),if_neg (by omega),if_neg z]
 rintro σ H4 ⟨b4,⟨t,et,st⟩,rfl⟩
 simp_all only [zaB,zax,zaw,zav,zau,zad]
 refine q _ H4 b4 ?_
 rw [et]
 exact st
theorem zkJ {n:Nat} (h:n≤100):n≤sizeLine:=Nat.le_trans h (by decide)
theorem zq9 {p tl bl:Addr} {s:Ps} {rs:List Addr} {R:List (List Int)} {w i:Nat} {c:Int} {vs:List V} {nx':St→Hp→Prop} (hp:H p=some s.o) (so:s.ok) (cs:s.c<200) (T:Tn (Off p p H) tl rs R) (li:i<R.length) (l3:R.length≤3) (w1:1≤w) (w3:w≤3) (hR:∀ r∈R,r.length=w) (c0:0≤c) (c18:c<18)
  (hb:H bl=some (.lst vs)) (S:ShL H ((zm8 R w i).take 5) vs) (q:∀ (v:V) (H':Hp),Brs p tl rs H H'→ShO H' (thR R w i c s) v→Q v H') :
  zct K { nx:=nx',rt:=Q } [some (.ref p),some (.ref tl),some (.int w),some (.int i),some (.int c),some (.ref bl)] H:=by
 rw [zbI]
 have T0:=T.same (zjt p p H)
 have tv:EvS (zad 1) [some (V.ref p),some (.ref tl),some (.int w),some (.int i),some (.int c),some (.ref bl)] H (.lst (R.map rT)):=.var rfl (T0.shl.sh T0.ht)
 have wv:EvS (zad 2) [some (V.ref p),some (.ref tl),some (.int w),some (.int i),some (.int c),some (.ref bl)] H (.int w):=.var rfl (.int _)
 have z:=EvS.rep (n:=w) (EvS.lst (EvA.cons (EvS.int (i:=0)) EvA.nil) (by decide)) wv rfl (by omega) (by decide)
 have o1:∀ n:Nat,n≤13→EvS _ _ _ _:=fun n hn=>EvS.rep (n:=n) (EvS.lst (EvA.cons (EvS.int (i:=1) (σ:=[some (V.ref p),some (.ref tl),some (.int w),some (.int i),some (.int c),some (.ref bl)]) (H:=H)) EvA.nil) (by decide)) (EvS.int (i:=(n:Int))) rfl (by omega) (by decide)
 refine zrv (.cat (.var rfl (S.sh hb)) (.lst (.cons (.rep (n:=12) (.lst (.cons z .nil) (show 1≤sizeLine by decide)) .int rfl (by decide) (show 1≤1000 by decide)) (.cons (.rep (n:=13) (.lst (.cons z .nil) (show 1≤sizeLine by decide)) .int rfl (by decide) (show 1≤1000 by decide)) (.cons (.lst (.cons (o1 12 (by decide)) .nil) (by decide)) (.cons (.lst (.cons (o1 13 (by decide)) .nil) (by decide)) (.cons (.rep (n:=3) (.lst (.cons (.lst .nil (by decide)) .nil) (by decide)) .int rfl (by decide) (by decide)) (.cons (.tupOf tv) .nil)))))) (show 6≤sizeLine by decide)) (show 5+6≤sizeLine by decide)) fun v H' s' sh=>?_
 obtain ⟨b2,xs,rfl,hx,S2⟩:=zn9 sh
 exact zpR (s' _ _ hp) so cs (T.same (zmx p p s')) li l3 w1 w3 hR c0 c18 hx S2 fun v H2 b sh=>q v H2 (fun x o n n2 n3 h=>b _ _ n n2 n3 (s' _ _ h)) sh
theorem zp8 {p tl:Addr} {s:Ps} {rs:List Addr} {R:List (List Int)} {w i:Nat} {c:Int} {nx':St→Hp→Prop} (hp:H p=some s.o) (so:s.ok) (cs:s.c<200) (T:Tn (Off p p H) tl rs R) (li:i<R.length) (l3:R.length≤3) (w1:1≤w) (w3:w≤3) (hR:∀ r∈R,r.length=w) (c0:0≤c) (c18:c<18)
  (q:∀ (v:V) (H':Hp),Brs p tl rs H H'→ShO H' (thR R w i c s) v→Q v H') :
  zcq K { nx:=nx',rt:=Q } [some (.ref p),some (.ref tl),some (.int w),some (.int i),some (.int c),none] H:=by
 rw [zbK]
 have T0:=T.same (zjt p p H)
 have tv:EvS (zad 1) [some (V.ref p),some (.ref tl),some (.int w),some (.int i),some (.int c),none] H (.lst (R.map rT)):=.var rfl (T0.shl.sh T0.ht)
 have wv:EvS (zad 2) [some (V.ref p),some (.ref tl),some (.int w),some (.int i),some (.int c),none] H (.int w):=.var rfl (.int _)
 have iv:EvS (zad 3) [some (V.ref p),some (.ref tl),some (.int w),some (.int i),some (.int c),none] H (.int i):=.var rfl (.int _)
 have rl:(R.map rT).length≤3:=by rw [List.length_map];exact l3
 have c1:=zhY (R.map rT) none (some (i:Int))
 have c2:=zhY (R.map rT) (some ((i:Int)+1)) none
 have ri:(R.map rT)[i]?=some (rT (R.getD i [])):=by
  rw [List.getElem?_map,List.getD_eq_getElem?_getD,List.getElem?_eq_getElem li]
  rfl
 refine zrv (.lst (.cons (.lst .nil (by decide)) (.cons (.lst (.cons (.lst .nil (by decide)) .nil) (by decide)) (.cons (.cat tv (.lst (.cons (.rep (n:=w+1) (.lst (.cons .int .nil) (by decide)) (.add wv .int) (by omega) (by omega) (by decide)) .nil) (show 1≤sizeLine by decide)) (zkJ (by show _+1≤100;omega))) (.cons (.cat (.cat (.sl tv .no (.at iv)) (.lst (.cons (.sl (.ix tv iv rfl ri) (.at .int) .no) .nil) (show 1≤sizeLine by decide)) (zkJ (by show _+1≤100;omega))) (.sl tv (.at (.add iv .int)) .no) (zkJ (by rw [List.length_append];show _+1+_≤100;omega))) (.cons (.cat tv (.rep (n:=13) (.lst (.cons (.lst .nil (by decide)) .nil) (by decide)) .int rfl (by decide) (by decide)) (zkJ (by rw [zgi];omega))) .nil))))) (show 5≤sizeLine by decide)) fun v H' s' sh=>?_
 obtain ⟨b2,xs,rfl,hx,S2⟩:=zn9 sh
 exact zq9 (s' _ _ hp) so cs (T.same (zmx p p s')) li l3 w1 w3 hR c0 c18 hx S2 fun v H2 b sh=>q v H2 (fun x o n n2 n3 h=>b _ _ n n2 n3 (s' _ _ h)) sh
theorem zoU {p tl:Addr} {s:Ps} {rs:List Addr} {R:List (List Int)} {w:Nat} {x3:Option V} {nx':St→Hp→Prop} (hp:H p=some s.o) (so:s.ok) (cs:s.c<100) (T:Tn (Off p p H) tl rs R) (l1:1≤R.length) (l3:R.length≤3) (w1:1≤w) (w3:w≤3) (hR:∀ r∈R,r.length=w)
  (q:∀ (v:V) (H':Hp),Brs p tl rs H H'→ShO H' (thR R w (drF s R.length) (drF (nxF s R.length) 18) (nxF (nxF s R.length) 18)) v→Q v H') :
  zcs K { nx:=nx',rt:=Q } [some (.ref p),some (.ref tl),some (.int w),x3,none,none] H:=by
 have T0:=T.same (zjt p p H)
 have lr:=T.len
 simp_all only [zaB,zax,zaw,zav,zau,zad]
 refine ⟨_,.inl (SqL.of T0.ht),?_⟩
 rw [List.length_map,lr]
 refine ⟨p,s,_,rfl,hp,so,by omega,by omega,by omega,?_⟩
 have di:=zeT (s:=s) (m:=R.length) (by omega)
 have k1:=so.nx (m:=R.length) (by omega)
 have c1:(nxF s R.length).c<101:=by show s.c+1<101;omega
 obtain ⟨i,hi⟩:∃ i:Nat,drF s R.length=i:=⟨(drF s R.length).toNat,by omega⟩
 rw [hi] at q di ⊢
 generalize nxF s R.length=s1 at k1 c1 q ⊢
 refine ⟨p,s1,18,rfl,zag,k1,by omega,by decide,by decide,?_⟩
 have dc:=zeT (s:=s1) (m:=18) (by decide)
 have k2:=k1.nx (m:=18) (by decide)
 have c2:(nxF s1 18).c<102:=by show s1.c+1<102;omega
 generalize drF s1 18=c at dc q ⊢
 generalize nxF s1 18=s2 at k2 c2 q ⊢
 rw [upd2]
 have oH:Off p p (L2.upd H p s2.o)=Off p p H:=zpL
 refine zp8 (rs:=rs) zag k2 (by omega) (by rw [oH];exact T) (by omega) l3 w1 w3 hR dc.1 dc.2 fun v H' b sh=>q v H' (fun x o n n2 n3 h=>b _ _ n n2 n3 (by rw [zal n];exact h)) sh
theorem zj4 {p:Addr} {s:Ps} (hp:H p=some s.o) (so:s.ok) (c0:s.c=0) (q:∀ (v:V) (H':Hp),Bar p H H'→ShO H' (thF s) v→Q v H') :
  zew K { nx:=fun _ H'=>Q .non H',rt:=Q } (L2.zbi ["_law_left_here","_law_table","_law_wide","_law_i","_law_choice","_law_bent"] [.ref p]) H:=by
 unfold zew
 simp_all only [zaB,zax,zaw,zav,zau,zad]
 refine ⟨by decide,fun tl htl=>?_⟩
 ((try simp only);first | rw [zcl] | rw [zbI] | rw [zbK] | rw [zch] | rw [zcn]);simp_all only [zaB,zax,zaw,zav,zau,zad]
 have ntl:tl≠p:=(zaV hp htl).symm
 have otl:Off p p H tl=none:=zlU htl
 refine ⟨p,s,3,rfl,by rw [zal ntl.symm];exact hp,so,by omega,by decide,by decide,_,rfl,?_⟩
 have d3:=zeT (s:=s) (m:=3) (by decide)
 obtain ⟨w,hw⟩:∃ w:Nat,1+drF s 3=w:=⟨(1+drF s 3).toNat,by omega⟩
 have k1:=so.nx (m:=3) (by decide)
 have c1:(nxF s 3).c=1:=by show s.c+1=1;omega
 have e4:thF s=(let n:=(1+drF (nxF s 3) 3).toNat;let t:=zlE (nxF (nxF s 3) 3) w n;let i:=drF t.2 n;let s4:=nxF t.2 n;thR t.1 w i (drF s4 18) (nxF s4 18)):=by
  have e:(1+drF s 3).toNat=w:=by omega
  unfold thF
  rw [e]
 rw [e4] at q
 clear e4
 rw [hw]
 generalize nxF s 3=s1 at k1 c1 q ⊢
 ((try simp only);first | rw [zcl] | rw [zbI] | rw [zbK] | rw [zch] | rw [zcn]);simp_all only [zaB,zax,zaw,zav,zau,zad]
 refine ⟨p,s1,3,rfl,zag,k1,by omega,by decide,by decide,_,rfl,?_⟩
 have d4:=zeT (s:=s1) (m:=3) (by decide)
 obtain ⟨n,hn⟩:∃ n:Nat,1+drF s1 3=n:=⟨(1+drF s1 3).toNat,by omega⟩
 have k2:=k1.nx (m:=3) (by decide)
 have c2:(nxF s1 3).c=2:=by show s1.c+1=2;omega
 have en:(1+drF s1 3).toNat=n:=by omega
 rw [en] at q
 rw [hn]
 generalize nxF s1 3=s2 at k2 c2 q ⊢
 refine ⟨by omega,by omega,?_⟩
 rw [Int.toNat_natCast]
 have oo:Off p p (L2.upd (L2.upd (L2.upd H tl (.lst [])) p s1.o) p s2.o)=L2.upd (Off p p H) tl (.lst []):=by rw [zpL,zpL,zhU ntl ntl]
 refine zi7 (fun i σ H'=>za0 (Off p p H) (Off p p H')∧H' p=some (zlE s2 w i).2.o∧(∃ rs,Tn (Off p p H') tl rs (zlE s2 w i).1∧∀ r∈rs,Off p p H r=none)∧∃ x,σ=[some (.ref p),some (.ref tl),some (.int w),x,none,none]) ⟨?_,zag,⟨[],?_⟩,_,rfl⟩ ?_ ?_
 ·rw [oo]
  exact zap otl _
 ·rw [oo]
  exact ⟨⟨zag,rfl,(fun i r l e=>by cases e),List.nodup_nil,List.not_mem_nil⟩,fun r h=>absurd h List.not_mem_nil⟩
 ·rintro i σ H' hi ⟨s',hp',⟨rs,T,nr⟩,x,rfl⟩
  have tk:=zlO k2 w i
  have tlen:=zhm s2 w i
  have cw:w*i≤9:=Nat.le_trans (Nat.mul_le_mul (show w≤3 by omega) (show i≤3 by omega)) (by decide)
  have T':=T.same (zjt p p H')
  simp_all only [zaB,zax,zaw,zav,zau,zad]
  refine ⟨.inl ⟨rfl,_,SqL.of T'.ht⟩,by omega,by omega,?_⟩
  rw [Int.toNat_natCast]
  intro D hD
  refine zpb (tl:=tl) hp' tk.1 (by omega) (by omega) hD fun H2 s2' hp2 hD2=>?_
  have nD:D≠p:=(zaV hp' hD).symm
  have T2:=T.same s2'
  have T2':=T2.same (zjt p p H2)
  refine ⟨_,T2'.ht,zbl (by rw [List.length_map,T2.len,tlen];omega),?_⟩
  have oD:=zlU (p:=p) (c:=p) hD
  have ntD:tl≠D:=zaV T.ht oD
  refine ⟨?_,?_,rs++[D],?_,fun r hr=>?_⟩
  ·rw [zhU ntl ntl]
   exact (s'.trans s2').put otl
  ·rw [zal ntl.symm]
   exact hp2
  ·rw [zhU ntl ntl]
   refine ⟨by rw [zag,List.map_append];rfl,by rw [List.length_append,T2.len];show _=((zlE s2 w i).1++[_]).length;rw [List.length_append];rfl,fun j r l e1 e2=>?_,?_,?_⟩
   ·have e2:((zlE s2 w i).1++[(ziX (zlE s2 w i).2 w).1])[j]?=some l:=e2
    by_cases cj:j<rs.length
    ·rw [List.getElem?_append_left cj] at e1
     rw [List.getElem?_append_left (by rw [← T2.len];exact cj)] at e2
     have nr:r≠tl:=fun z=>T2.nt (by rw [← z];exact zb8 e1)
     rw [zal nr]
     exact T2.row j r l e1 e2
    ·rw [List.getElem?_append_right (by omega)] at e1
     rw [List.getElem?_append_right (by rw [← T2.len];omega),← T2.len] at e2
     have j0:j - rs.length=0:=by
      have:=(List.getElem?_eq_some_iff.mp e1).1
      rw [List.length_singleton] at this
      omega
     rw [j0] at e1 e2
     cases e1
     cases e2
     rw [zal ntD.symm,zjg nD nD]
     exact hD2
   ·rw [List.nodup_append]
    refine ⟨T2.nd,List.pairwise_singleton _ _,fun b hb d hd=>?_⟩
    rw [List.mem_singleton.mp hd]
    obtain ⟨j,hj⟩:=List.mem_iff_getElem?.mp hb
    have lj:=(List.getElem?_eq_some_iff.mp hj).1
    exact zaV (T.row j b _ hj (List.getElem?_eq_getElem (by rw [← T.len];exact lj))) oD
   ·intro z
    rcases List.mem_append.mp z with z | z
    ·exact T2.nt z
    ·exact ntD (List.mem_singleton.mp z)
  ·rcases List.mem_append.mp hr with hr | hr
   ·exact nr r hr
   ·rw [List.mem_singleton.mp hr]
    exact s'.free oD
 ·rintro σ H' ⟨s',hp',⟨rs,T,nr⟩,x,rfl⟩
  have tk:=zlO k2 w n
  have tlen:=zhm s2 w n
  have cw:w*n≤9:=Nat.le_trans (Nat.mul_le_mul (show w≤3 by omega) (show n≤3 by omega)) (by decide)
  refine zoU hp' tk.1 (by omega) T (by omega) (by omega) (by omega) (by omega) (fun r hr=>(zjY s2 w n r hr).1) fun v H2 b2 sh=>?_
  refine q v H2 (fun b o nb h=>b2 _ _ nb (fun z=>by rw [z] at h;rw [zjg ntl ntl,h] at otl;cases otl) (fun z=>by have z':=nr b z;rw [zjg nb nb,h] at z';cases z') (ztt s' _ _ nb h)) ?_
  rw [tlen] at sh
  exact sh
theorem zbk:zaI ["_law_left_here","_law_table","_law_wide","_law_i","_law_choice","_law_bent"] ["_law_left_here"] (zaj zdb):=⟨rfl,rfl,rfl,by decide +kernel,rfl,by decide +kernel,by decide +kernel⟩
theorem zj0 (T:Txt K mg base a):zcw P w K mg base CX0 3 a.f__law_thing a.d__law_thing ["_law_left_here"] zh2:=by
 have G__law_draw:=zlg (P:=P) (w:=w) (base:=base) T
 refine T.F__law_thing.ok zbk (fun vs H Q E h=>?_) (fun cdv A outer s H vs Q E hr h=>?_)
 ·obtain ⟨p,s,rfl,hp,so,c0,q⟩:=h
  rfl
 obtain ⟨p,s,rfl,hp,so,c0,q⟩:=h
 exact ⟨zew K,(zaf (zaL (i:=1) zbk.nd rfl (Or.inl rfl) (za9 zae))
 (zaf (zaL (i:=2) zbk.nd rfl (Or.inl rfl) (zaP zdV zai (zaG G__law_draw (hr.mono (by decide)) rfl T.m__law_draw T.F__law_draw.kp T.b__law_draw .nil zbd (zaa (pv 0) (zaa zai zae)))))
 (zaf (zfP PassesOwn.never rfl (zbF rfl T.z_range (zaa (zaP zdV zai (zaG G__law_draw (hr.mono (by decide)) rfl T.m__law_draw T.F__law_draw.kp T.b__law_draw .nil zbd (zaa (pv 0) (zaa zai zae)))) zae)) (zaW (i:=3) zbk.nd rfl (Or.inl rfl))
 (zak (zdo (pe_bm PySem.F.plainAttrs_list PySem.F.slot_list_append PySem.F.type_list_append zhy (pv 1) (zaa (zcj (sc:=zaj zdb) (N:=["_law_left_here","_law_table","_law_wide","_law_i","_law_choice","_law_bent"]) (Nc:=["_law_j","_law_left_here"]) (cap:=[none,some 0]) rfl rfl rfl (.of (by decide +kernel)) (zbF rfl T.z_range (zaa (pv 2) zae)) (fun _ _ _ _=>(zaW (i:=0) (show List.Nodup (["_law_j","_law_left_here"]:List Str) from by decide) rfl (Or.inl rfl))) (fun _ _ _ _=>zbQ) (fun _ _ _ _=>(zaP zgK (zaG G__law_draw (hr.mono (by decide)) rfl T.m__law_draw T.F__law_draw.kp T.b__law_draw .nil zbd (zaa (pv 1) (zaa zai zae))) zai))) zae)))))
 (zaf (zaL (i:=3) zbk.nd rfl (Or.inl rfl) (zaG G__law_draw (hr.mono (by decide)) rfl T.m__law_draw T.F__law_draw.kp T.b__law_draw .nil zbd (zaa (pv 0) (zaa (zas zar rfl T.z_len PySem.boot_len (zaa (pv 1) zae)) zae))))
 (zaf (zaL (i:=4) zbk.nd rfl (Or.inl rfl) (zaG G__law_draw (hr.mono (by decide)) rfl T.m__law_draw T.F__law_draw.kp T.b__law_draw .nil zbd (zaa (pv 0) (zaa zai zae))))
 (zaf (zaL (i:=5) zbk.nd rfl (Or.inl rfl) (za9 (zaa (za9 zae) (zaa (za9 (zaa (za9 zae) zae)) (zaa (zaP zfO (pv 1) (za9 (zaa (zaP zfu (za9 (zaa zai zae)) (zaP zdV (pv 2) zai)) zae))) (zaa (zaP zfO (zaP zfO (zeB zgk (pv 1) zgB (zgq (pv 3))) (za9 (zaa (zeB zgk (zaO zat (pv 1) (pv 3) (fun _ _=>rfl)) (zgq zai) zgB) zae))) (zeB zgk (pv 1) (zgq (zaP zdV (pv 3) zai)) zgB)) (zaa (zaP zfO (pv 1) (zaP zfu (za9 (zaa (za9 zae) zae)) zai)) zae)))))))
 (zaf (zaL (i:=5) zbk.nd rfl (Or.inl rfl) (zaP zfO (pv 5) (za9 (zaa (zaP zfu (za9 (zaa (zaP zfu (za9 (zaa zai zae)) (pv 2)) zae)) zai) (zaa (zaP zfu (za9 (zaa (zaP zfu (za9 (zaa zai zae)) (pv 2)) zae)) zai) (zaa (za9 (zaa (zaP zfu (za9 (zaa zai zae)) zai) zae)) (zaa (za9 (zaa (zaP zfu (za9 (zaa zai zae)) zai) zae)) (zaa (zaP zfu (za9 (zaa (za9 zae) zae)) zai) (zaa (zes zfT rfl T.z_tuple zi9 (zaa (pv 1) zae)) zae)))))))))
 (zaf (zbq (zbD (zaU zhQ (pv 4) zai (za4 _)) (zak (zaJ (zaO zat (pv 5) (pv 4) (fun _ _=>rfl)))) zaN))
 (zaf (zbq (zbD (zaU zhQ (pv 4) zai (za4 _)) (zak (zeR (zaO zat (za9 (zaa zft (zaa zgM (zaa zd2 (zaa (zdY (zaa zai zae)) zae))))) (zaP zgK (pv 4) zai) (fun _ _=>rfl)) (zeS (zaO zat (pv 1) (pv 3) (fun _ _=>rfl)) (zaG G__law_draw (hr.mono (by decide)) rfl T.m__law_draw T.F__law_draw.kp T.b__law_draw .nil zbd (zaa (pv 0) (zaa (pv 2) zae))) zcr))) zaN))
 (zaf (zbq (zbD (zaU zgh (pv 4) zai (za4 _)) (zak (zeR (zaO zat (za9 (zaa (zes zfT rfl T.z_tuple zi9 (zaa (zaO zat (pv 1) (pv 3) (fun _ _=>rfl)) zae)) (zaa zd2 (zaa zai (zaa zgM zae))))) (zaG G__law_draw (hr.mono (by decide)) rfl T.m__law_draw T.F__law_draw.kp T.b__law_draw .nil zbd (zaa (pv 0) (zaa zai zae))) (fun _ _=>rfl)) (zeS (pv 1) (pv 3) zcr))) zaN))
 (zaf (zbq (zbD (zaU zgh (pv 4) zai (za4 _)) (zak (zaJ (zaO zat (za9 (zaa zd2 (zaa zai (zaa zgM (zaa zp7 zae))))) (zaG G__law_draw (hr.mono (by decide)) rfl T.m__law_draw T.F__law_draw.kp T.b__law_draw .nil zbd (zaa (pv 0) (zaa zai zae))) (fun _ _=>rfl)))) zaN))
 (zak (zaJ (pv 1)))))))))))))),
  zj4 hp so c0 q⟩
def dpt:Nat→Tr→Prop
 | 0,t=>ztW t
 | n+1,.lst ts=>∀ u∈ts,dpt n u
 | n+1,.tup ts=>∀ u∈ts,dpt n u
 | _+1,_=>True
theorem Sh.shows:∀ {n:Nat} {t:Tr} {v:V},dpt n t→Sh H t v→zem K H n t v
 | 0,t,v,d,h=>by
  cases h with
  | int i=>exact .int i
  | bl b=>exact .bl b
  | str x=>exact .str x
  | non=>exact .non
  | lst h l e=>exact d.elim
  | tup h l e=>exact d.elim
 | n+1,t,v,d,h=>by
  cases h with
  | int i=>exact .int i
  | bl b=>exact .bl b
  | str x=>exact .str x
  | non=>exact .non
  | lst h l e=>exact .lst (SqL.of h) l fun i x t e1 e2=>Sh.shows (d t (zb8 e2)) (e i x t e1 e2)
  | tup h l e=>exact .tup (SqT.of h) l fun i x t e1 e2=>Sh.shows (d t (zb8 e2)) (e i x t e1 e2)
theorem zhh {n:Nat} (l:List Int):∀ u∈l.map Tr.int,dpt n u:=fun u hu=>by
 obtain ⟨i,_,rfl⟩:=List.mem_map.mp hu
 cases n <;> trivial
theorem zdK {n m:Nat} {t:Tr} (h:dpt n t):∀ u∈(List.replicate m [t]).flatten,dpt n u:=fun u hu=>by rw [zmk hu];exact h
theorem zgf {n:Nat} {t:Tr} (h:dpt n t):∀ u∈[t],dpt n u:=fun u hu=>by rw [List.mem_singleton.mp hu];exact h
theorem zj1 {n:Nat} {ts us:List Tr} (h1:∀ u∈ts,dpt n u) (h2:∀ u∈us,dpt n u):∀ u∈ts++us,dpt n u:=fun u hu=>(List.mem_append.mp hu).elim (h1 u) (h2 u)
theorem ztN {R:List (List Int)} {w:Nat} {i c:Int} {s:Ps} {t:Tr} (e:thR R w i c s=some t):dpt 3 t:=by
 have rk:∀ u∈R.map rT,dpt 2 u:=fun u hu=>by
  obtain ⟨l,_,rfl⟩:=List.mem_map.mp hu
  exact zhh (n:=1) l
 have nil2:dpt 2 (.lst []):=fun u hu=>absurd hu List.not_mem_nil
 have one1:∀ k:Int,dpt 1 (.int k):=fun _=>trivial
 unfold thR at e
 split at e
 ·injection e with e
  rw [← e]
  match c.toNat with
  | 0=>exact fun u hu=>absurd hu List.not_mem_nil
  | 1=>exact zgf nil2
  | 2=>exact zj1 rk (zgf (zdK (n:=1) (one1 1)))
  | 3=>exact zj1 (zj1 (fun u hu=>rk u (zgs hu)) (zgf (fun u hu=>zhh (n:=1) _ u (zgs hu)))) (fun u hu=>rk u (zgs hu))
  | 4=>exact zj1 rk (zdK nil2)
  | 5=>exact zdK (n:=2) (zdK (n:=1) (one1 0))
  | 6=>exact zdK (n:=2) (zdK (n:=1) (one1 0))
  | 7=>exact zgf (n:=2) (zdK (n:=1) (one1 1))
  | 8=>exact zgf (n:=2) (zdK (n:=1) (one1 1))
  | 9=>exact zdK nil2
  | 10=>exact rk
  | n+11=>trivial
 ·split at e
  ·injection e with e
   rw [← e]
   intro r hr
   rcases zgr hr with hr | rfl
   ·exact rk r hr
   ·intro u hu
    rcases zgr hu with hu | rfl
    ·exact zhh (n:=1) _ u hu
    ·match (c - 11).toNat with
     | 0=>trivial
     | 1=>trivial
     | 2=>trivial
     | 3=>exact zgf (n:=0) trivial
     | n+4=>trivial
  ·split at e
   ·injection e with e
    rw [← e]
    intro r hr
    rcases zgr hr with hr | rfl
    ·exact rk r hr
    ·match (drF s 4).toNat with
     | 0=>exact zhh (n:=1) _
     | 1=>trivial
     | 2=>trivial
     | 3=>trivial
     | n+4=>trivial
   ·split at e
    ·match (drF s 4).toNat,e with
     | 0,e=>cases e;trivial
     | 1,e=>cases e;trivial
     | 2,e=>cases e;trivial
     | 3,e=>cases e
     | n+4,e=>cases e
    ·injection e with e
     rw [← e]
     exact rk
theorem Sh.bar {H':Hp} {P:Addr} {t:Tr} {v:V} (h:Sh H t v) (L:LT H P) (b:Bar P H H'):Sh H' t v:=by
 induction h with
 | int i=>exact .int i
 | bl b=>exact .bl b
 | str x=>exact .str x
 | non=>exact .non
 | lst h l _ ih=>exact .lst (b _ _ (L.neL h) h) l ih
 | tup h l _ ih=>exact .tup (b _ _ (L.neT h) h) l ih
theorem ShO.bar {H':Hp} {P:Addr} {o:Option Tr} {v:V} (h:ShO H o v) (L:LT H P) (b:Bar P H H'):ShO H' o v:=by
 cases o with
 | some t=>exact Sh.bar h L b
 | none =>
  obtain ⟨p,e,hp⟩:=h
  refine ⟨p,e,b _ _ (fun z=>?_) hp⟩
  obtain ⟨ps,hP⟩:=L.tbl
  rw [z,hP] at hp
  cases hp
theorem zs3 {o:Option Tr} {v v':V} (d:∀ t,o=some t→dpt 3 t) (h:ShO H o v) (h':ShO H o v') (q:Q (.bl false) H):zlu K v v' H Q:=by
 cases o with
 | none =>
  obtain ⟨p,rfl,hp⟩:=h
  obtain ⟨p',rfl,hp'⟩:=h'
  exact .inr ⟨p,p',rfl,rfl,hp,hp',q⟩
 | some t =>
  have dt:=d t rfl
  have h:Sh H t v:=h
  have h':Sh H t v':=h'
  have fl:∀ {x:V},zuT x x=true→zlu K x x H Q:=fun {x} sx=>.inl (.inl ⟨sx,by rw [decide_eq_true rfl];exact q⟩)
  cases t with
  | int i =>
   cases h
   cases h'
   exact fl rfl
  | bl i =>
   cases h
   cases h'
   exact fl rfl
  | str i =>
   cases h
   cases h'
   exact fl rfl
  | non =>
   cases h
   cases h'
   exact fl rfl
  | lst ts=>exact .inl (.inr ⟨2,ts,by decide,.inl ⟨h.shows dt,h'.shows dt⟩,q⟩)
  | tup ts=>exact .inl (.inr ⟨2,ts,by decide,.inr ⟨h.shows dt,h'.shows dt⟩,q⟩)
theorem znd {D:zbO} {σ:St} {i j:Nat} {v v':V} {t:TS} (hi:σ[i]?=some (some v)) (hj:σ[j]?=some (some v')) (n:∀ Q:VK,Q (.bl false) H→zlu K v v' H Q) (q:D.nx σ H):zbE (zaQ (tOp (zlu K) (zad i) (zad j))) t zaR D σ H :=
 ⟨v,hi,v',hj,n _ ⟨false,rfl,znt q⟩⟩
theorem zos {H1 H2:Hp} {l:Addr} (s:za0 H H1) (hl:H1 l=none) {o:HO} (b:Bar l (L2.upd H1 l o) H2):za0 H H2:=fun x u h=>by
 have n:x≠l:=zaV (s _ _ h) hl
 exact b _ _ n (by rw [zal n];exact s _ _ h)
def zpy (K:PySem.W.Frag) (P:Addr):Sp:=fun vs H Q _=>∃ (p:Addr) (ns:List Int),vs=[.ref p]∧SqL K H p (ns.map V.int)∧ns.length≤63∧(∀ x∈ns,x.natAbs<2 ^ 2 ^ 20)∧LT H P∧∀ H',Q (.bl true) H'
def zlP (K:PySem.W.Frag) (a:Ad):TS :=
 (zbE (tB (zaK zod [] E0 (zab (zad 2) zam))) (zbE (zaQ (tOp rNe (tCB (fun xs H Q=>∃ p ys,xs=[.ref p]∧(SqL K H p ys∨SqT K H p ys)∧Q (.int ys.length) H) (zab (zaK (zhb a) [] E0 (zab (zad 2) zam)) zam)) (tC (.int 3)))) (zbo (tC (.bl false))) zaR) (zbE (zaQ (tOp (rIn K false) (tC (.bl false)) (zbW (zeh (zab (tC (.int 4)) zam)) (zao 0) za7 (zaK (zsR a) [] E0 (zab (zad 1) (zab (zad 0) zam))) [none,some 2]))) (zbo (tC (.bl false))) zaR))
theorem zdG (K:PySem.W.Frag) (a:Ad) (D:zbO) (σ:St) (H:Hp):zlP K a D σ H=(zbE (tB (zaK zod [] E0 (zab (zad 2) zam))) (zbE (zaQ (tOp rNe (tCB (fun xs H Q=>∃ p ys,xs=[.ref p]∧(SqL K H p ys∨SqT K H p ys)∧Q (.int ys.length) H) (zab (zaK (zhb a) [] E0 (zab (zad 2) zam)) zam)) (tC (.int 3)))) (zbo (tC (.bl false))) zaR) (zbE (zaQ (tOp (rIn K false) (tC (.bl false)) (zbW (zeh (zab (tC (.int 4)) zam)) (zao 0) za7 (zaK (zsR a) [] E0 (zab (zad 1) (zab (zad 0) zam))) [none,some 2]))) (zbo (tC (.bl false))) zaR)) D σ H:=rfl
def zl0 (K:PySem.W.Frag) (a:Ad):TS :=
 (zaM (za6 (zaK zh2 [] E0 (zab (zaK zio [] E0 (zab (zb5 (zab (zad 1) zam)) (zab (tC (.int 0)) zam))) zam)) (zao 2))
 (zaM (za6 (zaK zh2 [] E0 (zab (zaK zio [] E0 (zab (zb5 (zab (zad 1) zam)) (zab (tC (.int 0)) zam))) zam)) (zao 3))
 (zaM (zdy (zlP K a))
 (zbE (zaQ (tOp (zlu K) (zad 2) (zad 3))) (zbo (tC (.bl false))) zaR))))
theorem zeC (K:PySem.W.Frag) (a:Ad) (D:zbO) (σ:St) (H:Hp):zl0 K a D σ H=(zaM (za6 (zaK zh2 [] E0 (zab (zaK zio [] E0 (zab (zb5 (zab (zad 1) zam)) (zab (tC (.int 0)) zam))) zam)) (zao 2))
 (zaM (za6 (zaK zh2 [] E0 (zab (zaK zio [] E0 (zab (zb5 (zab (zad 1) zam)) (zab (tC (.int 0)) zam))) zam)) (zao 3))
 (zaM (zdy (zlP K a))
 (zbE (zaQ (tOp (zlu K) (zad 2) (zad 3))) (zbo (tC (.bl false))) zaR)))) D σ H:=rfl
def zsS (K:PySem.W.Frag) (a:Ad):TS :=
 (zaM (zmu (zdJ K (tOp zkX (tCB zhu (zab (zqI (zab (tC (.int 18)) zam)) zam)) (tSl (znQ K) (zad 0) zcE (zgU (tC (.int 63)))))) (zao 1)
 (zl0 K a))
 (zbo (tC (.bl true))))
theorem ztk (i:Nat):(List.replicate i true).map V.bl++[V.bl true]=V.bl true::(List.replicate i true).map V.bl:=by
 induction i with
 | zero=>rfl
 | succ n ih=>rw [List.replicate_succ,List.map_cons,List.cons_append,ih]
theorem zpN {p:Addr} {x:Int} {x2 x3:Option V} {D:zbO} (bx:x.natAbs<2 ^ 2 ^ 20) (L:LT H a.p_lam) (q:∀ (v v':V) (H':Hp),Bar a.p_lam H H'→LT H' a.p_lam→D.nx [some (.ref p),some (.int x),some v,some v'] H') :
  zl0 K a D [some (.ref p),some (.int x),x2,x3] H:=by
 simp_all only [zeC,zad]
 refine ⟨by decide,fun c1 hc1=>⟨c1,x,rfl,zag,fun l1 hl1=>⟨l1,_,rfl,zag,zrt bx,?_,fun v H1 b1 h1=>?_⟩⟩⟩
 ·unfold lfF
  split <;> rfl
 have S1:za0 H H1:=zos (zap hc1 _) hl1 b1
 refine ⟨by decide,fun c2 hc2=>⟨c2,x,rfl,zag,fun l2 hl2=>⟨l2,_,rfl,zag,zrt bx,?_,fun v' H2 b2 h2=>?_⟩⟩⟩
 ·unfold lfF
  split <;> rfl
 have S2:za0 H1 H2:=zos (zap hc2 _) hl2 b2
 have S:=S1.trans S2
 have g1:=h1.same S2
 have L2':=L.same S
 have ok:=zuc (s:=lfF x)
 have dp:∀ t,thF (lfF x)=some t→dpt 3 t:=fun t e=>ztN e
 generalize thF (lfF x)=o at g1 h2 ok dp
 refine ⟨fun σ H'=>Bar a.p_lam H2 H'∧LT H' a.p_lam∧σ=[some (.ref p),some (.int x),some v,some v'],?_,?_⟩
 ·simp_all only [zdG,zeC,zad]
  refine ⟨v,o,rfl,g1,_,rfl,zdH (fun z=>?_) (fun z=>?_)⟩
  ·refine ⟨v,o,rfl,g1,ok.shr,ok.sml,L2',fun _ r x y z H' b L' h=>?_,fun y=>by rw [y] at z;cases z⟩
   exact ⟨r,rfl,_,.inr (SqT.of h),b,L'⟩
  ·have nb:zbA o=false:=by
    cases e:zbA o with
    | true=>exact absurd e z
    | false=>rfl
   refine ⟨by decide,by decide,fun D' hD=>?_⟩
   refine zbu (fun i ys σ H'=>za0 H2 H'∧ys=(List.replicate i true).map V.bl∧∃ y,σ=[y,some v]) ⟨zap hD _,rfl,_,rfl⟩ ?_ ?_
   ·rintro i ys σ H' hi hD' ⟨s,rfl,y,rfl⟩
    simp_all only [zdG,zeC,zad]
    refine ⟨v,o,_,rfl,by omega,by omega,g1.same s,ok.shr,nb,ok.sml,L2'.same s,fun H3 s3=>?_⟩
    exact ⟨_,s3 _ _ hD',zbl (by rw [List.length_map,List.length_replicate];omega),_,zag,(s.trans s3).put hD,ztk i⟩
   ·rintro ys σ H' hD' ⟨s,rfl,y,rfl⟩
    refine ⟨D',rfl,_,.inl (SqL.of hD'),rfl,by decide,?_⟩
    rw [if_neg (by decide)]
    exact ⟨za0.bar s,L2'.same s⟩
 rintro σ H3 ⟨b3,L3,rfl⟩
 exact znd (i:=2) (j:=3) rfl rfl (fun _ r=>zs3 dp (g1.bar L2' b3) (h2.bar L2' b3) r) (q v v' H3 (fun b o nb h=>b3 _ _ nb (S _ _ h)) L3)
theorem zup {p:Addr} {ns:List Int} (hl:SqL K H p (ns.map V.int)) (ln:ns.length≤63) (hb:∀ x∈ns,x.natAbs<2 ^ 2 ^ 20) (L:LT H a.p_lam) (q:∀ H',Q (.bl true) H') :
  zsS K a { nx:=fun _ H'=>Q .non H',rt:=Q } (L2.zbi ["_law_script","_law_cell","_law_thing_here","_law_kept"] [.ref p]) H:=by
 unfold zsS
 simp_all only [zdG,zad]
 refine ⟨by decide,by decide,fun r hr=>⟨_,_,zag,by decide,by decide,by decide,by decide,by decide,fun l hl'=>?_⟩⟩
 have s1:=(zap hr (.rng 0 18)).add hl' (o:=.lst (List.map (fun k:Nat=>V.int (0+(k:Int))) (List.range (18 - 0:Int).toNat)))
 have h1:(L2.upd (L2.upd H r (.rng 0 18)) l (.lst (List.map (fun k:Nat=>V.int (0+(k:Int))) (List.range (18 - 0:Int).toNat)))) l=some (.lst (List.map (fun k:Nat=>V.int (0+(k:Int))) (List.range (18 - 0:Int).toNat))):=zag
 generalize L2.upd (L2.upd H r (.rng 0 18)) l (.lst (List.map (fun k:Nat=>V.int (0+(k:Int))) (List.range (18 - 0:Int).toNat)))=H1 at s1 h1 ⊢
 refine ⟨_,s1.seq hl,fun c hc=>?_⟩
 have s2:=zap hc (.lst (zkG (ns.map V.int) none (some 63)))
 have h2:(L2.upd H1 c (.lst (zkG (ns.map V.int) none (some 63)))) c=some (.lst (zkG (ns.map V.int) none (some 63))):=zag
 generalize L2.upd H1 c (.lst (zkG (ns.map V.int) none (some 63)))=H2 at s2 h2 ⊢
 refine ⟨_,s2 _ _ h1,_,h2,?_,fun w hw=>?_⟩
 ·have:=zh1 (ns.map V.int) none (some 63)
  rw [List.length_map] at this
  rw [List.length_map,List.length_range]
  exact zkJ (by show 18+_≤100;omega)
 have hcell:∀ x∈List.map (fun k:Nat=>V.int (0+(k:Int))) (List.range (18 - 0:Int).toNat)++zkG (ns.map V.int) none (some 63),∃ n:Int,x=.int n∧n.natAbs<2 ^ 2 ^ 20:=fun x hx=>by
  rcases List.mem_append.mp hx with hx | hx
  ·obtain ⟨k,hk,rfl⟩:=List.mem_map.mp hx
   have lk:k<18:=List.mem_range.mp hk
   refine ⟨_,rfl,Nat.lt_of_lt_of_le (show (0+(k:Int)).natAbs<2 ^ 5 by omega) (Nat.pow_le_pow_right (by decide) (by decide))⟩
  ·obtain ⟨n,hn,rfl⟩:=List.mem_map.mp (List.mem_of_mem_drop (List.mem_of_mem_take hx))
   exact ⟨n,rfl,hb n hn⟩
 generalize List.map (fun k:Nat=>V.int (0+(k:Int))) (List.range (18 - 0:Int).toNat)++zkG (ns.map V.int) none (some 63)=cells at hcell ⊢
 have L3:=((L.same s1).same s2).same (zap hw (.lst cells))
 refine ⟨⟨_,SqL.of zag⟩,?_⟩
 refine zej (K:=K) (xs:=cells) (fun i σ H'=>H' w=some (.lst cells)∧LT H' a.p_lam∧∃ x1 x2 x3,σ=[some (.ref p),x1,x2,x3]) ⟨zag,L3,_,_,_,rfl⟩ (fun i σ H' _ h=>SqL.of h.1) ?_ ?_
 ·rintro i x σ H' hx ⟨hw',L',x1,x2,x3,rfl⟩
  obtain ⟨n,rfl,bn⟩:=hcell x (zb8 hx)
  simp_all only [zdG,zad]
  exact zpN bn L' fun v v' H'' b L''=>⟨b _ _ (L'.neL hw') hw',L'',_,_,_,rfl⟩
 ·rintro σ H' ⟨_,_,x1,x2,x3,rfl⟩
  simp_all only [zdG,zeC,zad]
  exact q H'
theorem zmE:zaI ["_law_script","_law_cell","_law_thing_here","_law_kept"] ["_law_script"] (zaj znU):=⟨rfl,rfl,rfl,by decide +kernel,rfl,by decide +kernel,by decide +kernel⟩
theorem zuC (T:Txt K mg base a):zcw P w K mg base CX0 11 a.f_law a.d_law ["_law_script"] (zpy K a.p_lam):=by
 have G__law_is_table:=zg5 (P:=P) (w:=w) (base:=base) T
 have G__law_left:=zk8 (P:=P) (w:=w) (base:=base) T
 have G__law_refused:=zin (P:=P) (w:=w) (base:=base) T
 have G__law_thing:=zj0 (P:=P) (w:=w) (base:=base) T
 have G_table_worth:=zeP (P:=P) (w:=w) (base:=base) T
 refine T.F_law.ok zmE (fun vs H Q E h=>?_) (fun cdv A outer s H vs Q E hr h=>?_)
 ·obtain ⟨p,ns,rfl,hl,ln,hb,L,q⟩:=h
  rfl
 obtain ⟨p,ns,rfl,hl,ln,hb,L,q⟩:=h
 exact ⟨zsS K a,(zaf (zfP PassesOwn.never rfl (zci (zaP zfO (zes (zfp rfl) rfl T.z_list zc4 (zaa (zoN rfl T.z_range (zaa zai zae)) zae)) (zeB zgk (pv 0) zgB (zgq zai)))) (zaW (i:=1) zmE.nd rfl (Or.inl rfl))
 (zaf (zaL (i:=2) zmE.nd rfl (Or.inr rfl) (zaG G__law_thing (hr.mono (by decide)) rfl T.m__law_thing T.F__law_thing.kp T.b__law_thing .nil zbd (zaa (zaG G__law_left (hr.mono (by decide)) rfl T.m__law_left T.F__law_left.kp T.b__law_left .nil zbd (zaa (za9 (zaa (pv 1) zae)) (zaa zai zae))) zae)))
 (zaf (zaL (i:=3) zmE.nd rfl (Or.inl rfl) (zaG G__law_thing (hr.mono (by decide)) rfl T.m__law_thing T.F__law_thing.kp T.b__law_thing .nil zbd (zaa (zaG G__law_left (hr.mono (by decide)) rfl T.m__law_left T.F__law_left.kp T.b__law_left .nil zbd (zaa (za9 (zaa (pv 1) zae)) (zaa zai zae))) zae)))
 (zaf (zbq (zbD (zc5 (zaG G__law_is_table (hr.mono (by decide)) rfl T.m__law_is_table T.F__law_is_table.kp T.b__law_is_table .nil zbd (zaa (pv 2) zae))) (zak (zbD (zaU zs5 (zas zar rfl T.z_len PySem.boot_len (zaa (zaG G_table_worth (hr.mono (by decide)) rfl T.m_table_worth T.F_table_worth.kp T.b_table_worth .nil zuB (zaa (pv 2) zae)) zae)) zai (za4 _)) (zak (zaJ zft)) zaN)) (zak (zbD (zaU zoW zft (zcj (sc:=zaj znU) (N:=["_law_script","_law_cell","_law_thing_here","_law_kept"]) (Nc:=["_law_which","_law_thing_here"]) (cap:=[none,some 2]) rfl rfl rfl (.of (by decide +kernel)) (zbF rfl T.z_range (zaa zai zae)) (fun _ _ _ _=>(zaW (i:=0) (show List.Nodup (["_law_which","_law_thing_here"]:List Str) from by decide) rfl (Or.inl rfl))) (fun _ _ _ _=>zbQ) (fun _ _ _ _=>(zaG G__law_refused (hr.mono (by decide)) rfl T.m__law_refused T.F__law_refused.kp T.b__law_refused .nil zbd (zaa (pv 1) (zaa (pv 0) zae))))) (by with_unfolding_all rfl)) (zak (zaJ zft)) zaN))))
 (zak (zbD (zaU (ztb hr.units) (pv 2) (pv 3) (za4 _)) (zak (zaJ zft)) zaN))))))
 (zak (zaJ zft))),
  zup hl ln hb L q⟩
end
theorem zpl {us:List Value} {n:Nat} (h:us.length=n+1):∃ a t,us=a::t∧t.length=n:=by
 cases us with
 | nil=>cases h
 | cons a t=>exact ⟨a,t,rfl,Nat.succ.inj h⟩
theorem znM {us:List Value} (h:us.length=1):∃ a0,us=[a0]:=by
 obtain ⟨a0,u0,rfl,h0⟩:=zpl h
 cases List.eq_nil_of_length_eq_zero h0
 exact ⟨a0,rfl⟩
theorem zjD {us:List Value} (h:us.length=2):∃ a0,∃ a1,us=[a0,a1]:=by
 obtain ⟨a0,u0,rfl,h0⟩:=zpl h
 obtain ⟨a1,u1,rfl,h1⟩:=zpl h0
 cases List.eq_nil_of_length_eq_zero h1
 exact ⟨a0,a1,rfl⟩
theorem lst3 {us:List Value} (h:us.length=3):∃ a0,∃ a1,∃ a2,us=[a0,a1,a2]:=by
 obtain ⟨a0,u0,rfl,h0⟩:=zpl h
 obtain ⟨a1,u1,rfl,h1⟩:=zpl h0
 obtain ⟨a2,u2,rfl,h2⟩:=zpl h1
 cases List.eq_nil_of_length_eq_zero h2
 exact ⟨a0,a1,a2,rfl⟩
theorem lst4 {us:List Value} (h:us.length=4):∃ a0,∃ a1,∃ a2,∃ a3,us=[a0,a1,a2,a3]:=by
 obtain ⟨a0,u0,rfl,h0⟩:=zpl h
 obtain ⟨a1,u1,rfl,h1⟩:=zpl h0
 obtain ⟨a2,u2,rfl,h2⟩:=zpl h1
 obtain ⟨a3,u3,rfl,h3⟩:=zpl h2
 cases List.eq_nil_of_length_eq_zero h3
 exact ⟨a0,a1,a2,a3,rfl⟩
structure Txm (K:PySem.W.Frag) (mg:Str→Option Value) (a:Ad):Prop where
 m:mg "law"=some (.ref a.f_law)
 F:Fun K "law" "law" znU a.f_law a.d_law
 p:a.p_lam=330
 T:∀ base:Heap,PySem.W.CodeHd base 332 330→base.BuiltinsAt mg 330→Txt (zby 330 K) mg base a
theorem zuP {K:PySem.W.Frag} {mg:Str→Option Value} (hP:K.lookup 330=some (PySem.W.tabObj #[]))
  {f0 f1 f2 f3 f4 f5 f6 f7 f8 f9 f10 f11 f12 f13 f14 f15 f16 f17 f18 f19 f20 f21 f22 f23 f24 f25 f26 f27 f28 f29 f30 f31 f32 f33 f34 f35 f36 f37:Addr} {d0 d1 d2 d3 d4 d5 d6 d7 d8 d9 d10 d11 d12 d13 d14 d15 d16 d17 d18 d19 d20 d21 d22 d23 d24 d25 d26 d27 d28 d29 d30 d31 d32 d33 d34 d35 d36 d37:FuncData}
  {c_HideError c_NoNumber c_NoTable c_NoBoxes c_NoBudget c_NoOrder c_NoWeights c_TooGreat c_NoKind c_NoTree c_NoTurns c_NoPlay c_NoRow c_NoName c_NoRoad c_NoWeb c_NoPlan c_NoText c_NoPaper c_Board:Addr}
  (F0:Fun K "divisor" "divisor" zhT f0 d0) (m0:mg "divisor"=some (.ref f0))
  (F1:Fun K "ratio" "ratio" zlZ f1 d1) (m1:mg "ratio"=some (.ref f1))
  (F2:Fun K "plus" "plus" zpf f2 d2) (m2:mg "plus"=some (.ref f2))
  (F3:Fun K "shared_divisor" "shared_divisor" zcP f3 d3) (m3:mg "shared_divisor"=some (.ref f3))
  (F4:Fun K "lowest" "lowest" zhj f4 d4) (m4:mg "lowest"=some (.ref f4))
  (F5:Fun K "is_whole" "is_whole" zf3 f5 d5) (m5:mg "is_whole"=some (.ref f5))
  (F6:Fun K "are_weights" "are_weights" zfq f6 d6) (m6:mg "are_weights"=some (.ref f6))
  (F7:Fun K "row_sums" "row_sums" zjs f7 d7) (m7:mg "row_sums"=some (.ref f7))
  (F8:Fun K "column_sums" "column_sums" zfV f8 d8) (m8:mg "column_sums"=some (.ref f8))
  (F9:Fun K "first_column_above" "first_column_above" zcR f9 d9) (m9:mg "first_column_above"=some (.ref f9))
  (F10:Fun K "first_row_below" "first_row_below" zdF f10 d10) (m10:mg "first_row_below"=some (.ref f10))
  (F11:Fun K "is_row" "is_row" zhv f11 d11) (m11:mg "is_row"=some (.ref f11))
  (F12:Fun K "is_table" "is_table" zdE f12 d12) (m12:mg "is_table"=some (.ref f12))
  (F13:Fun K "look_table" "look_table" zef f13 d13) (m13:mg "look_table"=some (.ref f13))
  (F14:Fun K "__init__" "Board.__init__" zb2 f14 d14)
  (F15:zpn K "entering" "Board.entering" zbz f15 d15 332) (ma15:PySem.W.findIn K (.ref c_Board) "entering"=some (some (.ref f15))) (mf15:PySem.W.isFn K (.ref f15)=true)
  (F16:Fun K "steepest" "Board.steepest" zcJ f16 d16) (ma16:PySem.W.findIn K (.ref c_Board) "steepest"=some (some (.ref f16))) (mf16:PySem.W.isFn K (.ref f16)=true)
  (F17:Fun K "steepness" "Board.steepness" zbL f17 d17) (ma17:PySem.W.findIn K (.ref c_Board) "steepness"=some (some (.ref f17))) (mf17:PySem.W.isFn K (.ref f17)=true)
  (F18:Fun K "leaving" "Board.leaving" zc6 f18 d18) (ma18:PySem.W.findIn K (.ref c_Board) "leaving"=some (some (.ref f18))) (mf18:PySem.W.isFn K (.ref f18)=true)
  (F19:Fun K "is_sooner" "Board.is_sooner" zcm f19 d19) (ma19:PySem.W.findIn K (.ref c_Board) "is_sooner"=some (some (.ref f19))) (mf19:PySem.W.isFn K (.ref f19)=true)
  (F20:Fun K "swap" "Board.swap" zdf f20 d20) (ma20:PySem.W.findIn K (.ref c_Board) "swap"=some (some (.ref f20))) (mf20:PySem.W.isFn K (.ref f20)=true)
  (F21:Fun K "swapped_row" "Board.swapped_row" zbv f21 d21) (ma21:PySem.W.findIn K (.ref c_Board) "swapped_row"=some (some (.ref f21))) (mf21:PySem.W.isFn K (.ref f21)=true)
  (F22:Fun K "first_grid" "first_grid" zb9 f22 d22) (m22:mg "first_grid"=some (.ref f22))
  (F23:Fun K "row_weights" "row_weights" zcT f23 d23) (m23:mg "row_weights"=some (.ref f23))
  (F24:Fun K "column_weights" "column_weights" zb4 f24 d24) (m24:mg "column_weights"=some (.ref f24))
  (F25:Fun K "solved" "solved" zg7 f25 d25) (m25:mg "solved"=some (.ref f25))
  (F26:Fun K "table_worth" "table_worth" zdM f26 d26) (m26:mg "table_worth"=some (.ref f26))
  (F27:Fun K "table_judged" "table_judged" zdt f27 d27) (m27:mg "table_judged"=some (.ref f27))
  (F28:Fun K "best_rows" "best_rows" zdS f28 d28) (m28:mg "best_rows"=some (.ref f28))
  (F29:Fun K "best_columns" "best_columns" zcu f29 d29) (m29:mg "best_columns"=some (.ref f29))
  (F30:Fun K "_law_mix" "_law_mix" zgt f30 d30) (m30:mg "_law_mix"=some (.ref f30))
  (F31:Fun K "_law_cell_at" "_law_cell_at" zdr f31 d31) (m31:mg "_law_cell_at"=some (.ref f31))
  (F32:Fun K "_law_left" "_law_left" zeY f32 d32) (m32:mg "_law_left"=some (.ref f32))
  (F33:Fun K "_law_draw" "_law_draw" ze7 f33 d33) (m33:mg "_law_draw"=some (.ref f33))
  (F34:Fun K "_law_thing" "_law_thing" zdb f34 d34) (m34:mg "_law_thing"=some (.ref f34))
  (F35:Fun K "_law_is_table" "_law_is_table" zc3 f35 d35) (m35:mg "_law_is_table"=some (.ref f35))
  (F36:Fun K "_law_refused" "_law_refused" zdn f36 d36) (m36:mg "_law_refused"=some (.ref f36))
  (F37:Fun K "law" "law" znU f37 d37) (m37:mg "law"=some (.ref f37))
  (cl_Board:Cls K c_Board) (K_Board:Mk K c_Board f14) (na_Board_grid:PySem.W.findIn K (.ref c_Board) "grid"=some none) (na_Board_scale:PySem.W.findIn K (.ref c_Board) "scale"=some none) (na_Board_idle:PySem.W.findIn K (.ref c_Board) "idle"=some none) (na_Board_busy:PySem.W.findIn K (.ref c_Board) "busy"=some none) (na_Board_stuck:PySem.W.findIn K (.ref c_Board) "stuck"=some none)
  (z_isinstance:mg "isinstance"=none)
  (z_int:mg "int"=none)
  (z_bool:mg "bool"=none)
  (z_list:mg "list"=none)
  (z_len:mg "len"=none)
  (z_all:mg "all"=none)
  (z_sum:mg "sum"=none)
  (z_min:mg "min"=none)
  (z_max:mg "max"=none)
  (z_enumerate:mg "enumerate"=none)
  (z_range:mg "range"=none)
  (z_abs:mg "abs"=none)
  (z_zip:mg "zip"=none)
  (z_tuple:mg "tuple"=none)
  (z_ValueError:mg "ValueError"=none)
  (ac_HideError:mg "HideError"=some (.ref c_HideError))
  (ac_NoNumber:mg "NoNumber"=some (.ref c_NoNumber))
  (ac_NoTable:mg "NoTable"=some (.ref c_NoTable))
  (ac_NoBoxes:mg "NoBoxes"=some (.ref c_NoBoxes))
  (ac_NoBudget:mg "NoBudget"=some (.ref c_NoBudget))
  (ac_NoOrder:mg "NoOrder"=some (.ref c_NoOrder))
  (ac_NoWeights:mg "NoWeights"=some (.ref c_NoWeights))
  (ac_TooGreat:mg "TooGreat"=some (.ref c_TooGreat))
  (ac_NoKind:mg "NoKind"=some (.ref c_NoKind))
  (ac_NoTree:mg "NoTree"=some (.ref c_NoTree))
  (ac_NoTurns:mg "NoTurns"=some (.ref c_NoTurns))
  (ac_NoPlay:mg "NoPlay"=some (.ref c_NoPlay))
  (ac_NoRow:mg "NoRow"=some (.ref c_NoRow))
  (ac_NoName:mg "NoName"=some (.ref c_NoName))
  (ac_NoRoad:mg "NoRoad"=some (.ref c_NoRoad))
  (ac_NoWeb:mg "NoWeb"=some (.ref c_NoWeb))
  (ac_NoPlan:mg "NoPlan"=some (.ref c_NoPlan))
  (ac_NoText:mg "NoText"=some (.ref c_NoText))
  (ac_NoPaper:mg "NoPaper"=some (.ref c_NoPaper))
  (ac_Board:mg "Board"=some (.ref c_Board))
  {k_MOST:PySem.Tok} (ak_MOST:mg "MOST"=some (.int 12 k_MOST))
  (xc_HideError:PySem.W.excIn K c_HideError zf0 "ValueError.__new__"=true)
  (xc_NoTable:PySem.W.excIn K c_NoTable zf0 "ValueError.__new__"=true)
  (xc_NoWeights:PySem.W.excIn K c_NoWeights zf0 "ValueError.__new__"=true)
  (i_k_NoNumber:PySem.W.kitOne K (.ref c_NoTable) (.ref c_NoNumber)=some false)
  (i_k_NoTable:PySem.W.kitOne K (.ref c_NoTable) (.ref c_NoTable)=some true)
  (i_k_NoBoxes:PySem.W.kitOne K (.ref c_NoTable) (.ref c_NoBoxes)=some false)
  (i_k_NoBudget:PySem.W.kitOne K (.ref c_NoTable) (.ref c_NoBudget)=some false)
  (i_k_NoOrder:PySem.W.kitOne K (.ref c_NoTable) (.ref c_NoOrder)=some false)
  (i_k_NoWeights:PySem.W.kitOne K (.ref c_NoTable) (.ref c_NoWeights)=some false)
  (i_k_TooGreat:PySem.W.kitOne K (.ref c_NoTable) (.ref c_TooGreat)=some false)
  (i_k_NoKind:PySem.W.kitOne K (.ref c_NoTable) (.ref c_NoKind)=some false)
  (i_k_NoTree:PySem.W.kitOne K (.ref c_NoTable) (.ref c_NoTree)=some false)
  (i_k_NoTurns:PySem.W.kitOne K (.ref c_NoTable) (.ref c_NoTurns)=some false)
  (i_k_NoPlay:PySem.W.kitOne K (.ref c_NoTable) (.ref c_NoPlay)=some false)
  (i_k_NoRow:PySem.W.kitOne K (.ref c_NoTable) (.ref c_NoRow)=some false)
  (i_k_NoName:PySem.W.kitOne K (.ref c_NoTable) (.ref c_NoName)=some false)
  (i_k_NoRoad:PySem.W.kitOne K (.ref c_NoTable) (.ref c_NoRoad)=some false)
  (i_k_NoWeb:PySem.W.kitOne K (.ref c_NoTable) (.ref c_NoWeb)=some false)
  (i_k_NoPlan:PySem.W.kitOne K (.ref c_NoTable) (.ref c_NoPlan)=some false)
  (i_k_NoText:PySem.W.kitOne K (.ref c_NoTable) (.ref c_NoText)=some false)
  (i_k_NoPaper:PySem.W.kitOne K (.ref c_NoTable) (.ref c_NoPaper)=some false)
  (i_k_ValueError:PySem.W.kitOne K (.ref c_NoTable) (.type "ValueError")=some true)
  (i_sub:PySem.W.subIn K (.ref c_NoTable) (.ref c_HideError)=some true)
  (e_ga:PySem.W.findIn K (.ref c_NoTable) "__getattribute__"=some (some (.builtin "BaseException.__getattribute__")))
  (e_gn:PySem.W.findIn K (.ref c_NoTable) "__getattr__"=some none)
  (e_cl:PySem.W.findIn K (.ref c_NoTable) "__class__"=some (some (.builtin "object.__class__")))
  (e_mb:PySem.W.mroIn K c_NoTable (.type "BaseException")=some true)
  (e_mo:PySem.W.mroIn K c_NoTable (.type "object")=some true)
  : Txm K mg ⟨f0,d0,f1,d1,f2,d2,f3,d3,f4,d4,f5,d5,f6,d6,f7,d7,f8,d8,f9,d9,f10,d10,f11,d11,f12,d12,f13,d13,f14,d14,f15,d15,f16,d16,f17,d17,f18,d18,f19,d19,f20,d20,f21,d21,f22,d22,f23,d23,f24,d24,f25,d25,f26,d26,f27,d27,f28,d28,f29,d29,f30,d30,f31,d31,f32,d32,f33,d33,f34,d34,f35,d35,f36,d36,f37,d37,c_HideError,c_NoNumber,c_NoTable,c_NoBoxes,c_NoBudget,c_NoOrder,c_NoWeights,c_TooGreat,c_NoKind,c_NoTree,c_NoTurns,c_NoPlay,c_NoRow,c_NoName,c_NoRoad,c_NoWeb,c_NoPlan,c_NoText,c_NoPaper,c_Board,k_MOST,330,332⟩:=by
 have G0:=zaF hP F0
 have G1:=zaF hP F1
 have G2:=zaF hP F2
 have G3:=zaF hP F3
 have G4:=zaF hP F4
 have G5:=zaF hP F5
 have G6:=zaF hP F6
 have G7:=zaF hP F7
 have G8:=zaF hP F8
 have G9:=zaF hP F9
 have G10:=zaF hP F10
 have G11:=zaF hP F11
 have G12:=zaF hP F12
 have G13:=zaF hP F13
 have G14:=zaF hP F14
 have G15:=F15.drop hP
 have G16:=zaF hP F16
 have G17:=zaF hP F17
 have G18:=zaF hP F18
 have G19:=zaF hP F19
 have G20:=zaF hP F20
 have G21:=zaF hP F21
 have G22:=zaF hP F22
 have G23:=zaF hP F23
 have G24:=zaF hP F24
 have G25:=zaF hP F25
 have G26:=zaF hP F26
 have G27:=zaF hP F27
 have G28:=zaF hP F28
 have G29:=zaF hP F29
 have G30:=zaF hP F30
 have G31:=zaF hP F31
 have G32:=zaF hP F32
 have G33:=zaF hP F33
 have G34:=zaF hP F34
 have G35:=zaF hP F35
 have G36:=zaF hP F36
 have G37:=zaF hP F37
 refine ⟨m37,F37,rfl,fun base hC hB=>⟨G0,G0.binds fun _ _ _ _ _ _ us hl=>by obtain ⟨_,_,rfl⟩:=zjD hl;rfl,m0,G1,G1.binds fun _ _ _ _ _ _ us hl=>by obtain ⟨_,_,rfl⟩:=zjD hl;rfl,m1,G2,G2.binds fun _ _ _ _ _ _ us hl=>by obtain ⟨_,_,rfl⟩:=zjD hl;rfl,m2,G3,G3.binds fun _ _ _ _ _ _ us hl=>by obtain ⟨_,rfl⟩:=znM hl;rfl,m3,G4,G4.binds fun _ _ _ _ _ _ us hl=>by obtain ⟨_,rfl⟩:=znM hl;rfl,m4,G5,G5.binds fun _ _ _ _ _ _ us hl=>by obtain ⟨_,rfl⟩:=znM hl;rfl,m5,G6,G6.binds fun _ _ _ _ _ _ us hl=>by obtain ⟨_,_,rfl⟩:=zjD hl;rfl,m6,G7,G7.binds fun _ _ _ _ _ _ us hl=>by obtain ⟨_,_,rfl⟩:=zjD hl;rfl,m7,G8,G8.binds fun _ _ _ _ _ _ us hl=>by obtain ⟨_,_,rfl⟩:=zjD hl;rfl,m8,G9,G9.binds fun _ _ _ _ _ _ us hl=>by obtain ⟨_,_,_,rfl⟩:=lst3 hl;rfl,m9,G10,G10.binds fun _ _ _ _ _ _ us hl=>by obtain ⟨_,_,_,rfl⟩:=lst3 hl;rfl,m10,G11,G11.binds fun _ _ _ _ _ _ us hl=>by obtain ⟨_,rfl⟩:=znM hl;rfl,m11,G12,G12.binds fun _ _ _ _ _ _ us hl=>by obtain ⟨_,rfl⟩:=znM hl;rfl,m12,G13,G13.binds fun _ _ _ _ _ _ us hl=>by obtain ⟨_,rfl⟩:=znM hl;rfl,m13,G14,G14.binds fun _ _ _ _ _ _ us hl=>by obtain ⟨_,_,rfl⟩:=zjD hl;rfl,G15,G15.fun.binds fun _ _ _ _ _ _ us hl=>by obtain ⟨_,rfl⟩:=znM hl;rfl,(zjd.mk ma15 mf15 F15.kp).drop hP,G16,G16.binds fun _ _ _ _ _ _ us hl=>by obtain ⟨_,_,rfl⟩:=zjD hl;rfl,(zjd.mk ma16 mf16 F16.kp).drop hP,G17,G17.binds fun _ _ _ _ _ _ us hl=>by obtain ⟨_,_,rfl⟩:=zjD hl;rfl,(zjd.mk ma17 mf17 F17.kp).drop hP,G18,G18.binds fun _ _ _ _ _ _ us hl=>by obtain ⟨_,_,rfl⟩:=zjD hl;rfl,(zjd.mk ma18 mf18 F18.kp).drop hP,G19,G19.binds fun _ _ _ _ _ _ us hl=>by obtain ⟨_,_,_,_,rfl⟩:=lst4 hl;rfl,(zjd.mk ma19 mf19 F19.kp).drop hP,G20,G20.binds fun _ _ _ _ _ _ us hl=>by obtain ⟨_,_,_,rfl⟩:=lst3 hl;rfl,(zjd.mk ma20 mf20 F20.kp).drop hP,G21,G21.binds fun _ _ _ _ _ _ us hl=>by obtain ⟨_,_,_,_,rfl⟩:=lst4 hl;rfl,(zjd.mk ma21 mf21 F21.kp).drop hP,G22,G22.binds fun _ _ _ _ _ _ us hl=>by obtain ⟨_,_,rfl⟩:=zjD hl;rfl,m22,G23,G23.binds fun _ _ _ _ _ _ us hl=>by obtain ⟨_,_,rfl⟩:=zjD hl;rfl,m23,G24,G24.binds fun _ _ _ _ _ _ us hl=>by obtain ⟨_,_,_,rfl⟩:=lst3 hl;rfl,m24,G25,G25.binds fun _ _ _ _ _ _ us hl=>by obtain ⟨_,rfl⟩:=znM hl;rfl,m25,G26,G26.binds fun _ _ _ _ _ _ us hl=>by obtain ⟨_,rfl⟩:=znM hl;rfl,m26,G27,G27.binds fun _ _ _ _ _ _ us hl=>by obtain ⟨_,_,_,_,rfl⟩:=lst4 hl;rfl,m27,G28,G28.binds fun _ _ _ _ _ _ us hl=>by obtain ⟨_,_,rfl⟩:=zjD hl;rfl,m28,G29,G29.binds fun _ _ _ _ _ _ us hl=>by obtain ⟨_,_,rfl⟩:=zjD hl;rfl,m29,G30,G30.binds fun _ _ _ _ _ _ us hl=>by obtain ⟨_,_,rfl⟩:=zjD hl;rfl,m30,G31,G31.binds fun _ _ _ _ _ _ us hl=>by obtain ⟨_,_,rfl⟩:=zjD hl;rfl,m31,G32,G32.binds fun _ _ _ _ _ _ us hl=>by obtain ⟨_,_,rfl⟩:=zjD hl;rfl,m32,G33,G33.binds fun _ _ _ _ _ _ us hl=>by obtain ⟨_,_,rfl⟩:=zjD hl;rfl,m33,G34,G34.binds fun _ _ _ _ _ _ us hl=>by obtain ⟨_,rfl⟩:=znM hl;rfl,m34,G35,G35.binds fun _ _ _ _ _ _ us hl=>by obtain ⟨_,rfl⟩:=znM hl;rfl,m35,G36,G36.binds fun _ _ _ _ _ _ us hl=>by obtain ⟨_,_,rfl⟩:=zjD hl;rfl,m36,G37,G37.binds fun _ _ _ _ _ _ us hl=>by obtain ⟨_,rfl⟩:=znM hl;rfl,m37,cl_Board.drop hP,K_Board.drop hP,zcd.drop hP na_Board_grid,zcd.drop hP na_Board_scale,zcd.drop hP na_Board_idle,zcd.drop hP na_Board_busy,zcd.drop hP na_Board_stuck,hC,hB,z_isinstance,z_int,z_bool,z_list,z_len,z_all,z_sum,z_min,z_max,z_enumerate,z_range,z_abs,z_zip,z_tuple,z_ValueError,ac_HideError,ac_NoNumber,ac_NoTable,ac_NoBoxes,ac_NoBudget,ac_NoOrder,ac_NoWeights,ac_TooGreat,ac_NoKind,ac_NoTree,ac_NoTurns,ac_NoPlay,ac_NoRow,ac_NoName,ac_NoRoad,ac_NoWeb,ac_NoPlan,ac_NoText,ac_NoPaper,ac_Board,ak_MOST,(zht hP _ _ _).trans xc_HideError,(zht hP _ _ _).trans xc_NoTable,(zht hP _ _ _).trans xc_NoWeights,⟨(zbc hP _ _).trans i_k_NoNumber,(zbc hP _ _).trans i_k_NoTable,(zbc hP _ _).trans i_k_NoBoxes,(zbc hP _ _).trans i_k_NoBudget,(zbc hP _ _).trans i_k_NoOrder,(zbc hP _ _).trans i_k_NoWeights,(zbc hP _ _).trans i_k_TooGreat,(zbc hP _ _).trans i_k_NoKind,(zbc hP _ _).trans i_k_NoTree,(zbc hP _ _).trans i_k_NoTurns,(zbc hP _ _).trans i_k_NoPlay,(zbc hP _ _).trans i_k_NoRow,(zbc hP _ _).trans i_k_NoName,(zbc hP _ _).trans i_k_NoRoad,(zbc hP _ _).trans i_k_NoWeb,(zbc hP _ _).trans i_k_NoPlan,(zbc hP _ _).trans i_k_NoText,(zbc hP _ _).trans i_k_NoPaper,(zbc hP _ _).trans i_k_ValueError,(zkr hP _ _).trans i_sub,zoA ⟨(zbG hP _ _).trans e_ga,(zbG hP _ _).trans e_gn,(zbG hP _ _).trans e_cl,(zjW hP _ _).trans e_mb,(zjW hP _ _).trans e_mo,(zht hP _ _ _).trans xc_NoTable⟩⟩⟩⟩
theorem ztJ {K:PySem.W.Frag} {w:World} {mg:Str→Option Value} {fa:Addr} {P:Program} (hfa:mg "law"=some (.ref fa)) {a:Ad} (M:Txm K mg a) :
  ∃ fd:FuncData,(∀ (s:Shared) (u:Value),BindsTo s fd ⟨[u],[]⟩ [("_law_script",u)])∧∀ base:Heap,(zby 330 K).In base→base.Ns mainGlobals mg→PySem.W.CodeHd base 332 330→base.BuiltinsAt mg 330→zcw P w (zby 330 K) mg base CX0 11 fa fd ["_law_script"] (zpy (zby 330 K) 330):=by
 have e:=hfa.symm.trans M.m
 cases e
 refine ⟨a.d_law,fun s v=>?_,fun base _ _ hC hB=>?_⟩
 ·obtain ⟨oc,od,kV,doc,pm,an,cdv,ct,osl,e,lk,hcd⟩:=M.F.ex
  rw [e]
  exact .of_eq rfl
 ·have h:=zuC (P:=P) (w:=w) (M.T base hC hB)
  rw [M.p] at h
  exact h
theorem walk {l:PySem.W.OpenLaw} {q:Program} {loose:List Str} {XP:(Str→Option Value)→Heap→Prop} {YP:World→Heap→Prop} {d:DefRec} {K:Params→PySem.W.Frag} (hn:l.most=some 63) (hdf:d.params.defaults=[])
  (hY:∀ (w:World) (h:Heap),YP w h→(K w.params).In h) (hPt:∀ w:World,(K w.params).lookup 330=some (PySem.W.tabObj #[])) (hC:∀ (w:World) (h:Heap),(K w.params).In h→PySem.W.CodeHd h 332 330)
  (F:∀ (w:World) (mg:Str→Option Value) (fa:Addr) (h:Heap),(K w.params).In h→h.Ns mainGlobals mg→mg d.name=some (.ref fa) →
   ∃ fd:FuncData,(∀ (s:Shared) (u:Value),BindsTo s fd ⟨[u],[]⟩ [("_law_script",u)])∧∀ base:Heap,(zby 330 (K w.params)).In base→base.Ns mainGlobals mg→PySem.W.CodeHd base 332 330→base.BuiltinsAt mg 330→zcw l.prog w (zby 330 (K w.params)) mg base CX0 11 fa fd ["_law_script"] (zpy (zby 330 (K w.params)) 330)) :
  PySem.W.WalkO q loose XP YP l.row.toRowW d [] (fun f vs=>PySem.call f vs) :=
 L2.zqV (n:=63) (k:=11) (x:="_law_script") (sp:=fun w=>zpy (zby 330 (K w.params)) 330) hn (by decide) hdf ⟨rfl,by decide,by decide⟩ hY hPt hC F fun _ _ a ns hb hl hP hS=>⟨a,ns,rfl,hS,hl,hb,.first hP,fun _=>rfl⟩
end My
open PySem PySem.W in
theorem My.walk_at {K:Params→Frag} {w:World} {h:Heap} {l:OpenLaw} {q:Program} {loose:List Str} {XP:(Str→Option Value)→Heap→Prop} {d:DefRec} {C:Prop} (_:(K w.params).In h)
  (use:WalkO q loose XP (fun w h=>(K w.params).In h) l.row.toRowW d [] (fun f vs=>PySem.call f vs)→C) (W:WalkO q loose XP (fun w h=>(K w.params).In h) l.row.toRowW d [] (fun f vs=>PySem.call f vs)):C:=use W
noncomputable section
namespace Hd
open PySem PySem.W.Fast
structure Q (α : Type) where
  a : α
  b : α
  c : α
  d : α
  e : α
  f : α
  g : α
  h : α
class X where
  s : Q (Q (Q Str))
  t : Q (Q (Q String))
  r : Q (Q (Q Obj))
  p : Program
  P : Params
def sp (p : Program) (n : Nat) : Stmt := (p.main.body.drop n).headD (.Pass ⟨0, 0, 0, 0⟩)
def st [x : X] (n : Nat) : Stmt := sp x.p n
def cb : Stmt → List Stmt
  | .ClassDef _ _ _ b .. => b
  | _ => []
def sm [x : X] (n k : Nat) : Stmt := ((cb (st n)).drop k).headD (.Pass ⟨0, 0, 0, 0⟩)
def fn (s : Stmt) (q : Str) (g : Addr) (c : List (Str × Addr)) (d k o m : Value) (a : Option Addr) (z t : Value) (b : Addr) : FuncData := match s with
  | .FunctionDef n p y _ _ _ u .. => ⟨n, q, p, .stmts y, u, g, c, d, k, o, m, a, z, t, b⟩
  | _ => default
abbrev z := W.BT.nil
def N (o : Obj) (l r : W.BT) : W.BT := .node o l r
def L (o : Obj) : W.BT := .node o .nil .nil
def e [x : X] (s : Str) (n : Nat) (v : Value) : DictEntry := ⟨PyData.keyHash x.P s, .str s n, v⟩
def vR (n : Nat) : Option Value := some (.ref n)
def vr (n : Nat) : Value := .ref n
def vO : Value := .int 0 0
def vI (n : Int) : Value := .int n 0
def vS (s : Str) (n : Tok) : Value := .str s n
def vY (s : String) : Value := .type s
def vB (s : String) : Value := .builtin s
section
variable [x : X]
def i0 := e x.s.a.a.d 165 (vS x.s.a.a.e 187)
def i1 := e x.s.a.a.f 166 .none
def i2 := e x.s.a.a.g 167 .none
def i3 := e x.s.a.a.h 168 (vB x.t.a.a.e)
def i4 := e x.s.a.b.a 169 .none
def i5 := e x.s.a.b.b 170 (vr 6)
def i6 := e x.s.a.b.c 171 (vr 4)
def i7 := e x.s.a.b.d 173 (vS x.s.a.a.b 172)
def i8 := e x.s.a.b.e 174 .none
def i9 := e x.s.a.b.f 206 (vr 24)
def i10 := e x.s.a.b.g 196 (vS x.s.a.a.e 187)
def i11 := e x.s.a.b.h 198 (vS x.s.a.b.f 197)
def i12 := e x.s.a.c.a 200 (.int 2 199)
def i13 := e x.s.a.c.b 201 (vr 22)
def i14 := e x.s.a.c.c 203 (vr 25)
def i15 := e x.s.a.a.f 204 .none
def i16 := e x.s.a.c.d 222 (vr 37)
def i17 := e x.s.a.b.g 214 (vS x.s.a.a.e 187)
def i18 := e x.s.a.b.h 216 (vS x.s.a.c.d 215)
def i19 := e x.s.a.c.a 218 (.int 4 217)
def i20 := e x.s.a.c.b 219 (vr 35)
def i21 := e x.s.a.a.f 220 .none
def i22 := e x.s.a.c.e 238 (vr 49)
def i23 := e x.s.a.b.g 230 (vS x.s.a.a.e 187)
def i24 := e x.s.a.b.h 232 (vS x.s.a.c.e 231)
def i25 := e x.s.a.c.a 234 (.int 6 233)
def i26 := e x.s.a.c.b 235 (vr 47)
def i27 := e x.s.a.a.f 236 .none
def i28 := e x.s.a.c.f 254 (vr 61)
def i29 := e x.s.a.b.g 246 (vS x.s.a.a.e 187)
def i30 := e x.s.a.b.h 248 (vS x.s.a.c.f 247)
def i31 := e x.s.a.c.a 250 (.int 8 249)
def i32 := e x.s.a.c.b 251 (vr 59)
def i33 := e x.s.a.a.f 252 .none
def i34 := e x.s.a.c.g 270 (vr 73)
def i35 := e x.s.a.b.g 262 (vS x.s.a.a.e 187)
def i36 := e x.s.a.b.h 264 (vS x.s.a.c.g 263)
def i37 := e x.s.a.c.a 266 (.int 10 265)
def i38 := e x.s.a.c.b 267 (vr 71)
def i39 := e x.s.a.a.f 268 .none
def i40 := e x.s.a.c.h 286 (vr 85)
def i41 := e x.s.a.b.g 278 (vS x.s.a.a.e 187)
def i42 := e x.s.a.b.h 280 (vS x.s.a.c.h 279)
def i43 := e x.s.a.c.a 282 (.int 12 281)
def i44 := e x.s.a.c.b 283 (vr 83)
def i45 := e x.s.a.a.f 284 .none
def i46 := e x.s.a.d.a 302 (vr 97)
def i47 := e x.s.a.b.g 294 (vS x.s.a.a.e 187)
def i48 := e x.s.a.b.h 296 (vS x.s.a.d.a 295)
def i49 := e x.s.a.c.a 298 (.int 14 297)
def i50 := e x.s.a.c.b 299 (vr 95)
def i51 := e x.s.a.a.f 300 .none
def i52 := e x.s.a.d.b 318 (vr 109)
def i53 := e x.s.a.b.g 310 (vS x.s.a.a.e 187)
def i54 := e x.s.a.b.h 312 (vS x.s.a.d.b 311)
def i55 := e x.s.a.c.a 314 (.int 16 313)
def i56 := e x.s.a.c.b 315 (vr 107)
def i57 := e x.s.a.a.f 316 .none
def i58 := e x.s.a.d.c 334 (vr 121)
def i59 := e x.s.a.b.g 326 (vS x.s.a.a.e 187)
def i60 := e x.s.a.b.h 328 (vS x.s.a.d.c 327)
def i61 := e x.s.a.c.a 330 (.int 18 329)
def i62 := e x.s.a.c.b 331 (vr 119)
def i63 := e x.s.a.a.f 332 .none
def i64 := e x.s.a.d.d 350 (vr 133)
def i65 := e x.s.a.b.g 342 (vS x.s.a.a.e 187)
def i66 := e x.s.a.b.h 344 (vS x.s.a.d.d 343)
def i67 := e x.s.a.c.a 346 (.int 20 345)
def i68 := e x.s.a.c.b 347 (vr 131)
def i69 := e x.s.a.a.f 348 .none
def i70 := e x.s.a.d.e 366 (vr 145)
def i71 := e x.s.a.b.g 358 (vS x.s.a.a.e 187)
def i72 := e x.s.a.b.h 360 (vS x.s.a.d.e 359)
def i73 := e x.s.a.c.a 362 (.int 22 361)
def i74 := e x.s.a.c.b 363 (vr 143)
def i75 := e x.s.a.a.f 364 .none
def i76 := e x.s.a.d.f 382 (vr 157)
def i77 := e x.s.a.b.g 374 (vS x.s.a.a.e 187)
def i78 := e x.s.a.b.h 376 (vS x.s.a.d.f 375)
def i79 := e x.s.a.c.a 378 (.int 24 377)
def i80 := e x.s.a.c.b 379 (vr 155)
def i81 := e x.s.a.a.f 380 .none
def i82 := e x.s.a.d.g 398 (vr 169)
def i83 := e x.s.a.b.g 390 (vS x.s.a.a.e 187)
def i84 := e x.s.a.b.h 392 (vS x.s.a.d.g 391)
def i85 := e x.s.a.c.a 394 (.int 26 393)
def i86 := e x.s.a.c.b 395 (vr 167)
def i87 := e x.s.a.a.f 396 .none
def i88 := e x.s.a.d.h 414 (vr 181)
def i89 := e x.s.a.b.g 406 (vS x.s.a.a.e 187)
def i90 := e x.s.a.b.h 408 (vS x.s.a.d.h 407)
def i91 := e x.s.a.c.a 410 (.int 28 409)
def i92 := e x.s.a.c.b 411 (vr 179)
def i93 := e x.s.a.a.f 412 .none
def i94 := e x.s.a.e.a 430 (vr 193)
def i95 := e x.s.a.b.g 422 (vS x.s.a.a.e 187)
def i96 := e x.s.a.b.h 424 (vS x.s.a.e.a 423)
def i97 := e x.s.a.c.a 426 (.int 30 425)
def i98 := e x.s.a.c.b 427 (vr 191)
def i99 := e x.s.a.a.f 428 .none
def zrG := e x.s.a.e.b 455 (vr 212)
def i101 := e x.s.a.b.g 438 (vS x.s.a.a.e 187)
def i102 := e x.s.a.b.h 440 (vS x.s.a.e.b 439)
def i103 := e x.s.a.c.a 442 (.int 32 441)
def i104 := e x.s.a.e.c 450 (vr 209)
def i105 := e x.s.a.c.b 452 (vr 210)
def i106 := e x.s.a.a.f 453 .none
def zsj := e x.s.a.e.g 480 (vr 231)
def i108 := e x.s.a.b.g 463 (vS x.s.a.a.e 187)
def i109 := e x.s.a.b.h 465 (vS x.s.a.e.g 464)
def i110 := e x.s.a.c.a 467 (.int 37 466)
def i111 := e x.s.a.e.c 475 (vr 228)
def i112 := e x.s.a.c.b 477 (vr 229)
def i113 := e x.s.a.a.f 478 .none
def ztC := e x.s.a.f.b 505 (vr 250)
def i115 := e x.s.a.b.g 488 (vS x.s.a.a.e 187)
def i116 := e x.s.a.b.h 490 (vS x.s.a.f.b 489)
def i117 := e x.s.a.c.a 492 (.int 42 491)
def i118 := e x.s.a.e.c 500 (vr 247)
def i119 := e x.s.a.c.b 502 (vr 248)
def i120 := e x.s.a.a.f 503 .none
def i121 := e x.s.a.a.d 165 (vS x.s.a.f.e 531)
def zuj := e x.s.a.f.f 530 (vr 269)
def zuo := e x.s.a.f.g 541 (vr 278)
def ztV := e x.s.a.f.h 550 (vr 285)
def zuI := e x.s.a.g.a 558 (vr 292)
def zut := e x.s.a.g.b 567 (vr 299)
def i127 := e x.s.a.b.g 513 (vS x.s.a.a.e 187)
def i128 := e x.s.a.b.h 515 (vS x.s.a.f.f 514)
def i129 := e x.s.a.c.a 517 (.int 47 516)
def i130 := e x.s.a.e.c 525 (vr 266)
def i131 := e x.s.a.c.b 527 (vr 267)
def i132 := e x.s.a.a.f 528 .none
def i133 := e x.s.a.a.d 165 (vS x.s.a.h.e 589)
def i134 := e x.s.a.h.f 573 (vr 304)
def i135 := e x.s.a.h.g 582 (vr 311)
def i136 := e x.s.a.h.h 588 (vr 316)
def i137 := e x.s.b.a.c 679 (vr 372)
def i138 := e x.s.a.b.g 598 (vS x.s.a.h.e 589)
def i139 := e x.s.a.b.h 600 (vS x.s.b.a.c 599)
def i140 := e x.s.a.c.a 602 (.int 86 601)
def i141 := e x.s.a.e.c 608 (vr 328)
def i142 := e x.s.b.a.d 614 (vr 333)
def i143 := e x.s.b.a.e 626 (vr 340)
def i144 := e x.s.b.a.f 632 (vr 345)
def i145 := e x.s.b.a.g 642 (vr 352)
def i146 := e x.s.b.a.h 654 (vr 359)
def i147 := e x.s.b.b.a 660 (vr 364)
def i148 := e x.s.b.b.b 666 (vr 369)
def i149 := e x.s.a.c.b 672 (vr 370)
def i150 := e x.s.b.d.f 674 (vr 373)
def i151 := e x.s.a.c.c 676 (vr 374)
def i152 := e x.s.a.a.f 677 .none
def i153 := e x.s.a.a.d 165 (vS x.s.b.d.g 704)
def i154 := e x.s.b.d.h 685 (vr 381)
def i155 := e x.s.b.e.a 691 (vr 386)
def i156 := e x.s.b.e.b 697 (vr 391)
def i157 := e x.s.b.e.c 703 (vr 396)
def i158 := e x.s.b.e.d 707 (.int 12 706)
def i159 := e x.s.b.e.e 713 (vr 401)
def i160 := e x.s.b.e.f 719 (vr 406)
def i161 := e x.s.b.e.g 726 (vr 413)
def i162 := e x.s.b.e.h 732 (vr 418)
def i163 := e x.s.b.f.a 738 (vr 423)
def i164 := e x.s.b.f.b 750 (vr 430)
def i165 := e x.s.b.f.c 762 (vr 437)
def i166 := e x.s.b.f.d 774 (vr 444)
def i167 := e x.s.b.f.e 781 (vr 451)
def i168 := e x.s.a.a.d 165 (vS x.s.b.g.e 794)
def i169 := e x.s.b.g.f 787 (vr 456)
def i170 := e x.s.b.g.g 793 (vr 461)
def i171 := e x.s.b.g.h 804 (vr 468)
def i172 := e x.s.b.h.a 812 (vr 475)
def i173 := e x.s.b.h.b 821 (vr 482)
def i174 := e x.s.b.h.c 831 (vr 489)
def i175 := e x.s.b.h.d 837 (vr 494)
def i176 := e x.s.b.h.e 846 (vr 501)
def i177 := e x.s.b.h.f 856 (vr 508)
def i178 := e x.s.b.h.g 862 (vr 513)
def zac : Obj := ⟨(vY x.t.a.a.a), none, (.seq #[] 0), #[]⟩
def zah : Obj := ⟨.none, none, (.fields #[]), #[]⟩
def zgH : Obj := ⟨(vY x.t.a.a.b), none, (.fields #[(vS x.s.a.a.a 182), (vS x.s.a.a.a 183), (vS x.s.a.a.b 184), (vI 1), vO, vO, vO, vO, (vr 11), (.bool false), (vI 181), (vr 12), .none, .none, .none, .none, (vI 185), (vI 1), (vS x.s.a.a.b 186)]), #[]⟩
def zgP : Obj := ⟨(vY x.t.a.a.c), none, .plain, #[(vR 13), (vR 3), (vR 3), none, (some (vS x.s.a.a.c 164)), none, (vR 0)]⟩
def b902 : Obj := ⟨(vY x.t.a.a.d), none, (.dict #[i0, i1, i2, i3, i4, i5, i6, i7, i8, i9] 10), #[]⟩
def b903 : Obj := ⟨.none, none, (.fields #[(vI 2), vO, (vr 20)]), #[]⟩
def zhg : Obj := ⟨(vY x.t.a.a.a), none, (.seq #[(vY x.t.a.a.f)] 0), #[]⟩
def zan : Obj := ⟨(vY x.t.a.a.g), none, (.fields #[(vB x.t.a.a.h), (vY x.t.a.b.a)]), #[]⟩
def zhn : Obj := ⟨(vY x.t.a.a.d), none, (.dict #[i10, i11, i12, i13] 4), #[]⟩
def zg9 : Obj := ⟨(vY x.t.a.a.b), none, (.fields #[(vS x.s.a.b.f 191), (vS x.s.a.b.f 192), (vS x.s.a.a.b 193), (vI 2), vO, vO, vO, vO, (vr 18), (.bool false), (vI 181), (vr 19), .none, .none, .none, .none, (vI 194), (vI 2), (vS x.s.a.a.b 195)]), #[]⟩
def zhk : Obj := ⟨(vY x.t.a.a.c), none, .plain, #[(vR 20), (vR 3), (vR 17), none, (some (vS x.s.a.a.e 187)), none, (vR 0)]⟩
def zhl : Obj := ⟨(vY x.t.a.a.d), none, (.dict #[i10, i12, i13, i14, i15] 3), #[]⟩
def b913 : Obj := ⟨(vY x.t.a.b.a), none, (.cls ⟨x.s.a.b.f, [(vY x.t.a.a.f)], [(vr 24), (vY x.t.a.a.f), (vY x.t.a.b.b), (vY x.t.a.b.c), (vY x.t.a.b.d)], 23, x.s.a.b.f, true, [], [], false, none, false⟩), #[(vR 15), none, (some (vS x.s.a.b.f 189)), (some (vS x.s.a.b.f 197)), (some (vB x.t.a.b.e)), (some (.bool true))]⟩
def zhr : Obj := ⟨(vY x.t.a.b.f), none, (.fields #[(vS x.s.a.c.c 202), (vr 24), (vB x.t.a.b.g), .none]), #[]⟩
def zha : Obj := ⟨(vY x.t.a.b.h), none, (.fields #[(vr 24), (vr 24), (vr 24)]), #[]⟩
def zg8 : Obj := ⟨(vY x.t.a.a.g), none, (.fields #[(vB x.t.a.c.a), (vr 24)]), #[]⟩
def b917 : Obj := ⟨(vY x.t.a.a.d), none, (.dict #[i0, i1, i2, i3, i4, i5, i6, i7, i8, i9, i16] 11), #[]⟩
def b918 : Obj := ⟨.none, none, (.fields #[(vI 2), vO, (vr 20), (vI 4), vO, (vr 33)]), #[]⟩
def b919 : Obj := ⟨(vY x.t.a.b.a), none, (.cls ⟨x.s.a.b.f, [(vY x.t.a.a.f)], [(vr 24), (vY x.t.a.a.f), (vY x.t.a.b.b), (vY x.t.a.b.c), (vY x.t.a.b.d)], 23, x.s.a.b.f, true, [], [(vr 37)], false, none, false⟩), #[(vR 15), none, (some (vS x.s.a.b.f 189)), (some (vS x.s.a.b.f 197)), (some (vB x.t.a.b.e)), (some (.bool true))]⟩
def zaq : Obj := ⟨(vY x.t.a.a.a), none, (.seq #[(vr 24)] 0), #[]⟩
def zhw : Obj := ⟨(vY x.t.a.a.d), none, (.dict #[i17, i18, i19, i20] 4), #[]⟩
def zib : Obj := ⟨(vY x.t.a.a.b), none, (.fields #[(vS x.s.a.c.d 209), (vS x.s.a.c.d 210), (vS x.s.a.a.b 211), (vI 4), vO, vO, vO, vO, (vr 31), (.bool false), (vI 181), (vr 32), .none, .none, .none, .none, (vI 212), (vI 4), (vS x.s.a.a.b 213)]), #[]⟩
def zig : Obj := ⟨(vY x.t.a.a.c), none, .plain, #[(vR 33), (vR 3), (vR 30), none, (some (vS x.s.a.a.e 187)), none, (vR 0)]⟩
def ziq : Obj := ⟨(vY x.t.a.a.d), none, (.dict #[i17, i19, i20, i21] 2), #[]⟩
def zhA : Obj := ⟨(vY x.t.a.b.a), none, (.cls ⟨x.s.a.c.d, [(vr 24)], [(vr 37), (vr 24), (vY x.t.a.a.f), (vY x.t.a.b.b), (vY x.t.a.b.c), (vY x.t.a.b.d)], 36, x.s.a.c.d, true, [], [], false, none, false⟩), #[(vR 28), none, (some (vS x.s.a.c.d 207)), (some (vS x.s.a.c.d 215)), (some (vB x.t.a.b.e)), (some (.bool true))]⟩
def zhW : Obj := ⟨(vY x.t.a.b.h), none, (.fields #[(vr 37), (vr 37), (vr 37)]), #[]⟩
def zhO : Obj := ⟨(vY x.t.a.a.g), none, (.fields #[(vB x.t.a.c.a), (vr 37)]), #[]⟩
def b932 : Obj := ⟨(vY x.t.a.a.d), none, (.dict #[i0, i1, i2, i3, i4, i5, i6, i7, i8, i9, i16, i22] 12), #[]⟩
def b933 : Obj := ⟨.none, none, (.fields #[(vI 2), vO, (vr 20), (vI 4), vO, (vr 33), (vI 6), vO, (vr 45)]), #[]⟩
def b934 : Obj := ⟨(vY x.t.a.b.a), none, (.cls ⟨x.s.a.b.f, [(vY x.t.a.a.f)], [(vr 24), (vY x.t.a.a.f), (vY x.t.a.b.b), (vY x.t.a.b.c), (vY x.t.a.b.d)], 23, x.s.a.b.f, true, [], [(vr 37), (vr 49)], false, none, false⟩), #[(vR 15), none, (some (vS x.s.a.b.f 189)), (some (vS x.s.a.b.f 197)), (some (vB x.t.a.b.e)), (some (.bool true))]⟩
def ziy : Obj := ⟨(vY x.t.a.a.d), none, (.dict #[i23, i24, i25, i26] 4), #[]⟩
def ziu : Obj := ⟨(vY x.t.a.a.b), none, (.fields #[(vS x.s.a.c.e 225), (vS x.s.a.c.e 226), (vS x.s.a.a.b 227), (vI 6), vO, vO, vO, vO, (vr 43), (.bool false), (vI 181), (vr 44), .none, .none, .none, .none, (vI 228), (vI 6), (vS x.s.a.a.b 229)]), #[]⟩
def ziv : Obj := ⟨(vY x.t.a.a.c), none, .plain, #[(vR 45), (vR 3), (vR 42), none, (some (vS x.s.a.a.e 187)), none, (vR 0)]⟩
def zit : Obj := ⟨(vY x.t.a.a.d), none, (.dict #[i23, i25, i26, i27] 2), #[]⟩
def zis : Obj := ⟨(vY x.t.a.b.a), none, (.cls ⟨x.s.a.c.e, [(vr 24)], [(vr 49), (vr 24), (vY x.t.a.a.f), (vY x.t.a.b.b), (vY x.t.a.b.c), (vY x.t.a.b.d)], 48, x.s.a.c.e, true, [], [], false, none, false⟩), #[(vR 40), none, (some (vS x.s.a.c.e 223)), (some (vS x.s.a.c.e 231)), (some (vB x.t.a.b.e)), (some (.bool true))]⟩
def zir : Obj := ⟨(vY x.t.a.b.h), none, (.fields #[(vr 49), (vr 49), (vr 49)]), #[]⟩
def zix : Obj := ⟨(vY x.t.a.a.g), none, (.fields #[(vB x.t.a.c.a), (vr 49)]), #[]⟩
def b947 : Obj := ⟨(vY x.t.a.a.d), none, (.dict #[i0, i1, i2, i3, i4, i5, i6, i7, i8, i9, i16, i22, i28] 13), #[]⟩
def b948 : Obj := ⟨.none, none, (.fields #[(vI 2), vO, (vr 20), (vI 4), vO, (vr 33), (vI 6), vO, (vr 45), (vI 8), vO, (vr 57)]), #[]⟩
def b949 : Obj := ⟨(vY x.t.a.b.a), none, (.cls ⟨x.s.a.b.f, [(vY x.t.a.a.f)], [(vr 24), (vY x.t.a.a.f), (vY x.t.a.b.b), (vY x.t.a.b.c), (vY x.t.a.b.d)], 23, x.s.a.b.f, true, [], [(vr 37), (vr 49), (vr 61)], false, none, false⟩), #[(vR 15), none, (some (vS x.s.a.b.f 189)), (some (vS x.s.a.b.f 197)), (some (vB x.t.a.b.e)), (some (.bool true))]⟩
def ziR : Obj := ⟨(vY x.t.a.a.d), none, (.dict #[i29, i30, i31, i32] 4), #[]⟩
def ziP : Obj := ⟨(vY x.t.a.a.b), none, (.fields #[(vS x.s.a.c.f 241), (vS x.s.a.c.f 242), (vS x.s.a.a.b 243), (vI 8), vO, vO, vO, vO, (vr 55), (.bool false), (vI 181), (vr 56), .none, .none, .none, .none, (vI 244), (vI 8), (vS x.s.a.a.b 245)]), #[]⟩
def ziJ : Obj := ⟨(vY x.t.a.a.c), none, .plain, #[(vR 57), (vR 3), (vR 54), none, (some (vS x.s.a.a.e 187)), none, (vR 0)]⟩
def ziB : Obj := ⟨(vY x.t.a.a.d), none, (.dict #[i29, i31, i32, i33] 2), #[]⟩
def ziI : Obj := ⟨(vY x.t.a.b.a), none, (.cls ⟨x.s.a.c.f, [(vr 24)], [(vr 61), (vr 24), (vY x.t.a.a.f), (vY x.t.a.b.b), (vY x.t.a.b.c), (vY x.t.a.b.d)], 60, x.s.a.c.f, true, [], [], false, none, false⟩), #[(vR 52), none, (some (vS x.s.a.c.f 239)), (some (vS x.s.a.c.f 247)), (some (vB x.t.a.b.e)), (some (.bool true))]⟩
def ziK : Obj := ⟨(vY x.t.a.b.h), none, (.fields #[(vr 61), (vr 61), (vr 61)]), #[]⟩
def ziL : Obj := ⟨(vY x.t.a.a.g), none, (.fields #[(vB x.t.a.c.a), (vr 61)]), #[]⟩
def b962 : Obj := ⟨(vY x.t.a.a.d), none, (.dict #[i0, i1, i2, i3, i4, i5, i6, i7, i8, i9, i16, i22, i28, i34] 14), #[]⟩
def b963 : Obj := ⟨.none, none, (.fields #[(vI 2), vO, (vr 20), (vI 4), vO, (vr 33), (vI 6), vO, (vr 45), (vI 8), vO, (vr 57), (vI 10), vO, (vr 69)]), #[]⟩
def b964 : Obj := ⟨(vY x.t.a.b.a), none, (.cls ⟨x.s.a.b.f, [(vY x.t.a.a.f)], [(vr 24), (vY x.t.a.a.f), (vY x.t.a.b.b), (vY x.t.a.b.c), (vY x.t.a.b.d)], 23, x.s.a.b.f, true, [], [(vr 37), (vr 49), (vr 61), (vr 73)], false, none, false⟩), #[(vR 15), none, (some (vS x.s.a.b.f 189)), (some (vS x.s.a.b.f 197)), (some (vB x.t.a.b.e)), (some (.bool true))]⟩
def zi0 : Obj := ⟨(vY x.t.a.a.d), none, (.dict #[i35, i36, i37, i38] 4), #[]⟩
def zi6 : Obj := ⟨(vY x.t.a.a.b), none, (.fields #[(vS x.s.a.c.g 257), (vS x.s.a.c.g 258), (vS x.s.a.a.b 259), (vI 10), vO, vO, vO, vO, (vr 67), (.bool false), (vI 181), (vr 68), .none, .none, .none, .none, (vI 260), (vI 10), (vS x.s.a.a.b 261)]), #[]⟩
def zjl : Obj := ⟨(vY x.t.a.a.c), none, .plain, #[(vR 69), (vR 3), (vR 66), none, (some (vS x.s.a.a.e 187)), none, (vR 0)]⟩
def zjj : Obj := ⟨(vY x.t.a.a.d), none, (.dict #[i35, i37, i38, i39] 2), #[]⟩
def zjo : Obj := ⟨(vY x.t.a.b.a), none, (.cls ⟨x.s.a.c.g, [(vr 24)], [(vr 73), (vr 24), (vY x.t.a.a.f), (vY x.t.a.b.b), (vY x.t.a.b.c), (vY x.t.a.b.d)], 72, x.s.a.c.g, true, [], [], false, none, false⟩), #[(vR 64), none, (some (vS x.s.a.c.g 255)), (some (vS x.s.a.c.g 263)), (some (vB x.t.a.b.e)), (some (.bool true))]⟩
def ziY : Obj := ⟨(vY x.t.a.b.h), none, (.fields #[(vr 73), (vr 73), (vr 73)]), #[]⟩
def ziZ : Obj := ⟨(vY x.t.a.a.g), none, (.fields #[(vB x.t.a.c.a), (vr 73)]), #[]⟩
def b977 : Obj := ⟨(vY x.t.a.a.d), none, (.dict #[i0, i1, i2, i3, i4, i5, i6, i7, i8, i9, i16, i22, i28, i34, i40] 15), #[]⟩
def b978 : Obj := ⟨.none, none, (.fields #[(vI 2), vO, (vr 20), (vI 4), vO, (vr 33), (vI 6), vO, (vr 45), (vI 8), vO, (vr 57), (vI 10), vO, (vr 69), (vI 12), vO, (vr 81)]), #[]⟩
def b979 : Obj := ⟨(vY x.t.a.b.a), none, (.cls ⟨x.s.a.b.f, [(vY x.t.a.a.f)], [(vr 24), (vY x.t.a.a.f), (vY x.t.a.b.b), (vY x.t.a.b.c), (vY x.t.a.b.d)], 23, x.s.a.b.f, true, [], [(vr 37), (vr 49), (vr 61), (vr 73), (vr 85)], false, none, false⟩), #[(vR 15), none, (some (vS x.s.a.b.f 189)), (some (vS x.s.a.b.f 197)), (some (vB x.t.a.b.e)), (some (.bool true))]⟩
def zkg : Obj := ⟨(vY x.t.a.a.d), none, (.dict #[i41, i42, i43, i44] 4), #[]⟩
def zkj : Obj := ⟨(vY x.t.a.a.b), none, (.fields #[(vS x.s.a.c.h 273), (vS x.s.a.c.h 274), (vS x.s.a.a.b 275), (vI 12), vO, vO, vO, vO, (vr 79), (.bool false), (vI 181), (vr 80), .none, .none, .none, .none, (vI 276), (vI 12), (vS x.s.a.a.b 277)]), #[]⟩
def zko : Obj := ⟨(vY x.t.a.a.c), none, .plain, #[(vR 81), (vR 3), (vR 78), none, (some (vS x.s.a.a.e 187)), none, (vR 0)]⟩
def zkh : Obj := ⟨(vY x.t.a.a.d), none, (.dict #[i41, i43, i44, i45] 2), #[]⟩
def zkf : Obj := ⟨(vY x.t.a.b.a), none, (.cls ⟨x.s.a.c.h, [(vr 24)], [(vr 85), (vr 24), (vY x.t.a.a.f), (vY x.t.a.b.b), (vY x.t.a.b.c), (vY x.t.a.b.d)], 84, x.s.a.c.h, true, [], [], false, none, false⟩), #[(vR 76), none, (some (vS x.s.a.c.h 271)), (some (vS x.s.a.c.h 279)), (some (vB x.t.a.b.e)), (some (.bool true))]⟩
def zkn : Obj := ⟨(vY x.t.a.b.h), none, (.fields #[(vr 85), (vr 85), (vr 85)]), #[]⟩
def zj2 : Obj := ⟨(vY x.t.a.a.g), none, (.fields #[(vB x.t.a.c.a), (vr 85)]), #[]⟩
def b992 : Obj := ⟨(vY x.t.a.a.d), none, (.dict #[i0, i1, i2, i3, i4, i5, i6, i7, i8, i9, i16, i22, i28, i34, i40, i46] 16), #[]⟩
def b993 : Obj := ⟨.none, none, (.fields #[(vI 2), vO, (vr 20), (vI 4), vO, (vr 33), (vI 6), vO, (vr 45), (vI 8), vO, (vr 57), (vI 10), vO, (vr 69), (vI 12), vO, (vr 81), (vI 14), vO, (vr 93)]), #[]⟩
def b994 : Obj := ⟨(vY x.t.a.b.a), none, (.cls ⟨x.s.a.b.f, [(vY x.t.a.a.f)], [(vr 24), (vY x.t.a.a.f), (vY x.t.a.b.b), (vY x.t.a.b.c), (vY x.t.a.b.d)], 23, x.s.a.b.f, true, [], [(vr 37), (vr 49), (vr 61), (vr 73), (vr 85), (vr 97)], false, none, false⟩), #[(vR 15), none, (some (vS x.s.a.b.f 189)), (some (vS x.s.a.b.f 197)), (some (vB x.t.a.b.e)), (some (.bool true))]⟩
def zkx : Obj := ⟨(vY x.t.a.a.d), none, (.dict #[i47, i48, i49, i50] 4), #[]⟩
def zd7 : Obj := ⟨(vY x.t.a.a.b), none, (.fields #[(vS x.s.a.d.a 289), (vS x.s.a.d.a 290), (vS x.s.a.a.b 291), (vI 14), vO, vO, vO, vO, (vr 91), (.bool false), (vI 181), (vr 92), .none, .none, .none, .none, (vI 292), (vI 14), (vS x.s.a.a.b 293)]), #[]⟩
def zd8 : Obj := ⟨(vY x.t.a.a.c), none, .plain, #[(vR 93), (vR 3), (vR 90), none, (some (vS x.s.a.a.e 187)), none, (vR 0)]⟩
def zd4 : Obj := ⟨(vY x.t.a.a.d), none, (.dict #[i47, i49, i50, i51] 2), #[]⟩
def zd6 : Obj := ⟨(vY x.t.a.b.a), none, (.cls ⟨x.s.a.d.a, [(vr 24)], [(vr 97), (vr 24), (vY x.t.a.a.f), (vY x.t.a.b.b), (vY x.t.a.b.c), (vY x.t.a.b.d)], 96, x.s.a.d.a, true, [], [], false, none, false⟩), #[(vR 88), none, (some (vS x.s.a.d.a 287)), (some (vS x.s.a.d.a 295)), (some (vB x.t.a.b.e)), (some (.bool true))]⟩
def zd9 : Obj := ⟨(vY x.t.a.b.h), none, (.fields #[(vr 97), (vr 97), (vr 97)]), #[]⟩
def zd5 : Obj := ⟨(vY x.t.a.a.g), none, (.fields #[(vB x.t.a.c.a), (vr 97)]), #[]⟩
def b1007 : Obj := ⟨(vY x.t.a.a.d), none, (.dict #[i0, i1, i2, i3, i4, i5, i6, i7, i8, i9, i16, i22, i28, i34, i40, i46, i52] 17), #[]⟩
def b1008 : Obj := ⟨.none, none, (.fields #[(vI 2), vO, (vr 20), (vI 4), vO, (vr 33), (vI 6), vO, (vr 45), (vI 8), vO, (vr 57), (vI 10), vO, (vr 69), (vI 12), vO, (vr 81), (vI 14), vO, (vr 93), (vI 16), vO, (vr 105)]), #[]⟩
def b1009 : Obj := ⟨(vY x.t.a.b.a), none, (.cls ⟨x.s.a.b.f, [(vY x.t.a.a.f)], [(vr 24), (vY x.t.a.a.f), (vY x.t.a.b.b), (vY x.t.a.b.c), (vY x.t.a.b.d)], 23, x.s.a.b.f, true, [], [(vr 37), (vr 49), (vr 61), (vr 73), (vr 85), (vr 97), (vr 109)], false, none, false⟩), #[(vR 15), none, (some (vS x.s.a.b.f 189)), (some (vS x.s.a.b.f 197)), (some (vB x.t.a.b.e)), (some (.bool true))]⟩
def zeg : Obj := ⟨(vY x.t.a.a.d), none, (.dict #[i53, i54, i55, i56] 4), #[]⟩
def zee : Obj := ⟨(vY x.t.a.a.b), none, (.fields #[(vS x.s.a.d.b 305), (vS x.s.a.d.b 306), (vS x.s.a.a.b 307), (vI 16), vO, vO, vO, vO, (vr 103), (.bool false), (vI 181), (vr 104), .none, .none, .none, .none, (vI 308), (vI 16), (vS x.s.a.a.b 309)]), #[]⟩
def zen : Obj := ⟨(vY x.t.a.a.c), none, .plain, #[(vR 105), (vR 3), (vR 102), none, (some (vS x.s.a.a.e 187)), none, (vR 0)]⟩
def zex : Obj := ⟨(vY x.t.a.a.d), none, (.dict #[i53, i55, i56, i57] 2), #[]⟩
def zeo : Obj := ⟨(vY x.t.a.b.a), none, (.cls ⟨x.s.a.d.b, [(vr 24)], [(vr 109), (vr 24), (vY x.t.a.a.f), (vY x.t.a.b.b), (vY x.t.a.b.c), (vY x.t.a.b.d)], 108, x.s.a.d.b, true, [], [], false, none, false⟩), #[(vR 100), none, (some (vS x.s.a.d.b 303)), (some (vS x.s.a.d.b 311)), (some (vB x.t.a.b.e)), (some (.bool true))]⟩
def zea : Obj := ⟨(vY x.t.a.b.h), none, (.fields #[(vr 109), (vr 109), (vr 109)]), #[]⟩
def zey : Obj := ⟨(vY x.t.a.a.g), none, (.fields #[(vB x.t.a.c.a), (vr 109)]), #[]⟩
def b1022 : Obj := ⟨(vY x.t.a.a.d), none, (.dict #[i0, i1, i2, i3, i4, i5, i6, i7, i8, i9, i16, i22, i28, i34, i40, i46, i52, i58] 18), #[]⟩
def b1023 : Obj := ⟨.none, none, (.fields #[(vI 2), vO, (vr 20), (vI 4), vO, (vr 33), (vI 6), vO, (vr 45), (vI 8), vO, (vr 57), (vI 10), vO, (vr 69), (vI 12), vO, (vr 81), (vI 14), vO, (vr 93), (vI 16), vO, (vr 105), (vI 18), vO, (vr 117)]), #[]⟩
def b1024 : Obj := ⟨(vY x.t.a.b.a), none, (.cls ⟨x.s.a.b.f, [(vY x.t.a.a.f)], [(vr 24), (vY x.t.a.a.f), (vY x.t.a.b.b), (vY x.t.a.b.c), (vY x.t.a.b.d)], 23, x.s.a.b.f, true, [], [(vr 37), (vr 49), (vr 61), (vr 73), (vr 85), (vr 97), (vr 109), (vr 121)], false, none, false⟩), #[(vR 15), none, (some (vS x.s.a.b.f 189)), (some (vS x.s.a.b.f 197)), (some (vB x.t.a.b.e)), (some (.bool true))]⟩
def zeK : Obj := ⟨(vY x.t.a.a.d), none, (.dict #[i59, i60, i61, i62] 4), #[]⟩
def zeM : Obj := ⟨(vY x.t.a.a.b), none, (.fields #[(vS x.s.a.d.c 321), (vS x.s.a.d.c 322), (vS x.s.a.a.b 323), (vI 18), vO, vO, vO, vO, (vr 115), (.bool false), (vI 181), (vr 116), .none, .none, .none, .none, (vI 324), (vI 18), (vS x.s.a.a.b 325)]), #[]⟩
def zeE : Obj := ⟨(vY x.t.a.a.c), none, .plain, #[(vR 117), (vR 3), (vR 114), none, (some (vS x.s.a.a.e 187)), none, (vR 0)]⟩
def zeI : Obj := ⟨(vY x.t.a.a.d), none, (.dict #[i59, i61, i62, i63] 2), #[]⟩
def zeN : Obj := ⟨(vY x.t.a.b.a), none, (.cls ⟨x.s.a.d.c, [(vr 24)], [(vr 121), (vr 24), (vY x.t.a.a.f), (vY x.t.a.b.b), (vY x.t.a.b.c), (vY x.t.a.b.d)], 120, x.s.a.d.c, true, [], [], false, none, false⟩), #[(vR 112), none, (some (vS x.s.a.d.c 319)), (some (vS x.s.a.d.c 327)), (some (vB x.t.a.b.e)), (some (.bool true))]⟩
def zeF : Obj := ⟨(vY x.t.a.b.h), none, (.fields #[(vr 121), (vr 121), (vr 121)]), #[]⟩
def zeJ : Obj := ⟨(vY x.t.a.a.g), none, (.fields #[(vB x.t.a.c.a), (vr 121)]), #[]⟩
def b1037 : Obj := ⟨(vY x.t.a.a.d), none, (.dict #[i0, i1, i2, i3, i4, i5, i6, i7, i8, i9, i16, i22, i28, i34, i40, i46, i52, i58, i64] 19), #[]⟩
def b1038 : Obj := ⟨.none, none, (.fields #[(vI 2), vO, (vr 20), (vI 4), vO, (vr 33), (vI 6), vO, (vr 45), (vI 8), vO, (vr 57), (vI 10), vO, (vr 69), (vI 12), vO, (vr 81), (vI 14), vO, (vr 93), (vI 16), vO, (vr 105), (vI 18), vO, (vr 117), (vI 20), vO, (vr 129)]), #[]⟩
def b1039 : Obj := ⟨(vY x.t.a.b.a), none, (.cls ⟨x.s.a.b.f, [(vY x.t.a.a.f)], [(vr 24), (vY x.t.a.a.f), (vY x.t.a.b.b), (vY x.t.a.b.c), (vY x.t.a.b.d)], 23, x.s.a.b.f, true, [], [(vr 37), (vr 49), (vr 61), (vr 73), (vr 85), (vr 97), (vr 109), (vr 121), (vr 133)], false, none, false⟩), #[(vR 15), none, (some (vS x.s.a.b.f 189)), (some (vS x.s.a.b.f 197)), (some (vB x.t.a.b.e)), (some (.bool true))]⟩
def ze8 : Obj := ⟨(vY x.t.a.a.d), none, (.dict #[i65, i66, i67, i68] 4), #[]⟩
def zfe : Obj := ⟨(vY x.t.a.a.b), none, (.fields #[(vS x.s.a.d.d 337), (vS x.s.a.d.d 338), (vS x.s.a.a.b 339), (vI 20), vO, vO, vO, vO, (vr 127), (.bool false), (vI 181), (vr 128), .none, .none, .none, .none, (vI 340), (vI 20), (vS x.s.a.a.b 341)]), #[]⟩
def ze3 : Obj := ⟨(vY x.t.a.a.c), none, .plain, #[(vR 129), (vR 3), (vR 126), none, (some (vS x.s.a.a.e 187)), none, (vR 0)]⟩
def zfa : Obj := ⟨(vY x.t.a.a.d), none, (.dict #[i65, i67, i68, i69] 2), #[]⟩
def ze2 : Obj := ⟨(vY x.t.a.b.a), none, (.cls ⟨x.s.a.d.d, [(vr 24)], [(vr 133), (vr 24), (vY x.t.a.a.f), (vY x.t.a.b.b), (vY x.t.a.b.c), (vY x.t.a.b.d)], 132, x.s.a.d.d, true, [], [], false, none, false⟩), #[(vR 124), none, (some (vS x.s.a.d.d 335)), (some (vS x.s.a.d.d 343)), (some (vB x.t.a.b.e)), (some (.bool true))]⟩
def zfi : Obj := ⟨(vY x.t.a.b.h), none, (.fields #[(vr 133), (vr 133), (vr 133)]), #[]⟩
def zfh : Obj := ⟨(vY x.t.a.a.g), none, (.fields #[(vB x.t.a.c.a), (vr 133)]), #[]⟩
def b1052 : Obj := ⟨(vY x.t.a.a.d), none, (.dict #[i0, i1, i2, i3, i4, i5, i6, i7, i8, i9, i16, i22, i28, i34, i40, i46, i52, i58, i64, i70] 20), #[]⟩
def b1053 : Obj := ⟨.none, none, (.fields #[(vI 2), vO, (vr 20), (vI 4), vO, (vr 33), (vI 6), vO, (vr 45), (vI 8), vO, (vr 57), (vI 10), vO, (vr 69), (vI 12), vO, (vr 81), (vI 14), vO, (vr 93), (vI 16), vO, (vr 105), (vI 18), vO, (vr 117), (vI 20), vO, (vr 129), (vI 22), vO, (vr 141)]), #[]⟩
def b1054 : Obj := ⟨(vY x.t.a.b.a), none, (.cls ⟨x.s.a.b.f, [(vY x.t.a.a.f)], [(vr 24), (vY x.t.a.a.f), (vY x.t.a.b.b), (vY x.t.a.b.c), (vY x.t.a.b.d)], 23, x.s.a.b.f, true, [], [(vr 37), (vr 49), (vr 61), (vr 73), (vr 85), (vr 97), (vr 109), (vr 121), (vr 133), (vr 145)], false, none, false⟩), #[(vR 15), none, (some (vS x.s.a.b.f 189)), (some (vS x.s.a.b.f 197)), (some (vB x.t.a.b.e)), (some (.bool true))]⟩
def zfB : Obj := ⟨(vY x.t.a.a.d), none, (.dict #[i71, i72, i73, i74] 4), #[]⟩
def zfM : Obj := ⟨(vY x.t.a.a.b), none, (.fields #[(vS x.s.a.d.e 353), (vS x.s.a.d.e 354), (vS x.s.a.a.b 355), (vI 22), vO, vO, vO, vO, (vr 139), (.bool false), (vI 181), (vr 140), .none, .none, .none, .none, (vI 356), (vI 22), (vS x.s.a.a.b 357)]), #[]⟩
def zfU : Obj := ⟨(vY x.t.a.a.c), none, .plain, #[(vR 141), (vR 3), (vR 138), none, (some (vS x.s.a.a.e 187)), none, (vR 0)]⟩
def zfY : Obj := ⟨(vY x.t.a.a.d), none, (.dict #[i71, i73, i74, i75] 2), #[]⟩
def zfG : Obj := ⟨(vY x.t.a.b.a), none, (.cls ⟨x.s.a.d.e, [(vr 24)], [(vr 145), (vr 24), (vY x.t.a.a.f), (vY x.t.a.b.b), (vY x.t.a.b.c), (vY x.t.a.b.d)], 144, x.s.a.d.e, true, [], [], false, none, false⟩), #[(vR 136), none, (some (vS x.s.a.d.e 351)), (some (vS x.s.a.d.e 359)), (some (vB x.t.a.b.e)), (some (.bool true))]⟩
def zfz : Obj := ⟨(vY x.t.a.b.h), none, (.fields #[(vr 145), (vr 145), (vr 145)]), #[]⟩
def zfm : Obj := ⟨(vY x.t.a.a.g), none, (.fields #[(vB x.t.a.c.a), (vr 145)]), #[]⟩
def b1067 : Obj := ⟨(vY x.t.a.a.d), none, (.dict #[i0, i1, i2, i3, i4, i5, i6, i7, i8, i9, i16, i22, i28, i34, i40, i46, i52, i58, i64, i70, i76] 21), #[]⟩
def b1068 : Obj := ⟨.none, none, (.fields #[(vI 2), vO, (vr 20), (vI 4), vO, (vr 33), (vI 6), vO, (vr 45), (vI 8), vO, (vr 57), (vI 10), vO, (vr 69), (vI 12), vO, (vr 81), (vI 14), vO, (vr 93), (vI 16), vO, (vr 105), (vI 18), vO, (vr 117), (vI 20), vO, (vr 129), (vI 22), vO, (vr 141), (vI 24), vO, (vr 153)]), #[]⟩
def b1069 : Obj := ⟨(vY x.t.a.b.a), none, (.cls ⟨x.s.a.b.f, [(vY x.t.a.a.f)], [(vr 24), (vY x.t.a.a.f), (vY x.t.a.b.b), (vY x.t.a.b.c), (vY x.t.a.b.d)], 23, x.s.a.b.f, true, [], [(vr 37), (vr 49), (vr 61), (vr 73), (vr 85), (vr 97), (vr 109), (vr 121), (vr 133), (vr 145), (vr 157)], false, none, false⟩), #[(vR 15), none, (some (vS x.s.a.b.f 189)), (some (vS x.s.a.b.f 197)), (some (vB x.t.a.b.e)), (some (.bool true))]⟩
def zgo : Obj := ⟨(vY x.t.a.a.d), none, (.dict #[i77, i78, i79, i80] 4), #[]⟩
def zge : Obj := ⟨(vY x.t.a.a.b), none, (.fields #[(vS x.s.a.d.f 369), (vS x.s.a.d.f 370), (vS x.s.a.a.b 371), (vI 24), vO, vO, vO, vO, (vr 151), (.bool false), (vI 181), (vr 152), .none, .none, .none, .none, (vI 372), (vI 24), (vS x.s.a.a.b 373)]), #[]⟩
def zgv : Obj := ⟨(vY x.t.a.a.c), none, .plain, #[(vR 153), (vR 3), (vR 150), none, (some (vS x.s.a.a.e 187)), none, (vR 0)]⟩
def zgw : Obj := ⟨(vY x.t.a.a.d), none, (.dict #[i77, i79, i80, i81] 2), #[]⟩
def zgc : Obj := ⟨(vY x.t.a.b.a), none, (.cls ⟨x.s.a.d.f, [(vr 24)], [(vr 157), (vr 24), (vY x.t.a.a.f), (vY x.t.a.b.b), (vY x.t.a.b.c), (vY x.t.a.b.d)], 156, x.s.a.d.f, true, [], [], false, none, false⟩), #[(vR 148), none, (some (vS x.s.a.d.f 367)), (some (vS x.s.a.d.f 375)), (some (vB x.t.a.b.e)), (some (.bool true))]⟩
def zgn : Obj := ⟨(vY x.t.a.b.h), none, (.fields #[(vr 157), (vr 157), (vr 157)]), #[]⟩
def zf9 : Obj := ⟨(vY x.t.a.a.g), none, (.fields #[(vB x.t.a.c.a), (vr 157)]), #[]⟩
def b1082 : Obj := ⟨(vY x.t.a.a.d), none, (.dict #[i0, i1, i2, i3, i4, i5, i6, i7, i8, i9, i16, i22, i28, i34, i40, i46, i52, i58, i64, i70, i76, i82] 22), #[]⟩
def b1083 : Obj := ⟨.none, none, (.fields #[(vI 2), vO, (vr 20), (vI 4), vO, (vr 33), (vI 6), vO, (vr 45), (vI 8), vO, (vr 57), (vI 10), vO, (vr 69), (vI 12), vO, (vr 81), (vI 14), vO, (vr 93), (vI 16), vO, (vr 105), (vI 18), vO, (vr 117), (vI 20), vO, (vr 129), (vI 22), vO, (vr 141), (vI 24), vO, (vr 153), (vI 26), vO, (vr 165)]), #[]⟩
def b1084 : Obj := ⟨(vY x.t.a.b.a), none, (.cls ⟨x.s.a.b.f, [(vY x.t.a.a.f)], [(vr 24), (vY x.t.a.a.f), (vY x.t.a.b.b), (vY x.t.a.b.c), (vY x.t.a.b.d)], 23, x.s.a.b.f, true, [], [(vr 37), (vr 49), (vr 61), (vr 73), (vr 85), (vr 97), (vr 109), (vr 121), (vr 133), (vr 145), (vr 157), (vr 169)], false, none, false⟩), #[(vR 15), none, (some (vS x.s.a.b.f 189)), (some (vS x.s.a.b.f 197)), (some (vB x.t.a.b.e)), (some (.bool true))]⟩
def zg0 : Obj := ⟨(vY x.t.a.a.d), none, (.dict #[i83, i84, i85, i86] 4), #[]⟩
def zgY : Obj := ⟨(vY x.t.a.a.b), none, (.fields #[(vS x.s.a.d.g 385), (vS x.s.a.d.g 386), (vS x.s.a.a.b 387), (vI 26), vO, vO, vO, vO, (vr 163), (.bool false), (vI 181), (vr 164), .none, .none, .none, .none, (vI 388), (vI 26), (vS x.s.a.a.b 389)]), #[]⟩
def zgV : Obj := ⟨(vY x.t.a.a.c), none, .plain, #[(vR 165), (vR 3), (vR 162), none, (some (vS x.s.a.a.e 187)), none, (vR 0)]⟩
def zg2 : Obj := ⟨(vY x.t.a.a.d), none, (.dict #[i83, i85, i86, i87] 2), #[]⟩
def zg3 : Obj := ⟨(vY x.t.a.b.a), none, (.cls ⟨x.s.a.d.g, [(vr 24)], [(vr 169), (vr 24), (vY x.t.a.a.f), (vY x.t.a.b.b), (vY x.t.a.b.c), (vY x.t.a.b.d)], 168, x.s.a.d.g, true, [], [], false, none, false⟩), #[(vR 160), none, (some (vS x.s.a.d.g 383)), (some (vS x.s.a.d.g 391)), (some (vB x.t.a.b.e)), (some (.bool true))]⟩
def zgT : Obj := ⟨(vY x.t.a.b.h), none, (.fields #[(vr 169), (vr 169), (vr 169)]), #[]⟩
def zg1 : Obj := ⟨(vY x.t.a.a.g), none, (.fields #[(vB x.t.a.c.a), (vr 169)]), #[]⟩
def b1097 : Obj := ⟨(vY x.t.a.a.d), none, (.dict #[i0, i1, i2, i3, i4, i5, i6, i7, i8, i9, i16, i22, i28, i34, i40, i46, i52, i58, i64, i70, i76, i82, i88] 23), #[]⟩
def b1098 : Obj := ⟨.none, none, (.fields #[(vI 2), vO, (vr 20), (vI 4), vO, (vr 33), (vI 6), vO, (vr 45), (vI 8), vO, (vr 57), (vI 10), vO, (vr 69), (vI 12), vO, (vr 81), (vI 14), vO, (vr 93), (vI 16), vO, (vr 105), (vI 18), vO, (vr 117), (vI 20), vO, (vr 129), (vI 22), vO, (vr 141), (vI 24), vO, (vr 153), (vI 26), vO, (vr 165), (vI 28), vO, (vr 177)]), #[]⟩
def b1099 : Obj := ⟨(vY x.t.a.b.a), none, (.cls ⟨x.s.a.b.f, [(vY x.t.a.a.f)], [(vr 24), (vY x.t.a.a.f), (vY x.t.a.b.b), (vY x.t.a.b.c), (vY x.t.a.b.d)], 23, x.s.a.b.f, true, [], [(vr 37), (vr 49), (vr 61), (vr 73), (vr 85), (vr 97), (vr 109), (vr 121), (vr 133), (vr 145), (vr 157), (vr 169), (vr 181)], false, none, false⟩), #[(vR 15), none, (some (vS x.s.a.b.f 189)), (some (vS x.s.a.b.f 197)), (some (vB x.t.a.b.e)), (some (.bool true))]⟩
def zhE : Obj := ⟨(vY x.t.a.a.d), none, (.dict #[i89, i90, i91, i92] 4), #[]⟩
def zik : Obj := ⟨(vY x.t.a.a.b), none, (.fields #[(vS x.s.a.d.h 401), (vS x.s.a.d.h 402), (vS x.s.a.a.b 403), (vI 28), vO, vO, vO, vO, (vr 175), (.bool false), (vI 181), (vr 176), .none, .none, .none, .none, (vI 404), (vI 28), (vS x.s.a.a.b 405)]), #[]⟩
def zh6 : Obj := ⟨(vY x.t.a.a.c), none, .plain, #[(vR 177), (vR 3), (vR 174), none, (some (vS x.s.a.a.e 187)), none, (vR 0)]⟩
def zhZ : Obj := ⟨(vY x.t.a.a.d), none, (.dict #[i89, i91, i92, i93] 2), #[]⟩
def zhx : Obj := ⟨(vY x.t.a.b.a), none, (.cls ⟨x.s.a.d.h, [(vr 24)], [(vr 181), (vr 24), (vY x.t.a.a.f), (vY x.t.a.b.b), (vY x.t.a.b.c), (vY x.t.a.b.d)], 180, x.s.a.d.h, true, [], [], false, none, false⟩), #[(vR 172), none, (some (vS x.s.a.d.h 399)), (some (vS x.s.a.d.h 407)), (some (vB x.t.a.b.e)), (some (.bool true))]⟩
def zhI : Obj := ⟨(vY x.t.a.b.h), none, (.fields #[(vr 181), (vr 181), (vr 181)]), #[]⟩
def zia : Obj := ⟨(vY x.t.a.a.g), none, (.fields #[(vB x.t.a.c.a), (vr 181)]), #[]⟩
def b1112 : Obj := ⟨(vY x.t.a.a.d), none, (.dict #[i0, i1, i2, i3, i4, i5, i6, i7, i8, i9, i16, i22, i28, i34, i40, i46, i52, i58, i64, i70, i76, i82, i88, i94] 24), #[]⟩
def b1113 : Obj := ⟨.none, none, (.fields #[(vI 2), vO, (vr 20), (vI 4), vO, (vr 33), (vI 6), vO, (vr 45), (vI 8), vO, (vr 57), (vI 10), vO, (vr 69), (vI 12), vO, (vr 81), (vI 14), vO, (vr 93), (vI 16), vO, (vr 105), (vI 18), vO, (vr 117), (vI 20), vO, (vr 129), (vI 22), vO, (vr 141), (vI 24), vO, (vr 153), (vI 26), vO, (vr 165), (vI 28), vO, (vr 177), (vI 30), vO, (vr 189)]), #[]⟩
def b1114 : Obj := ⟨(vY x.t.a.b.a), none, (.cls ⟨x.s.a.b.f, [(vY x.t.a.a.f)], [(vr 24), (vY x.t.a.a.f), (vY x.t.a.b.b), (vY x.t.a.b.c), (vY x.t.a.b.d)], 23, x.s.a.b.f, true, [], [(vr 37), (vr 49), (vr 61), (vr 73), (vr 85), (vr 97), (vr 109), (vr 121), (vr 133), (vr 145), (vr 157), (vr 169), (vr 181), (vr 193)], false, none, false⟩), #[(vR 15), none, (some (vS x.s.a.b.f 189)), (some (vS x.s.a.b.f 197)), (some (vB x.t.a.b.e)), (some (.bool true))]⟩
def ziQ : Obj := ⟨(vY x.t.a.a.d), none, (.dict #[i95, i96, i97, i98] 4), #[]⟩
def ziW : Obj := ⟨(vY x.t.a.a.b), none, (.fields #[(vS x.s.a.e.a 417), (vS x.s.a.e.a 418), (vS x.s.a.a.b 419), (vI 30), vO, vO, vO, vO, (vr 187), (.bool false), (vI 181), (vr 188), .none, .none, .none, .none, (vI 420), (vI 30), (vS x.s.a.a.b 421)]), #[]⟩
def ziT : Obj := ⟨(vY x.t.a.a.c), none, .plain, #[(vR 189), (vR 3), (vR 186), none, (some (vS x.s.a.a.e 187)), none, (vR 0)]⟩
def ziV : Obj := ⟨(vY x.t.a.a.d), none, (.dict #[i95, i97, i98, i99] 2), #[]⟩
def ziO : Obj := ⟨(vY x.t.a.b.a), none, (.cls ⟨x.s.a.e.a, [(vr 24)], [(vr 193), (vr 24), (vY x.t.a.a.f), (vY x.t.a.b.b), (vY x.t.a.b.c), (vY x.t.a.b.d)], 192, x.s.a.e.a, true, [], [], false, none, false⟩), #[(vR 184), none, (some (vS x.s.a.e.a 415)), (some (vS x.s.a.e.a 423)), (some (vB x.t.a.b.e)), (some (.bool true))]⟩
def ziN : Obj := ⟨(vY x.t.a.b.h), none, (.fields #[(vr 193), (vr 193), (vr 193)]), #[]⟩
def ziC : Obj := ⟨(vY x.t.a.a.g), none, (.fields #[(vB x.t.a.c.a), (vr 193)]), #[]⟩
def b1127 : Obj := ⟨(vY x.t.a.a.d), none, (.dict #[i0, i1, i2, i3, i4, i5, i6, i7, i8, i9, i16, i22, i28, i34, i40, i46, i52, i58, i64, i70, i76, i82, i88, i94, zrG] 25), #[]⟩
def b1128 : Obj := ⟨.none, none, (.fields #[(vI 2), vO, (vr 20), (vI 4), vO, (vr 33), (vI 6), vO, (vr 45), (vI 8), vO, (vr 57), (vI 10), vO, (vr 69), (vI 12), vO, (vr 81), (vI 14), vO, (vr 93), (vI 16), vO, (vr 105), (vI 18), vO, (vr 117), (vI 20), vO, (vr 129), (vI 22), vO, (vr 141), (vI 24), vO, (vr 153), (vI 26), vO, (vr 165), (vI 28), vO, (vr 177), (vI 30), vO, (vr 189), (vI 32), vO, (vr 201)]), #[]⟩
def b1129 : Obj := ⟨(vY x.t.a.b.a), none, (.cls ⟨x.s.a.b.f, [(vY x.t.a.a.f)], [(vr 24), (vY x.t.a.a.f), (vY x.t.a.b.b), (vY x.t.a.b.c), (vY x.t.a.b.d)], 23, x.s.a.b.f, true, [], [(vr 37), (vr 49), (vr 61), (vr 73), (vr 85), (vr 97), (vr 109), (vr 121), (vr 133), (vr 145), (vr 157), (vr 169), (vr 181), (vr 193), (vr 212)], false, none, false⟩), #[(vR 15), none, (some (vS x.s.a.b.f 189)), (some (vS x.s.a.b.f 197)), (some (vB x.t.a.b.e)), (some (.bool true))]⟩
def zjN : Obj := ⟨(vY x.t.a.a.d), none, (.dict #[i101, i102, i103, i104, i105] 5), #[]⟩
def zjO : Obj := ⟨.none, none, (.fields #[(vI 34), (vI 4), (vr 208)]), #[]⟩
def zj9 : Obj := ⟨(vY x.t.a.a.b), none, (.fields #[(vS x.s.a.e.b 433), (vS x.s.a.e.b 434), (vS x.s.a.a.b 435), (vI 32), vO, vO, vO, vO, (vr 199), (.bool false), (vI 181), (vr 200), .none, .none, .none, .none, (vI 436), (vI 32), (vS x.s.a.a.b 437)]), #[]⟩
def zkl : Obj := ⟨(vY x.t.a.a.c), none, .plain, #[(vR 201), (vR 3), (vR 198), none, (some (vS x.s.a.a.e 187)), none, (vR 0)]⟩
def zkw : Obj := ⟨(vY x.t.a.a.a), none, (.seq #[(vS x.s.a.e.d 446), (vS x.s.a.e.e 447)] 0), #[]⟩
def zjI : Obj := ⟨.none, none, (.func (fn (sm 16 0) x.s.a.e.f 0 [] .none .none .none .none none .none .none 0)), #[]⟩
def zjV : Obj := ⟨(vY x.t.a.a.b), none, (.fields #[(vS x.s.a.e.c 443), (vS x.s.a.e.f 444), (vS x.s.a.a.b 445), (vI 34), (vI 2), vO, vO, (vI 3), (vr 203), (.bool true), (vI 181), (vr 204), .none, (vr 205), (vr 206), (vr 207), (vI 448), (vI 34), (vS x.s.a.a.b 449)]), #[]⟩
def zjA : Obj := ⟨(vY x.t.a.c.b), none, (.func (fn (sm 16 0) x.s.a.e.f 3 [] .none .none .none (vS x.s.a.a.e 187) none (vr 208) .none 0)), #[]⟩
def zjC : Obj := ⟨(vY x.t.a.a.a), none, (.seq #[(vS x.s.a.e.e 451)] 0), #[]⟩
def zjF : Obj := ⟨(vY x.t.a.a.d), none, (.dict #[i101, i103, i104, i105, i106] 2), #[]⟩
def zjL : Obj := ⟨(vY x.t.a.b.a), none, (.cls ⟨x.s.a.e.b, [(vr 24)], [(vr 212), (vr 24), (vY x.t.a.a.f), (vY x.t.a.b.b), (vY x.t.a.b.c), (vY x.t.a.b.d)], 211, x.s.a.e.b, true, [], [], false, none, false⟩), #[(vR 196), none, (some (vS x.s.a.e.b 431)), (some (vS x.s.a.e.b 439)), (some (vB x.t.a.b.e)), (some (.bool true))]⟩
def zj6 : Obj := ⟨(vY x.t.a.b.h), none, (.fields #[(vr 212), (vr 212), (vr 212)]), #[]⟩
def zjR : Obj := ⟨(vY x.t.a.a.g), none, (.fields #[(vB x.t.a.c.a), (vr 212)]), #[]⟩
def b1149 : Obj := ⟨(vY x.t.a.a.d), none, (.dict #[i0, i1, i2, i3, i4, i5, i6, i7, i8, i9, i16, i22, i28, i34, i40, i46, i52, i58, i64, i70, i76, i82, i88, i94, zrG, zsj] 26), #[]⟩
def b1150 : Obj := ⟨.none, none, (.fields #[(vI 2), vO, (vr 20), (vI 4), vO, (vr 33), (vI 6), vO, (vr 45), (vI 8), vO, (vr 57), (vI 10), vO, (vr 69), (vI 12), vO, (vr 81), (vI 14), vO, (vr 93), (vI 16), vO, (vr 105), (vI 18), vO, (vr 117), (vI 20), vO, (vr 129), (vI 22), vO, (vr 141), (vI 24), vO, (vr 153), (vI 26), vO, (vr 165), (vI 28), vO, (vr 177), (vI 30), vO, (vr 189), (vI 32), vO, (vr 201), (vI 37), vO, (vr 220)]), #[]⟩
def b1151 : Obj := ⟨(vY x.t.a.b.a), none, (.cls ⟨x.s.a.b.f, [(vY x.t.a.a.f)], [(vr 24), (vY x.t.a.a.f), (vY x.t.a.b.b), (vY x.t.a.b.c), (vY x.t.a.b.d)], 23, x.s.a.b.f, true, [], [(vr 37), (vr 49), (vr 61), (vr 73), (vr 85), (vr 97), (vr 109), (vr 121), (vr 133), (vr 145), (vr 157), (vr 169), (vr 181), (vr 193), (vr 212), (vr 231)], false, none, false⟩), #[(vR 15), none, (some (vS x.s.a.b.f 189)), (some (vS x.s.a.b.f 197)), (some (vB x.t.a.b.e)), (some (.bool true))]⟩
def zlq : Obj := ⟨(vY x.t.a.a.d), none, (.dict #[i108, i109, i110, i111, i112] 5), #[]⟩
def zld : Obj := ⟨.none, none, (.fields #[(vI 39), (vI 4), (vr 227)]), #[]⟩
def zlw : Obj := ⟨(vY x.t.a.a.b), none, (.fields #[(vS x.s.a.e.g 458), (vS x.s.a.e.g 459), (vS x.s.a.a.b 460), (vI 37), vO, vO, vO, vO, (vr 218), (.bool false), (vI 181), (vr 219), .none, .none, .none, .none, (vI 461), (vI 37), (vS x.s.a.a.b 462)]), #[]⟩
def zk3 : Obj := ⟨(vY x.t.a.a.c), none, .plain, #[(vR 220), (vR 3), (vR 217), none, (some (vS x.s.a.a.e 187)), none, (vR 0)]⟩
def zkS : Obj := ⟨(vY x.t.a.a.a), none, (.seq #[(vS x.s.a.e.d 471), (vS x.s.a.e.h 472)] 0), #[]⟩
def zlz : Obj := ⟨.none, none, (.func (fn (sm 17 0) x.s.a.f.a 0 [] .none .none .none .none none .none .none 0)), #[]⟩
def zkR : Obj := ⟨(vY x.t.a.a.b), none, (.fields #[(vS x.s.a.e.c 468), (vS x.s.a.f.a 469), (vS x.s.a.a.b 470), (vI 39), (vI 2), vO, vO, (vI 3), (vr 222), (.bool true), (vI 181), (vr 223), .none, (vr 224), (vr 225), (vr 226), (vI 473), (vI 39), (vS x.s.a.a.b 474)]), #[]⟩
def zla : Obj := ⟨(vY x.t.a.c.b), none, (.func (fn (sm 17 0) x.s.a.f.a 3 [] .none .none .none (vS x.s.a.a.e 187) none (vr 227) .none 0)), #[]⟩
def zlr : Obj := ⟨(vY x.t.a.a.a), none, (.seq #[(vS x.s.a.e.h 476)] 0), #[]⟩
def zlb : Obj := ⟨(vY x.t.a.a.d), none, (.dict #[i108, i110, i111, i112, i113] 2), #[]⟩
def zln : Obj := ⟨(vY x.t.a.b.a), none, (.cls ⟨x.s.a.e.g, [(vr 24)], [(vr 231), (vr 24), (vY x.t.a.a.f), (vY x.t.a.b.b), (vY x.t.a.b.c), (vY x.t.a.b.d)], 230, x.s.a.e.g, true, [], [], false, none, false⟩), #[(vR 215), none, (some (vS x.s.a.e.g 456)), (some (vS x.s.a.e.g 464)), (some (vB x.t.a.b.e)), (some (.bool true))]⟩
def zk1 : Obj := ⟨(vY x.t.a.b.h), none, (.fields #[(vr 231), (vr 231), (vr 231)]), #[]⟩
def zkP : Obj := ⟨(vY x.t.a.a.g), none, (.fields #[(vB x.t.a.c.a), (vr 231)]), #[]⟩
def b1171 : Obj := ⟨(vY x.t.a.a.d), none, (.dict #[i0, i1, i2, i3, i4, i5, i6, i7, i8, i9, i16, i22, i28, i34, i40, i46, i52, i58, i64, i70, i76, i82, i88, i94, zrG, zsj, ztC] 27), #[]⟩
def b1172 : Obj := ⟨.none, none, (.fields #[(vI 2), vO, (vr 20), (vI 4), vO, (vr 33), (vI 6), vO, (vr 45), (vI 8), vO, (vr 57), (vI 10), vO, (vr 69), (vI 12), vO, (vr 81), (vI 14), vO, (vr 93), (vI 16), vO, (vr 105), (vI 18), vO, (vr 117), (vI 20), vO, (vr 129), (vI 22), vO, (vr 141), (vI 24), vO, (vr 153), (vI 26), vO, (vr 165), (vI 28), vO, (vr 177), (vI 30), vO, (vr 189), (vI 32), vO, (vr 201), (vI 37), vO, (vr 220), (vI 42), vO, (vr 239)]), #[]⟩
def b1173 : Obj := ⟨(vY x.t.a.b.a), none, (.cls ⟨x.s.a.b.f, [(vY x.t.a.a.f)], [(vr 24), (vY x.t.a.a.f), (vY x.t.a.b.b), (vY x.t.a.b.c), (vY x.t.a.b.d)], 23, x.s.a.b.f, true, [], [(vr 37), (vr 49), (vr 61), (vr 73), (vr 85), (vr 97), (vr 109), (vr 121), (vr 133), (vr 145), (vr 157), (vr 169), (vr 181), (vr 193), (vr 212), (vr 231), (vr 250)], false, none, false⟩), #[(vR 15), none, (some (vS x.s.a.b.f 189)), (some (vS x.s.a.b.f 197)), (some (vB x.t.a.b.e)), (some (.bool true))]⟩
def zlI : Obj := ⟨(vY x.t.a.a.d), none, (.dict #[i115, i116, i117, i118, i119] 5), #[]⟩
def zmh : Obj := ⟨.none, none, (.fields #[(vI 44), (vI 4), (vr 246)]), #[]⟩
def zlJ : Obj := ⟨(vY x.t.a.a.b), none, (.fields #[(vS x.s.a.f.b 483), (vS x.s.a.f.b 484), (vS x.s.a.a.b 485), (vI 42), vO, vO, vO, vO, (vr 237), (.bool false), (vI 181), (vr 238), .none, .none, .none, .none, (vI 486), (vI 42), (vS x.s.a.a.b 487)]), #[]⟩
def zmp : Obj := ⟨(vY x.t.a.a.c), none, .plain, #[(vR 239), (vR 3), (vR 236), none, (some (vS x.s.a.a.e 187)), none, (vR 0)]⟩
def zlR : Obj := ⟨(vY x.t.a.a.a), none, (.seq #[(vS x.s.a.e.d 496), (vS x.s.a.f.c 497)] 0), #[]⟩
def zlT : Obj := ⟨.none, none, (.func (fn (sm 18 0) x.s.a.f.d 0 [] .none .none .none .none none .none .none 0)), #[]⟩
def zl3 : Obj := ⟨(vY x.t.a.a.b), none, (.fields #[(vS x.s.a.e.c 493), (vS x.s.a.f.d 494), (vS x.s.a.a.b 495), (vI 44), (vI 2), vO, vO, (vI 3), (vr 241), (.bool true), (vI 181), (vr 242), .none, (vr 243), (vr 244), (vr 245), (vI 498), (vI 44), (vS x.s.a.a.b 499)]), #[]⟩
def zmc : Obj := ⟨(vY x.t.a.c.b), none, (.func (fn (sm 18 0) x.s.a.f.d 3 [] .none .none .none (vS x.s.a.a.e 187) none (vr 246) .none 0)), #[]⟩
def zlH : Obj := ⟨(vY x.t.a.a.a), none, (.seq #[(vS x.s.a.f.c 501)] 0), #[]⟩
def zl7 : Obj := ⟨(vY x.t.a.a.d), none, (.dict #[i115, i117, i118, i119, i120] 2), #[]⟩
def zmg : Obj := ⟨(vY x.t.a.b.a), none, (.cls ⟨x.s.a.f.b, [(vr 24)], [(vr 250), (vr 24), (vY x.t.a.a.f), (vY x.t.a.b.b), (vY x.t.a.b.c), (vY x.t.a.b.d)], 249, x.s.a.f.b, true, [], [], false, none, false⟩), #[(vR 234), none, (some (vS x.s.a.f.b 481)), (some (vS x.s.a.f.b 489)), (some (vB x.t.a.b.e)), (some (.bool true))]⟩
def zlY : Obj := ⟨(vY x.t.a.b.h), none, (.fields #[(vr 250), (vr 250), (vr 250)]), #[]⟩
def zlX : Obj := ⟨(vY x.t.a.a.g), none, (.fields #[(vB x.t.a.c.a), (vr 250)]), #[]⟩
def b1193 : Obj := ⟨(vY x.t.a.a.d), none, (.dict #[i121, i1, i2, i3, i4, i5, i6, i7, i8, i9, i16, i22, i28, i34, i40, i46, i52, i58, i64, i70, i76, i82, i88, i94, zrG, zsj, ztC, zuj, zuo, ztV, zuI, zut] 32), #[]⟩
def b1194 : Obj := ⟨.none, none, (.fields #[(vI 2), vO, (vr 20), (vI 4), vO, (vr 33), (vI 6), vO, (vr 45), (vI 8), vO, (vr 57), (vI 10), vO, (vr 69), (vI 12), vO, (vr 81), (vI 14), vO, (vr 93), (vI 16), vO, (vr 105), (vI 18), vO, (vr 117), (vI 20), vO, (vr 129), (vI 22), vO, (vr 141), (vI 24), vO, (vr 153), (vI 26), vO, (vr 165), (vI 28), vO, (vr 177), (vI 30), vO, (vr 189), (vI 32), vO, (vr 201), (vI 37), vO, (vr 220), (vI 42), vO, (vr 239), (vI 47), vO, (vr 258), (vI 53), vO, (vr 277), (vI 61), vO, (vr 284), (vI 68), vO, (vr 291), (vI 70), vO, (vr 298)]), #[]⟩
def znE : Obj := ⟨(vY x.t.a.b.a), none, (.cls ⟨x.s.a.b.f, [(vY x.t.a.a.f)], [(vr 24), (vY x.t.a.a.f), (vY x.t.a.b.b), (vY x.t.a.b.c), (vY x.t.a.b.d)], 23, x.s.a.b.f, true, [], [(vr 37), (vr 49), (vr 61), (vr 73), (vr 85), (vr 97), (vr 109), (vr 121), (vr 133), (vr 145), (vr 157), (vr 169), (vr 181), (vr 193), (vr 212), (vr 231), (vr 250), (vr 269)], false, none, false⟩), #[(vR 15), none, (some (vS x.s.a.b.f 189)), (some (vS x.s.a.b.f 197)), (some (vB x.t.a.b.e)), (some (.bool true))]⟩
def zmX : Obj := ⟨(vY x.t.a.a.d), none, (.dict #[i127, i128, i129, i130, i131] 5), #[]⟩
def znI : Obj := ⟨.none, none, (.fields #[(vI 49), (vI 4), (vr 265)]), #[]⟩
def zm3 : Obj := ⟨(vY x.t.a.a.b), none, (.fields #[(vS x.s.a.f.f 508), (vS x.s.a.f.f 509), (vS x.s.a.a.b 510), (vI 47), vO, vO, vO, vO, (vr 256), (.bool false), (vI 181), (vr 257), .none, .none, .none, .none, (vI 511), (vI 47), (vS x.s.a.a.b 512)]), #[]⟩
def znm : Obj := ⟨(vY x.t.a.a.c), none, .plain, #[(vR 258), (vR 3), (vR 255), none, (some (vS x.s.a.a.e 187)), none, (vR 0)]⟩
def znx : Obj := ⟨(vY x.t.a.a.a), none, (.seq #[(vS x.s.a.e.d 521), (vS x.s.a.g.c 522)] 0), #[]⟩
def znn : Obj := ⟨.none, none, (.func (fn (sm 19 0) x.s.a.g.d 0 [] .none .none .none .none none .none .none 0)), #[]⟩
def znp : Obj := ⟨(vY x.t.a.a.b), none, (.fields #[(vS x.s.a.e.c 518), (vS x.s.a.g.d 519), (vS x.s.a.a.b 520), (vI 49), (vI 2), vO, vO, (vI 3), (vr 260), (.bool true), (vI 181), (vr 261), .none, (vr 262), (vr 263), (vr 264), (vI 523), (vI 49), (vS x.s.a.a.b 524)]), #[]⟩
def znH : Obj := ⟨(vY x.t.a.c.b), none, (.func (fn (sm 19 0) x.s.a.g.d 3 [] .none .none .none (vS x.s.a.a.e 187) none (vr 265) .none 0)), #[]⟩
def zmW : Obj := ⟨(vY x.t.a.a.a), none, (.seq #[(vS x.s.a.g.c 526)] 0), #[]⟩
def zm7 : Obj := ⟨(vY x.t.a.a.d), none, (.dict #[i127, i129, i130, i131, i132] 2), #[]⟩
def znD : Obj := ⟨(vY x.t.a.b.a), none, (.cls ⟨x.s.a.f.f, [(vr 24)], [(vr 269), (vr 24), (vY x.t.a.a.f), (vY x.t.a.b.b), (vY x.t.a.b.c), (vY x.t.a.b.d)], 268, x.s.a.f.f, true, [], [], false, none, false⟩), #[(vR 253), none, (some (vS x.s.a.f.f 506)), (some (vS x.s.a.f.f 514)), (some (vB x.t.a.b.e)), (some (.bool true))]⟩
def znG : Obj := ⟨(vY x.t.a.b.h), none, (.fields #[(vr 269), (vr 269), (vr 269)]), #[]⟩
def zm5 : Obj := ⟨(vY x.t.a.a.g), none, (.fields #[(vB x.t.a.c.a), (vr 269)]), #[]⟩
def zna : Obj := ⟨(vY x.t.a.a.a), none, (.seq #[(vS x.s.a.g.e 536), (vS x.s.a.g.f 537), (vS x.s.a.g.g 538)] 0), #[]⟩
def znz : Obj := ⟨.none, none, (.func (fn (st 21) x.s.a.f.g 0 [] .none .none .none .none none .none .none 0)), #[]⟩
def zno : Obj := ⟨(vY x.t.a.a.b), none, (.fields #[(vS x.s.a.f.g 533), (vS x.s.a.f.g 534), (vS x.s.a.a.b 535), (vI 53), (vI 2), vO, vO, (vI 3), (vr 272), (.bool true), (vI 181), (vr 273), .none, (vr 274), (vr 275), (vr 276), (vI 539), (vI 53), (vS x.s.a.a.b 540)]), #[]⟩
def zm9 : Obj := ⟨(vY x.t.a.c.b), none, (.func (fn (st 21) x.s.a.f.g 3 [] .none .none .none (vS x.s.a.f.e 531) none (vr 277) .none 0)), #[]⟩
def zmY : Obj := ⟨(vY x.t.a.a.a), none, (.seq #[(vS x.s.a.g.h 545), (vS x.s.a.h.a 546), (vS x.s.a.h.b 547)] 0), #[]⟩
def znf : Obj := ⟨.none, none, (.func (fn (st 22) x.s.a.f.h 0 [] .none .none .none .none none .none .none 0)), #[]⟩
def znq : Obj := ⟨(vY x.t.a.a.b), none, (.fields #[(vS x.s.a.f.h 542), (vS x.s.a.f.h 543), (vS x.s.a.a.b 544), (vI 61), (vI 2), vO, vO, (vI 3), (vr 279), (.bool true), (vI 181), (vr 280), .none, (vr 281), (vr 282), (vr 283), (vI 548), (vI 61), (vS x.s.a.a.b 549)]), #[]⟩
def znK : Obj := ⟨(vY x.t.a.c.b), none, (.func (fn (st 22) x.s.a.f.h 3 [] .none .none .none (vS x.s.a.f.e 531) none (vr 284) .none 0)), #[]⟩
def zny : Obj := ⟨(vY x.t.a.a.a), none, (.seq #[(vS x.s.a.g.e 554), (vS x.s.a.g.f 555)] 0), #[]⟩
def znj : Obj := ⟨.none, none, (.func (fn (st 23) x.s.a.g.a 0 [] .none .none .none .none none .none .none 0)), #[]⟩
def zmU : Obj := ⟨(vY x.t.a.a.b), none, (.fields #[(vS x.s.a.g.a 551), (vS x.s.a.g.a 552), (vS x.s.a.a.b 553), (vI 68), (vI 2), vO, vO, (vI 3), (vr 286), (.bool true), (vI 181), (vr 287), .none, (vr 288), (vr 289), (vr 290), (vI 556), (vI 68), (vS x.s.a.a.b 557)]), #[]⟩
def znh : Obj := ⟨(vY x.t.a.c.b), none, (.func (fn (st 23) x.s.a.g.a 3 [] .none .none .none (vS x.s.a.f.e 531) none (vr 291) .none 0)), #[]⟩
def znl : Obj := ⟨(vY x.t.a.a.a), none, (.seq #[(vS x.s.a.h.c 562), (vS x.s.a.h.b 563), (vS x.s.a.h.d 564)] 0), #[]⟩
def zmZ : Obj := ⟨.none, none, (.func (fn (st 24) x.s.a.g.b 0 [] .none .none .none .none none .none .none 0)), #[]⟩
def znv : Obj := ⟨(vY x.t.a.a.b), none, (.fields #[(vS x.s.a.g.b 559), (vS x.s.a.g.b 560), (vS x.s.a.a.b 561), (vI 70), (vI 1), vO, vO, (vI 3), (vr 293), (.bool true), (vI 181), (vr 294), .none, (vr 295), (vr 296), (vr 297), (vI 565), (vI 70), (vS x.s.a.a.b 566)]), #[]⟩
def zni : Obj := ⟨(vY x.t.a.c.b), none, (.func (fn (st 24) x.s.a.g.b 3 [] .none .none .none (vS x.s.a.f.e 531) none (vr 298) .none 0)), #[]⟩
def b1243 : Obj := ⟨(vY x.t.a.a.d), none, (.dict #[i133, i1, i2, i3, i4, i5, i6, i7, i8, i9, i16, i22, i28, i34, i40, i46, i52, i58, i64, i70, i76, i82, i88, i94, zrG, zsj, ztC, zuj, zuo, ztV, zuI, zut, i134, i135, i136] 35), #[]⟩
def b1244 : Obj := ⟨.none, none, (.fields #[(vI 2), vO, (vr 20), (vI 4), vO, (vr 33), (vI 6), vO, (vr 45), (vI 8), vO, (vr 57), (vI 10), vO, (vr 69), (vI 12), vO, (vr 81), (vI 14), vO, (vr 93), (vI 16), vO, (vr 105), (vI 18), vO, (vr 117), (vI 20), vO, (vr 129), (vI 22), vO, (vr 141), (vI 24), vO, (vr 153), (vI 26), vO, (vr 165), (vI 28), vO, (vr 177), (vI 30), vO, (vr 189), (vI 32), vO, (vr 201), (vI 37), vO, (vr 220), (vI 42), vO, (vr 239), (vI 47), vO, (vr 258), (vI 53), vO, (vr 277), (vI 61), vO, (vr 284), (vI 68), vO, (vr 291), (vI 70), vO, (vr 298), (vI 75), vO, (vr 303), (vI 79), vO, (vr 310), (vI 81), vO, (vr 315)]), #[]⟩
def zo8 : Obj := ⟨.none, none, (.func (fn (st 25) x.s.a.h.f 0 [] .none .none .none .none none .none .none 0)), #[]⟩
def zoy : Obj := ⟨(vY x.t.a.a.b), none, (.fields #[(vS x.s.a.h.f 568), (vS x.s.a.h.f 569), (vS x.s.a.a.b 570), (vI 75), (vI 1), vO, vO, (vI 3), (vr 300), (.bool true), (vI 181), (vr 301), .none, .none, .none, (vr 302), (vI 571), (vI 75), (vS x.s.a.a.b 572)]), #[]⟩
def zou : Obj := ⟨(vY x.t.a.c.b), none, (.func (fn (st 25) x.s.a.h.f 3 [] .none .none .none (vS x.s.a.f.e 531) none (vr 303) .none 0)), #[]⟩
def zoM : Obj := ⟨(vY x.t.a.a.a), none, (.seq #[(vS x.s.b.a.a 579)] 0), #[]⟩
def zoP : Obj := ⟨.none, none, (.func (fn (st 27) x.s.a.h.g 0 [] .none .none .none .none none .none .none 0)), #[]⟩
def zoq : Obj := ⟨(vY x.t.a.a.b), none, (.fields #[(vS x.s.a.h.g 576), (vS x.s.a.h.g 577), (vS x.s.a.a.b 578), (vI 79), (vI 1), vO, vO, (vI 3), (vr 305), (.bool true), (vI 181), (vr 306), .none, (vr 307), (vr 308), (vr 309), (vI 580), (vI 79), (vS x.s.a.a.b 581)]), #[]⟩
def zoS : Obj := ⟨(vY x.t.a.c.b), none, (.func (fn (st 27) x.s.a.h.g 3 [] .none .none .none (vS x.s.b.a.b 574) none (vr 310) .none 0)), #[]⟩
def zo5 : Obj := ⟨.none, none, (.func (fn (st 28) x.s.a.h.h 0 [] .none .none .none .none none .none .none 0)), #[]⟩
def zob : Obj := ⟨(vY x.t.a.a.b), none, (.fields #[(vS x.s.a.h.h 583), (vS x.s.a.h.h 584), (vS x.s.a.a.b 585), (vI 81), (vI 2), vO, vO, (vI 3), (vr 312), (.bool true), (vI 181), (vr 313), .none, .none, .none, (vr 314), (vI 586), (vI 81), (vS x.s.a.a.b 587)]), #[]⟩
def zoi : Obj := ⟨(vY x.t.a.c.b), none, (.func (fn (st 28) x.s.a.h.h 3 [] .none .none .none (vS x.s.b.a.b 574) none (vr 315) .none 0)), #[]⟩
def b1262 : Obj := ⟨(vY x.t.a.a.d), none, (.dict #[i133, i1, i2, i3, i4, i5, i6, i7, i8, i9, i16, i22, i28, i34, i40, i46, i52, i58, i64, i70, i76, i82, i88, i94, zrG, zsj, ztC, zuj, zuo, ztV, zuI, zut, i134, i135, i136, i137] 36), #[]⟩
def b1263 : Obj := ⟨.none, none, (.fields #[(vI 2), vO, (vr 20), (vI 4), vO, (vr 33), (vI 6), vO, (vr 45), (vI 8), vO, (vr 57), (vI 10), vO, (vr 69), (vI 12), vO, (vr 81), (vI 14), vO, (vr 93), (vI 16), vO, (vr 105), (vI 18), vO, (vr 117), (vI 20), vO, (vr 129), (vI 22), vO, (vr 141), (vI 24), vO, (vr 153), (vI 26), vO, (vr 165), (vI 28), vO, (vr 177), (vI 30), vO, (vr 189), (vI 32), vO, (vr 201), (vI 37), vO, (vr 220), (vI 42), vO, (vr 239), (vI 47), vO, (vr 258), (vI 53), vO, (vr 277), (vI 61), vO, (vr 284), (vI 68), vO, (vr 291), (vI 70), vO, (vr 298), (vI 75), vO, (vr 303), (vI 79), vO, (vr 310), (vI 81), vO, (vr 315), (vI 86), vO, (vr 322)]), #[]⟩
def zqJ : Obj := ⟨(vY x.t.a.a.d), none, (.dict #[i138, i139, i140, i141, i142, i143, i144, i145, i146, i147, i148, i149] 12), #[]⟩
def zpP : Obj := ⟨.none, none, (.fields #[(vI 88), (vI 4), (vr 327), (vI 95), (vI 4), (vr 332), (vI 103), (vI 4), (vr 339), (vI 113), (vI 4), (vr 344), (vI 117), (vI 4), (vr 351), (vI 124), (vI 4), (vr 358), (vI 129), (vI 4), (vr 363), (vI 138), (vI 4), (vr 368)]), #[]⟩
def zpT : Obj := ⟨(vY x.t.a.a.b), none, (.fields #[(vS x.s.b.a.c 593), (vS x.s.b.a.c 594), (vS x.s.a.a.b 595), (vI 86), vO, vO, vO, vO, (vr 320), (.bool false), (vI 181), (vr 321), .none, .none, .none, .none, (vI 596), (vI 86), (vS x.s.a.a.b 597)]), #[]⟩
def zq0 : Obj := ⟨(vY x.t.a.a.c), none, .plain, #[(vR 322), (vR 3), (vR 319), none, (some (vS x.s.a.h.e 589)), none, (vR 0)]⟩
def zp5 : Obj := ⟨.none, none, (.func (fn (sm 30 0) x.s.b.b.c 0 [] .none .none .none .none none .none .none 0)), #[]⟩
def zqe : Obj := ⟨(vY x.t.a.a.b), none, (.fields #[(vS x.s.a.e.c 603), (vS x.s.b.b.c 604), (vS x.s.a.a.b 605), (vI 88), (vI 2), vO, vO, (vI 3), (vr 324), (.bool true), (vI 181), (vr 325), .none, .none, .none, (vr 326), (vI 606), (vI 88), (vS x.s.a.a.b 607)]), #[]⟩
def zqg : Obj := ⟨(vY x.t.a.c.b), none, (.func (fn (sm 30 0) x.s.b.b.c 3 [] .none .none .none (vS x.s.a.h.e 589) none (vr 327) .none 0)), #[]⟩
def zq4 : Obj := ⟨.none, none, (.func (fn (sm 30 1) x.s.b.b.d 0 [] .none .none .none .none none .none .none 0)), #[]⟩
def zpQ : Obj := ⟨(vY x.t.a.a.b), none, (.fields #[(vS x.s.b.a.d 609), (vS x.s.b.b.d 610), (vS x.s.a.a.b 611), (vI 95), (vI 1), vO, vO, (vI 3), (vr 329), (.bool true), (vI 181), (vr 330), .none, .none, .none, (vr 331), (vI 612), (vI 95), (vS x.s.a.a.b 613)]), #[]⟩
def zq3 : Obj := ⟨(vY x.t.a.c.b), none, (.func (fn (sm 30 1) x.s.b.b.d 3 [] .none .none .none (vS x.s.a.h.e 589) none (vr 332) .none 0)), #[]⟩
def zqB : Obj := ⟨(vY x.t.a.a.a), none, (.seq #[(vS x.s.a.e.d 618), (vS x.s.b.b.e 619), (vS x.s.b.b.f 620), (vS x.s.b.b.g 621), (vS x.s.a.g.c 622), (vS x.s.b.b.h 623)] 0), #[]⟩
def zpr : Obj := ⟨.none, none, (.func (fn (sm 30 2) x.s.b.c.a 0 [] .none .none .none .none none .none .none 0)), #[]⟩
def zpA : Obj := ⟨(vY x.t.a.a.b), none, (.fields #[(vS x.s.b.a.e 615), (vS x.s.b.c.a 616), (vS x.s.a.a.b 617), (vI 103), (vI 2), vO, vO, (vI 3), (vr 334), (.bool true), (vI 181), (vr 335), .none, (vr 336), (vr 337), (vr 338), (vI 624), (vI 103), (vS x.s.a.a.b 625)]), #[]⟩
def zqU : Obj := ⟨(vY x.t.a.c.b), none, (.func (fn (sm 30 2) x.s.b.c.a 3 [] .none .none .none (vS x.s.a.h.e 589) none (vr 339) .none 0)), #[]⟩
def zpv : Obj := ⟨.none, none, (.func (fn (sm 30 3) x.s.b.c.b 0 [] .none .none .none .none none .none .none 0)), #[]⟩
def zpw : Obj := ⟨(vY x.t.a.a.b), none, (.fields #[(vS x.s.b.a.f 627), (vS x.s.b.c.b 628), (vS x.s.a.a.b 629), (vI 113), (vI 2), vO, vO, (vI 3), (vr 341), (.bool true), (vI 181), (vr 342), .none, .none, .none, (vr 343), (vI 630), (vI 113), (vS x.s.a.a.b 631)]), #[]⟩
def zqG : Obj := ⟨(vY x.t.a.c.b), none, (.func (fn (sm 30 3) x.s.b.c.b 3 [] .none .none .none (vS x.s.a.h.e 589) none (vr 344) .none 0)), #[]⟩
def zqf : Obj := ⟨(vY x.t.a.a.a), none, (.seq #[(vS x.s.a.e.d 636), (vS x.s.b.c.c 637), (vS x.s.b.b.f 638), (vS x.s.a.g.c 639)] 0), #[]⟩
def zqa : Obj := ⟨.none, none, (.func (fn (sm 30 4) x.s.b.c.d 0 [] .none .none .none .none none .none .none 0)), #[]⟩
def zqo : Obj := ⟨(vY x.t.a.a.b), none, (.fields #[(vS x.s.b.a.g 633), (vS x.s.b.c.d 634), (vS x.s.a.a.b 635), (vI 117), (vI 2), vO, vO, (vI 3), (vr 346), (.bool true), (vI 181), (vr 347), .none, (vr 348), (vr 349), (vr 350), (vI 640), (vI 117), (vS x.s.a.a.b 641)]), #[]⟩
def zpx : Obj := ⟨(vY x.t.a.c.b), none, (.func (fn (sm 30 4) x.s.b.c.d 3 [] .none .none .none (vS x.s.a.h.e 589) none (vr 351) .none 0)), #[]⟩
def zqZ : Obj := ⟨(vY x.t.a.a.a), none, (.seq #[(vS x.s.a.e.d 646), (vS x.s.a.g.c 647), (vS x.s.b.b.f 648), (vS x.s.b.c.c 649), (vS x.s.b.b.h 650), (vS x.s.b.c.e 651)] 0), #[]⟩
def zqt : Obj := ⟨.none, none, (.func (fn (sm 30 5) x.s.b.c.f 0 [] .none .none .none .none none .none .none 0)), #[]⟩
def zqR : Obj := ⟨(vY x.t.a.a.b), none, (.fields #[(vS x.s.b.a.h 643), (vS x.s.b.c.f 644), (vS x.s.a.a.b 645), (vI 124), (vI 4), vO, vO, (vI 3), (vr 353), (.bool true), (vI 181), (vr 354), .none, (vr 355), (vr 356), (vr 357), (vI 652), (vI 124), (vS x.s.a.a.b 653)]), #[]⟩
def zpu : Obj := ⟨(vY x.t.a.c.b), none, (.func (fn (sm 30 5) x.s.b.c.f 3 [] .none .none .none (vS x.s.a.h.e 589) none (vr 358) .none 0)), #[]⟩
def zpY : Obj := ⟨.none, none, (.func (fn (sm 30 6) x.s.b.c.g 0 [] .none .none .none .none none .none .none 0)), #[]⟩
def zp0 : Obj := ⟨(vY x.t.a.a.b), none, (.fields #[(vS x.s.b.b.a 655), (vS x.s.b.c.g 656), (vS x.s.a.a.b 657), (vI 129), (vI 3), vO, vO, (vI 3), (vr 360), (.bool true), (vI 181), (vr 361), .none, .none, .none, (vr 362), (vI 658), (vI 129), (vS x.s.a.a.b 659)]), #[]⟩
def zqW : Obj := ⟨(vY x.t.a.c.b), none, (.func (fn (sm 30 6) x.s.b.c.g 3 [] .none .none .none (vS x.s.a.h.e 589) none (vr 363) .none 0)), #[]⟩
def zpD : Obj := ⟨.none, none, (.func (fn (sm 30 7) x.s.b.c.h 0 [] .none .none .none .none none .none .none 0)), #[]⟩
def zqO : Obj := ⟨(vY x.t.a.a.b), none, (.fields #[(vS x.s.b.b.b 661), (vS x.s.b.c.h 662), (vS x.s.a.a.b 663), (vI 138), (vI 4), vO, vO, (vI 3), (vr 365), (.bool true), (vI 181), (vr 366), .none, .none, .none, (vr 367), (vI 664), (vI 138), (vS x.s.a.a.b 665)]), #[]⟩
def zpM : Obj := ⟨(vY x.t.a.c.b), none, (.func (fn (sm 30 7) x.s.b.c.h 3 [] .none .none .none (vS x.s.a.h.e 589) none (vr 368) .none 0)), #[]⟩
def zqY : Obj := ⟨(vY x.t.a.a.a), none, (.seq #[(vS x.s.b.d.a 667), (vS x.s.b.d.b 668), (vS x.s.b.d.c 669), (vS x.s.b.d.d 670), (vS x.s.b.d.e 671)] 0), #[]⟩
def zqF : Obj := ⟨(vY x.t.a.a.d), none, (.dict #[i138, i140, i141, i142, i143, i144, i145, i146, i147, i148, i149, i150, i151, i152] 4), #[]⟩
def zpW : Obj := ⟨(vY x.t.a.b.a), none, (.cls ⟨x.s.b.a.c, [(vY x.t.a.b.d)], [(vr 372), (vY x.t.a.b.d)], 371, x.s.b.a.c, true, [], [], false, none, false⟩), #[none, none, (some (vS x.s.b.a.c 591)), (some (vS x.s.b.a.c 599)), (some (vB x.t.a.c.c)), (some (.bool true))]⟩
def zpH : Obj := ⟨(vY x.t.a.b.f), none, (.fields #[(vS x.s.b.d.f 673), (vr 372), (vB x.t.a.c.d), (vB x.t.a.c.e)]), #[]⟩
def zqq : Obj := ⟨(vY x.t.a.b.f), none, (.fields #[(vS x.s.a.c.c 675), (vr 372), (vB x.t.a.b.g), .none]), #[]⟩
def zqN : Obj := ⟨(vY x.t.a.b.h), none, (.fields #[(vr 372), (vr 372), (vr 372)]), #[]⟩
def zqH : Obj := ⟨(vY x.t.a.a.g), none, (.fields #[(vB x.t.a.c.a), (vr 372)]), #[]⟩
def b1324 : Obj := ⟨(vY x.t.a.a.d), none, (.dict #[i153, i1, i2, i3, i4, i5, i6, i7, i8, i9, i16, i22, i28, i34, i40, i46, i52, i58, i64, i70, i76, i82, i88, i94, zrG, zsj, ztC, zuj, zuo, ztV, zuI, zut, i134, i135, i136, i137, i154, i155, i156, i157, i158, i159, i160, i161, i162, i163, i164, i165, i166, i167] 50), #[]⟩
def b1325 : Obj := ⟨.none, none, (.fields #[(vI 2), vO, (vr 20), (vI 4), vO, (vr 33), (vI 6), vO, (vr 45), (vI 8), vO, (vr 57), (vI 10), vO, (vr 69), (vI 12), vO, (vr 81), (vI 14), vO, (vr 93), (vI 16), vO, (vr 105), (vI 18), vO, (vr 117), (vI 20), vO, (vr 129), (vI 22), vO, (vr 141), (vI 24), vO, (vr 153), (vI 26), vO, (vr 165), (vI 28), vO, (vr 177), (vI 30), vO, (vr 189), (vI 32), vO, (vr 201), (vI 37), vO, (vr 220), (vI 42), vO, (vr 239), (vI 47), vO, (vr 258), (vI 53), vO, (vr 277), (vI 61), vO, (vr 284), (vI 68), vO, (vr 291), (vI 70), vO, (vr 298), (vI 75), vO, (vr 303), (vI 79), vO, (vr 310), (vI 81), vO, (vr 315), (vI 86), vO, (vr 322), (vI 148), vO, (vr 380), (vI 151), vO, (vr 385), (vI 157), vO, (vr 390), (vI 163), vO, (vr 395), (vI 175), vO, (vr 400), (vI 177), vO, (vr 405), (vI 181), vO, (vr 412), (vI 184), vO, (vr 417), (vI 186), vO, (vr 422), (vI 189), vO, (vr 429), (vI 195), vO, (vr 436), (vI 201), vO, (vr 443), (vI 214), vO, (vr 450)]), #[]⟩
def zrQ : Obj := ⟨.none, none, (.func (fn (st 31) x.s.b.d.h 0 [] .none .none .none .none none .none .none 0)), #[]⟩
def zsx : Obj := ⟨(vY x.t.a.a.b), none, (.fields #[(vS x.s.b.d.h 680), (vS x.s.b.d.h 681), (vS x.s.a.a.b 682), (vI 148), (vI 2), vO, vO, (vI 3), (vr 377), (.bool true), (vI 181), (vr 378), .none, .none, .none, (vr 379), (vI 683), (vI 148), (vS x.s.a.a.b 684)]), #[]⟩
def zsg : Obj := ⟨(vY x.t.a.c.b), none, (.func (fn (st 31) x.s.b.d.h 3 [] .none .none .none (vS x.s.a.h.e 589) none (vr 380) .none 0)), #[]⟩
def zrU : Obj := ⟨.none, none, (.func (fn (st 32) x.s.b.e.a 0 [] .none .none .none .none none .none .none 0)), #[]⟩
def zrY : Obj := ⟨(vY x.t.a.a.b), none, (.fields #[(vS x.s.b.e.a 686), (vS x.s.b.e.a 687), (vS x.s.a.a.b 688), (vI 151), (vI 2), vO, vO, (vI 3), (vr 382), (.bool true), (vI 181), (vr 383), .none, .none, .none, (vr 384), (vI 689), (vI 151), (vS x.s.a.a.b 690)]), #[]⟩
def zss : Obj := ⟨(vY x.t.a.c.b), none, (.func (fn (st 32) x.s.b.e.a 3 [] .none .none .none (vS x.s.a.h.e 589) none (vr 385) .none 0)), #[]⟩
def zrZ : Obj := ⟨.none, none, (.func (fn (st 33) x.s.b.e.b 0 [] .none .none .none .none none .none .none 0)), #[]⟩
def zrM : Obj := ⟨(vY x.t.a.a.b), none, (.fields #[(vS x.s.b.e.b 692), (vS x.s.b.e.b 693), (vS x.s.a.a.b 694), (vI 157), (vI 3), vO, vO, (vI 3), (vr 387), (.bool true), (vI 181), (vr 388), .none, .none, .none, (vr 389), (vI 695), (vI 157), (vS x.s.a.a.b 696)]), #[]⟩
def ztv : Obj := ⟨(vY x.t.a.c.b), none, (.func (fn (st 33) x.s.b.e.b 3 [] .none .none .none (vS x.s.a.h.e 589) none (vr 390) .none 0)), #[]⟩
def zrT : Obj := ⟨.none, none, (.func (fn (st 34) x.s.b.e.c 0 [] .none .none .none .none none .none .none 0)), #[]⟩
def zsQ : Obj := ⟨(vY x.t.a.a.b), none, (.fields #[(vS x.s.b.e.c 698), (vS x.s.b.e.c 699), (vS x.s.a.a.b 700), (vI 163), (vI 1), vO, vO, (vI 3), (vr 392), (.bool true), (vI 181), (vr 393), .none, .none, .none, (vr 394), (vI 701), (vI 163), (vS x.s.a.a.b 702)]), #[]⟩
def zr7 : Obj := ⟨(vY x.t.a.c.b), none, (.func (fn (st 34) x.s.b.e.c 3 [] .none .none .none (vS x.s.a.h.e 589) none (vr 395) .none 0)), #[]⟩
def zrN : Obj := ⟨.none, none, (.func (fn (st 37) x.s.b.e.e 0 [] .none .none .none .none none .none .none 0)), #[]⟩
def zs9 : Obj := ⟨(vY x.t.a.a.b), none, (.fields #[(vS x.s.b.e.e 708), (vS x.s.b.e.e 709), (vS x.s.a.a.b 710), (vI 175), (vI 1), vO, vO, (vI 3), (vr 397), (.bool true), (vI 181), (vr 398), .none, .none, .none, (vr 399), (vI 711), (vI 175), (vS x.s.a.a.b 712)]), #[]⟩
def ztr : Obj := ⟨(vY x.t.a.c.b), none, (.func (fn (st 37) x.s.b.e.e 3 [] .none .none .none (vS x.s.b.d.g 704) none (vr 400) .none 0)), #[]⟩
def zsa : Obj := ⟨.none, none, (.func (fn (st 38) x.s.b.e.f 0 [] .none .none .none .none none .none .none 0)), #[]⟩
def zsi : Obj := ⟨(vY x.t.a.a.b), none, (.fields #[(vS x.s.b.e.f 714), (vS x.s.b.e.f 715), (vS x.s.a.a.b 716), (vI 177), (vI 1), vO, vO, (vI 3), (vr 402), (.bool true), (vI 181), (vr 403), .none, .none, .none, (vr 404), (vI 717), (vI 177), (vS x.s.a.a.b 718)]), #[]⟩
def zsK : Obj := ⟨(vY x.t.a.c.b), none, (.func (fn (st 38) x.s.b.e.f 3 [] .none .none .none (vS x.s.b.d.g 704) none (vr 405) .none 0)), #[]⟩
def zsu : Obj := ⟨(vY x.t.a.a.a), none, (.seq #[(vS x.s.b.f.f 723)] 0), #[]⟩
def zs0 : Obj := ⟨.none, none, (.func (fn (st 39) x.s.b.e.g 0 [] .none .none .none .none none .none .none 0)), #[]⟩
def ztn : Obj := ⟨(vY x.t.a.a.b), none, (.fields #[(vS x.s.b.e.g 720), (vS x.s.b.e.g 721), (vS x.s.a.a.b 722), (vI 181), (vI 1), vO, vO, (vI 3), (vr 407), (.bool true), (vI 181), (vr 408), .none, (vr 409), (vr 410), (vr 411), (vI 724), (vI 181), (vS x.s.a.a.b 725)]), #[]⟩
def ztq : Obj := ⟨(vY x.t.a.c.b), none, (.func (fn (st 39) x.s.b.e.g 3 [] .none .none .none (vS x.s.b.d.g 704) none (vr 412) .none 0)), #[]⟩
def zrI : Obj := ⟨.none, none, (.func (fn (st 40) x.s.b.e.h 0 [] .none .none .none .none none .none .none 0)), #[]⟩
def zta : Obj := ⟨(vY x.t.a.a.b), none, (.fields #[(vS x.s.b.e.h 727), (vS x.s.b.e.h 728), (vS x.s.a.a.b 729), (vI 184), (vI 2), vO, vO, (vI 3), (vr 414), (.bool true), (vI 181), (vr 415), .none, .none, .none, (vr 416), (vI 730), (vI 184), (vS x.s.a.a.b 731)]), #[]⟩
def zsC : Obj := ⟨(vY x.t.a.c.b), none, (.func (fn (st 40) x.s.b.e.h 3 [] .none .none .none (vS x.s.b.d.g 704) none (vr 417) .none 0)), #[]⟩
def zr4 : Obj := ⟨.none, none, (.func (fn (st 41) x.s.b.f.a 0 [] .none .none .none .none none .none .none 0)), #[]⟩
def ztg : Obj := ⟨(vY x.t.a.a.b), none, (.fields #[(vS x.s.b.f.a 733), (vS x.s.b.f.a 734), (vS x.s.a.a.b 735), (vI 186), (vI 2), vO, vO, (vI 3), (vr 419), (.bool true), (vI 181), (vr 420), .none, .none, .none, (vr 421), (vI 736), (vI 186), (vS x.s.a.a.b 737)]), #[]⟩
def zrS : Obj := ⟨(vY x.t.a.c.b), none, (.func (fn (st 41) x.s.b.f.a 3 [] .none .none .none (vS x.s.b.d.g 704) none (vr 422) .none 0)), #[]⟩
def zr3 : Obj := ⟨(vY x.t.a.a.a), none, (.seq #[(vS x.s.b.f.f 742), (vS x.s.b.f.g 743), (vS x.s.b.f.h 744), (vS x.s.b.g.a 745), (vS x.s.b.g.b 746), (vS x.s.b.g.c 747)] 0), #[]⟩
def zsf : Obj := ⟨.none, none, (.func (fn (st 42) x.s.b.f.b 0 [] .none .none .none .none none .none .none 0)), #[]⟩
def ztx : Obj := ⟨(vY x.t.a.a.b), none, (.fields #[(vS x.s.b.f.b 739), (vS x.s.b.f.b 740), (vS x.s.a.a.b 741), (vI 189), (vI 3), vO, vO, (vI 3), (vr 424), (.bool true), (vI 181), (vr 425), .none, (vr 426), (vr 427), (vr 428), (vI 748), (vI 189), (vS x.s.a.a.b 749)]), #[]⟩
def zrW : Obj := ⟨(vY x.t.a.c.b), none, (.func (fn (st 42) x.s.b.f.b 3 [] .none .none .none (vS x.s.b.d.g 704) none (vr 429) .none 0)), #[]⟩
def zr1 : Obj := ⟨(vY x.t.a.a.a), none, (.seq #[(vS x.s.b.f.f 754), (vS x.s.b.f.g 755), (vS x.s.b.b.e 756), (vS x.s.b.g.a 757), (vS x.s.b.g.d 758), (vS x.s.b.g.c 759)] 0), #[]⟩
def zrX : Obj := ⟨.none, none, (.func (fn (st 43) x.s.b.f.c 0 [] .none .none .none .none none .none .none 0)), #[]⟩
def zts : Obj := ⟨(vY x.t.a.a.b), none, (.fields #[(vS x.s.b.f.c 751), (vS x.s.b.f.c 752), (vS x.s.a.a.b 753), (vI 195), (vI 3), vO, vO, (vI 3), (vr 431), (.bool true), (vI 181), (vr 432), .none, (vr 433), (vr 434), (vr 435), (vI 760), (vI 195), (vS x.s.a.a.b 761)]), #[]⟩
def zs4 : Obj := ⟨(vY x.t.a.c.b), none, (.func (fn (st 43) x.s.b.f.c 3 [] .none .none .none (vS x.s.b.d.g 704) none (vr 436) .none 0)), #[]⟩
def zrP : Obj := ⟨(vY x.t.a.a.a), none, (.seq #[(vS x.s.b.f.f 766), (vS x.s.b.f.g 767), (vS x.s.b.f.h 768), (vS x.s.b.b.e 769), (vS x.s.b.g.b 770), (vS x.s.b.g.d 771)] 0), #[]⟩
def zsT : Obj := ⟨.none, none, (.func (fn (st 44) x.s.b.f.d 0 [] .none .none .none .none none .none .none 0)), #[]⟩
def zsI : Obj := ⟨(vY x.t.a.a.b), none, (.fields #[(vS x.s.b.f.d 763), (vS x.s.b.f.d 764), (vS x.s.a.a.b 765), (vI 201), (vI 4), vO, vO, (vI 3), (vr 438), (.bool true), (vI 181), (vr 439), .none, (vr 440), (vr 441), (vr 442), (vI 772), (vI 201), (vS x.s.a.a.b 773)]), #[]⟩
def ztd : Obj := ⟨(vY x.t.a.c.b), none, (.func (fn (st 44) x.s.b.f.d 3 [] .none .none .none (vS x.s.b.d.g 704) none (vr 443) .none 0)), #[]⟩
def zsr : Obj := ⟨(vY x.t.a.a.a), none, (.seq #[(vS x.s.b.f.f 778)] 0), #[]⟩
def zsH : Obj := ⟨.none, none, (.func (fn (st 45) x.s.b.f.e 0 [] .none .none .none .none none .none .none 0)), #[]⟩
def zsM : Obj := ⟨(vY x.t.a.a.b), none, (.fields #[(vS x.s.b.f.e 775), (vS x.s.b.f.e 776), (vS x.s.a.a.b 777), (vI 214), (vI 1), vO, vO, (vI 3), (vr 445), (.bool true), (vI 181), (vr 446), .none, (vr 447), (vr 448), (vr 449), (vI 779), (vI 214), (vS x.s.a.a.b 780)]), #[]⟩
def zsG : Obj := ⟨(vY x.t.a.c.b), none, (.func (fn (st 45) x.s.b.f.e 3 [] .none .none .none (vS x.s.b.d.g 704) none (vr 450) .none 0)), #[]⟩
def zt1 : Obj := ⟨(vY x.t.a.a.d), none, (.dict #[i168, i1, i2, i3, i4, i5, i6, i7, i8, i9, i16, i22, i28, i34, i40, i46, i52, i58, i64, i70, i76, i82, i88, i94, zrG, zsj, ztC, zuj, zuo, ztV, zuI, zut, i134, i135, i136, i137, i154, i155, i156, i157, i158, i159, i160, i161, i162, i163, i164, i165, i166, i167, i169, i170, i171, i172, i173, i174, i175, i176, i177, i178] 60), #[]⟩
def ztY : Obj := ⟨.none, none, (.fields #[(vI 2), vO, (vr 20), (vI 4), vO, (vr 33), (vI 6), vO, (vr 45), (vI 8), vO, (vr 57), (vI 10), vO, (vr 69), (vI 12), vO, (vr 81), (vI 14), vO, (vr 93), (vI 16), vO, (vr 105), (vI 18), vO, (vr 117), (vI 20), vO, (vr 129), (vI 22), vO, (vr 141), (vI 24), vO, (vr 153), (vI 26), vO, (vr 165), (vI 28), vO, (vr 177), (vI 30), vO, (vr 189), (vI 32), vO, (vr 201), (vI 37), vO, (vr 220), (vI 42), vO, (vr 239), (vI 47), vO, (vr 258), (vI 53), vO, (vr 277), (vI 61), vO, (vr 284), (vI 68), vO, (vr 291), (vI 70), vO, (vr 298), (vI 75), vO, (vr 303), (vI 79), vO, (vr 310), (vI 81), vO, (vr 315), (vI 86), vO, (vr 322), (vI 148), vO, (vr 380), (vI 151), vO, (vr 385), (vI 157), vO, (vr 390), (vI 163), vO, (vr 395), (vI 175), vO, (vr 400), (vI 177), vO, (vr 405), (vI 181), vO, (vr 412), (vI 184), vO, (vr 417), (vI 186), vO, (vr 422), (vI 189), vO, (vr 429), (vI 195), vO, (vr 436), (vI 201), vO, (vr 443), (vI 214), vO, (vr 450), (vI 217), vO, (vr 455), (vI 224), vO, (vr 460), (vI 232), vO, (vr 467), (vI 235), vO, (vr 474), (vI 239), vO, (vr 481), (vI 244), vO, (vr 488), (vI 252), vO, (vr 493), (vI 270), vO, (vr 500), (vI 280), vO, (vr 507), (vI 298), vO, (vr 512)]), #[]⟩
def zuF : Obj := ⟨.none, none, (.func (fn (st 46) x.s.b.g.f 0 [] .none .none .none .none none .none .none 0)), #[]⟩
def ztQ : Obj := ⟨(vY x.t.a.a.b), none, (.fields #[(vS x.s.b.g.f 782), (vS x.s.b.g.f 783), (vS x.s.a.a.b 784), (vI 217), (vI 2), vO, vO, (vI 3), (vr 452), (.bool true), (vI 181), (vr 453), .none, .none, .none, (vr 454), (vI 785), (vI 217), (vS x.s.a.a.b 786)]), #[]⟩
def zt4 : Obj := ⟨(vY x.t.a.c.b), none, (.func (fn (st 46) x.s.b.g.f 3 [] .none .none .none (vS x.s.b.d.g 704) none (vr 455) .none 0)), #[]⟩
def zuD : Obj := ⟨.none, none, (.func (fn (st 47) x.s.b.g.g 0 [] .none .none .none .none none .none .none 0)), #[]⟩
def zu9 : Obj := ⟨(vY x.t.a.a.b), none, (.fields #[(vS x.s.b.g.g 788), (vS x.s.b.g.g 789), (vS x.s.a.a.b 790), (vI 224), (vI 2), vO, vO, (vI 3), (vr 457), (.bool true), (vI 181), (vr 458), .none, .none, .none, (vr 459), (vI 791), (vI 224), (vS x.s.a.a.b 792)]), #[]⟩
def zu4 : Obj := ⟨(vY x.t.a.c.b), none, (.func (fn (st 47) x.s.b.g.g 3 [] .none .none .none (vS x.s.b.d.g 704) none (vr 460) .none 0)), #[]⟩
def zus : Obj := ⟨(vY x.t.a.a.a), none, (.seq #[(vS x.s.b.h.h 799), (vS x.s.c.a.a 800), (vS x.s.c.a.b 801)] 0), #[]⟩
def zun : Obj := ⟨.none, none, (.func (fn (st 49) x.s.b.g.h 0 [] .none .none .none .none none .none .none 0)), #[]⟩
def zuG : Obj := ⟨(vY x.t.a.a.b), none, (.fields #[(vS x.s.b.g.h 796), (vS x.s.b.g.h 797), (vS x.s.a.a.b 798), (vI 232), (vI 2), vO, vO, (vI 3), (vr 462), (.bool true), (vI 181), (vr 463), .none, (vr 464), (vr 465), (vr 466), (vI 802), (vI 232), (vS x.s.a.a.b 803)]), #[]⟩
def zue : Obj := ⟨(vY x.t.a.c.b), none, (.func (fn (st 49) x.s.b.g.h 3 [] .none .none .none (vS x.s.b.g.e 794) none (vr 467) .none 0)), #[]⟩
def zuQ : Obj := ⟨(vY x.t.a.a.a), none, (.seq #[(vS x.s.c.a.c 808), (vS x.s.c.a.a 809)] 0), #[]⟩
def zuE : Obj := ⟨.none, none, (.func (fn (st 50) x.s.b.h.a 0 [] .none .none .none .none none .none .none 0)), #[]⟩
def zud : Obj := ⟨(vY x.t.a.a.b), none, (.fields #[(vS x.s.b.h.a 805), (vS x.s.b.h.a 806), (vS x.s.a.a.b 807), (vI 235), (vI 2), vO, vO, (vI 3), (vr 469), (.bool true), (vI 181), (vr 470), .none, (vr 471), (vr 472), (vr 473), (vI 810), (vI 235), (vS x.s.a.a.b 811)]), #[]⟩
def zuY : Obj := ⟨(vY x.t.a.c.b), none, (.func (fn (st 50) x.s.b.h.a 3 [] .none .none .none (vS x.s.b.g.e 794) none (vr 474) .none 0)), #[]⟩
def zuJ : Obj := ⟨(vY x.t.a.a.a), none, (.seq #[(vS x.s.c.a.c 816), (vS x.s.c.a.a 817), (vS x.s.c.a.d 818)] 0), #[]⟩
def ztS : Obj := ⟨.none, none, (.func (fn (st 51) x.s.b.h.b 0 [] .none .none .none .none none .none .none 0)), #[]⟩
def zuV : Obj := ⟨(vY x.t.a.a.b), none, (.fields #[(vS x.s.b.h.b 813), (vS x.s.b.h.b 814), (vS x.s.a.a.b 815), (vI 239), (vI 2), vO, vO, (vI 3), (vr 476), (.bool true), (vI 181), (vr 477), .none, (vr 478), (vr 479), (vr 480), (vI 819), (vI 239), (vS x.s.a.a.b 820)]), #[]⟩
def ztF : Obj := ⟨(vY x.t.a.c.b), none, (.func (fn (st 51) x.s.b.h.b 3 [] .none .none .none (vS x.s.b.g.e 794) none (vr 481) .none 0)), #[]⟩
def ztU : Obj := ⟨(vY x.t.a.a.a), none, (.seq #[(vS x.s.c.a.e 825), (vS x.s.c.a.f 826), (vS x.s.c.a.b 827), (vS x.s.c.a.g 828)] 0), #[]⟩
def ztI : Obj := ⟨.none, none, (.func (fn (st 52) x.s.b.h.c 0 [] .none .none .none .none none .none .none 0)), #[]⟩
def zua : Obj := ⟨(vY x.t.a.a.b), none, (.fields #[(vS x.s.b.h.c 822), (vS x.s.b.h.c 823), (vS x.s.a.a.b 824), (vI 244), (vI 2), vO, vO, (vI 3), (vr 483), (.bool true), (vI 181), (vr 484), .none, (vr 485), (vr 486), (vr 487), (vI 829), (vI 244), (vS x.s.a.a.b 830)]), #[]⟩
def zuL : Obj := ⟨(vY x.t.a.c.b), none, (.func (fn (st 52) x.s.b.h.c 3 [] .none .none .none (vS x.s.b.g.e 794) none (vr 488) .none 0)), #[]⟩
def zui : Obj := ⟨.none, none, (.func (fn (st 53) x.s.b.h.d 0 [] .none .none .none .none none .none .none 0)), #[]⟩
def ztH : Obj := ⟨(vY x.t.a.a.b), none, (.fields #[(vS x.s.b.h.d 832), (vS x.s.b.h.d 833), (vS x.s.a.a.b 834), (vI 252), (vI 1), vO, vO, (vI 3), (vr 490), (.bool true), (vI 181), (vr 491), .none, .none, .none, (vr 492), (vI 835), (vI 252), (vS x.s.a.a.b 836)]), #[]⟩
def zuS : Obj := ⟨(vY x.t.a.c.b), none, (.func (fn (st 53) x.s.b.h.d 3 [] .none .none .none (vS x.s.b.g.e 794) none (vr 493) .none 0)), #[]⟩
def zt3 : Obj := ⟨(vY x.t.a.a.a), none, (.seq #[(vS x.s.c.a.h 841), (vS x.s.c.b.a 842), (vS x.s.b.h.h 843)] 0), #[]⟩
def zug : Obj := ⟨.none, none, (.func (fn (st 54) x.s.b.h.e 0 [] .none .none .none .none none .none .none 0)), #[]⟩
def zuk : Obj := ⟨(vY x.t.a.a.b), none, (.fields #[(vS x.s.b.h.e 838), (vS x.s.b.h.e 839), (vS x.s.a.a.b 840), (vI 270), (vI 1), vO, vO, (vI 3), (vr 495), (.bool true), (vI 181), (vr 496), .none, (vr 497), (vr 498), (vr 499), (vI 844), (vI 270), (vS x.s.a.a.b 845)]), #[]⟩
def zuM : Obj := ⟨(vY x.t.a.c.b), none, (.func (fn (st 54) x.s.b.h.e 3 [] .none .none .none (vS x.s.b.g.e 794) none (vr 500) .none 0)), #[]⟩
def zu3 : Obj := ⟨(vY x.t.a.a.a), none, (.seq #[(vS x.s.c.a.h 850), (vS x.s.c.b.b 851), (vS x.s.c.b.c 852), (vS x.s.c.b.d 853)] 0), #[]⟩
def ztZ : Obj := ⟨.none, none, (.func (fn (st 55) x.s.b.h.f 0 [] .none .none .none .none none .none .none 0)), #[]⟩
def zt9 : Obj := ⟨(vY x.t.a.a.b), none, (.fields #[(vS x.s.b.h.f 847), (vS x.s.b.h.f 848), (vS x.s.a.a.b 849), (vI 280), (vI 2), vO, vO, (vI 3), (vr 502), (.bool true), (vI 181), (vr 503), .none, (vr 504), (vr 505), (vr 506), (vI 854), (vI 280), (vS x.s.a.a.b 855)]), #[]⟩
def zuK : Obj := ⟨(vY x.t.a.c.b), none, (.func (fn (st 55) x.s.b.h.f 3 [] .none .none .none (vS x.s.b.g.e 794) none (vr 507) .none 0)), #[]⟩
def zuu : Obj := ⟨.none, none, (.func (fn (st 56) x.s.b.h.g 0 [] .none .none .none .none none .none .none 0)), #[]⟩
def zuN : Obj := ⟨(vY x.t.a.a.b), none, (.fields #[(vS x.s.b.h.g 857), (vS x.s.b.h.g 858), (vS x.s.a.a.b 859), (vI 298), (vI 1), vO, vO, (vI 3), (vr 509), (.bool true), (vI 181), (vr 510), .none, .none, .none, (vr 511), (vI 860), (vI 298), (vS x.s.a.a.b 861)]), #[]⟩
def zt7 : Obj := ⟨(vY x.t.a.c.b), none, (.func (fn (st 56) x.s.b.h.g 3 [] .none .none .none (vS x.s.b.g.e 794) none (vr 512) .none 0)), #[]⟩
def m899 : Heap := ⟨⟨[x.r.a.a.a, x.r.a.a.b, x.r.a.a.c, x.r.a.a.d, x.r.a.a.e, x.r.a.a.f, x.r.a.a.g, x.r.a.a.h, x.r.a.b.a, x.r.a.b.b, x.r.a.b.c, zac, zah, zgH, zgP]⟩, ⟨[], [], [], 0, [], [], false, #[], [], 0, false, false, false, 0, [2000, 10, 10], false, 0, true, [], [], 0, false⟩⟩
def m900 : W.BT := (N x.r.a.a.a (N x.r.a.a.b (N x.r.a.a.d (L x.r.a.a.h) (L zac)) (N x.r.a.a.f (L x.r.a.b.b) (L zgH))) (N x.r.a.a.c (N x.r.a.a.e (L x.r.a.b.a) (L zah)) (N x.r.a.a.g (L x.r.a.b.c) (L zgP))))
def m916 : W.BT := (N x.r.a.a.a (N x.r.a.a.b (N b902 (N x.r.a.a.h (L zhg) (L zhl)) (N zac (L zah) (L zg8))) (N x.r.a.a.f (N x.r.a.b.b (L zhn) (L zhr)) (N zgH (L zhk) z))) (N x.r.a.a.c (N x.r.a.a.e (N x.r.a.b.a (L zan) (L b913)) (N b903 (L zg9) z)) (N x.r.a.a.g (N x.r.a.b.c (L zac) (L zha)) (N zgP (L zac) z))))
def m931 : W.BT := (N x.r.a.a.a (N x.r.a.a.b (N b917 (N x.r.a.a.h (N zhg (L zac) z) (N zhl (L zhO) z)) (N zac (N zah (L zac) z) (L zg8))) (N x.r.a.a.f (N x.r.a.b.b (N zhn (L zib) z) (L zhr)) (N zgH (N zhk (L zhA) z) (L zan)))) (N x.r.a.a.c (N x.r.a.a.e (N x.r.a.b.a (N zan (L zah) z) (L b919)) (N b918 (N zg9 (L ziq) z) (L zaq))) (N x.r.a.a.g (N x.r.a.b.c (N zac (L zig) z) (L zha)) (N zgP (N zac (L zhW) z) (L zhw)))))
def m946 : W.BT := (N x.r.a.a.a (N x.r.a.a.b (N b932 (N x.r.a.a.h (N zhg (L zac) (L zac)) (N zhl (L zhO) z)) (N zac (N zah (L zac) (L zix)) (N zg8 (L zac) z))) (N x.r.a.a.f (N x.r.a.b.b (N zhn (L zib) (L zis)) (N zhr (L zan) z)) (N zgH (N zhk (L zhA) z) (N zan (L ziu) z)))) (N x.r.a.a.c (N x.r.a.a.e (N x.r.a.b.a (N zan (L zah) (L zit)) (N b934 (L zaq) z)) (N b933 (N zg9 (L ziq) z) (N zaq (L zah) z))) (N x.r.a.a.g (N x.r.a.b.c (N zac (L zig) (L zir)) (N zha (L ziy) z)) (N zgP (N zac (L zhW) z) (N zhw (L ziv) z)))))
def m961 : W.BT := (N x.r.a.a.a (N x.r.a.a.b (N b947 (N x.r.a.a.h (N zhg (N zac (L ziL) z) (L zac)) (N zhl (L zhO) (L zac))) (N zac (N zah (L zac) (L zix)) (N zg8 (L zac) (L zac)))) (N x.r.a.a.f (N x.r.a.b.b (N zhn (L zib) (L zis)) (N zhr (L zan) (L ziP))) (N zgH (N zhk (L zhA) (L zan)) (N zan (L ziu) (L ziI))))) (N x.r.a.a.c (N x.r.a.a.e (N x.r.a.b.a (N zan (L zah) (L zit)) (N b949 (L zaq) (L zah))) (N b948 (N zg9 (L ziq) (L zaq)) (N zaq (L zah) (L ziB)))) (N x.r.a.a.g (N x.r.a.b.c (N zac (L zig) (L zir)) (N zha (L ziy) (L ziJ))) (N zgP (N zac (L zhW) (L ziR)) (N zhw (L ziv) (L ziK))))))
def m976 : W.BT := (N x.r.a.a.a (N x.r.a.a.b (N b962 (N x.r.a.a.h (N zhg (N zac (L ziL) z) (L zac)) (N zhl (N zhO (L zac) z) (L zac))) (N zac (N zah (N zac (L zac) z) (L zix)) (N zg8 (N zac (L ziZ) z) (L zac)))) (N x.r.a.a.f (N x.r.a.b.b (N zhn (N zib (L zan) z) (L zis)) (N zhr (N zan (L zjo) z) (L ziP))) (N zgH (N zhk (N zhA (L zi6) z) (L zan)) (N zan (L ziu) (L ziI))))) (N x.r.a.a.c (N x.r.a.a.e (N x.r.a.b.a (N zan (N zah (L zaq) z) (L zit)) (N b964 (N zaq (L zjj) z) (L zah))) (N b963 (N zg9 (N ziq (L zah) z) (L zaq)) (N zaq (L zah) (L ziB)))) (N x.r.a.a.g (N x.r.a.b.c (N zac (N zig (L zi0) z) (L zir)) (N zha (N ziy (L ziY) z) (L ziJ))) (N zgP (N zac (N zhW (L zjl) z) (L ziR)) (N zhw (L ziv) (L ziK))))))
def m991 : W.BT := (N x.r.a.a.a (N x.r.a.a.b (N b977 (N x.r.a.a.h (N zhg (N zac (L ziL) z) (N zac (L zac) z)) (N zhl (N zhO (L zac) z) (N zac (L zj2) z))) (N zac (N zah (N zac (L zac) z) (N zix (L zac) z)) (N zg8 (N zac (L ziZ) z) (L zac)))) (N x.r.a.a.f (N x.r.a.b.b (N zhn (N zib (L zan) z) (N zis (L zkj) z)) (N zhr (N zan (L zjo) z) (L ziP))) (N zgH (N zhk (N zhA (L zi6) z) (N zan (L zkf) z)) (N zan (N ziu (L zan) z) (L ziI))))) (N x.r.a.a.c (N x.r.a.a.e (N x.r.a.b.a (N zan (N zah (L zaq) z) (N zit (L zah) z)) (N b979 (N zaq (L zjj) z) (L zah))) (N b978 (N zg9 (N ziq (L zah) z) (N zaq (L zkh) z)) (N zaq (N zah (L zaq) z) (L ziB)))) (N x.r.a.a.g (N x.r.a.b.c (N zac (N zig (L zi0) z) (N zir (L zko) z)) (N zha (N ziy (L ziY) z) (L ziJ))) (N zgP (N zac (N zhW (L zjl) z) (N ziR (L zkn) z)) (N zhw (N ziv (L zkg) z) (L ziK))))))
def m1006 : W.BT := (N x.r.a.a.a (N x.r.a.a.b (N b992 (N x.r.a.a.h (N zhg (N zac (L ziL) (L zac)) (N zac (L zac) z)) (N zhl (N zhO (L zac) z) (N zac (L zj2) z))) (N zac (N zah (N zac (L zac) (L zd5)) (N zix (L zac) z)) (N zg8 (N zac (L ziZ) z) (N zac (L zac) z)))) (N x.r.a.a.f (N x.r.a.b.b (N zhn (N zib (L zan) (L zd6)) (N zis (L zkj) z)) (N zhr (N zan (L zjo) z) (N ziP (L zan) z))) (N zgH (N zhk (N zhA (L zi6) z) (N zan (L zkf) z)) (N zan (N ziu (L zan) z) (N ziI (L zd7) z))))) (N x.r.a.a.c (N x.r.a.a.e (N x.r.a.b.a (N zan (N zah (L zaq) (L zd4)) (N zit (L zah) z)) (N b994 (N zaq (L zjj) z) (N zah (L zaq) z))) (N b993 (N zg9 (N ziq (L zah) z) (N zaq (L zkh) z)) (N zaq (N zah (L zaq) z) (N ziB (L zah) z)))) (N x.r.a.a.g (N x.r.a.b.c (N zac (N zig (L zi0) (L zd9)) (N zir (L zko) z)) (N zha (N ziy (L ziY) z) (N ziJ (L zkx) z))) (N zgP (N zac (N zhW (L zjl) z) (N ziR (L zkn) z)) (N zhw (N ziv (L zkg) z) (N ziK (L zd8) z))))))
def m1021 : W.BT := (N x.r.a.a.a (N x.r.a.a.b (N b1007 (N x.r.a.a.h (N zhg (N zac (L ziL) (L zac)) (N zac (L zac) (L zey))) (N zhl (N zhO (L zac) (L zac)) (N zac (L zj2) z))) (N zac (N zah (N zac (L zac) (L zd5)) (N zix (L zac) z)) (N zg8 (N zac (L ziZ) (L zac)) (N zac (L zac) z)))) (N x.r.a.a.f (N x.r.a.b.b (N zhn (N zib (L zan) (L zd6)) (N zis (L zkj) z)) (N zhr (N zan (L zjo) (L zee)) (N ziP (L zan) z))) (N zgH (N zhk (N zhA (L zi6) (L zan)) (N zan (L zkf) z)) (N zan (N ziu (L zan) (L zeo)) (N ziI (L zd7) z))))) (N x.r.a.a.c (N x.r.a.a.e (N x.r.a.b.a (N zan (N zah (L zaq) (L zd4)) (N zit (L zah) z)) (N b1009 (N zaq (L zjj) (L zah)) (N zah (L zaq) z))) (N b1008 (N zg9 (N ziq (L zah) (L zaq)) (N zaq (L zkh) z)) (N zaq (N zah (L zaq) (L zex)) (N ziB (L zah) z)))) (N x.r.a.a.g (N x.r.a.b.c (N zac (N zig (L zi0) (L zd9)) (N zir (L zko) z)) (N zha (N ziy (L ziY) (L zen)) (N ziJ (L zkx) z))) (N zgP (N zac (N zhW (L zjl) (L zeg)) (N ziR (L zkn) z)) (N zhw (N ziv (L zkg) (L zea)) (N ziK (L zd8) z))))))
def m1036 : W.BT := (N x.r.a.a.a (N x.r.a.a.b (N b1022 (N x.r.a.a.h (N zhg (N zac (L ziL) (L zac)) (N zac (L zac) (L zey))) (N zhl (N zhO (L zac) (L zac)) (N zac (L zj2) (L zac)))) (N zac (N zah (N zac (L zac) (L zd5)) (N zix (L zac) (L zac))) (N zg8 (N zac (L ziZ) (L zac)) (N zac (L zac) (L zeJ))))) (N x.r.a.a.f (N x.r.a.b.b (N zhn (N zib (L zan) (L zd6)) (N zis (L zkj) (L zan))) (N zhr (N zan (L zjo) (L zee)) (N ziP (L zan) (L zeN)))) (N zgH (N zhk (N zhA (L zi6) (L zan)) (N zan (L zkf) (L zeM))) (N zan (N ziu (L zan) (L zeo)) (N ziI (L zd7) z))))) (N x.r.a.a.c (N x.r.a.a.e (N x.r.a.b.a (N zan (N zah (L zaq) (L zd4)) (N zit (L zah) (L zaq))) (N b1024 (N zaq (L zjj) (L zah)) (N zah (L zaq) (L zeI)))) (N b1023 (N zg9 (N ziq (L zah) (L zaq)) (N zaq (L zkh) (L zah))) (N zaq (N zah (L zaq) (L zex)) (N ziB (L zah) z)))) (N x.r.a.a.g (N x.r.a.b.c (N zac (N zig (L zi0) (L zd9)) (N zir (L zko) (L zeK))) (N zha (N ziy (L ziY) (L zen)) (N ziJ (L zkx) (L zeF)))) (N zgP (N zac (N zhW (L zjl) (L zeg)) (N ziR (L zkn) (L zeE))) (N zhw (N ziv (L zkg) (L zea)) (N ziK (L zd8) z))))))
def m1051 : W.BT := (N x.r.a.a.a (N x.r.a.a.b (N b1037 (N x.r.a.a.h (N zhg (N zac (N ziL (L zac) z) (L zac)) (N zac (L zac) (L zey))) (N zhl (N zhO (N zac (L zfh) z) (L zac)) (N zac (L zj2) (L zac)))) (N zac (N zah (N zac (N zac (L zac) z) (L zd5)) (N zix (L zac) (L zac))) (N zg8 (N zac (L ziZ) (L zac)) (N zac (L zac) (L zeJ))))) (N x.r.a.a.f (N x.r.a.b.b (N zhn (N zib (N zan (L zfe) z) (L zd6)) (N zis (L zkj) (L zan))) (N zhr (N zan (L zjo) (L zee)) (N ziP (L zan) (L zeN)))) (N zgH (N zhk (N zhA (N zi6 (L ze2) z) (L zan)) (N zan (L zkf) (L zeM))) (N zan (N ziu (L zan) (L zeo)) (N ziI (L zd7) (L zan)))))) (N x.r.a.a.c (N x.r.a.a.e (N x.r.a.b.a (N zan (N zah (N zaq (L zah) z) (L zd4)) (N zit (L zah) (L zaq))) (N b1039 (N zaq (L zjj) (L zah)) (N zah (L zaq) (L zeI)))) (N b1038 (N zg9 (N ziq (N zah (L zfa) z) (L zaq)) (N zaq (L zkh) (L zah))) (N zaq (N zah (L zaq) (L zex)) (N ziB (L zah) (L zaq))))) (N x.r.a.a.g (N x.r.a.b.c (N zac (N zig (N zi0 (L ze3) z) (L zd9)) (N zir (L zko) (L zeK))) (N zha (N ziy (L ziY) (L zen)) (N ziJ (L zkx) (L zeF)))) (N zgP (N zac (N zhW (N zjl (L zfi) z) (L zeg)) (N ziR (L zkn) (L zeE))) (N zhw (N ziv (L zkg) (L zea)) (N ziK (L zd8) (L ze8)))))))
def m1066 : W.BT := (N x.r.a.a.a (N x.r.a.a.b (N b1052 (N x.r.a.a.h (N zhg (N zac (N ziL (L zac) z) (L zac)) (N zac (N zac (L zac) z) (L zey))) (N zhl (N zhO (N zac (L zfh) z) (L zac)) (N zac (L zj2) (L zac)))) (N zac (N zah (N zac (N zac (L zac) z) (L zd5)) (N zix (N zac (L zfm) z) (L zac))) (N zg8 (N zac (N ziZ (L zac) z) (L zac)) (N zac (L zac) (L zeJ))))) (N x.r.a.a.f (N x.r.a.b.b (N zhn (N zib (N zan (L zfe) z) (L zd6)) (N zis (N zkj (L zfG) z) (L zan))) (N zhr (N zan (N zjo (L zan) z) (L zee)) (N ziP (L zan) (L zeN)))) (N zgH (N zhk (N zhA (N zi6 (L ze2) z) (L zan)) (N zan (L zkf) (L zeM))) (N zan (N ziu (N zan (L zfM) z) (L zeo)) (N ziI (L zd7) (L zan)))))) (N x.r.a.a.c (N x.r.a.a.e (N x.r.a.b.a (N zan (N zah (N zaq (L zah) z) (L zd4)) (N zit (N zah (L zfY) z) (L zaq))) (N b1054 (N zaq (N zjj (L zaq) z) (L zah)) (N zah (L zaq) (L zeI)))) (N b1053 (N zg9 (N ziq (N zah (L zfa) z) (L zaq)) (N zaq (L zkh) (L zah))) (N zaq (N zah (N zaq (L zah) z) (L zex)) (N ziB (L zah) (L zaq))))) (N x.r.a.a.g (N x.r.a.b.c (N zac (N zig (N zi0 (L ze3) z) (L zd9)) (N zir (N zko (L zfz) z) (L zeK))) (N zha (N ziy (N ziY (L zfB) z) (L zen)) (N ziJ (L zkx) (L zeF)))) (N zgP (N zac (N zhW (N zjl (L zfi) z) (L zeg)) (N ziR (L zkn) (L zeE))) (N zhw (N ziv (N zkg (L zfU) z) (L zea)) (N ziK (L zd8) (L ze8)))))))
def m1081 : W.BT := (N x.r.a.a.a (N x.r.a.a.b (N b1067 (N x.r.a.a.h (N zhg (N zac (N ziL (L zac) z) (N zac (L zf9) z)) (N zac (N zac (L zac) z) (L zey))) (N zhl (N zhO (N zac (L zfh) z) (L zac)) (N zac (N zj2 (L zac) z) (L zac)))) (N zac (N zah (N zac (N zac (L zac) z) (L zd5)) (N zix (N zac (L zfm) z) (L zac))) (N zg8 (N zac (N ziZ (L zac) z) (L zac)) (N zac (N zac (L zac) z) (L zeJ))))) (N x.r.a.a.f (N x.r.a.b.b (N zhn (N zib (N zan (L zfe) z) (L zd6)) (N zis (N zkj (L zfG) z) (L zan))) (N zhr (N zan (N zjo (L zan) z) (L zee)) (N ziP (N zan (L zge) z) (L zeN)))) (N zgH (N zhk (N zhA (N zi6 (L ze2) z) (L zan)) (N zan (N zkf (L zan) z) (L zeM))) (N zan (N ziu (N zan (L zfM) z) (L zeo)) (N ziI (N zd7 (L zgc) z) (L zan)))))) (N x.r.a.a.c (N x.r.a.a.e (N x.r.a.b.a (N zan (N zah (N zaq (L zah) z) (L zd4)) (N zit (N zah (L zfY) z) (L zaq))) (N b1069 (N zaq (N zjj (L zaq) z) (L zah)) (N zah (N zaq (L zah) z) (L zeI)))) (N b1068 (N zg9 (N ziq (N zah (L zfa) z) (L zaq)) (N zaq (N zkh (L zaq) z) (L zah))) (N zaq (N zah (N zaq (L zah) z) (L zex)) (N ziB (N zah (L zgw) z) (L zaq))))) (N x.r.a.a.g (N x.r.a.b.c (N zac (N zig (N zi0 (L ze3) z) (L zd9)) (N zir (N zko (L zfz) z) (L zeK))) (N zha (N ziy (N ziY (L zfB) z) (L zen)) (N ziJ (N zkx (L zgv) z) (L zeF)))) (N zgP (N zac (N zhW (N zjl (L zfi) z) (L zeg)) (N ziR (N zkn (L zgo) z) (L zeE))) (N zhw (N ziv (N zkg (L zfU) z) (L zea)) (N ziK (N zd8 (L zgn) z) (L ze8)))))))
def m1096 : W.BT := (N x.r.a.a.a (N x.r.a.a.b (N b1082 (N x.r.a.a.h (N zhg (N zac (N ziL (L zac) z) (N zac (L zf9) z)) (N zac (N zac (L zac) z) (L zey))) (N zhl (N zhO (N zac (L zfh) z) (N zac (L zac) z)) (N zac (N zj2 (L zac) z) (L zac)))) (N zac (N zah (N zac (N zac (L zac) z) (N zd5 (L zac) z)) (N zix (N zac (L zfm) z) (L zac))) (N zg8 (N zac (N ziZ (L zac) z) (N zac (L zg1) z)) (N zac (N zac (L zac) z) (L zeJ))))) (N x.r.a.a.f (N x.r.a.b.b (N zhn (N zib (N zan (L zfe) z) (N zd6 (L zan) z)) (N zis (N zkj (L zfG) z) (L zan))) (N zhr (N zan (N zjo (L zan) z) (N zee (L zg3) z)) (N ziP (N zan (L zge) z) (L zeN)))) (N zgH (N zhk (N zhA (N zi6 (L ze2) z) (N zan (L zgY) z)) (N zan (N zkf (L zan) z) (L zeM))) (N zan (N ziu (N zan (L zfM) z) (L zeo)) (N ziI (N zd7 (L zgc) z) (L zan)))))) (N x.r.a.a.c (N x.r.a.a.e (N x.r.a.b.a (N zan (N zah (N zaq (L zah) z) (N zd4 (L zaq) z)) (N zit (N zah (L zfY) z) (L zaq))) (N b1084 (N zaq (N zjj (L zaq) z) (N zah (L zg2) z)) (N zah (N zaq (L zah) z) (L zeI)))) (N b1083 (N zg9 (N ziq (N zah (L zfa) z) (N zaq (L zah) z)) (N zaq (N zkh (L zaq) z) (L zah))) (N zaq (N zah (N zaq (L zah) z) (L zex)) (N ziB (N zah (L zgw) z) (L zaq))))) (N x.r.a.a.g (N x.r.a.b.c (N zac (N zig (N zi0 (L ze3) z) (N zd9 (L zg0) z)) (N zir (N zko (L zfz) z) (L zeK))) (N zha (N ziy (N ziY (L zfB) z) (N zen (L zgT) z)) (N ziJ (N zkx (L zgv) z) (L zeF)))) (N zgP (N zac (N zhW (N zjl (L zfi) z) (N zeg (L zgV) z)) (N ziR (N zkn (L zgo) z) (L zeE))) (N zhw (N ziv (N zkg (L zfU) z) (L zea)) (N ziK (N zd8 (L zgn) z) (L ze8)))))))
def m1111 : W.BT := (N x.r.a.a.a (N x.r.a.a.b (N b1097 (N x.r.a.a.h (N zhg (N zac (N ziL (L zac) z) (N zac (L zf9) z)) (N zac (N zac (L zac) z) (N zey (L zac) z))) (N zhl (N zhO (N zac (L zfh) z) (N zac (L zac) z)) (N zac (N zj2 (L zac) z) (N zac (L zia) z)))) (N zac (N zah (N zac (N zac (L zac) z) (N zd5 (L zac) z)) (N zix (N zac (L zfm) z) (N zac (L zac) z))) (N zg8 (N zac (N ziZ (L zac) z) (N zac (L zg1) z)) (N zac (N zac (L zac) z) (L zeJ))))) (N x.r.a.a.f (N x.r.a.b.b (N zhn (N zib (N zan (L zfe) z) (N zd6 (L zan) z)) (N zis (N zkj (L zfG) z) (N zan (L zik) z))) (N zhr (N zan (N zjo (L zan) z) (N zee (L zg3) z)) (N ziP (N zan (L zge) z) (L zeN)))) (N zgH (N zhk (N zhA (N zi6 (L ze2) z) (N zan (L zgY) z)) (N zan (N zkf (L zan) z) (N zeM (L zhx) z))) (N zan (N ziu (N zan (L zfM) z) (N zeo (L zan) z)) (N ziI (N zd7 (L zgc) z) (L zan)))))) (N x.r.a.a.c (N x.r.a.a.e (N x.r.a.b.a (N zan (N zah (N zaq (L zah) z) (N zd4 (L zaq) z)) (N zit (N zah (L zfY) z) (N zaq (L zah) z))) (N b1099 (N zaq (N zjj (L zaq) z) (N zah (L zg2) z)) (N zah (N zaq (L zah) z) (L zeI)))) (N b1098 (N zg9 (N ziq (N zah (L zfa) z) (N zaq (L zah) z)) (N zaq (N zkh (L zaq) z) (N zah (L zhZ) z))) (N zaq (N zah (N zaq (L zah) z) (N zex (L zaq) z)) (N ziB (N zah (L zgw) z) (L zaq))))) (N x.r.a.a.g (N x.r.a.b.c (N zac (N zig (N zi0 (L ze3) z) (N zd9 (L zg0) z)) (N zir (N zko (L zfz) z) (N zeK (L zh6) z))) (N zha (N ziy (N ziY (L zfB) z) (N zen (L zgT) z)) (N ziJ (N zkx (L zgv) z) (L zeF)))) (N zgP (N zac (N zhW (N zjl (L zfi) z) (N zeg (L zgV) z)) (N ziR (N zkn (L zgo) z) (N zeE (L zhI) z))) (N zhw (N ziv (N zkg (L zfU) z) (N zea (L zhE) z)) (N ziK (N zd8 (L zgn) z) (L ze8)))))))
def m1126 : W.BT := (N x.r.a.a.a (N x.r.a.a.b (N b1112 (N x.r.a.a.h (N zhg (N zac (N ziL (L zac) (L zac)) (N zac (L zf9) z)) (N zac (N zac (L zac) z) (N zey (L zac) z))) (N zhl (N zhO (N zac (L zfh) z) (N zac (L zac) z)) (N zac (N zj2 (L zac) z) (N zac (L zia) z)))) (N zac (N zah (N zac (N zac (L zac) (L ziC)) (N zd5 (L zac) z)) (N zix (N zac (L zfm) z) (N zac (L zac) z))) (N zg8 (N zac (N ziZ (L zac) z) (N zac (L zg1) z)) (N zac (N zac (L zac) z) (N zeJ (L zac) z))))) (N x.r.a.a.f (N x.r.a.b.b (N zhn (N zib (N zan (L zfe) (L ziO)) (N zd6 (L zan) z)) (N zis (N zkj (L zfG) z) (N zan (L zik) z))) (N zhr (N zan (N zjo (L zan) z) (N zee (L zg3) z)) (N ziP (N zan (L zge) z) (N zeN (L zan) z)))) (N zgH (N zhk (N zhA (N zi6 (L ze2) z) (N zan (L zgY) z)) (N zan (N zkf (L zan) z) (N zeM (L zhx) z))) (N zan (N ziu (N zan (L zfM) z) (N zeo (L zan) z)) (N ziI (N zd7 (L zgc) z) (N zan (L ziW) z)))))) (N x.r.a.a.c (N x.r.a.a.e (N x.r.a.b.a (N zan (N zah (N zaq (L zah) (L ziV)) (N zd4 (L zaq) z)) (N zit (N zah (L zfY) z) (N zaq (L zah) z))) (N b1114 (N zaq (N zjj (L zaq) z) (N zah (L zg2) z)) (N zah (N zaq (L zah) z) (N zeI (L zaq) z)))) (N b1113 (N zg9 (N ziq (N zah (L zfa) z) (N zaq (L zah) z)) (N zaq (N zkh (L zaq) z) (N zah (L zhZ) z))) (N zaq (N zah (N zaq (L zah) z) (N zex (L zaq) z)) (N ziB (N zah (L zgw) z) (N zaq (L zah) z))))) (N x.r.a.a.g (N x.r.a.b.c (N zac (N zig (N zi0 (L ze3) (L ziN)) (N zd9 (L zg0) z)) (N zir (N zko (L zfz) z) (N zeK (L zh6) z))) (N zha (N ziy (N ziY (L zfB) z) (N zen (L zgT) z)) (N ziJ (N zkx (L zgv) z) (N zeF (L ziQ) z)))) (N zgP (N zac (N zhW (N zjl (L zfi) z) (N zeg (L zgV) z)) (N ziR (N zkn (L zgo) z) (N zeE (L zhI) z))) (N zhw (N ziv (N zkg (L zfU) z) (N zea (L zhE) z)) (N ziK (N zd8 (L zgn) z) (N ze8 (L ziT) z)))))))
def m1148 : W.BT := (N x.r.a.a.a (N x.r.a.a.b (N b1127 (N x.r.a.a.h (N zhg (N zac (N ziL (L zac) (L zac)) (N zac (L zf9) z)) (N zac (N zac (L zac) (L zjI)) (N zey (L zac) z))) (N zhl (N zhO (N zac (L zfh) (L zac)) (N zac (L zac) z)) (N zac (N zj2 (L zac) z) (N zac (L zia) z)))) (N zac (N zah (N zac (N zac (L zac) (L ziC)) (N zd5 (L zac) z)) (N zix (N zac (L zfm) (L zjF)) (N zac (L zac) z))) (N zg8 (N zac (N ziZ (L zac) (L zac)) (N zac (L zg1) z)) (N zac (N zac (L zac) z) (N zeJ (L zac) z))))) (N x.r.a.a.f (N x.r.a.b.b (N zhn (N zib (N zan (L zfe) (L ziO)) (N zd6 (L zan) z)) (N zis (N zkj (L zfG) (L zjA)) (N zan (L zik) z))) (N zhr (N zan (N zjo (L zan) (L zj9)) (N zee (L zg3) z)) (N ziP (N zan (L zge) z) (N zeN (L zan) z)))) (N zgH (N zhk (N zhA (N zi6 (L ze2) (L zan)) (N zan (L zgY) z)) (N zan (N zkf (L zan) (L zj6)) (N zeM (L zhx) z))) (N zan (N ziu (N zan (L zfM) (L zkw)) (N zeo (L zan) z)) (N ziI (N zd7 (L zgc) z) (N zan (L ziW) z)))))) (N x.r.a.a.c (N x.r.a.a.e (N x.r.a.b.a (N zan (N zah (N zaq (L zah) (L ziV)) (N zd4 (L zaq) z)) (N zit (N zah (L zfY) (L zjV)) (N zaq (L zah) z))) (N b1129 (N zaq (N zjj (L zaq) (L zjO)) (N zah (L zg2) z)) (N zah (N zaq (L zah) z) (N zeI (L zaq) z)))) (N b1128 (N zg9 (N ziq (N zah (L zfa) (L zaq)) (N zaq (L zah) z)) (N zaq (N zkh (L zaq) (L zjL)) (N zah (L zhZ) z))) (N zaq (N zah (N zaq (L zah) (L zah)) (N zex (L zaq) z)) (N ziB (N zah (L zgw) z) (N zaq (L zah) z))))) (N x.r.a.a.g (N x.r.a.b.c (N zac (N zig (N zi0 (L ze3) (L ziN)) (N zd9 (L zg0) z)) (N zir (N zko (L zfz) (L zjC)) (N zeK (L zh6) z))) (N zha (N ziy (N ziY (L zfB) (L zkl)) (N zen (L zgT) z)) (N ziJ (N zkx (L zgv) z) (N zeF (L ziQ) z)))) (N zgP (N zac (N zhW (N zjl (L zfi) (L zjN)) (N zeg (L zgV) z)) (N ziR (N zkn (L zgo) (L zjR)) (N zeE (L zhI) z))) (N zhw (N ziv (N zkg (L zfU) (L zac)) (N zea (L zhE) z)) (N ziK (N zd8 (L zgn) z) (N ze8 (L ziT) z)))))))
def m1170 : W.BT := (N x.r.a.a.a (N x.r.a.a.b (N b1149 (N x.r.a.a.h (N zhg (N zac (N ziL (L zac) (L zac)) (N zac (L zf9) (L zah))) (N zac (N zac (L zac) (L zjI)) (N zey (L zac) z))) (N zhl (N zhO (N zac (L zfh) (L zac)) (N zac (L zac) (L zln))) (N zac (N zj2 (L zac) (L zaq)) (N zac (L zia) z)))) (N zac (N zah (N zac (N zac (L zac) (L ziC)) (N zd5 (L zac) (L zkR))) (N zix (N zac (L zfm) (L zjF)) (N zac (L zac) z))) (N zg8 (N zac (N ziZ (L zac) (L zac)) (N zac (L zg1) z)) (N zac (N zac (L zac) (L zld)) (N zeJ (L zac) z))))) (N x.r.a.a.f (N x.r.a.b.b (N zhn (N zib (N zan (L zfe) (L ziO)) (N zd6 (L zan) (L zac))) (N zis (N zkj (L zfG) (L zjA)) (N zan (L zik) z))) (N zhr (N zan (N zjo (L zan) (L zj9)) (N zee (L zg3) (L zkP))) (N ziP (N zan (L zge) (L zlq)) (N zeN (L zan) z)))) (N zgH (N zhk (N zhA (N zi6 (L ze2) (L zan)) (N zan (L zgY) (L zlr))) (N zan (N zkf (L zan) (L zj6)) (N zeM (L zhx) z))) (N zan (N ziu (N zan (L zfM) (L zkw)) (N zeo (L zan) z)) (N ziI (N zd7 (L zgc) (L zk3)) (N zan (L ziW) z)))))) (N x.r.a.a.c (N x.r.a.a.e (N x.r.a.b.a (N zan (N zah (N zaq (L zah) (L ziV)) (N zd4 (L zaq) (L zkS))) (N zit (N zah (L zfY) (L zjV)) (N zaq (L zah) z))) (N b1151 (N zaq (N zjj (L zaq) (L zjO)) (N zah (L zg2) (L zk1))) (N zah (N zaq (L zah) (L zan)) (N zeI (L zaq) z)))) (N b1150 (N zg9 (N ziq (N zah (L zfa) (L zaq)) (N zaq (L zah) (L zla))) (N zaq (N zkh (L zaq) (L zjL)) (N zah (L zhZ) z))) (N zaq (N zah (N zaq (L zah) (L zah)) (N zex (L zaq) z)) (N ziB (N zah (L zgw) (L zlw)) (N zaq (L zah) z))))) (N x.r.a.a.g (N x.r.a.b.c (N zac (N zig (N zi0 (L ze3) (L ziN)) (N zd9 (L zg0) (L zlz))) (N zir (N zko (L zfz) (L zjC)) (N zeK (L zh6) z))) (N zha (N ziy (N ziY (L zfB) (L zkl)) (N zen (L zgT) z)) (N ziJ (N zkx (L zgv) (L zac)) (N zeF (L ziQ) z)))) (N zgP (N zac (N zhW (N zjl (L zfi) (L zjN)) (N zeg (L zgV) (L zlb))) (N ziR (N zkn (L zgo) (L zjR)) (N zeE (L zhI) z))) (N zhw (N ziv (N zkg (L zfU) (L zac)) (N zea (L zhE) z)) (N ziK (N zd8 (L zgn) (L zac)) (N ze8 (L ziT) z)))))))
def m1192 : W.BT := (N x.r.a.a.a (N x.r.a.a.b (N b1171 (N x.r.a.a.h (N zhg (N zac (N ziL (L zac) (L zac)) (N zac (L zf9) (L zah))) (N zac (N zac (L zac) (L zjI)) (N zey (L zac) (L zlJ)))) (N zhl (N zhO (N zac (L zfh) (L zac)) (N zac (L zac) (L zln))) (N zac (N zj2 (L zac) (L zaq)) (N zac (L zia) (L zmc))))) (N zac (N zah (N zac (N zac (L zac) (L ziC)) (N zd5 (L zac) (L zkR))) (N zix (N zac (L zfm) (L zjF)) (N zac (L zac) (L zlR)))) (N zg8 (N zac (N ziZ (L zac) (L zac)) (N zac (L zg1) (L zan))) (N zac (N zac (L zac) (L zld)) (N zeJ (L zac) (L zlY)))))) (N x.r.a.a.f (N x.r.a.b.b (N zhn (N zib (N zan (L zfe) (L ziO)) (N zd6 (L zan) (L zac))) (N zis (N zkj (L zfG) (L zjA)) (N zan (L zik) (L zac)))) (N zhr (N zan (N zjo (L zan) (L zj9)) (N zee (L zg3) (L zkP))) (N ziP (N zan (L zge) (L zlq)) (N zeN (L zan) (L zl7))))) (N zgH (N zhk (N zhA (N zi6 (L ze2) (L zan)) (N zan (L zgY) (L zlr))) (N zan (N zkf (L zan) (L zj6)) (N zeM (L zhx) (L zlT)))) (N zan (N ziu (N zan (L zfM) (L zkw)) (N zeo (L zan) (L zac))) (N ziI (N zd7 (L zgc) (L zk3)) (N zan (L ziW) z)))))) (N x.r.a.a.c (N x.r.a.a.e (N x.r.a.b.a (N zan (N zah (N zaq (L zah) (L ziV)) (N zd4 (L zaq) (L zkS))) (N zit (N zah (L zfY) (L zjV)) (N zaq (L zah) (L zmp)))) (N b1173 (N zaq (N zjj (L zaq) (L zjO)) (N zah (L zg2) (L zk1))) (N zah (N zaq (L zah) (L zan)) (N zeI (L zaq) (L zlH))))) (N b1172 (N zg9 (N ziq (N zah (L zfa) (L zaq)) (N zaq (L zah) (L zla))) (N zaq (N zkh (L zaq) (L zjL)) (N zah (L zhZ) (L zac)))) (N zaq (N zah (N zaq (L zah) (L zah)) (N zex (L zaq) (L zlI))) (N ziB (N zah (L zgw) (L zlw)) (N zaq (L zah) (L zlX)))))) (N x.r.a.a.g (N x.r.a.b.c (N zac (N zig (N zi0 (L ze3) (L ziN)) (N zd9 (L zg0) (L zlz))) (N zir (N zko (L zfz) (L zjC)) (N zeK (L zh6) (L zah)))) (N zha (N ziy (N ziY (L zfB) (L zkl)) (N zen (L zgT) (L zaq))) (N ziJ (N zkx (L zgv) (L zac)) (N zeF (L ziQ) (L zmg))))) (N zgP (N zac (N zhW (N zjl (L zfi) (L zjN)) (N zeg (L zgV) (L zlb))) (N ziR (N zkn (L zgo) (L zjR)) (N zeE (L zhI) (L zl3)))) (N zhw (N ziv (N zkg (L zfU) (L zac)) (N zea (L zhE) (L zmh))) (N ziK (N zd8 (L zgn) (L zac)) (N ze8 (L ziT) z)))))))
def m1242 : W.BT := (N x.r.a.a.a (N x.r.a.a.b (N b1193 (N x.r.a.a.h (N zhg (N zac (N ziL (N zac (L zmX) z) (L zac)) (N zac (N zf9 (L zah) z) (L zah))) (N zac (N zac (N zac (L zm5) z) (L zjI)) (N zey (L zac) (L zlJ)))) (N zhl (N zhO (N zac (N zfh (L zac) z) (L zac)) (N zac (N zac (L znl) z) (L zln))) (N zac (N zj2 (N zac (L zac) z) (L zaq)) (N zac (L zia) (L zmc))))) (N zac (N zah (N zac (N zac (N zac (L znm) z) (L ziC)) (N zd5 (N zac (L zmU) z) (L zkR))) (N zix (N zac (N zfm (L zac) z) (L zjF)) (N zac (L zac) (L zlR)))) (N zg8 (N zac (N ziZ (N zac (L zmW) z) (L zac)) (N zac (N zg1 (L zni) z) (L zan))) (N zac (N zac (N zac (L znf) z) (L zld)) (N zeJ (L zac) (L zlY)))))) (N x.r.a.a.f (N x.r.a.b.b (N zhn (N zib (N zan (N zfe (L znI) z) (L ziO)) (N zd6 (N zan (L zac) z) (L zac))) (N zis (N zkj (N zfG (L zah) z) (L zjA)) (N zan (L zik) (L zac)))) (N zhr (N zan (N zjo (N zan (L znp) z) (L zj9)) (N zee (N zg3 (L zmZ) z) (L zkP))) (N ziP (N zan (N zge (L zmY) z) (L zlq)) (N zeN (L zan) (L zl7))))) (N zgH (N zhk (N zhA (N zi6 (N ze2 (L zah) z) (L zan)) (N zan (N zgY (L zac) z) (L zlr))) (N zan (N zkf (N zan (L zno) z) (L zj6)) (N zeM (L zhx) (L zlT)))) (N zan (N ziu (N zan (N zfM (L znD) z) (L zkw)) (N zeo (L zan) (L zac))) (N ziI (N zd7 (N zgc (L znK) z) (L zk3)) (N zan (L ziW) (L zaq))))))) (N x.r.a.a.c (N x.r.a.a.e (N x.r.a.b.a (N zan (N zah (N zaq (N zah (L zac) z) (L ziV)) (N zd4 (N zaq (L zny) z) (L zkS))) (N zit (N zah (N zfY (L zac) z) (L zjV)) (N zaq (L zah) (L zmp)))) (N znE (N zaq (N zjj (N zaq (L znn) z) (L zjO)) (N zah (N zg2 (L zac) z) (L zk1))) (N zah (N zaq (N zah (L zah) z) (L zan)) (N zeI (L zaq) (L zlH))))) (N b1194 (N zg9 (N ziq (N zah (N zfa (L zac) z) (L zaq)) (N zaq (N zah (L znh) z) (L zla))) (N zaq (N zkh (N zaq (L znz) z) (L zjL)) (N zah (L zhZ) (L zac)))) (N zaq (N zah (N zaq (N zah (L zm7) z) (L zah)) (N zex (L zaq) (L zlI))) (N ziB (N zah (N zgw (L znq) z) (L zlw)) (N zaq (L zah) (L zlX)))))) (N x.r.a.a.g (N x.r.a.b.c (N zac (N zig (N zi0 (N ze3 (L zm3) z) (L ziN)) (N zd9 (N zg0 (L znj) z) (L zlz))) (N zir (N zko (N zfz (L zna) z) (L zjC)) (N zeK (L zh6) (L zah)))) (N zha (N ziy (N ziY (N zfB (L znH) z) (L zkl)) (N zen (N zgT (L znv) z) (L zaq))) (N ziJ (N zkx (N zgv (L zac) z) (L zac)) (N zeF (L ziQ) (L zmg))))) (N zgP (N zac (N zhW (N zjl (N zfi (L znx) z) (L zjN)) (N zeg (N zgV (L zah) z) (L zlb))) (N ziR (N zkn (N zgo (L zm9) z) (L zjR)) (N zeE (L zhI) (L zl3)))) (N zhw (N ziv (N zkg (N zfU (L znG) z) (L zac)) (N zea (L zhE) (L zmh))) (N ziK (N zd8 (N zgn (L zac) z) (L zac)) (N ze8 (L ziT) (L zan))))))))
def m1261 : W.BT := (N x.r.a.a.a (N x.r.a.a.b (N b1243 (N x.r.a.a.h (N zhg (N zac (N ziL (N zac (L zmX) z) (L zac)) (N zac (N zf9 (L zah) z) (L zah))) (N zac (N zac (N zac (L zm5) z) (L zjI)) (N zey (N zac (L zoy) z) (L zlJ)))) (N zhl (N zhO (N zac (N zfh (L zac) z) (L zac)) (N zac (N zac (L znl) z) (L zln))) (N zac (N zj2 (N zac (L zac) z) (L zaq)) (N zac (N zia (L zoS) z) (L zmc))))) (N zac (N zah (N zac (N zac (N zac (L znm) z) (L ziC)) (N zd5 (N zac (L zmU) z) (L zkR))) (N zix (N zac (N zfm (L zac) z) (L zjF)) (N zac (N zac (L zoM) z) (L zlR)))) (N zg8 (N zac (N ziZ (N zac (L zmW) z) (L zac)) (N zac (N zg1 (L zni) z) (L zan))) (N zac (N zac (N zac (L znf) z) (L zld)) (N zeJ (N zac (L zob) z) (L zlY)))))) (N x.r.a.a.f (N x.r.a.b.b (N zhn (N zib (N zan (N zfe (L znI) z) (L ziO)) (N zd6 (N zan (L zac) z) (L zac))) (N zis (N zkj (N zfG (L zah) z) (L zjA)) (N zan (N zik (L zac) z) (L zac)))) (N zhr (N zan (N zjo (N zan (L znp) z) (L zj9)) (N zee (N zg3 (L zmZ) z) (L zkP))) (N ziP (N zan (N zge (L zmY) z) (L zlq)) (N zeN (N zan (L zah) z) (L zl7))))) (N zgH (N zhk (N zhA (N zi6 (N ze2 (L zah) z) (L zan)) (N zan (N zgY (L zac) z) (L zlr))) (N zan (N zkf (N zan (L zno) z) (L zj6)) (N zeM (N zhx (L zoP) z) (L zlT)))) (N zan (N ziu (N zan (N zfM (L znD) z) (L zkw)) (N zeo (N zan (L zah) z) (L zac))) (N ziI (N zd7 (N zgc (L znK) z) (L zk3)) (N zan (L ziW) (L zaq))))))) (N x.r.a.a.c (N x.r.a.a.e (N x.r.a.b.a (N zan (N zah (N zaq (N zah (L zac) z) (L ziV)) (N zd4 (N zaq (L zny) z) (L zkS))) (N zit (N zah (N zfY (L zac) z) (L zjV)) (N zaq (N zah (L zou) z) (L zmp)))) (N znE (N zaq (N zjj (N zaq (L znn) z) (L zjO)) (N zah (N zg2 (L zac) z) (L zk1))) (N zah (N zaq (N zah (L zah) z) (L zan)) (N zeI (N zaq (L zac) z) (L zlH))))) (N b1244 (N zg9 (N ziq (N zah (N zfa (L zac) z) (L zaq)) (N zaq (N zah (L znh) z) (L zla))) (N zaq (N zkh (N zaq (L znz) z) (L zjL)) (N zah (N zhZ (L zac) z) (L zac)))) (N zaq (N zah (N zaq (N zah (L zm7) z) (L zah)) (N zex (N zaq (L zac) z) (L zlI))) (N ziB (N zah (N zgw (L znq) z) (L zlw)) (N zaq (N zah (L zoi) z) (L zlX)))))) (N x.r.a.a.g (N x.r.a.b.c (N zac (N zig (N zi0 (N ze3 (L zm3) z) (L ziN)) (N zd9 (N zg0 (L znj) z) (L zlz))) (N zir (N zko (N zfz (L zna) z) (L zjC)) (N zeK (N zh6 (L zah) z) (L zah)))) (N zha (N ziy (N ziY (N zfB (L znH) z) (L zkl)) (N zen (N zgT (L znv) z) (L zaq))) (N ziJ (N zkx (N zgv (L zac) z) (L zac)) (N zeF (N ziQ (L zo5) z) (L zmg))))) (N zgP (N zac (N zhW (N zjl (N zfi (L znx) z) (L zjN)) (N zeg (N zgV (L zah) z) (L zlb))) (N ziR (N zkn (N zgo (L zm9) z) (L zjR)) (N zeE (N zhI (L zoq) z) (L zl3)))) (N zhw (N ziv (N zkg (N zfU (L znG) z) (L zac)) (N zea (N zhE (L zo8) z) (L zmh))) (N ziK (N zd8 (N zgn (L zac) z) (L zac)) (N ze8 (L ziT) (L zan))))))))
def m1323 : W.BT := (N x.r.a.a.a (N x.r.a.a.b (N b1262 (N x.r.a.a.h (N zhg (N zac (N ziL (N zac (L zmX) z) (N zac (L zqJ) z)) (N zac (N zf9 (L zah) z) (N zah (L zqo) z))) (N zac (N zac (N zac (L zm5) z) (N zjI (L zah) z)) (N zey (N zac (L zoy) z) (N zlJ (L zpD) z)))) (N zhl (N zhO (N zac (N zfh (L zac) z) (N zac (L zqe) z)) (N zac (N zac (L znl) z) (N zln (L zpu) z))) (N zac (N zj2 (N zac (L zac) z) (N zaq (L zpv) z)) (N zac (N zia (L zoS) z) (N zmc (L zqN) z))))) (N zac (N zah (N zac (N zac (N zac (L znm) z) (N ziC (L zq0) z)) (N zd5 (N zac (L zmU) z) (N zkR (L zqZ) z))) (N zix (N zac (N zfm (L zac) z) (N zjF (L zpA) z)) (N zac (N zac (L zoM) z) (N zlR (L zqF) z)))) (N zg8 (N zac (N ziZ (N zac (L zmW) z) (N zac (L zq4) z)) (N zac (N zg1 (L zni) z) (N zan (L zp0) z))) (N zac (N zac (N zac (L znf) z) (N zld (L zah) z)) (N zeJ (N zac (L zob) z) (L zlY)))))) (N x.r.a.a.f (N x.r.a.b.b (N zhn (N zib (N zan (N zfe (L znI) z) (N ziO (L zpP) z)) (N zd6 (N zan (L zac) z) (N zac (L zac) z))) (N zis (N zkj (N zfG (L zah) z) (N zjA (L zac) z)) (N zan (N zik (L zac) z) (N zac (L zpM) z)))) (N zhr (N zan (N zjo (N zan (L znp) z) (N zj9 (L zac) z)) (N zee (N zg3 (L zmZ) z) (N zkP (L zah) z))) (N ziP (N zan (N zge (L zmY) z) (N zlq (L zqG) z)) (N zeN (N zan (L zah) z) (L zl7))))) (N zgH (N zhk (N zhA (N zi6 (N ze2 (L zah) z) (N zan (L zah) z)) (N zan (N zgY (L zac) z) (N zlr (L zqt) z))) (N zan (N zkf (N zan (L zno) z) (N zj6 (L zac) z)) (N zeM (N zhx (L zoP) z) (N zlT (L zpH) z)))) (N zan (N ziu (N zan (N zfM (L znD) z) (N zkw (L zq3) z)) (N zeo (N zan (L zah) z) (N zac (L zac) z))) (N ziI (N zd7 (N zgc (L znK) z) (N zk3 (L zac) z)) (N zan (N ziW (L zac) z) (L zaq))))))) (N x.r.a.a.c (N x.r.a.a.e (N x.r.a.b.a (N zan (N zah (N zaq (N zah (L zac) z) (N ziV (L zac) z)) (N zd4 (N zaq (L zny) z) (N zkS (L zpx) z))) (N zit (N zah (N zfY (L zac) z) (N zjV (L zqB) z)) (N zaq (N zah (L zou) z) (N zmp (L zqO) z)))) (N znE (N zaq (N zjj (N zaq (L znn) z) (N zjO (L zqg) z)) (N zah (N zg2 (L zac) z) (N zk1 (L zac) z))) (N zah (N zaq (N zah (L zah) z) (N zan (L zpw) z)) (N zeI (N zaq (L zac) z) (N zlH (L zqH) z))))) (N b1263 (N zg9 (N ziq (N zah (N zfa (L zac) z) (N zaq (L zac) z)) (N zaq (N zah (L znh) z) (N zla (L zac) z))) (N zaq (N zkh (N zaq (L znz) z) (N zjL (L zqU) z)) (N zah (N zhZ (L zac) z) (N zac (L zpW) z)))) (N zaq (N zah (N zaq (N zah (L zm7) z) (N zah (L zpQ) z)) (N zex (N zaq (L zac) z) (N zlI (L zqW) z))) (N ziB (N zah (N zgw (L znq) z) (N zlw (L zqf) z)) (N zaq (N zah (L zoi) z) (L zlX)))))) (N x.r.a.a.g (N x.r.a.b.c (N zac (N zig (N zi0 (N ze3 (L zm3) z) (N ziN (L zpT) z)) (N zd9 (N zg0 (L znj) z) (N zlz (L zah) z))) (N zir (N zko (N zfz (L zna) z) (N zjC (L zpr) z)) (N zeK (N zh6 (L zah) z) (N zah (L zqY) z)))) (N zha (N ziy (N ziY (N zfB (L znH) z) (N zkl (L zah) z)) (N zen (N zgT (L znv) z) (N zaq (L zpY) z))) (N ziJ (N zkx (N zgv (L zac) z) (N zac (L zac) z)) (N zeF (N ziQ (L zo5) z) (L zmg))))) (N zgP (N zac (N zhW (N zjl (N zfi (L znx) z) (N zjN (L zp5) z)) (N zeg (N zgV (L zah) z) (N zlb (L zqR) z))) (N ziR (N zkn (N zgo (L zm9) z) (N zjR (L zah) z)) (N zeE (N zhI (L zoq) z) (N zl3 (L zqq) z)))) (N zhw (N ziv (N zkg (N zfU (L znG) z) (N zac (L zac) z)) (N zea (N zhE (L zo8) z) (N zmh (L zah) z))) (N ziK (N zd8 (N zgn (L zac) z) (N zac (L zqa) z)) (N ze8 (N ziT (L zan) z) (L zan))))))))
def m1400 : W.BT := (N x.r.a.a.a (N x.r.a.a.b (N b1324 (N x.r.a.a.h (N zhg (N zac (N ziL (N zac (L zmX) (L zah)) (N zac (L zqJ) (L zsr))) (N zac (N zf9 (L zah) (L zah)) (N zah (L zqo) z))) (N zac (N zac (N zac (L zm5) (L zrN)) (N zjI (L zah) z)) (N zey (N zac (L zoy) (L zac)) (N zlJ (L zpD) z)))) (N zhl (N zhO (N zac (N zfh (L zac) (L ztv)) (N zac (L zqe) z)) (N zac (N zac (L znl) (L zrS)) (N zln (L zpu) z))) (N zac (N zj2 (N zac (L zac) (L zac)) (N zaq (L zpv) z)) (N zac (N zia (L zoS) (L zah)) (N zmc (L zqN) z))))) (N zac (N zah (N zac (N zac (N zac (L znm) (L zac)) (N ziC (L zq0) (L zsG))) (N zd5 (N zac (L zmU) (L zac)) (N zkR (L zqZ) z))) (N zix (N zac (N zfm (L zac) (L zah)) (N zjF (L zpA) z)) (N zac (N zac (L zoM) (L zrX)) (N zlR (L zqF) z)))) (N zg8 (N zac (N ziZ (N zac (L zmW) (L zsQ)) (N zac (L zq4) z)) (N zac (N zg1 (L zni) (L zac)) (N zan (L zp0) z))) (N zac (N zac (N zac (L znf) (L zs0)) (N zld (L zah) z)) (N zeJ (N zac (L zob) (L zsI)) (N zlY (L zrQ) z)))))) (N x.r.a.a.f (N x.r.a.b.b (N zhn (N zib (N zan (N zfe (L znI) (L zrY)) (N ziO (L zpP) (L zsH))) (N zd6 (N zan (L zac) (L zta)) (N zac (L zac) z))) (N zis (N zkj (N zfG (L zah) (L ztr)) (N zjA (L zac) z)) (N zan (N zik (L zac) (L zr1)) (N zac (L zpM) z)))) (N zhr (N zan (N zjo (N zan (L znp) (L zah)) (N zj9 (L zac) z)) (N zee (N zg3 (L zmZ) (L zah)) (N zkP (L zah) z))) (N ziP (N zan (N zge (L zmY) (L zsu)) (N zlq (L zqG) z)) (N zeN (N zan (L zah) (L zac)) (N zl7 (L zac) z))))) (N zgH (N zhk (N zhA (N zi6 (N ze2 (L zah) (L zrZ)) (N zan (L zah) z)) (N zan (N zgY (L zac) (L zr4)) (N zlr (L zqt) z))) (N zan (N zkf (N zan (L zno) (L zsi)) (N zj6 (L zac) z)) (N zeM (N zhx (L zoP) (L zs4)) (N zlT (L zpH) z)))) (N zan (N ziu (N zan (N zfM (L znD) (L zac)) (N zkw (L zq3) z)) (N zeo (N zan (L zah) (L ztx)) (N zac (L zac) z))) (N ziI (N zd7 (N zgc (L znK) (L ztq)) (N zk3 (L zac) z)) (N zan (N ziW (L zac) (L zac)) (N zaq (L zsg) z))))))) (N x.r.a.a.c (N x.r.a.a.e (N x.r.a.b.a (N zan (N zah (N zaq (N zah (L zac) (L zrU)) (N ziV (L zac) (L zac))) (N zd4 (N zaq (L zny) (L zrI)) (N zkS (L zpx) z))) (N zit (N zah (N zfY (L zac) (L zs9)) (N zjV (L zqB) z)) (N zaq (N zah (L zou) (L zah)) (N zmp (L zqO) z)))) (N znE (N zaq (N zjj (N zaq (L znn) (L zac)) (N zjO (L zqg) z)) (N zah (N zg2 (L zac) (L zac)) (N zk1 (L zac) z))) (N zah (N zaq (N zah (L zah) (L zah)) (N zan (L zpw) z)) (N zeI (N zaq (L zac) (L zrP)) (N zlH (L zqH) z))))) (N b1325 (N zg9 (N ziq (N zah (N zfa (L zac) (L zah)) (N zaq (L zac) z)) (N zaq (N zah (L znh) (L zah)) (N zla (L zac) z))) (N zaq (N zkh (N zaq (L znz) (L zsa)) (N zjL (L zqU) z)) (N zah (N zhZ (L zac) (L zts)) (N zac (L zpW) z)))) (N zaq (N zah (N zaq (N zah (L zm7) (L zr7)) (N zah (L zpQ) z)) (N zex (N zaq (L zac) (L zsf)) (N zlI (L zqW) z))) (N ziB (N zah (N zgw (L znq) (L ztn)) (N zlw (L zqf) z)) (N zaq (N zah (L zoi) (L ztd)) (N zlX (L zsx) z)))))) (N x.r.a.a.g (N x.r.a.b.c (N zac (N zig (N zi0 (N ze3 (L zm3) (L zss)) (N ziN (L zpT) (L zsM))) (N zd9 (N zg0 (L znj) (L zsC)) (N zlz (L zah) z))) (N zir (N zko (N zfz (L zna) (L zac)) (N zjC (L zpr) z)) (N zeK (N zh6 (L zah) (L zac)) (N zah (L zqY) z)))) (N zha (N ziy (N ziY (N zfB (L znH) (L zrT)) (N zkl (L zah) z)) (N zen (N zgT (L znv) (L zr3)) (N zaq (L zpY) z))) (N ziJ (N zkx (N zgv (L zac) (L zac)) (N zac (L zac) z)) (N zeF (N ziQ (L zo5) (L zsT)) (N zmg (L zah) z))))) (N zgP (N zac (N zhW (N zjl (N zfi (L znx) (L zrM)) (N zjN (L zp5) z)) (N zeg (N zgV (L zah) (L ztg)) (N zlb (L zqR) z))) (N ziR (N zkn (N zgo (L zm9) (L zsK)) (N zjR (L zah) z)) (N zeE (N zhI (L zoq) (L zac)) (N zl3 (L zqq) z)))) (N zhw (N ziv (N zkg (N zfU (L znG) (L zah)) (N zac (L zac) z)) (N zea (N zhE (L zo8) (L zrW)) (N zmh (L zah) z))) (N ziK (N zd8 (N zgn (L zac) (L zac)) (N zac (L zqa) z)) (N ze8 (N ziT (L zan) (L zah)) (N zan (L zac) z))))))))
def m1464 : W.BT := (N x.r.a.a.a (N x.r.a.a.b (N zt1 (N x.r.a.a.h (N zhg (N zac (N ziL (N zac (N zmX (L zuu) z) (L zah)) (N zac (L zqJ) (L zsr))) (N zac (N zf9 (L zah) (L zah)) (N zah (L zqo) (L zac)))) (N zac (N zac (N zac (L zm5) (L zrN)) (N zjI (L zah) (L zah))) (N zey (N zac (L zoy) (L zac)) (N zlJ (L zpD) (L zac))))) (N zhl (N zhO (N zac (N zfh (L zac) (L ztv)) (N zac (L zqe) (L ztQ))) (N zac (N zac (L znl) (L zrS)) (N zln (L zpu) (L ztI)))) (N zac (N zj2 (N zac (L zac) (L zac)) (N zaq (L zpv) (L zuQ))) (N zac (N zia (L zoS) (L zah)) (N zmc (L zqN) (L zah)))))) (N zac (N zah (N zac (N zac (N zac (L znm) (L zac)) (N ziC (L zq0) (L zsG))) (N zd5 (N zac (L zmU) (L zac)) (N zkR (L zqZ) (L zac)))) (N zix (N zac (N zfm (L zac) (L zah)) (N zjF (L zpA) (L zuG))) (N zac (N zac (L zoM) (L zrX)) (N zlR (L zqF) (L zug))))) (N zg8 (N zac (N ziZ (N zac (L zmW) (L zsQ)) (N zac (L zq4) (L zuD))) (N zac (N zg1 (L zni) (L zac)) (N zan (L zp0) (L zah)))) (N zac (N zac (N zac (L znf) (L zs0)) (N zld (L zah) (L zuY))) (N zeJ (N zac (L zob) (L zsI)) (N zlY (L zrQ) (L zt9))))))) (N x.r.a.a.f (N x.r.a.b.b (N zhn (N zib (N zan (N zfe (N znI (L zt7) z) (L zrY)) (N ziO (L zpP) (L zsH))) (N zd6 (N zan (L zac) (L zta)) (N zac (L zac) (L zuV)))) (N zis (N zkj (N zfG (L zah) (L ztr)) (N zjA (L zac) (L zac))) (N zan (N zik (L zac) (L zr1)) (N zac (L zpM) (L zt3))))) (N zhr (N zan (N zjo (N zan (L znp) (L zah)) (N zj9 (L zac) (L zac))) (N zee (N zg3 (L zmZ) (L zah)) (N zkP (L zah) (L zuL)))) (N ziP (N zan (N zge (L zmY) (L zsu)) (N zlq (L zqG) (L zuE))) (N zeN (N zan (L zah) (L zac)) (N zl7 (L zac) (L zac)))))) (N zgH (N zhk (N zhA (N zi6 (N ze2 (L zah) (L zrZ)) (N zan (L zah) (L zah))) (N zan (N zgY (L zac) (L zr4)) (N zlr (L zqt) (L ztU)))) (N zan (N zkf (N zan (L zno) (L zsi)) (N zj6 (L zac) (L zac))) (N zeM (N zhx (L zoP) (L zs4)) (N zlT (L zpH) (L zuM))))) (N zan (N ziu (N zan (N zfM (L znD) (L zac)) (N zkw (L zq3) (L zu4))) (N zeo (N zan (L zah) (L ztx)) (N zac (L zac) (L ztH)))) (N ziI (N zd7 (N zgc (L znK) (L ztq)) (N zk3 (L zac) (L zah))) (N zan (N ziW (L zac) (L zac)) (N zaq (L zsg) (L zac)))))))) (N x.r.a.a.c (N x.r.a.a.e (N x.r.a.b.a (N zan (N zah (N zaq (N zah (N zac (L zuN) z) (L zrU)) (N ziV (L zac) (L zac))) (N zd4 (N zaq (L zny) (L zrI)) (N zkS (L zpx) (L ztS)))) (N zit (N zah (N zfY (L zac) (L zs9)) (N zjV (L zqB) (L zus))) (N zaq (N zah (L zou) (L zah)) (N zmp (L zqO) (L zah))))) (N znE (N zaq (N zjj (N zaq (L znn) (L zac)) (N zjO (L zqg) (L zt4))) (N zah (N zg2 (L zac) (L zac)) (N zk1 (L zac) (L zua)))) (N zah (N zaq (N zah (L zah) (L zah)) (N zan (L zpw) (L zac))) (N zeI (N zaq (L zac) (L zrP)) (N zlH (L zqH) (L zu3)))))) (N ztY (N zg9 (N ziq (N zah (N zfa (L zac) (L zah)) (N zaq (L zac) (L zac))) (N zaq (N zah (L znh) (L zah)) (N zla (L zac) (L zah)))) (N zaq (N zkh (N zaq (L znz) (L zsa)) (N zjL (L zqU) (L zue))) (N zah (N zhZ (L zac) (L zts)) (N zac (L zpW) (L zuk))))) (N zaq (N zah (N zaq (N zah (L zm7) (L zr7)) (N zah (L zpQ) (L zu9))) (N zex (N zaq (L zac) (L zsf)) (N zlI (L zqW) (L zui)))) (N ziB (N zah (N zgw (L znq) (L ztn)) (N zlw (L zqf) (L zac))) (N zaq (N zah (L zoi) (L ztd)) (N zlX (L zsx) (L zuK))))))) (N x.r.a.a.g (N x.r.a.b.c (N zac (N zig (N zi0 (N ze3 (L zm3) (L zss)) (N ziN (L zpT) (L zsM))) (N zd9 (N zg0 (L znj) (L zsC)) (N zlz (L zah) (L ztF)))) (N zir (N zko (N zfz (L zna) (L zac)) (N zjC (L zpr) (L zun))) (N zeK (N zh6 (L zah) (L zac)) (N zah (L zqY) (L zac))))) (N zha (N ziy (N ziY (N zfB (L znH) (L zrT)) (N zkl (L zah) (L zah))) (N zen (N zgT (L znv) (L zr3)) (N zaq (L zpY) (L zac)))) (N ziJ (N zkx (N zgv (L zac) (L zac)) (N zac (L zac) (L zud))) (N zeF (N ziQ (L zo5) (L zsT)) (N zmg (L zah) (L ztZ)))))) (N zgP (N zac (N zhW (N zjl (N zfi (L znx) (L zrM)) (N zjN (L zp5) (L zuF))) (N zeg (N zgV (L zah) (L ztg)) (N zlb (L zqR) (L zac)))) (N ziR (N zkn (N zgo (L zm9) (L zsK)) (N zjR (L zah) (L zah))) (N zeE (N zhI (L zoq) (L zac)) (N zl3 (L zqq) (L zac))))) (N zhw (N ziv (N zkg (N zfU (L znG) (L zah)) (N zac (L zac) (L zac))) (N zea (N zhE (L zo8) (L zrW)) (N zmh (L zah) (L zuS)))) (N ziK (N zd8 (N zgn (L zac) (L zac)) (N zac (L zqa) (L zuJ))) (N ze8 (N ziT (L zan) (L zah)) (N zan (L zac) (L zah)))))))))
def m1465 : Heap := ⟨⟨[x.r.a.a.a, x.r.a.a.b, x.r.a.a.c, zt1, x.r.a.a.e, x.r.a.a.f, x.r.a.a.g, x.r.a.a.h, x.r.a.b.a, x.r.a.b.b, x.r.a.b.c, zac, ztY, zgH, zgP, zhg, zan, zhn, zac, zah, zg9, zhk, zac, zhl, znE, zhr, zha, zg8, zaq, zan, zhw, zac, zah, zib, zig, zac, ziq, zhA, zhW, zhO, zaq, zan, ziy, zac, zah, ziu, ziv, zac, zit, zis, zir, zix, zaq, zan, ziR, zac, zah, ziP, ziJ, zac, ziB, ziI, ziK, ziL, zaq, zan, zi0, zac, zah, zi6, zjl, zac, zjj, zjo, ziY, ziZ, zaq, zan, zkg, zac, zah, zkj, zko, zac, zkh, zkf, zkn, zj2, zaq, zan, zkx, zac, zah, zd7, zd8, zac, zd4, zd6, zd9, zd5, zaq, zan, zeg, zac, zah, zee, zen, zac, zex, zeo, zea, zey, zaq, zan, zeK, zac, zah, zeM, zeE, zac, zeI, zeN, zeF, zeJ, zaq, zan, ze8, zac, zah, zfe, ze3, zac, zfa, ze2, zfi, zfh, zaq, zan, zfB, zac, zah, zfM, zfU, zac, zfY, zfG, zfz, zfm, zaq, zan, zgo, zac, zah, zge, zgv, zac, zgw, zgc, zgn, zf9, zaq, zan, zg0, zac, zah, zgY, zgV, zac, zg2, zg3, zgT, zg1, zaq, zan, zhE, zac, zah, zik, zh6, zac, zhZ, zhx, zhI, zia, zaq, zan, ziQ, zac, zah, ziW, ziT, zac, ziV, ziO, ziN, ziC, zaq, zan, zjN, zac, zjO, zj9, zkl, zac, zah, zkw, zac, zjI, zjV, zjA, zjC, zjF, zjL, zj6, zjR, zaq, zan, zlq, zac, zld, zlw, zk3, zac, zah, zkS, zac, zlz, zkR, zla, zlr, zlb, zln, zk1, zkP, zaq, zan, zlI, zac, zmh, zlJ, zmp, zac, zah, zlR, zac, zlT, zl3, zmc, zlH, zl7, zmg, zlY, zlX, zaq, zan, zmX, zac, znI, zm3, znm, zac, zah, znx, zac, znn, znp, znH, zmW, zm7, znD, znG, zm5, zac, zah, zna, zac, znz, zno, zm9, zac, zah, zmY, zac, znf, znq, znK, zac, zah, zny, zac, znj, zmU, znh, zac, zah, znl, zac, zmZ, znv, zni, zac, zah, zo8, zoy, zou, zac, zah, zoM, zac, zoP, zoq, zoS, zac, zah, zo5, zob, zoi, zac, zan, zqJ, zac, zpP, zpT, zq0, zac, zah, zp5, zqe, zqg, zac, zah, zq4, zpQ, zq3, zac, zah, zqB, zac, zpr, zpA, zqU, zac, zah, zpv, zpw, zqG, zac, zah, zqf, zac, zqa, zqo, zpx, zac, zah, zqZ, zac, zqt, zqR, zpu, zac, zah, zpY, zp0, zqW, zac, zah, zpD, zqO, zpM, zqY, zqF, zpW, zpH, zqq, zqN, zqH, zac, zah, zrQ, zsx, zsg, zac, zah, zrU, zrY, zss, zac, zah, zrZ, zrM, ztv, zac, zah, zrT, zsQ, zr7, zac, zah, zrN, zs9, ztr, zac, zah, zsa, zsi, zsK, zac, zah, zsu, zac, zs0, ztn, ztq, zac, zah, zrI, zta, zsC, zac, zah, zr4, ztg, zrS, zac, zah, zr3, zac, zsf, ztx, zrW, zac, zah, zr1, zac, zrX, zts, zs4, zac, zah, zrP, zac, zsT, zsI, ztd, zac, zah, zsr, zac, zsH, zsM, zsG, zac, zah, zuF, ztQ, zt4, zac, zah, zuD, zu9, zu4, zac, zah, zus, zac, zun, zuG, zue, zac, zah, zuQ, zac, zuE, zud, zuY, zac, zah, zuJ, zac, ztS, zuV, ztF, zac, zah, ztU, zac, ztI, zua, zuL, zac, zah, zui, ztH, zuS, zac, zah, zt3, zac, zug, zuk, zuM, zac, zah, zu3, zac, ztZ, zt9, zuK, zac, zah, zuu, zuN, zt7]⟩, ⟨[], [], [], 0, [], [], false, #[], [], 0, false, false, false, 0, [2000, 10, 10], false, 0, true, [], [], 0, false⟩⟩
end
def m892v (p : Program) : Program := { p with main := { p.main with body := [sp p 1, sp p 2, sp p 3, sp p 4, sp p 5, sp p 6, sp p 7, sp p 8, sp p 9, sp p 10, sp p 11, sp p 12, sp p 13, sp p 14, sp p 15, sp p 16, sp p 17, sp p 18, sp p 19, sp p 21, sp p 22, sp p 23, sp p 24, sp p 25, sp p 27, sp p 28, sp p 30, sp p 31, sp p 32, sp p 33, sp p 34, sp p 36, sp p 37, sp p 38, sp p 39, sp p 40, sp p 41, sp p 42, sp p 43, sp p 44, sp p 45, sp p 46, sp p 47, sp p 49, sp p 50, sp p 51, sp p 52, sp p 53, sp p 54, sp p 55, sp p 56] } }
def m902s (p : Program) : List Stmt := [sp p 0, sp p 1]
def m917s (p : Program) : List Stmt := [sp p 2]
def m932s (p : Program) : List Stmt := [sp p 3]
def m947s (p : Program) : List Stmt := [sp p 4]
def m962s (p : Program) : List Stmt := [sp p 5]
def m977s (p : Program) : List Stmt := [sp p 6]
def m992s (p : Program) : List Stmt := [sp p 7]
def m1007s (p : Program) : List Stmt := [sp p 8]
def m1022s (p : Program) : List Stmt := [sp p 9]
def m1037s (p : Program) : List Stmt := [sp p 10]
def m1052s (p : Program) : List Stmt := [sp p 11]
def m1067s (p : Program) : List Stmt := [sp p 12]
def m1082s (p : Program) : List Stmt := [sp p 13]
def m1097s (p : Program) : List Stmt := [sp p 14]
def m1112s (p : Program) : List Stmt := [sp p 15]
def m1127s (p : Program) : List Stmt := [sp p 16]
def m1149s (p : Program) : List Stmt := [sp p 17]
def m1171s (p : Program) : List Stmt := [sp p 18]
def m1193s (p : Program) : List Stmt := [sp p 19, sp p 20, sp p 21, sp p 22, sp p 23, sp p 24]
def m1243s (p : Program) : List Stmt := [sp p 25, sp p 26, sp p 27, sp p 28, sp p 29]
def m1262s (p : Program) : List Stmt := [sp p 30]
def m1324s (p : Program) : List Stmt := [sp p 31, sp p 32, sp p 33, sp p 34, sp p 35, sp p 36, sp p 37, sp p 38, sp p 39, sp p 40, sp p 41, sp p 42, sp p 43, sp p 44, sp p 45]
def m1401s (p : Program) : List Stmt := [sp p 46, sp p 47, sp p 48, sp p 49, sp p 50, sp p 51, sp p 52, sp p 53, sp p 54, sp p 55, sp p 56]
def u0 : Q Str := ⟨Str.ofString "<module>", Str.ofString "/claim/cut.py", Str.ofString "__main__", Str.ofString "__name__", Str.ofString "hideworth.errors", Str.ofString "__doc__", Str.ofString "__package__", Str.ofString "__loader__"⟩
def u1 : Q Str := ⟨Str.ofString "__spec__", Str.ofString "__annotations__", Str.ofString "__builtins__", Str.ofString "__file__", Str.ofString "__cached__", Str.ofString "HideError", Str.ofString "__module__", Str.ofString "__qualname__"⟩
def u2 : Q Str := ⟨Str.ofString "__firstlineno__", Str.ofString "__static_attributes__", Str.ofString "__weakref__", Str.ofString "NoNumber", Str.ofString "NoTable", Str.ofString "NoBoxes", Str.ofString "NoBudget", Str.ofString "NoOrder"⟩
def u3 : Q Str := ⟨Str.ofString "NoWeights", Str.ofString "TooGreat", Str.ofString "NoKind", Str.ofString "NoTree", Str.ofString "NoTurns", Str.ofString "NoPlay", Str.ofString "NoRow", Str.ofString "NoName"⟩
def u4 : Q Str := ⟨Str.ofString "NoRoad", Str.ofString "NoWeb", Str.ofString "__init__", Str.ofString "self", Str.ofString "road", Str.ofString "NoWeb.__init__", Str.ofString "NoPlan", Str.ofString "at"⟩
def u5 : Q Str := ⟨Str.ofString "NoPlan.__init__", Str.ofString "NoText", Str.ofString "row", Str.ofString "NoText.__init__", Str.ofString "hideworth.ratios", Str.ofString "NoPaper", Str.ofString "divisor", Str.ofString "ratio"⟩
def u6 : Q Str := ⟨Str.ofString "plus", Str.ofString "shared_divisor", Str.ofString "k", Str.ofString "NoPaper.__init__", Str.ofString "one", Str.ofString "other", Str.ofString "rest", Str.ofString "top"⟩
def u7 : Q Str := ⟨Str.ofString "bottom", Str.ofString "shared", Str.ofString "numbers", Str.ofString "number", Str.ofString "hideworth.pivots", Str.ofString "lowest", Str.ofString "is_whole", Str.ofString "are_weights"⟩
def u8 : Q Str := ⟨Str.ofString "thing", Str.ofString "hideworth.checks", Str.ofString "Board", Str.ofString "entering", Str.ofString "steepest", Str.ofString "steepness", Str.ofString "leaving", Str.ofString "is_sooner"⟩
def u9 : Q Str := ⟨Str.ofString "swap", Str.ofString "swapped_row", Str.ofString "Board.__init__", Str.ofString "Board.entering", Str.ofString "columns", Str.ofString "best", Str.ofString "most", Str.ofString "here"⟩
def u10 : Q Str := ⟨Str.ofString "Board.steepest", Str.ofString "Board.steepness", Str.ofString "column", Str.ofString "Board.leaving", Str.ofString "there", Str.ofString "Board.is_sooner", Str.ofString "Board.swap", Str.ofString "Board.swapped_row"⟩
def u11 : Q Str := ⟨Str.ofString "busy", Str.ofString "grid", Str.ofString "idle", Str.ofString "scale", Str.ofString "stuck", Str.ofString "__dict__", Str.ofString "hideworth.tables", Str.ofString "first_grid"⟩
def u12 : Q Str := ⟨Str.ofString "row_weights", Str.ofString "column_weights", Str.ofString "solved", Str.ofString "MOST", Str.ofString "is_row", Str.ofString "is_table", Str.ofString "look_table", Str.ofString "row_sums"⟩
def u13 : Q Str := ⟨Str.ofString "column_sums", Str.ofString "first_column_above", Str.ofString "first_row_below", Str.ofString "table_judged", Str.ofString "table_worth", Str.ofString "table", Str.ofString "worth", Str.ofString "rows"⟩
def u14 : Q Str := ⟨Str.ofString "bound", Str.ofString "j", Str.ofString "paid", Str.ofString "i", Str.ofString "law_hideworth_k15_no_tables_refused", Str.ofString "best_rows", Str.ofString "best_columns", Str.ofString "_law_mix"⟩
def u15 : Q Str := ⟨Str.ofString "_law_cell_at", Str.ofString "_law_left", Str.ofString "_law_draw", Str.ofString "_law_thing", Str.ofString "_law_is_table", Str.ofString "_law_refused", Str.ofString "law", Str.ofString "_law_number"⟩
def u16 : Q Str := ⟨Str.ofString "_law_k", Str.ofString "_law_mixed", Str.ofString "_law_script", Str.ofString "_law_cell", Str.ofString "_law_left_here", Str.ofString "_law_base", Str.ofString "_law_digit", Str.ofString "_law_thing_here"⟩
def u17 : Q Str := ⟨Str.ofString "_law_row", Str.ofString "_law_which", Str.ofString "_law_caught", Str.ofString "e", Str.ofString "e", Str.ofString "e", Str.ofString "e", Str.ofString "e"⟩
def v0 : Q String := ⟨"tuple", "code", "frame", "dict", "__main__.__loader__#opaque", "ValueError", "builtin_function_or_method", "type.__prepare__"⟩
def v1 : Q String := ⟨"type", "Exception", "BaseException", "object", "ValueError.__new__", "getset_descriptor", "ExceptionGroup.__weakref__", "super"⟩
def v2 : Q String := ⟨"object.__init_subclass__", "function", "object.__new__", "function.__dict__", "function.__dict__#set", "function.__dict__#set", "function.__dict__#set", "function.__dict__#set"⟩
def w0 (P : Params) : Q Obj := ⟨W.boot_o_0 P, W.boot_o_1 P, W.boot_o_2 P, W.boot_o_3 P, W.boot_o_4 P, W.boot_o_5 P, W.boot_o_6 P, W.boot_o_7 P⟩
def w1 (P : Params) : Q Obj := ⟨W.boot_o_8 P, W.boot_o_9 P, W.boot_o_10 P, W.boot_o_10 P, W.boot_o_10 P, W.boot_o_10 P, W.boot_o_10 P, W.boot_o_10 P⟩
lay_quick u0 u1 u2 u3 u4 u5 u6 u7 u8 u9 u10 u11 u12 u13 u14 u15 u16 u17 v0 v1 v2 w0 w1 PySem.Challenge.pw_hideworth_k15_no_tables_refused
def K (a' b' c' d' e' f' g' h' i' j' k' l' m' n' o' p' q' r' : Q Str) (s' t' u' : Q String) (v' w' : Params → Q Obj) (x' : Program) (P : Params) : X := ⟨⟨⟨a',b',c',d',e',f',g',h'⟩,⟨i',j',k',l',m',n',o',p'⟩,⟨q',r',r',r',r',r',r',r'⟩,⟨q',r',r',r',r',r',r',r'⟩,⟨q',r',r',r',r',r',r',r'⟩,⟨q',r',r',r',r',r',r',r'⟩,⟨q',r',r',r',r',r',r',r'⟩,⟨q',r',r',r',r',r',r',r'⟩⟩,⟨⟨s',t',u',u',u',u',u',u'⟩,⟨s',t',u',u',u',u',u',u'⟩,⟨s',t',u',u',u',u',u',u'⟩,⟨s',t',u',u',u',u',u',u'⟩,⟨s',t',u',u',u',u',u',u'⟩,⟨s',t',u',u',u',u',u',u'⟩,⟨s',t',u',u',u',u',u',u'⟩,⟨s',t',u',u',u',u',u',u'⟩⟩,⟨⟨v' P,w' P,w' P,w' P,w' P,w' P,w' P,w' P⟩,⟨v' P,w' P,w' P,w' P,w' P,w' P,w' P,w' P⟩,⟨v' P,w' P,w' P,w' P,w' P,w' P,w' P,w' P⟩,⟨v' P,w' P,w' P,w' P,w' P,w' P,w' P,w' P⟩,⟨v' P,w' P,w' P,w' P,w' P,w' P,w' P,w' P⟩,⟨v' P,w' P,w' P,w' P,w' P,w' P,w' P,w' P⟩,⟨v' P,w' P,w' P,w' P,w' P,w' P,w' P,w' P⟩,⟨v' P,w' P,w' P,w' P,w' P,w' P,w' P,w' P⟩⟩,x',P⟩
def k0 := K u0 u1 u2 u3 u4 u5 u6 u7 u8 u9 u10 u11 u12 u13 u14 u15 u16 u17 v0 v1 v2 w0 w1 PySem.Challenge.pw_hideworth_k15_no_tables_refused
def k1 := K tw13894225608423057668 tw17531079430653816501 tw13809737476558091540 tw2367299412457286945 tw1912701158020654693 tw2188347355606102534 tw16368670287772101220 tw14842115654739255404 tw4717311838995323452 tw594758545415977400 tw10895325593200808953 tw10037743213843438893 tw10009084784789568687 tw5084553986333570498 tw16641277437810104112 tw11875653558476324687 tw1672153094372761355 tw4580522010931877059 tw15633551313878501473 tw10735261366311057212 tw13734974896645664886 tw1278260381020688717 tw13492767390215788210 tw5069380861230907617
theorem ke : k0 = k1 := by
  unfold k0 k1
  rw [te13894225608423057668, te17531079430653816501, te13809737476558091540, te2367299412457286945, te1912701158020654693, te2188347355606102534, te16368670287772101220, te14842115654739255404, te4717311838995323452, te594758545415977400, te10895325593200808953, te10037743213843438893, te10009084784789568687, te5084553986333570498, te16641277437810104112, te11875653558476324687, te1672153094372761355, te4580522010931877059, te15633551313878501473, te10735261366311057212, te13734974896645664886, te1278260381020688717, te13492767390215788210, te5069380861230907617]
theorem kE {β : Type _} (f : X → β) : (fun P => f (k0 P)) = fun P => f (k1 P) := congrArg (fun y P => f (y P)) ke
end Hd
namespace PySem.W.Fast
def tw15838240945635490237 : Program := Hd.m892v tw5069380861230907617
theorem te15838240945635490237 : Hd.m892v PySem.Challenge.pw_hideworth_k15_no_tables_refused = tw15838240945635490237 := congrArg Hd.m892v te5069380861230907617
def tw18384529121554761914 (P : Params) : Heap := @Hd.m899 (Hd.k1 P)
theorem te18384529121554761914 : (fun P => @Hd.m899 (Hd.k0 P)) = tw18384529121554761914 := Hd.kE @Hd.m899
def tw18355505939693632465 (P : Params) : BT := @Hd.m900 (Hd.k1 P)
theorem te18355505939693632465 : (fun P => @Hd.m900 (Hd.k0 P)) = tw18355505939693632465 := Hd.kE @Hd.m900
def tw8939903466239976121 : List Stmt := Hd.m902s tw5069380861230907617
theorem te8939903466239976121 : Hd.m902s PySem.Challenge.pw_hideworth_k15_no_tables_refused = tw8939903466239976121 := congrArg Hd.m902s te5069380861230907617
def tw1921592098082279865 (P : Params) : BT := @Hd.m916 (Hd.k1 P)
theorem te1921592098082279865 : (fun P => @Hd.m916 (Hd.k0 P)) = tw1921592098082279865 := Hd.kE @Hd.m916
def tw14453761932326614815 : List Stmt := Hd.m917s tw5069380861230907617
theorem te14453761932326614815 : Hd.m917s PySem.Challenge.pw_hideworth_k15_no_tables_refused = tw14453761932326614815 := congrArg Hd.m917s te5069380861230907617
def tw6610357055683378948 (P : Params) : BT := @Hd.m931 (Hd.k1 P)
theorem te6610357055683378948 : (fun P => @Hd.m931 (Hd.k0 P)) = tw6610357055683378948 := Hd.kE @Hd.m931
def tw12482548283495920937 : List Stmt := Hd.m932s tw5069380861230907617
theorem te12482548283495920937 : Hd.m932s PySem.Challenge.pw_hideworth_k15_no_tables_refused = tw12482548283495920937 := congrArg Hd.m932s te5069380861230907617
def tw218033578219260437 (P : Params) : BT := @Hd.m946 (Hd.k1 P)
theorem te218033578219260437 : (fun P => @Hd.m946 (Hd.k0 P)) = tw218033578219260437 := Hd.kE @Hd.m946
def tw8233076694216605046 : List Stmt := Hd.m947s tw5069380861230907617
theorem te8233076694216605046 : Hd.m947s PySem.Challenge.pw_hideworth_k15_no_tables_refused = tw8233076694216605046 := congrArg Hd.m947s te5069380861230907617
def tw4610244037593850380 (P : Params) : BT := @Hd.m961 (Hd.k1 P)
theorem te4610244037593850380 : (fun P => @Hd.m961 (Hd.k0 P)) = tw4610244037593850380 := Hd.kE @Hd.m961
def tw11210316023260297285 : List Stmt := Hd.m962s tw5069380861230907617
theorem te11210316023260297285 : Hd.m962s PySem.Challenge.pw_hideworth_k15_no_tables_refused = tw11210316023260297285 := congrArg Hd.m962s te5069380861230907617
def tw5375580546138830040 (P : Params) : BT := @Hd.m976 (Hd.k1 P)
theorem te5375580546138830040 : (fun P => @Hd.m976 (Hd.k0 P)) = tw5375580546138830040 := Hd.kE @Hd.m976
def tw4090007055239180744 : List Stmt := Hd.m977s tw5069380861230907617
theorem te4090007055239180744 : Hd.m977s PySem.Challenge.pw_hideworth_k15_no_tables_refused = tw4090007055239180744 := congrArg Hd.m977s te5069380861230907617
def tw16575770776922559984 (P : Params) : BT := @Hd.m991 (Hd.k1 P)
theorem te16575770776922559984 : (fun P => @Hd.m991 (Hd.k0 P)) = tw16575770776922559984 := Hd.kE @Hd.m991
def tw13609379291435542036 : List Stmt := Hd.m992s tw5069380861230907617
theorem te13609379291435542036 : Hd.m992s PySem.Challenge.pw_hideworth_k15_no_tables_refused = tw13609379291435542036 := congrArg Hd.m992s te5069380861230907617
def tw7837748712051146711 (P : Params) : BT := @Hd.m1006 (Hd.k1 P)
theorem te7837748712051146711 : (fun P => @Hd.m1006 (Hd.k0 P)) = tw7837748712051146711 := Hd.kE @Hd.m1006
def tw2490822858708438604 : List Stmt := Hd.m1007s tw5069380861230907617
theorem te2490822858708438604 : Hd.m1007s PySem.Challenge.pw_hideworth_k15_no_tables_refused = tw2490822858708438604 := congrArg Hd.m1007s te5069380861230907617
def tw2851940307519827471 (P : Params) : BT := @Hd.m1021 (Hd.k1 P)
theorem te2851940307519827471 : (fun P => @Hd.m1021 (Hd.k0 P)) = tw2851940307519827471 := Hd.kE @Hd.m1021
def tw6838148833296074761 : List Stmt := Hd.m1022s tw5069380861230907617
theorem te6838148833296074761 : Hd.m1022s PySem.Challenge.pw_hideworth_k15_no_tables_refused = tw6838148833296074761 := congrArg Hd.m1022s te5069380861230907617
def tw991549854220327406 (P : Params) : BT := @Hd.m1036 (Hd.k1 P)
theorem te991549854220327406 : (fun P => @Hd.m1036 (Hd.k0 P)) = tw991549854220327406 := Hd.kE @Hd.m1036
def tw5702990883155552497 : List Stmt := Hd.m1037s tw5069380861230907617
theorem te5702990883155552497 : Hd.m1037s PySem.Challenge.pw_hideworth_k15_no_tables_refused = tw5702990883155552497 := congrArg Hd.m1037s te5069380861230907617
def tw967605949995463534 (P : Params) : BT := @Hd.m1051 (Hd.k1 P)
theorem te967605949995463534 : (fun P => @Hd.m1051 (Hd.k0 P)) = tw967605949995463534 := Hd.kE @Hd.m1051
def tw3548136972189478680 : List Stmt := Hd.m1052s tw5069380861230907617
theorem te3548136972189478680 : Hd.m1052s PySem.Challenge.pw_hideworth_k15_no_tables_refused = tw3548136972189478680 := congrArg Hd.m1052s te5069380861230907617
def tw12878481703150526834 (P : Params) : BT := @Hd.m1066 (Hd.k1 P)
theorem te12878481703150526834 : (fun P => @Hd.m1066 (Hd.k0 P)) = tw12878481703150526834 := Hd.kE @Hd.m1066
def tw13115550240270428612 : List Stmt := Hd.m1067s tw5069380861230907617
theorem te13115550240270428612 : Hd.m1067s PySem.Challenge.pw_hideworth_k15_no_tables_refused = tw13115550240270428612 := congrArg Hd.m1067s te5069380861230907617
def tw4348814324151720219 (P : Params) : BT := @Hd.m1081 (Hd.k1 P)
theorem te4348814324151720219 : (fun P => @Hd.m1081 (Hd.k0 P)) = tw4348814324151720219 := Hd.kE @Hd.m1081
def tw1347366725230712899 : List Stmt := Hd.m1082s tw5069380861230907617
theorem te1347366725230712899 : Hd.m1082s PySem.Challenge.pw_hideworth_k15_no_tables_refused = tw1347366725230712899 := congrArg Hd.m1082s te5069380861230907617
def tw5488282164277981220 (P : Params) : BT := @Hd.m1096 (Hd.k1 P)
theorem te5488282164277981220 : (fun P => @Hd.m1096 (Hd.k0 P)) = tw5488282164277981220 := Hd.kE @Hd.m1096
def tw7508452318085651045 : List Stmt := Hd.m1097s tw5069380861230907617
theorem te7508452318085651045 : Hd.m1097s PySem.Challenge.pw_hideworth_k15_no_tables_refused = tw7508452318085651045 := congrArg Hd.m1097s te5069380861230907617
def tw6231416726209783712 (P : Params) : BT := @Hd.m1111 (Hd.k1 P)
theorem te6231416726209783712 : (fun P => @Hd.m1111 (Hd.k0 P)) = tw6231416726209783712 := Hd.kE @Hd.m1111
def tw14809615910819853326 : List Stmt := Hd.m1112s tw5069380861230907617
theorem te14809615910819853326 : Hd.m1112s PySem.Challenge.pw_hideworth_k15_no_tables_refused = tw14809615910819853326 := congrArg Hd.m1112s te5069380861230907617
def tw11239690022934746459 (P : Params) : BT := @Hd.m1126 (Hd.k1 P)
theorem te11239690022934746459 : (fun P => @Hd.m1126 (Hd.k0 P)) = tw11239690022934746459 := Hd.kE @Hd.m1126
def tw1941276703141887539 : List Stmt := Hd.m1127s tw5069380861230907617
theorem te1941276703141887539 : Hd.m1127s PySem.Challenge.pw_hideworth_k15_no_tables_refused = tw1941276703141887539 := congrArg Hd.m1127s te5069380861230907617
def tw2887443869133819975 (P : Params) : BT := @Hd.m1148 (Hd.k1 P)
theorem te2887443869133819975 : (fun P => @Hd.m1148 (Hd.k0 P)) = tw2887443869133819975 := Hd.kE @Hd.m1148
def tw11972988564289177100 : List Stmt := Hd.m1149s tw5069380861230907617
theorem te11972988564289177100 : Hd.m1149s PySem.Challenge.pw_hideworth_k15_no_tables_refused = tw11972988564289177100 := congrArg Hd.m1149s te5069380861230907617
def tw8889064530851215467 (P : Params) : BT := @Hd.m1170 (Hd.k1 P)
theorem te8889064530851215467 : (fun P => @Hd.m1170 (Hd.k0 P)) = tw8889064530851215467 := Hd.kE @Hd.m1170
def tw10565598586902954089 : List Stmt := Hd.m1171s tw5069380861230907617
theorem te10565598586902954089 : Hd.m1171s PySem.Challenge.pw_hideworth_k15_no_tables_refused = tw10565598586902954089 := congrArg Hd.m1171s te5069380861230907617
def tw11967769419683302058 (P : Params) : BT := @Hd.m1192 (Hd.k1 P)
theorem te11967769419683302058 : (fun P => @Hd.m1192 (Hd.k0 P)) = tw11967769419683302058 := Hd.kE @Hd.m1192
def tw15582168759906877680 : List Stmt := Hd.m1193s tw5069380861230907617
theorem te15582168759906877680 : Hd.m1193s PySem.Challenge.pw_hideworth_k15_no_tables_refused = tw15582168759906877680 := congrArg Hd.m1193s te5069380861230907617
def tw7123189810446002930 (P : Params) : BT := @Hd.m1242 (Hd.k1 P)
theorem te7123189810446002930 : (fun P => @Hd.m1242 (Hd.k0 P)) = tw7123189810446002930 := Hd.kE @Hd.m1242
def tw7059948002790331047 : List Stmt := Hd.m1243s tw5069380861230907617
theorem te7059948002790331047 : Hd.m1243s PySem.Challenge.pw_hideworth_k15_no_tables_refused = tw7059948002790331047 := congrArg Hd.m1243s te5069380861230907617
def tw7085425780656248774 (P : Params) : BT := @Hd.m1261 (Hd.k1 P)
theorem te7085425780656248774 : (fun P => @Hd.m1261 (Hd.k0 P)) = tw7085425780656248774 := Hd.kE @Hd.m1261
def tw1349345053309973190 : List Stmt := Hd.m1262s tw5069380861230907617
theorem te1349345053309973190 : Hd.m1262s PySem.Challenge.pw_hideworth_k15_no_tables_refused = tw1349345053309973190 := congrArg Hd.m1262s te5069380861230907617
def tw12732715899308722550 (P : Params) : BT := @Hd.m1323 (Hd.k1 P)
theorem te12732715899308722550 : (fun P => @Hd.m1323 (Hd.k0 P)) = tw12732715899308722550 := Hd.kE @Hd.m1323
def tw15243392409223310812 : List Stmt := Hd.m1324s tw5069380861230907617
theorem te15243392409223310812 : Hd.m1324s PySem.Challenge.pw_hideworth_k15_no_tables_refused = tw15243392409223310812 := congrArg Hd.m1324s te5069380861230907617
def tw12477999856186775287 (P : Params) : BT := @Hd.m1400 (Hd.k1 P)
theorem te12477999856186775287 : (fun P => @Hd.m1400 (Hd.k0 P)) = tw12477999856186775287 := Hd.kE @Hd.m1400
def tw6718003696038758199 : List Stmt := Hd.m1401s tw5069380861230907617
theorem te6718003696038758199 : Hd.m1401s PySem.Challenge.pw_hideworth_k15_no_tables_refused = tw6718003696038758199 := congrArg Hd.m1401s te5069380861230907617
def tw18273959957554846130 (P : Params) : BT := @Hd.m1464 (Hd.k1 P)
theorem te18273959957554846130 : (fun P => @Hd.m1464 (Hd.k0 P)) = tw18273959957554846130 := Hd.kE @Hd.m1464
def tw11136680039529229632 (P : Params) : Heap := @Hd.m1465 (Hd.k1 P)
theorem te11136680039529229632 : (fun P => @Hd.m1465 (Hd.k0 P)) = tw11136680039529229632 := Hd.kE @Hd.m1465
end PySem.W.Fast
end
open PySem PySem.W PyProof.Rows PySem.W.X PySem.W.ZRun
set_option maxRecDepth 100000 in
set_option maxHeartbeats 0 in
theorem PySem.Challenge.cw_hideworth_k15_no_tables_refused_holds : PySem.Challenge.rw_hideworth_k15_no_tables_refused.Holds := by
 w_on;o_law;z_head;(case hw=>w_witness2)
 k_fill
 intro w s0 s1 m0 m1 G Y fa o pm cd doc dV kV ho hd hc hD hm hg xs vs as L h1 h2 h3 h4 h5
 z_open Y L KX ZH ZN ZT
 refine My.walk_at (l:=PySem.Challenge.rw_hideworth_k15_no_tables_refused) KX (fun W=>W w s0 s1 m0 m1 G KX fa o pm cd doc dV kV ho hd hc hD hm hg xs vs as h1 h2 h3 h4 h5) (My.walk (l:=PySem.Challenge.rw_hideworth_k15_no_tables_refused) rfl rfl (fun _ _ h=>h) ?hPt ?hC ?F)
 case hPt =>
  intro w
  k_is
 case hC =>
  intro w h KX
  refine' L2.zr5 KX ?lc (by decide)
  (case lc=>k_is)
 case F =>
  intro w mg fa h KX G hmg
  refine' My.ztJ hmg (My.zuP ?hP (L2.za3 ?l0 ?c0 ?k0) (mg_of KX G ?a0) (L2.za3 ?l1 ?c1 ?k1) (mg_of KX G ?a1) (L2.za3 ?l2 ?c2 ?k2) (mg_of KX G ?a2) (L2.za3 ?l3 ?c3 ?k3) (mg_of KX G ?a3) (L2.za3 ?l4 ?c4 ?k4) (mg_of KX G ?a4) (L2.za3 ?l5 ?c5 ?k5) (mg_of KX G ?a5) (L2.za3 ?l6 ?c6 ?k6) (mg_of KX G ?a6) (L2.za3 ?l7 ?c7 ?k7) (mg_of KX G ?a7) (L2.za3 ?l8 ?c8 ?k8) (mg_of KX G ?a8) (L2.za3 ?l9 ?c9 ?k9) (mg_of KX G ?a9) (L2.za3 ?l10 ?c10 ?k10) (mg_of KX G ?a10) (L2.za3 ?l11 ?c11 ?k11) (mg_of KX G ?a11) (L2.za3 ?l12 ?c12 ?k12) (mg_of KX G ?a12) (L2.za3 ?l13 ?c13 ?k13) (mg_of KX G ?a13) (L2.za3 ?l14 ?c14 ?k14) (L2.zso ?l15 ?c15 ?k15) ?ma15 ?mf15 (L2.za3 ?l16 ?c16 ?k16) ?ma16 ?mf16 (L2.za3 ?l17 ?c17 ?k17) ?ma17 ?mf17 (L2.za3 ?l18 ?c18 ?k18) ?ma18 ?mf18 (L2.za3 ?l19 ?c19 ?k19) ?ma19 ?mf19 (L2.za3 ?l20 ?c20 ?k20) ?ma20 ?mf20 (L2.za3 ?l21 ?c21 ?k21) ?ma21 ?mf21 (L2.za3 ?l22 ?c22 ?k22) (mg_of KX G ?a22) (L2.za3 ?l23 ?c23 ?k23) (mg_of KX G ?a23) (L2.za3 ?l24 ?c24 ?k24) (mg_of KX G ?a24) (L2.za3 ?l25 ?c25 ?k25) (mg_of KX G ?a25) (L2.za3 ?l26 ?c26 ?k26) (mg_of KX G ?a26) (L2.za3 ?l27 ?c27 ?k27) (mg_of KX G ?a27) (L2.za3 ?l28 ?c28 ?k28) (mg_of KX G ?a28) (L2.za3 ?l29 ?c29 ?k29) (mg_of KX G ?a29) (L2.za3 ?l30 ?c30 ?k30) (mg_of KX G ?a30) (L2.za3 ?l31 ?c31 ?k31) (mg_of KX G ?a31) (L2.za3 ?l32 ?c32 ?k32) (mg_of KX G ?a32) (L2.za3 ?l33 ?c33 ?k33) (mg_of KX G ?a33) (L2.za3 ?l34 ?c34 ?k34) (mg_of KX G ?a34) (L2.za3 ?l35 ?c35 ?k35) (mg_of KX G ?a35) (L2.za3 ?l36 ?c36 ?k36) (mg_of KX G ?a36) (L2.za3 ?l37 ?c37 ?k37) (mg_of KX G ?a37) ⟨?cp_Board,?ch_Board,?co_Board,?cs_Board⟩ ⟨?Km_Board,?Ki_Board,?Kf_Board,?Kk_Board⟩ ?na_Board_grid ?na_Board_scale ?na_Board_idle ?na_Board_busy ?na_Board_stuck (mg_none_of KX G ?z_isinstance) (mg_none_of KX G ?z_int) (mg_none_of KX G ?z_bool) (mg_none_of KX G ?z_list) (mg_none_of KX G ?z_len) (mg_none_of KX G ?z_all) (mg_none_of KX G ?z_sum) (mg_none_of KX G ?z_min) (mg_none_of KX G ?z_max) (mg_none_of KX G ?z_enumerate) (mg_none_of KX G ?z_range) (mg_none_of KX G ?z_abs) (mg_none_of KX G ?z_zip) (mg_none_of KX G ?z_tuple) (mg_none_of KX G ?z_ValueError) (mg_of KX G ?ac_HideError) (mg_of KX G ?ac_NoNumber) (mg_of KX G ?ac_NoTable) (mg_of KX G ?ac_NoBoxes) (mg_of KX G ?ac_NoBudget) (mg_of KX G ?ac_NoOrder) (mg_of KX G ?ac_NoWeights) (mg_of KX G ?ac_TooGreat) (mg_of KX G ?ac_NoKind) (mg_of KX G ?ac_NoTree) (mg_of KX G ?ac_NoTurns) (mg_of KX G ?ac_NoPlay) (mg_of KX G ?ac_NoRow) (mg_of KX G ?ac_NoName) (mg_of KX G ?ac_NoRoad) (mg_of KX G ?ac_NoWeb) (mg_of KX G ?ac_NoPlan) (mg_of KX G ?ac_NoText) (mg_of KX G ?ac_NoPaper) (mg_of KX G ?ac_Board) (mg_of KX G ?ak_MOST) ?xc_HideError ?xc_NoTable ?xc_NoWeights ?i_k_NoNumber ?i_k_NoTable ?i_k_NoBoxes ?i_k_NoBudget ?i_k_NoOrder ?i_k_NoWeights ?i_k_TooGreat ?i_k_NoKind ?i_k_NoTree ?i_k_NoTurns ?i_k_NoPlay ?i_k_NoRow ?i_k_NoName ?i_k_NoRoad ?i_k_NoWeb ?i_k_NoPlan ?i_k_NoText ?i_k_NoPaper ?i_k_ValueError ?i_sub ?e_ga ?e_gn ?e_cl ?e_mb ?e_mo)
  (case hP=>k_is)
  (case ac_HideError=>k_is)
  (case ac_NoNumber=>k_is)
  (case ac_NoTable=>k_is)
  (case ac_NoBoxes=>k_is)
  (case ac_NoBudget=>k_is)
  (case ac_NoOrder=>k_is)
  (case ac_NoWeights=>k_is)
  (case ac_TooGreat=>k_is)
  (case ac_NoKind=>k_is)
  (case ac_NoTree=>k_is)
  (case ac_NoTurns=>k_is)
  (case ac_NoPlay=>k_is)
  (case ac_NoRow=>k_is)
  (case ac_NoName=>k_is)
  (case ac_NoRoad=>k_is)
  (case ac_NoWeb=>k_is)
  (case ac_NoPlan=>k_is)
  (case ac_NoText=>k_is)
  (case ac_NoPaper=>k_is)
  (case ac_Board=>k_is)
  (case a0=>k_is)
  (case a1=>k_is)
  (case a2=>k_is)
  (case a3=>k_is)
  (case a4=>k_is)
  (case a5=>k_is)
  (case a6=>k_is)
  (case a7=>k_is)
  (case a8=>k_is)
  (case a9=>k_is)
  (case a10=>k_is)
  (case a11=>k_is)
  (case a12=>k_is)
  (case a13=>k_is)
  (case ma15=>k_is)
  (case ma16=>k_is)
  (case ma17=>k_is)
  (case ma18=>k_is)
  (case ma19=>k_is)
  (case ma20=>k_is)
  (case ma21=>k_is)
  (case a22=>k_is)
  (case a23=>k_is)
  (case a24=>k_is)
  (case a25=>k_is)
  (case a26=>k_is)
  (case a27=>k_is)
  (case a28=>k_is)
  (case a29=>k_is)
  (case a30=>k_is)
  (case a31=>k_is)
  (case a32=>k_is)
  (case a33=>k_is)
  (case a34=>k_is)
  (case a35=>k_is)
  (case a36=>k_is)
  (case a37=>k_is)
  (case Ki_Board=>k_is)
  (case l0=>k_is)
  (case c0=>k_is)
  (case k0=>k_is)
  (case l1=>k_is)
  (case c1=>k_is)
  (case k1=>k_is)
  (case l2=>k_is)
  (case c2=>k_is)
  (case k2=>k_is)
  (case l3=>k_is)
  (case c3=>k_is)
  (case k3=>k_is)
  (case l4=>k_is)
  (case c4=>k_is)
  (case k4=>k_is)
  (case l5=>k_is)
  (case c5=>k_is)
  (case k5=>k_is)
  (case l6=>k_is)
  (case c6=>k_is)
  (case k6=>k_is)
  (case l7=>k_is)
  (case c7=>k_is)
  (case k7=>k_is)
  (case l8=>k_is)
  (case c8=>k_is)
  (case k8=>k_is)
  (case l9=>k_is)
  (case c9=>k_is)
  (case k9=>k_is)
  (case l10=>k_is)
  (case c10=>k_is)
  (case k10=>k_is)
  (case l11=>k_is)
  (case c11=>k_is)
  (case k11=>k_is)
  (case l12=>k_is)
  (case c12=>k_is)
  (case k12=>k_is)
  (case l13=>k_is)
  (case c13=>k_is)
  (case k13=>k_is)
  (case l14=>k_is)
  (case c14=>k_is)
  (case k14=>k_is)
  (case mf15=>k_is)
  (case l15=>k_is)
  (case c15=>k_is)
  (case k15=>k_is)
  (case mf16=>k_is)
  (case l16=>k_is)
  (case c16=>k_is)
  (case k16=>k_is)
  (case mf17=>k_is)
  (case l17=>k_is)
  (case c17=>k_is)
  (case k17=>k_is)
  (case mf18=>k_is)
  (case l18=>k_is)
  (case c18=>k_is)
  (case k18=>k_is)
  (case mf19=>k_is)
  (case l19=>k_is)
  (case c19=>k_is)
  (case k19=>k_is)
  (case mf20=>k_is)
  (case l20=>k_is)
  (case c20=>k_is)
  (case k20=>k_is)
  (case mf21=>k_is)
  (case l21=>k_is)
  (case c21=>k_is)
  (case k21=>k_is)
  (case l22=>k_is)
  (case c22=>k_is)
  (case k22=>k_is)
  (case l23=>k_is)
  (case c23=>k_is)
  (case k23=>k_is)
  (case l24=>k_is)
  (case c24=>k_is)
  (case k24=>k_is)
  (case l25=>k_is)
  (case c25=>k_is)
  (case k25=>k_is)
  (case l26=>k_is)
  (case c26=>k_is)
  (case k26=>k_is)
  (case l27=>k_is)
  (case c27=>k_is)
  (case k27=>k_is)
  (case l28=>k_is)
  (case c28=>k_is)
  (case k28=>k_is)
  (case l29=>k_is)
  (case c29=>k_is)
  (case k29=>k_is)
  (case l30=>k_is)
  (case c30=>k_is)
  (case k30=>k_is)
  (case l31=>k_is)
  (case c31=>k_is)
  (case k31=>k_is)
  (case l32=>k_is)
  (case c32=>k_is)
  (case k32=>k_is)
  (case l33=>k_is)
  (case c33=>k_is)
  (case k33=>k_is)
  (case l34=>k_is)
  (case c34=>k_is)
  (case k34=>k_is)
  (case l35=>k_is)
  (case c35=>k_is)
  (case k35=>k_is)
  (case l36=>k_is)
  (case c36=>k_is)
  (case k36=>k_is)
  (case l37=>k_is)
  (case c37=>k_is)
  (case k37=>k_is)
  (case cp_Board=>k_is)
  (case ch_Board=>k_is)
  (case co_Board=>k_is)
  (case cs_Board=>k_is)
  (case Km_Board=>k_is)
  (case Kf_Board=>k_is)
  (case Kk_Board=>k_is)
  (case na_Board_grid=>k_is)
  (case na_Board_scale=>k_is)
  (case na_Board_idle=>k_is)
  (case na_Board_busy=>k_is)
  (case na_Board_stuck=>k_is)
  (case z_isinstance=>k_is)
  (case z_int=>k_is)
  (case z_bool=>k_is)
  (case z_list=>k_is)
  (case z_len=>k_is)
  (case z_all=>k_is)
  (case z_sum=>k_is)
  (case z_min=>k_is)
  (case z_max=>k_is)
  (case z_enumerate=>k_is)
  (case z_range=>k_is)
  (case z_abs=>k_is)
  (case z_zip=>k_is)
  (case z_tuple=>k_is)
  (case z_ValueError=>k_is)
  (case ak_MOST=>k_is)
  (case xc_HideError=>k_exc)
  (case xc_NoTable=>k_exc)
  (case xc_NoWeights=>k_exc)
  (case i_k_NoNumber=>kit_is)
  (case i_k_NoTable=>kit_is)
  (case i_k_NoBoxes=>kit_is)
  (case i_k_NoBudget=>kit_is)
  (case i_k_NoOrder=>kit_is)
  (case i_k_NoWeights=>kit_is)
  (case i_k_TooGreat=>kit_is)
  (case i_k_NoKind=>kit_is)
  (case i_k_NoTree=>kit_is)
  (case i_k_NoTurns=>kit_is)
  (case i_k_NoPlay=>kit_is)
  (case i_k_NoRow=>kit_is)
  (case i_k_NoName=>kit_is)
  (case i_k_NoRoad=>kit_is)
  (case i_k_NoWeb=>kit_is)
  (case i_k_NoPlan=>kit_is)
  (case i_k_NoText=>kit_is)
  (case i_k_NoPaper=>kit_is)
  (case i_k_ValueError=>kit_is)
  (case i_sub=>k_is)
  (case e_ga=>k_is)
  (case e_gn=>k_is)
  (case e_cl=>k_is)
  (case e_mb=>k_is)
  (case e_mo=>k_is)
