import PyProof.Rows.All
import Wide.All
import OpenK.AllK
import Wide.FinOn
import Lean
import PyProof.EqAt
import PyProof.EqKinds
import PyProof.TupleCall
import KE.IntBitsLaws
import PyProof.NeKinds
import KE.KIsAll
import PyProof.ExcAttrAll.ValueError
import KE.RegKIsAll
import OpenK.KOwn
import PyProof.ConsumeWalk
import PyProof.SumWalkG
import PyProof.Rows.SeqCalls
import PyProof.Rows.SeqGen
import PyProof.ZipIter
import PyProof.Rows.ZipGen
import PyProof.Rows.FactsT2
import PyProof.WalkInts
import PyProof.SeqI3
import PyProof.AutoSeq1
import PyProof.WalksEnum
import PyProof.EnumMake
import KE.KSortTup
import PyProof.Rows.SortRev
import KE.KEqSeq
import PyProof.IsRules
import PyProof.ExcInit
import PyProof.InstStoreFacts
import OpenK.ZGo
import PySem.Challenge.RW_hideworth_k27_orders_refused
set_option Elab.async false
set_option linter.all false
set_option maxRecDepth 100000
namespace L2
open PySem PySem.Spec PyProof.Rows
abbrev Key:=Sum Int Str
def zuH:Key→Value→Bool
 | .inl k,v=>Value.isInt k v
 | .inr x,v=>Value.isStrOf x v
def keyH (w:World):Key→Int
 | .inl k=>hashInt k
 | .inr x=>hashStr w x
theorem zcg:∀ {k:Key} {v:Value},zuH k v=true→(∃ i t,k=Sum.inl i∧v=Value.int i t)∨(∃ x t,k=Sum.inr x∧v=Value.str x t)
 | .inl i,v,h=>by
  obtain ⟨t,e⟩:=Value.isInt_shape (k:=i) (v:=v) h
  exact .inl ⟨i,t,rfl,e⟩
 | .inr x,v,h=>by
  obtain ⟨t,e⟩:=Value.isStrOf_shape (x:=x) (v:=v) h
  exact .inr ⟨x,t,rfl,e⟩
theorem zug (a b:Int):decide ((Sum.inl a:Key)=Sum.inl b)=(a == b):=by
 by_cases e:a=b
 ·subst e;simp
 ·have h:¬ (Sum.inl a:Key)=Sum.inl b:=fun q=>e (Sum.inl.inj q)
  rw [decide_eq_false h]
  exact (beq_eq_false_iff_ne.mpr e).symm
theorem zuJ (a b:Str):decide ((Sum.inr a:Key)=Sum.inr b)=decide (a=b):=by
 by_cases e:a=b
 ·subst e;simp
 ·have h:¬ (Sum.inr a:Key)=Sum.inr b:=fun q=>e (Sum.inr.inj q)
  rw [decide_eq_false h,decide_eq_false e]
theorem zvb (a:Int) (b:Str):decide ((Sum.inl a:Key)=Sum.inr b)=false:=decide_eq_false (fun q=>nomatch q)
theorem zuR (a:Str) (b:Int):decide ((Sum.inr a:Key)=Sum.inl b)=false:=decide_eq_false (fun q=>nomatch q)
def zmD (prog:Program) (w:World):PySem.KeyKind prog w Key where
 is:=zuH
 hash:=keyH w
 inj:=fun v a b ha hb=>by
  rcases zcg ha with ⟨i,t,rfl,rfl⟩ | ⟨x,t,rfl,rfl⟩
  ·rcases zcg hb with ⟨j,u,rfl,e⟩ | ⟨y,u,rfl,e⟩
   ·injection e with e1 _;rw [e1]
   ·exact nomatch e
  ·rcases zcg hb with ⟨j,u,rfl,e⟩ | ⟨y,u,rfl,e⟩
   ·exact nomatch e
   ·injection e with e1 _;rw [e1]
 byValue:=fun k v h=>by
  rcases zcg h with ⟨i,t,rfl,rfl⟩ | ⟨x,t,rfl,rfl⟩ <;> rfl
 pyHash:=fun hv h=>by
  rcases zcg hv with ⟨i,t,rfl,rfl⟩ | ⟨x,t,rfl,rfl⟩
  ·exact wpAny_pyHash_int h
  ·exact wpAny_pyHash_str h
 eqBool:=fun hu hv h=>by
  rcases zcg hu with ⟨i,t,rfl,rfl⟩ | ⟨x,t,rfl,rfl⟩
  ·rcases zcg hv with ⟨j,u,rfl,rfl⟩ | ⟨y,u,rfl,rfl⟩
   ·rw [zug] at h;exact wpAny_eqBool_int h
   ·rw [zvb] at h;exact SeqAt.EqAt.int_str i t y u _ _ _ _ h
  ·rcases zcg hv with ⟨j,u,rfl,rfl⟩ | ⟨y,u,rfl,rfl⟩
   ·rw [zuR] at h;exact SeqAt.EqAt.str_int x t j u _ _ _ _ h
   ·rw [zuJ] at h;exact wpAny_eqBool_str h
 «strs»:=fun k x t v h=>by
  rcases zcg h with ⟨i,u,rfl,e⟩ | ⟨y,u,rfl,e⟩
  ·exact nomatch e
  ·injection e with e1 _
   subst e1
   cases v <;> rfl
end L2
namespace L2
open PySem PySem.Spec PyProof.Rows
inductive V where
 | non | bl (b:Bool) | int (i:Int) | str (x:Str) | byt (b:Array UInt8) | flt (b:UInt64) | ref (a:Addr) | ty (n:String)
 deriving DecidableEq
def zc5:V→Value→Prop
 | .non,u=>u=Value.none
 | .bl b,u=>u=Value.bool b
 | .int i,u=>∃ t,u=Value.int i t
 | .str x,u=>∃ t,u=Value.str x t
 | .byt b,u=>∃ t,u=Value.bytes b t
 | .flt b,u=>∃ t,u=Value.float b t
 | .ref a,u=>u=Value.ref a
 | .ty n,u=>u=Value.type n
abbrev zcc:List V→List Value→Prop:=Paired zc5
theorem zcc.length {xs:List V} {us:List Value} (r:zcc xs us):xs.length=us.length:=Paired.length r
theorem zcc.get:∀ {xs:List V} {us:List Value} {i:Nat} {x:V},zcc xs us→xs[i]?=some x→∃ u,us[i]?=some u∧zc5 x u
 | _,_,_,_,.nil,e=>by simp at e
 | _,_,0,_,.cons r _,e=>by simp at e;subst e;exact ⟨_,rfl,r⟩
 | _,_,i+1,x,.cons _ t,e=>by
  obtain ⟨u,h1,h2⟩:=zcc.get (i:=i) (x:=x) t (by simpa using e)
  exact ⟨u,by simpa using h1,h2⟩
theorem zcc.set {x:V} {u:Value} (r:zc5 x u):∀ {xs:List V} {us:List Value} (i:Nat),zcc xs us→zcc (xs.set i x) (us.set i u)
 | _,_,_,.nil=>.nil
 | _,_,0,.cons _ t=>.cons r t
 | _,_,i+1,.cons q t=>.cons q (zcc.set r i t)
theorem zcc.append:∀ {xs ys:List V} {us ws:List Value},zcc xs us→zcc ys ws→zcc (xs++ys) (us++ws)
 | _,_,_,_,.nil,s=>s
 | _,_,_,_,.cons r t,s=>.cons r (zcc.append t s)
theorem zcc.take:∀ {xs:List V} {us:List Value} (n:Nat),zcc xs us→zcc (xs.take n) (us.take n)
 | _,_,0,_=>.nil
 | _,_,_+1,.nil=>.nil
 | _,_,n+1,.cons r t=>.cons r (zcc.take n t)
theorem zcc.drop:∀ {xs:List V} {us:List Value} (n:Nat),zcc xs us→zcc (xs.drop n) (us.drop n)
 | _,_,0,r=>r
 | _,_,_+1,.nil=>.nil
 | _,_,n+1,.cons _ t=>zcc.drop n t
def ztI:Option V→Option Value→Prop
 | some v,some u=>zc5 v u
 | none,none=>True
 | _,_=>False
def KV {κ:Type}:List (κ×V)→List (κ×Value)→Prop:=Paired fun (p:κ×V) (q:κ×Value)=>p.1=q.1∧zc5 p.2 q.2
def kV:Key→V
 | .inl i=>.int i
 | .inr x=>.str x
inductive HO where
  | lst (xs:List V)
  | tup (xs:List V)
  | dK (kvs:List (Key×V)) | dT (kvs:List (List Key×V))
  | set (S:Int→Bool) (n:Nat)
  | ins (C dx:Addr) (fs:List (Str×V))
  | own (x:Addr)
  | xd (fs:List (Str×V))
  | met (f x:Addr)
  | rng (lo hi:Int)
  | frz (o:Obj) (u:HO)
  | tbl (ps:Array Value)
  | ext (φ:Heap→Prop)
abbrev Hp:=Addr→Option HO
def upd (H:Hp) (a:Addr) (o:HO):Hp:=fun b=>if b=a then some o else H b
theorem zai {H:Hp} {a:Addr} {o:HO}:upd H a o a=some o:=by unfold upd;rw [if_pos rfl]
theorem zaC {H:Hp} {a b:Addr} {o:HO} (h:b≠a):upd H a o b=H b:=by unfold upd;rw [if_neg h]
theorem zsD {H:Hp} {a:Addr} {o u:HO}:upd (upd H a o) a u=upd H a u:=by
 funext b;unfold upd;split <;> rfl
theorem zr9 {H:Hp} {a b:Addr} {o u:HO} (h:H a=some o) (h':H b=some u) (d:o≠u):a≠b:=by
 intro e;subst e;rw [h] at h';exact d (Option.some.inj h')
theorem zau {H:Hp} {a b:Addr} {o:HO} (h:H a=some o) (h':H b=none):a≠b:=by
 intro e;subst e;rw [h] at h';cases h'
section
variable (P:Program) (w:World)
def zcG (H:Hp) (h:Heap) (a:Addr):HO→Prop
 | .lst xs=>xs.length≤sizeLine∧∃ (its:List Value) (n:Nat),zcc xs its∧h.get? a=some { cls:=.type "list",data:=.seq its.toArray n }
 | .tup xs=>xs.length≤sizeLine∧∃ its:List Value,zcc xs its∧IsTup h a its.toArray
 | .dK kvs=>kvs.length≤sizeLine∧(a == sysModules)=false∧∃ vs,KV kvs vs∧h.DictOf (zmD P w) a vs
 | .dT kvs=>kvs.length≤sizeLine∧(a == sysModules)=false∧∃ xs:List (List Key×Addr×Value),
   Paired (fun (p:List Key×V) (q:List Key×Addr×Value)=>p.1=q.1∧H q.2.1=some (.tup (p.1.map kV))∧zc5 p.2 q.2.2) kvs xs ∧
   ∃ o es ep,h.get? a=some o∧o.ExactDict∧o.data=.dict es ep∧es.toList=xs.map (entryOfKey (tupleKind (zmD P w)))∧(xs.map (·.1)).Nodup
 | .set S n=>h.SetOf (intKind P w) a S n
 | .ins C dx fs=>H dx=some (.own a)∧fs.length≤1000∧dx≠a∧h.get? a=some (PySem.W.instObj C dx) ∧
   ∃ mA,h.Ns1 dx mA∧(∀ f,ztI (fs.lookup f) (mA f))∧PySem.Within mA (fs.map (·.1))
 | .own _=>∃ o,h.get? a=some o
 | .xd fs=>∃ mA,h.Ns1 a mA∧∀ f,ztI (fs.lookup f) (mA f)
 | .rng lo hi=>∃ t u v,h.get? a=some { cls:=.type "range",data:=.fields #[.int lo t,.int hi u,.int 1 v] }
 | .frz o u=>h.get? a=some o∧zcG H h a u
 | .tbl ps=>h.get? a=some { cls:=.none,data:=.fields ps }
 | .met f x=>h.get? a=some (PySem.W.methodObj (.ref f) (.ref x))
 | .ext φ=>φ h∧(∃ o,h.get? a=some o)∧∀ h1 h2:Heap,φ h1→(∀ o,h1.get? a=some o→h2.get? a=some o)→φ h2
def HOk (H:Hp) (h:Heap):Prop:=∀ a o,H a=some o→zcG P w H h a o
end
section
variable {P:Program} {w:World} {H H':Hp} {h h':Heap} {a:Addr} {o:HO}
theorem zcG.lt (x:zcG P w H h a o):a<h.objs.size:=by
 cases o with
 | lst xs=>obtain ⟨_,_,_,_,e⟩:=x;exact Heap.lt_size e
 | tup xs=>obtain ⟨_,_,_,p⟩:=x;exact p.lt
 | dK kvs=>obtain ⟨_,_,_,_,o,_,_,e,_⟩:=x;exact Heap.lt_size e
 | dT kvs=>obtain ⟨_,_,_,_,o,_,_,e,_⟩:=x;exact Heap.lt_size e
 | set S n=>obtain ⟨o,_,_,_,e,_⟩:=x;exact Heap.lt_size e
 | ins C dx fs=>obtain ⟨_,_,_,e,_⟩:=x;exact Heap.lt_size e
 | own y=>obtain ⟨_,e⟩:=x;exact Heap.lt_size e
 | xd fs=>obtain ⟨_,⟨_,_,_,e,_⟩,_⟩:=x;exact Heap.lt_size e
 | rng lo hi=>obtain ⟨_,_,_,e⟩:=x;exact Heap.lt_size e
 | frz ob u=>obtain ⟨e,_⟩:=x;exact Heap.lt_size e
 | tbl ps=>exact Heap.lt_size (show h.get? a=some _ from x)
 | met f y=>exact Heap.lt_size (show h.get? a=some _ from x)
 | ext φ=>obtain ⟨_,⟨_,e⟩,_⟩:=x;exact Heap.lt_size e
theorem Paired.mapP {α β:Type} {F G:α→β→Prop}:∀ {l₁:List α} {l₂:List β},Paired F l₁ l₂→(∀ a b,F a b→G a b)→Paired G l₁ l₂
 | _,_,.nil,_=>.nil
 | _,_,.cons r t,f=>.cons (f _ _ r) (Paired.mapP t f)
theorem zcG.stay (x:zcG P w H h a o) (k:∀ b u,(b=a∨H b=some (.own a))→h.get? b=some u→h'.get? b=some u)
  (ho:∀ b,H b=some (.own a)→H' b=some (.own a)) (ht:∀ b xs,H b=some (.tup xs)→H' b=some (.tup xs)):zcG P w H' h' a o:=by
 induction o with
 | lst xs=>obtain ⟨z,its,n,r,e⟩:=x;exact ⟨z,its,n,r,k _ _ (.inl rfl) e⟩
 | tup xs=>obtain ⟨z,its,r,ob,e,c⟩:=x;exact ⟨z,its,r,ob,k _ _ (.inl rfl) e,c⟩
 | dK kvs=>obtain ⟨z,y,vs,r,ob,es,ep,e,c⟩:=x;exact ⟨z,y,vs,r,ob,es,ep,k _ _ (.inl rfl) e,c⟩
 | dT kvs =>
  obtain ⟨z,y,xs,r,ob,es,ep,e,c⟩:=x
  exact ⟨z,y,xs,Paired.mapP r fun p q z=>⟨z.1,ht _ _ z.2.1,z.2.2⟩,ob,es,ep,k _ _ (.inl rfl) e,c⟩
 | set S n=>obtain ⟨ob,es,ep,t,e,c⟩:=x;exact ⟨ob,es,ep,t,k _ _ (.inl rfl) e,c⟩
 | ins C dx fs =>
  obtain ⟨d,z,ne,e,mA,⟨od,es,ep,e2,c⟩,r⟩:=x
  exact ⟨ho _ d,z,ne,k _ _ (.inl rfl) e,mA,⟨od,es,ep,k _ _ (.inr d) e2,c⟩,r⟩
 | own y=>obtain ⟨ob,e⟩:=x;exact ⟨ob,k _ _ (.inl rfl) e⟩
 | xd fs=>obtain ⟨mA,⟨od,es,ep,e,c⟩,r⟩:=x;exact ⟨mA,⟨od,es,ep,k _ _ (.inl rfl) e,c⟩,r⟩
 | rng lo hi=>obtain ⟨t,u,v,e⟩:=x;exact ⟨t,u,v,k _ _ (.inl rfl) e⟩
 | frz ob u ih=>obtain ⟨e,q⟩:=x;exact ⟨k _ _ (.inl rfl) e,ih q⟩
 | tbl ps =>
  have e:h.get? a=some { cls:=.none,data:=.fields ps }:=x
  show h'.get? a=some { cls:=.none,data:=.fields ps }
  exact k a _ (.inl rfl) e
 | met f y =>
  have e:h.get? a=some (PySem.W.methodObj (.ref f) (.ref y)):=x
  show h'.get? a=some (PySem.W.methodObj (.ref f) (.ref y))
  exact k a _ (.inl rfl) e
 | ext φ=>obtain ⟨p,⟨o,e⟩,st⟩:=x;exact ⟨st _ _ p fun o q=>k _ _ (.inl rfl) q,⟨o,k _ _ (.inl rfl) e⟩,st⟩
theorem HOk.lt (x:HOk P w H h) (e:H a=some o):a<h.objs.size:=(x a o e).lt
theorem HOk.fresh (x:HOk P w H h) (e:h.objs.size≤a):H a=none:=by
 cases q:H a with
 | none=>rfl
 | some u=>exact absurd (Nat.lt_of_lt_of_le (x.lt q) e) (Nat.lt_irrefl _)
theorem HOk.kept (x:HOk P w H h) (k:∀ b u,h.get? b=some u→h'.get? b=some u):HOk P w H h':=fun a o e =>
 (x a o e).stay (fun b u _ q=>k b u q) (fun _ q=>q) fun _ _ q=>q
theorem HOk.laid (x:HOk P w H h) (k:∀ b u,h.get? b=some u→h'.get? b=some u) (hp:h.objs.size≤a) (new:zcG P w (upd H a o) h' a o):HOk P w (upd H a o) h':=fun b u e=>by
 have hn:=x.fresh hp
 by_cases hb:b=a
 ·subst hb;rw [zai] at e;cases e;exact new
 ·rw [zaC hb] at e
  exact (x b u e).stay (fun c v _ q=>k c v q) (fun c q=>by rw [zaC (zau q hn)];exact q) fun c xs q=>by rw [zaC (zau q hn)];exact q
end
def Rd (H:Hp) (a:Addr) (u:HO):Prop:=H a=some u∨∃ o,H a=some (.frz o u)
theorem Rd.ok {P:Program} {w:World} {H:Hp} {h:Heap} {a:Addr} {u:HO} (r:Rd H a u) (x:HOk P w H h):zcG P w H h a u:=by
 rcases r with r | ⟨o,r⟩
 ·exact x a u r
 ·obtain ⟨_,q⟩:=x a _ r
  exact q
def Mut:Option HO→Prop
 | some (.lst _)=>True
 | some (.dK _)=>True
 | some (.dT _)=>True
 | some (.set _ _)=>True
 | some (.ins _ _ _)=>True
 | some (.ext _)=>True
 | _=>False
section
variable {P:Program} {w:World} {H:Hp} {h h':Heap} {x e:Addr} {o':HO}
theorem HOk.write (ok:HOk P w H h) (mu:Mut (H x)) (he:e=x∨H e=some (.own x)) (k:∀ b u,b≠e→h.get? b=some u→h'.get? b=some u) (heo:∃ u,h'.get? e=some u)
  (new:zcG P w (upd H x o') h' x o'):HOk P w (upd H x o') h':=fun b u q=>by
 have nown:∀ c y,H c=some (.own y)→c≠x:=fun c y r z=>by subst z;rw [r] at mu;exact mu
 have ntup:∀ c xs,H c=some (.tup xs)→c≠x:=fun c xs r z=>by subst z;rw [r] at mu;exact mu
 by_cases hb:b=x
 ·subst hb;rw [zai] at q;cases q;exact new
 ·rw [zaC hb] at q
  by_cases hbe:b=e
  ·have q':H b=some (.own x):=by
    rcases he with z | z
    ·exact absurd (hbe.trans z) hb
    ·rw [hbe];exact z
   rw [q] at q';cases q'
   obtain ⟨v,hv⟩:=heo
   exact ⟨v,by rw [hbe];exact hv⟩
  ·refine (ok b u q).stay (fun c v hc r=>k c v ?_ r) (fun c r=>by rw [zaC (nown c b r)];exact r) fun c xs r=>by rw [zaC (ntup c xs r)];exact r
   rcases hc with rfl | hc
   ·exact hbe
   ·rintro rfl
    rcases he with z | z
    ·exact nown c b hc z
    ·rw [hc] at z;cases z;exact hb rfl
end
structure Un (fs ex:List Addr) (H H':Hp) (h h':Heap):Prop where
 keep:∀ b o,h.get? b=some o→H b=none→b∉fs→b∉ex→h'.get? b=some o
 slot:∀ b o,h.get? b=some o→H b=none→b∈fs→b∉ex→∃ sl,h'.get? b=some { o with slots:=sl }
 free:∀ b o,h.get? b=some o→H b=none→b∉ex→H' b=none
 there:∀ b o,h.get? b=some o→b∉ex→∃ o',h'.get? b=some o'
 tups:∀ b xs,H b=some (.tup xs)→H' b=some (.tup xs)
 frzs:∀ b o u,H b=some (.frz o u)→H' b=some (.frz o u)
 tbls:∀ b ps,H b=some (.tbl ps)→∃ more,H' b=some (.tbl (ps++more))
section
variable {fs fs' ex ex':List Addr} {H H1 H2:Hp} {h h1 h2 h':Heap} {a x e:Addr} {o:HO}
theorem Un.any (u:Un fs ex H H1 h h1) {b:Addr} {ob:Obj} (q:h.get? b=some ob) (n:H b=none) (hx:b∉ex):∃ sl,h1.get? b=some { ob with slots:=sl }:=by
 by_cases hb:b∈fs
 ·exact u.slot b ob q n hb hx
 ·exact ⟨ob.slots,u.keep b ob q n hb hx⟩
theorem Un.kept (k:∀ b u,h.get? b=some u→h'.get? b=some u):Un fs ex H H h h' :=
 ⟨fun b ob q _ _ _=>k b ob q,fun b ob q _ _ _=>⟨ob.slots,k b ob q⟩,fun _ _ _ n _=>n,fun b ob q _=>⟨ob,k b ob q⟩,fun _ _ q=>q,fun _ _ _ q=>q,fun _ ps q=>⟨#[],by rw [q];simp⟩⟩
theorem Un.refl:Un fs ex H H h h:=Un.kept fun _ _ q=>q
theorem Un.laid (k:∀ b u,h.get? b=some u→h'.get? b=some u) (hp:h.objs.size≤a) (hn:H a=none):Un fs ex H (upd H a o) h h' where
 keep:=fun b u q _ _ _=>k b u q
 slot:=fun b u q _ _ _=>⟨u.slots,k b u q⟩
 free:=fun b u q n _=>by rw [zaC (Nat.ne_of_lt (Nat.lt_of_lt_of_le (Heap.lt_size q) hp))];exact n
 there:=fun b u q _=>⟨u,k b u q⟩
 tups:=fun b xs q=>by rw [zaC (zau q hn)];exact q
 frzs:=fun b u xs q=>by rw [zaC (zau q hn)];exact q
 tbls:=fun b ps q=>⟨#[],by rw [zaC (zau q hn),q];simp⟩
theorem Un.write (mu:Mut (H x)) (he:e=x∨H e=some (.own x)) (k:∀ b u,b≠e→h.get? b=some u→h'.get? b=some u) (heo:∃ u,h'.get? e=some u):Un fs ex H (upd H x o) h h':=by
 have hx:∀ b,H b=none→b≠x:=fun b n z=>by subst z;rw [n] at mu;exact mu
 have hb:∀ b,H b=none→b≠e:=fun b n z=>by
  subst z
  rcases he with r | r
  ·exact hx b n r
  ·rw [n] at r;cases r
 have hm:∀ b u,H b=some u→¬ Mut (some u)→b≠x:=fun b u q nm z=>by subst z;rw [q] at mu;exact nm mu
 refine ⟨fun b u q n _ _=>k b u (hb b n) q,fun b u q n _ _=>⟨u.slots,k b u (hb b n) q⟩,fun b u q n _=>by rw [zaC (hx b n)];exact n,fun b u q _=>?_,
  fun b xs q=>by rw [zaC (hm b _ q fun z=>z)];exact q,fun b u xs q=>by rw [zaC (hm b _ q fun z=>z)];exact q,fun b ps q=>⟨#[],by rw [zaC (hm b _ q fun z=>z),q];simp⟩⟩
 by_cases hbe:b=e
 ·subst hbe;exact heo
 ·exact ⟨u,k b u hbe q⟩
end
def trk (h:Heap) (H:Hp):List Addr:=(List.range h.objs.size).filter fun a=>(H a).isSome
def zq3 (h:Heap) (H:Hp):Heap:=PySem.W.hideAll h (trk h H)
theorem zoW (h:Heap) (H:Hp):(zq3 h H).objs.size=h.objs.size:=PySem.W.hideAll_size _ _
theorem zqV {h:Heap} {H:Hp} {b:Addr} {o:Obj} (e:h.get? b=some o) (n:H b=none):(zq3 h H).get? b=some o :=
 PySem.W.hideAll_get _ e fun hm=>by
  have q:(H b).isSome=true:=(List.mem_filter.mp hm).2
  rw [n] at q;simp at q
theorem zsT {h:Heap} {H:Hp} {b:Addr} {o:Obj} (e:(zq3 h H).get? b=some o):h.get? b=some o∧H b=none:=by
 have e':h.get? b=some o:=PySem.W.of_hideAll (trk h H) e
 refine ⟨e',?_⟩
 cases q:H b with
 | none=>rfl
 | some x =>
  have hm:b∈trk h H:=List.mem_filter.mpr ⟨List.mem_range.mpr (Heap.lt_size e'),by simp [q]⟩
  have z:(zq3 h H).get? b=none:=PySem.W.hideAll_none (trk h H) hm
  rw [z] at e;cases e
def ztL (g h:Heap) (L:Addr):List (Addr×Obj):=(List.range h.objs.size).filterMap fun a=>if a=L∨(g.get? a).isSome=true then none else (h.get? a).map fun o=>(a,o)
def rest (g h:Heap) (L d:Addr):List (Addr×Obj):=(ztL g h L).filter fun p=>decide (p.1≠d)
end L2
namespace L2
open PySem PySem.Spec PyProof.Rows
structure Mod (K:PySem.W.Frag) (mg:Str→Option Value) (base:Heap):Prop where
 kin:K.In base
 glob:base.Ns mainGlobals mg
 blt:∃ mb,base.Ns builtinsNs mb∧∀ x:Str,x≠"__name__"→mb x=bootBuiltins x
 nolimit:base.NoLimit
structure Cx where
 prog:Program
 w:World
 K:PySem.W.Frag
 mg:Str→Option Value
 base:Heap
 A:Around
 N:List Str
 s₀:Shared
 H₀:Hp
 env:Env
 outer:List Env
 stack:List Env
 ex:List Addr
 fn:Str→Bool
 calm:Bool
 pn:List (Addr×Obj)
 xe:Value→Shared→Prop
def frs (l:List Env):List Addr:=l.filterMap (·.frame)
abbrev Cx.fs (X:Cx):List Addr:=frs X.outer
def Vis (sc:Scope) (x:Str):Prop:=sc.names.lookup x=some .local∨sc.names.lookup x=some .cell∨sc.names.lookup x=some .free
def Loc (sc:Scope) (x:Str):Prop:=sc.names.lookup x=some .local∨sc.names.lookup x=some .cell
def Look (env:Env) (h:Heap) (m:Str→Option Value) (x:Str) (u:Value):Prop :=
 (env.kindOf x=some .local∧m x=some u)∨((env.kindOf x=some .cell∨env.kindOf x=some .free)∧∃ c,env.cells.lookup x=some c∧h.IsCell c (some u))
structure Cx.Ok (X:Cx):Prop where
 mod:Mod X.K X.mg X.base
 kind:X.env.scope.kind=.function
 glob:X.env.globals=mainGlobals
 blt:X.env.builtins=builtinsNs
 above:X.s₀.heap.objs.size≤X.env.locals
 inj:∀ x y c,X.env.cells.lookup x=some c→X.env.cells.lookup y=some c→x=y
 has:∀ x,(X.env.kindOf x=some .cell∨X.env.kindOf x=some .free)→∃ c,X.env.cells.lookup x=some c
 cab:∀ x c,X.fn x=true→X.env.cells.lookup x=some c→X.s₀.heap.objs.size≤c
 hd:X.calm=true→X.A.handled=none
 frames:X.A.frames=some X.stack
 stk:X.stack=X.outer∨(X.stack=X.env::X.outer∧X.env.frame=some X.env.locals)
 exf:∀ b∈X.ex,b≠X.env.locals∧∀ x c,X.env.cells.lookup x=some c→c≠b
 bs:∀ b o,X.base.get? b=some o→X.s₀.heap.get? b=some o∧X.H₀ b=none
 bsz:X.base.objs.size≤X.s₀.heap.objs.size
 noex:∀ b o,X.base.get? b=some o→b∉X.ex
 exfs:∀ b∈X.ex,b∉X.fs
 funs:X.s₀.heap.FunFrames X.base X.outer
 frf:∀ b∈X.fs,X.H₀ b=none
structure Inv (X:Cx) (pins:List (Addr×Obj)) (σ:List (Option V)) (H:Hp) (s:Shared):Prop where
 ok:X.Ok
 os:s.os=X.s₀.os
 bare:AllBare s.gens
 base:Un X.fs X.ex X.H₀ H X.s₀.heap s.heap
 loc:∃ m,s.heap.Ns X.env.locals m∧∀ (i:Nat) (x:Str) (v:V),X.N[i]?=some x→σ[i]?=some (some v)→Vis X.env.scope x→∃ u,zc5 v u∧Look X.env s.heap m x u
 cell:∀ x c,X.env.cells.lookup x=some c→∃ v,s.heap.IsCell c v
 free:H X.env.locals=none
 freeC:∀ x c,X.env.cells.lookup x=some c→H c=none
 pin:∀ p∈X.pn++pins,s.heap.get? p.1=some p.2∧H p.1=none∧p.1≠X.env.locals∧p.1∉X.fs∧∀ v,p.2.data≠.cell v
 hok:HOk X.prog X.w H s.heap
 len:σ.length=X.N.length
section
variable {X:Cx} {pins:List (Addr×Obj)} {σ:List (Option V)} {H H':Hp} {s:Shared} {h':Heap}
theorem Cx.Ok.nofr (ok:X.Ok) {b:Addr} {o:Obj} (e:X.base.get? b=some o):b∉X.fs:=fun hb=>by
 have:=(ok.funs.mem hb).1
 rw [e] at this;cases this
theorem Inv.bs (I:Inv X pins σ H s):∀ b o,X.base.get? b=some o→s.heap.get? b=some o∧H b=none:=fun b o e =>
 ⟨I.base.keep b o (I.ok.bs b o e).1 (I.ok.bs b o e).2 (I.ok.nofr e) (I.ok.noex b o e),I.base.free b o (I.ok.bs b o e).1 (I.ok.bs b o e).2 (I.ok.noex b o e)⟩
theorem Inv.bk (I:Inv X pins σ H s):∀ b o,X.base.get? b=some o→s.heap.get? b=some o:=fun b o e=>(I.bs b o e).1
theorem Inv.mod (I:Inv X pins σ H s):Mod X.K X.mg X.base:=I.ok.mod
theorem Inv.kIn (I:Inv X pins σ H s):X.K.In s.heap:=I.ok.mod.kin.keeps I.bk
theorem Inv.lt (I:Inv X pins σ H s):X.env.locals<s.heap.objs.size:=let ⟨_,hn,_⟩:=I.loc;hn.lt
theorem Inv.sz (I:Inv X pins σ H s):X.s₀.heap.objs.size≤s.heap.objs.size:=Nat.le_trans I.ok.above (Nat.le_of_lt I.lt)
theorem Inv.nofs (I:Inv X pins σ H s) {a:Addr} (h:s.heap.objs.size≤a):a∉X.fs:=fun hb=>by
 obtain ⟨_,o,ho,_⟩:=I.ok.funs.mem hb
 exact absurd (Nat.lt_of_lt_of_le (Heap.lt_size ho) (Nat.le_trans I.sz h)) (Nat.lt_irrefl _)
theorem Inv.cne (I:Inv X pins σ H s):∀ x c,X.env.cells.lookup x=some c→c≠X.env.locals:=fun x c e z=>by
 obtain ⟨v,o,ho,hd⟩:=I.cell x c e
 obtain ⟨m,⟨o',es,ep,ho',hd',_⟩,_⟩:=I.loc
 rw [z,ho'] at ho;cases ho;rw [hd'] at hd;cases hd
theorem Inv.funs (I:Inv X pins σ H s):s.heap.FunFrames X.base X.outer:=by
 have all:∀ (l:List Env),(∀ b∈frs l,b∈X.fs)→X.s₀.heap.FunFrames X.base l→s.heap.FunFrames X.base l:=by
  intro l
  induction l with
  | nil=>intro _ _;trivial
  | cons env r ih =>
   intro hs hl
   obtain ⟨hk,⟨L,o,hf,hn,ho,hd⟩,hr⟩:=hl
   have hL:L∈X.fs:=hs L (by unfold frs;rw [List.filterMap_cons,hf];exact List.mem_cons_self)
   obtain ⟨sl,e⟩:=I.base.slot L o ho (I.ok.frf L hL) hL fun z=>I.ok.exfs L z hL
   exact ⟨hk,⟨L,_,hf,hn,e,hd⟩,ih (fun b hb=>hs b (by unfold frs;rw [List.filterMap_cons,hf];exact List.mem_cons_of_mem _ hb)) hr⟩
 exact all X.outer (fun _ hb=>hb) I.ok.funs
theorem Inv.stack (I:Inv X pins σ H s):s.heap.FunFrames X.base X.stack:=by
 rcases I.ok.stk with e | ⟨e,hf⟩
 ·rw [e];exact I.funs
 ·rw [e]
  obtain ⟨m,hn,_⟩:=I.loc
  refine .cons (by rw [I.ok.kind];decide) hf hn ?_ I.funs
  exact Heap.get?_none_of_le (Nat.le_trans I.ok.bsz I.ok.above)
theorem Inv.stkSub (I:Inv X pins σ H s):∀ b∈frs X.stack,b∈X.env.locals::X.fs:=fun b hb=>by
 rcases I.ok.stk with e | ⟨e,hf⟩
 ·rw [e] at hb;exact List.mem_cons_of_mem _ hb
 ·rw [e] at hb
  unfold frs at hb
  rw [List.filterMap_cons,hf] at hb
  exact hb
theorem Inv.stkFree (I:Inv X pins σ H s):∀ b∈frs X.stack,H b=none:=fun b hb=>by
 rcases List.mem_cons.mp (I.stkSub b hb) with e | hb
 ·rw [e];exact I.free
 ·obtain ⟨_,o,ho,_⟩:=I.ok.funs.mem hb
  exact I.base.free b o ho (I.ok.frf b hb) fun z=>I.ok.exfs b z hb
theorem Inv.step {g':Array GenState} {t':Nat} {d':Drawn} {ch:List Addr} (I:Inv X pins σ H s)
  (hch:∀ b∈ch,(b∈X.ex∨X.s₀.heap.objs.size≤b)∧b≠X.env.locals∧(∀ x c,X.env.cells.lookup x=some c→c≠b)∧∀ p∈X.pn++pins,p.1≠b)
  (keep:∀ b o,b≠X.env.locals→b∉X.fs→b∉ch→s.heap.get? b=some o→H b=none→h'.get? b=some o)
  (slot:∀ b o,b≠X.env.locals→b∈X.fs→b∉ch→s.heap.get? b=some o→H b=none→∃ sl,h'.get? b=some { o with slots:=sl }) (free:∀ b o,b∉ch→s.heap.get? b=some o→H b=none→H' b=none)
  (there:∀ b o,b∉ch→s.heap.get? b=some o→∃ o',h'.get? b=some o')
  (tups:∀ b xs,H b=some (.tup xs)→H' b=some (.tup xs)) (frzs:∀ b o u,H b=some (.frz o u)→H' b=some (.frz o u)) (tbls:∀ b ps,H b=some (.tbl ps)→∃ more,H' b=some (.tbl (ps++more)))
  (ns:∀ m,s.heap.Ns X.env.locals m→h'.Ns X.env.locals m) (hok:HOk X.prog X.w H' h') (hg:AllBare g') :
  Inv X pins σ H' { s with heap:=h',gens:=g',drawn:=d',toks:=t' }:=by
 have neL:∀ b o,X.s₀.heap.get? b=some o→b≠X.env.locals:=fun b o e=>Nat.ne_of_lt (Nat.lt_of_lt_of_le (Heap.lt_size e) I.ok.above)
 have neC:∀ b o,X.s₀.heap.get? b=some o→b∉X.ex→b∉ch:=fun b o e hx hb=>by
  rcases (hch b hb).1 with z | z
  ·exact hx z
  ·exact absurd (Nat.lt_of_lt_of_le (Heap.lt_size e) z) (Nat.lt_irrefl _)
 have cellK:∀ x c,X.env.cells.lookup x=some c→∀ v,s.heap.IsCell c v→h'.IsCell c v:=fun x c e v ⟨o,ho,hd⟩=>by
  have nch:c∉ch:=fun z=>(hch c z).2.2.1 x c e rfl
  by_cases hc:c∈X.fs
  ·obtain ⟨sl,q⟩:=slot c o (I.cne x c e) hc nch ho (I.freeC x c e)
   exact ⟨_,q,hd⟩
  ·exact ⟨o,keep c o (I.cne x c e) hc nch ho (I.freeC x c e),hd⟩
 refine ⟨I.ok,I.os,hg,⟨fun b o e n hb hx=>?_,fun b o e n hb hx=>?_,fun b o e n hx=>?_,fun b o e hx=>?_,fun b xs e=>tups b xs (I.base.tups b xs e),fun b o xs e=>frzs b o xs (I.base.frzs b o xs e),fun b ps e=>?_⟩,?_,fun x c e=>?_,?_,fun x c e=>?_,fun p hp=>?_,hok,I.len⟩
 ·exact keep b o (neL b o e) hb (neC b o e hx) (I.base.keep b o e n hb hx) (I.base.free b o e n hx)
 ·obtain ⟨sl,e1⟩:=I.base.slot b o e n hb hx
  obtain ⟨sl',e2⟩:=slot b _ (neL b o e) hb (neC b o e hx) e1 (I.base.free b o e n hx)
  exact ⟨sl',e2⟩
 ·obtain ⟨o',e1⟩:=I.base.there b o e hx
  exact free b o' (neC b o e hx) e1 (I.base.free b o e n hx)
 ·obtain ⟨o',e1⟩:=I.base.there b o e hx
  exact there b o' (neC b o e hx) e1
 ·obtain ⟨m1,e1⟩:=I.base.tbls b ps e
  obtain ⟨m2,e2⟩:=tbls b _ e1
  exact ⟨m1++m2,by rw [e2,Array.append_assoc]⟩
 ·obtain ⟨m,hn,hl⟩:=I.loc
  refine ⟨m,ns m hn,fun i x v e1 e2 e3=>?_⟩
  obtain ⟨u,r,l⟩:=hl i x v e1 e2 e3
  refine ⟨u,r,?_⟩
  rcases l with l | ⟨k,c,e,z⟩
  ·exact .inl l
  ·exact .inr ⟨k,c,e,cellK x c e _ z⟩
 ·obtain ⟨v,z⟩:=I.cell x c e
  exact ⟨v,cellK x c e v z⟩
 ·obtain ⟨m,⟨o,_,_,ho,_⟩,_⟩:=I.loc
  exact free _ o (fun z=>(hch _ z).2.1 rfl) ho I.free
 ·obtain ⟨v,o,ho,hd⟩:=I.cell x c e
  exact free c o (fun z=>(hch c z).2.2.1 x c e rfl) ho (I.freeC x c e)
 ·obtain ⟨e,n,ne,nf,d⟩:=I.pin p hp
  have nch:p.1∉ch:=fun z=>(hch p.1 z).2.2.2 p hp rfl
  exact ⟨keep p.1 p.2 ne nf nch e n,free p.1 p.2 nch e n,ne,nf,d⟩
theorem Inv.un {t':Nat} (I:Inv X pins σ H s) (u:Un X.fs [] H H' s.heap h') (hok:HOk X.prog X.w H' h'):Inv X pins σ H' { s with heap:=h',toks:=t' }:=by
 obtain ⟨m,⟨o,es,ep,ho,r⟩,_⟩:=id I.loc
 obtain ⟨sl,hL⟩:=u.any ho I.free (by simp)
 exact I.step (g':=s.gens) (d':=s.drawn) (ch:=[]) (fun _ z=>nomatch z) (fun b o _ hb _ e n=>u.keep b o e n hb (by simp)) (fun b o _ hb _ e n=>u.slot b o e n hb (by simp)) (fun b o _ e n=>u.free b o e n (by simp)) (fun b o _ e=>u.there b o e (by simp)) u.tups u.frzs u.tbls (fun m' hm=>by
  obtain ⟨o',es',ep',ho',r'⟩:=hm
  rw [ho] at ho';cases ho'
  exact ⟨_,es',ep',hL,r'⟩) hok I.bare
theorem Inv.call {g':Array GenState} {t':Nat} {d':Drawn} {ch:List Addr} (I:Inv X pins σ H s) (u:Un (frs X.stack) ch H H' s.heap h') (hok:HOk X.prog X.w H' h') (hg:AllBare g')
  (hch:∀ b∈ch,(b∈X.ex∨X.s₀.heap.objs.size≤b)∧b≠X.env.locals∧(∀ x c,X.env.cells.lookup x=some c→c≠b)∧∀ p∈X.pn++pins,p.1≠b) :
  Inv X pins σ H' { s with heap:=h',gens:=g',drawn:=d',toks:=t' }:=by
 obtain ⟨m,⟨o,es,ep,ho,r⟩,_⟩:=id I.loc
 obtain ⟨sl,hL⟩:=u.any ho I.free fun z=>(hch _ z).2.1 rfl
 exact I.step (ch:=ch) hch (fun b o hL hb hc e n=>u.keep b o e n (fun z=>(List.mem_cons.mp (I.stkSub b z)).elim hL hb) hc) (fun b o _ _ hc e n=>u.any e n hc) (fun b o hc e n=>u.free b o e n hc) (fun b o hc e=>u.there b o e hc) u.tups u.frzs u.tbls (fun m' hm=>by
  obtain ⟨o',es',ep',ho',r'⟩:=hm
  rw [ho] at ho';cases ho'
  exact ⟨_,es',ep',hL,r'⟩) hok hg
theorem Inv.turned {t':Nat} {it:Addr} (I:Inv X pins σ H s) (k:∀ b o,b≠it→s.heap.get? b=some o→h'.get? b=some o) (hn:H it=none) (hL:it≠X.env.locals)
  (h1:it∈X.ex∨X.s₀.heap.objs.size≤it) (h2:∀ x c,X.env.cells.lookup x=some c→c≠it) (h3:∀ p∈X.pn++pins,p.1≠it):Inv X pins σ H { s with heap:=h',toks:=t' }:=by
 have nit:∀ b u,H b=some u→b≠it:=fun b u e z=>by rw [z,hn] at e;cases e
 refine I.step (g':=s.gens) (d':=s.drawn) (ch:=[it]) (fun b hb=>?_) (fun b o _ _ hc e _=>k b o (fun z=>hc (by simp [z])) e) (fun b o _ _ hc e _=>⟨o.slots,k b o (fun z=>hc (by simp [z])) e⟩) (fun _ _ _ _ n=>n)
  (fun b o hc e=>⟨o,k b o (fun z=>hc (by simp [z])) e⟩) (fun _ _ e=>e) (fun _ _ _ e=>e) (fun b ps e=>⟨#[],by rw [e];simp⟩) (fun m hm=>?_) (fun b u e=>?_) I.bare
 ·have e:b=it:=by simpa using hb
  subst e
  exact ⟨h1,hL,h2,h3⟩
 ·obtain ⟨o,es,ep,ho,r⟩:=hm
  exact ⟨o,es,ep,k _ o (Ne.symm hL) ho,r⟩
 ·refine (I.hok b u e).stay (fun c v hc q=>k c v ?_ q) (fun _ q=>q) fun _ _ q=>q
  rcases hc with z | z
  ·rw [z];exact nit b u e
  ·exact nit c _ z
theorem Inv.tok (I:Inv X pins σ H s) (t:Nat):Inv X pins σ H { s with toks:=t }:=I.un (h':=s.heap) (t':=t) Un.refl I.hok
theorem Inv.kept {t':Nat} (I:Inv X pins σ H s) (k:∀ b u,s.heap.get? b=some u→h'.get? b=some u):Inv X pins σ H { s with heap:=h',toks:=t' }:=I.un (Un.kept k) (I.hok.kept k)
theorem Inv.laid {a:Addr} {o:HO} {t':Nat} (I:Inv X pins σ H s) (k:∀ b u,s.heap.get? b=some u→h'.get? b=some u) (hp:s.heap.objs.size≤a) (new:zcG X.prog X.w (upd H a o) h' a o) :
  Inv X pins σ (upd H a o) { s with heap:=h',toks:=t' }:=I.un (Un.laid k hp (I.hok.fresh hp)) (I.hok.laid k hp new)
theorem Inv.write {x e:Addr} {o:HO} {t':Nat} (I:Inv X pins σ H s) (mu:Mut (H x)) (he:e=x∨H e=some (.own x)) (k:∀ b u,b≠e→s.heap.get? b=some u→h'.get? b=some u) (heo:∃ u,h'.get? e=some u)
  (new:zcG X.prog X.w (upd H x o) h' x o):Inv X pins σ (upd H x o) { s with heap:=h',toks:=t' }:=I.un (Un.write mu he k heo) (I.hok.write mu he k heo new)
theorem Inv.pins_of {pins':List (Addr×Obj)} (I:Inv X pins σ H s) (h:∀ p∈pins',s.heap.get? p.1=some p.2∧H p.1=none∧p.1≠X.env.locals∧p.1∉X.fs∧∀ v,p.2.data≠.cell v):Inv X pins' σ H s :=
 ⟨I.ok,I.os,I.bare,I.base,I.loc,I.cell,I.free,I.freeC,fun p hp=>(List.mem_append.mp hp).elim (fun z=>I.pin p (List.mem_append_left _ z)) (h p),I.hok,I.len⟩
theorem zj0 {N:List Str} (hN:N.Nodup) {i j:Nat} {x:Str} (a:N[i]?=some x) (b:N[j]?=some x):i=j:=by
 obtain ⟨h1,e1⟩:=List.getElem?_eq_some_iff.mp a
 obtain ⟨h2,e2⟩:=List.getElem?_eq_some_iff.mp b
 exact (List.getElem_inj hN).mp (e1.trans e2.symm)
theorem zlF {M:Model} {A:Around} {E:Value→Shared→Prop} {i:Nat} {x:Str} {v:V} {u:Value} {Q:Unit→Shared→Prop} (I:Inv X pins σ H s) (hN:X.N.Nodup) (hi:X.N[i]?=some x) (hx:Loc X.env.scope x) (r:zc5 v u)
  (h:∀ s',Inv X pins (σ.set i (some v)) H s'→(∃ a,Heap.SameBut a s.heap s'.heap∧(a=X.env.locals∨X.env.cells.lookup x=some a))→Q () s') (hf:X.fn x=true∨X.env.scope.names.lookup x=some .local:=by first | exact .inl rfl | exact .inr rfl | assumption):wpAny M A (storeName X.env x u) Q E s:=by
 obtain ⟨m,hn,hl⟩:=id I.loc
 have hcls:(X.env.scope.kind == .class || (X.env.scope.kind == .module&&X.env.locals != X.env.globals))=false:=by rw [I.ok.kind];rfl
 have hiσ:i<σ.length:=by rw [I.len];exact (List.getElem?_eq_some_iff.mp hi).1
 have cne:=I.cne
 have tracked:∀ {a:Addr} {h':Heap},(∃ o,s.heap.get? a=some o∧H a=none)→Heap.SameBut a s.heap h'→HOk X.prog X.w H h':=fun {a h'} ha hs b ob e=>by
  obtain ⟨_,_,hfree⟩:=ha
  refine (I.hok b ob e).stay (fun c w' hc q=>(hs.2 c ?_).trans q) (fun _ q=>q) fun _ _ q=>q
  rintro rfl
  rcases hc with rfl | hc
  ·rw [hfree] at e;cases e
  ·rw [hfree] at hc;cases hc
 rcases hx with hk | hk
 ·refine wpAny_storeName_local hk hn (fun h' hn' hs=>?_) hcls
  obtain ⟨oL,_,_,hoL,_⟩:=id hn
  refine h _ ⟨I.ok,I.os,I.bare,⟨fun b o e n hb hx=>?_,fun b o e n hb hx=>?_,I.base.free,fun b o e hx=>?_,I.base.tups,I.base.frzs,I.base.tbls⟩,⟨_,hn',fun j y v' e1 e2 e3=>?_⟩,fun y c e=>?_,I.free,I.freeC,fun p hp=>?_,tracked ⟨oL,hoL,I.free⟩ hs,by simpa using I.len⟩ ⟨_,hs,.inl rfl⟩
  ·exact (hs.2 b (Nat.ne_of_lt (Nat.lt_of_lt_of_le (Heap.lt_size e) I.ok.above))).trans (I.base.keep b o e n hb hx)
  ·obtain ⟨sl,e1⟩:=I.base.slot b o e n hb hx
   exact ⟨sl,(hs.2 b (Nat.ne_of_lt (Nat.lt_of_lt_of_le (Heap.lt_size e) I.ok.above))).trans e1⟩
  ·obtain ⟨o',e1⟩:=I.base.there b o e hx
   exact ⟨o',(hs.2 b (Nat.ne_of_lt (Nat.lt_of_lt_of_le (Heap.lt_size e) I.ok.above))).trans e1⟩
  ·by_cases hj:j=i
   ·subst hj
    rw [hi] at e1;cases e1
    rw [List.getElem?_set_self hiσ] at e2
    cases e2
    exact ⟨u,r,.inl ⟨hk,by simp⟩⟩
   ·rw [List.getElem?_set_ne (Ne.symm hj)] at e2
    obtain ⟨u',r',q⟩:=hl j y v' e1 e2 e3
    refine ⟨u',r',?_⟩
    rcases q with ⟨k,e⟩ | ⟨k,c,e,z⟩
    ·refine .inl ⟨k,?_⟩
     have:y≠x:=fun e=>hj (zj0 hN e1 (e ▸ hi))
     simp [this,e]
    ·exact .inr ⟨k,c,e,z.sameBut hs (cne y c e)⟩
  ·obtain ⟨w',z⟩:=I.cell y c e
   exact ⟨w',z.sameBut hs (cne y c e)⟩
  ·obtain ⟨e,n,ne,nf,d⟩:=I.pin p hp
   exact ⟨(hs.2 p.1 ne).trans e,n,ne,nf,d⟩
 ·have hfn:X.fn x=true:=by
   rcases hf with z | z
   ·exact z
   ·rw [z] at hk;cases hk
  obtain ⟨c,hc⟩:=I.ok.has x (.inl hk)
  obtain ⟨w',z⟩:=I.cell x c hc
  refine wpAny_storeName_cell I.ok.kind hk hc z (fun h' hc' hs=>?_)
  obtain ⟨oc,hoc,hocd⟩:=id z
  refine h { s with heap:=h' } ⟨I.ok,I.os,I.bare,⟨fun b o e n hb hx=>?_,fun b o e n hb hx=>?_,I.base.free,fun b o e hx=>?_,I.base.tups,I.base.frzs,I.base.tbls⟩,⟨m,hn.sameBut hs (Ne.symm (cne x c hc)),fun j y v' e1 e2 e3=>?_⟩,fun y c' e=>?_,I.free,I.freeC,fun p hp=>?_,tracked ⟨oc,hoc,I.freeC x c hc⟩ hs,by simpa using I.len⟩ ⟨c,hs,.inr hc⟩
  ·exact (hs.2 b (Nat.ne_of_lt (Nat.lt_of_lt_of_le (Heap.lt_size e) (I.ok.cab x c hfn hc)))).trans (I.base.keep b o e n hb hx)
  ·obtain ⟨sl,e1⟩:=I.base.slot b o e n hb hx
   exact ⟨sl,(hs.2 b (Nat.ne_of_lt (Nat.lt_of_lt_of_le (Heap.lt_size e) (I.ok.cab x c hfn hc)))).trans e1⟩
  ·obtain ⟨o',e1⟩:=I.base.there b o e hx
   exact ⟨o',(hs.2 b (Nat.ne_of_lt (Nat.lt_of_lt_of_le (Heap.lt_size e) (I.ok.cab x c hfn hc)))).trans e1⟩
  ·by_cases hj:j=i
   ·subst hj
    rw [hi] at e1;cases e1
    rw [List.getElem?_set_self hiσ] at e2
    cases e2
    exact ⟨u,r,.inr ⟨.inl hk,c,hc,hc'⟩⟩
   ·rw [List.getElem?_set_ne (Ne.symm hj)] at e2
    obtain ⟨u',r',q⟩:=hl j y v' e1 e2 e3
    refine ⟨u',r',?_⟩
    rcases q with q | ⟨k,c',e,z'⟩
    ·exact .inl q
    ·refine .inr ⟨k,c',e,z'.sameBut hs ?_⟩
     rintro rfl
     exact hj (zj0 hN e1 (I.ok.inj _ _ _ e hc ▸ hi))
  ·by_cases hcc:c'=c
   ·subst hcc;exact ⟨_,hc'⟩
   ·obtain ⟨w2,z2⟩:=I.cell y c' e
    exact ⟨w2,z2.sameBut hs hcc⟩
  ·obtain ⟨e,n,ne,nf,d⟩:=I.pin p hp
   refine ⟨(hs.2 p.1 ?_).trans e,n,ne,nf,d⟩
   intro q
   rw [q,hoc] at e
   have q':oc=p.2:=Option.some.inj e
   exact d w' (by rw [← q'];exact hocd)
theorem zje {M:Model} {A:Around} {E:Value→Shared→Prop} {i:Nat} {x:Str} {v:V} {u:Value} {Q:Unit→Shared→Prop} (I:Inv X pins σ H s) (hN:X.N.Nodup) (hi:X.N[i]?=some x) (hx:Loc X.env.scope x) (r:zc5 v u)
  (h:∀ s',Inv X pins (σ.set i (some v)) H s'→Q () s') (hf:X.fn x=true∨X.env.scope.names.lookup x=some .local:=by first | exact .inl rfl | exact .inr rfl | assumption):wpAny M A (storeName X.env x u) Q E s :=
 zlF I hN hi hx r (fun s' I' _=>h s' I') hf
theorem Inv.call' {s':Shared} {ch:List Addr} (I:Inv X pins σ H s) (ho:s'.os=s.os) (u:Un (frs X.stack) ch H H' s.heap s'.heap) (hok:HOk X.prog X.w H' s'.heap) (hg:AllBare s'.gens)
  (hch:∀ b∈ch,(b∈X.ex∨X.s₀.heap.objs.size≤b)∧b≠X.env.locals∧(∀ x c,X.env.cells.lookup x=some c→c≠b)∧∀ p∈X.pn++pins,p.1≠b):Inv X pins σ H' s':=by
 obtain ⟨h',g',d',t',o'⟩:=s'
 have e:o'=s.os:=ho
 subst e
 exact I.call (g':=g') (t':=t') (d':=d') u hok hg hch
end
abbrev XK:=Value→Option Addr→Hp→Prop
abbrev St:=List (Option V)
abbrev VK:=V→Hp→Prop
abbrev TE:=St→Hp→VK→Prop
abbrev TT:=St→Hp→(Bool→Hp→Prop)→Prop
abbrev TA:=St→Hp→(List V→Hp→Prop)→Prop
structure zb5 where
 nx:St→Hp→Prop
 rt:VK
 bk:St→Hp→Prop:=fun _ _=>False
 ct:St→Hp→Prop:=fun _ _=>False
abbrev TS:=zb5→St→Hp→Prop
def EP (X:Cx) (pins:List (Addr×Obj)) (σ:St) (Q:VK) (u:Value) (s':Shared):Prop:=∃ v H',Inv X pins σ H' s'∧zc5 v u∧Q v H'
def TP (X:Cx) (pins:List (Addr×Obj)) (σ:St) (Q:Bool→Hp→Prop) (b:Bool) (s':Shared):Prop:=∃ H',Inv X pins σ H' s'∧Q b H'
def AP (X:Cx) (pins:List (Addr×Obj)) (σ:St) (Q:List V→Hp→Prop) (us:List Value) (s':Shared):Prop:=∃ vs H',Inv X pins σ H' s'∧zcc vs us∧Q vs H'
def SP (X:Cx) (pins:List (Addr×Obj)) (D:zb5) (f:Flow) (s':Shared):Prop :=
 match f with
 | .next=>∃ σ' H',Inv X pins σ' H' s'∧D.nx σ' H'
 | .brk=>∃ σ' H',Inv X pins σ' H' s'∧D.bk σ' H'
 | .cont=>∃ σ' H',Inv X pins σ' H' s'∧D.ct σ' H'
 | .ret u=>∃ v σ' H',Inv X pins σ' H' s'∧zc5 v u∧D.rt v H'
def PE (X:Cx) (e:Expr) (t:TE):Prop :=
 ∀ (pins:List (Addr×Obj)) (s:Shared) (σ:St) (H:Hp) (Q:VK),Inv X pins σ H s→t σ H Q→wpAny (model X.prog X.w) X.A (eval e X.env) (EP X pins σ Q) X.xe s
def PT (X:Cx) (e:Expr) (t:TT):Prop :=
 ∀ (pins:List (Addr×Obj)) (s:Shared) (σ:St) (H:Hp) (Q:Bool→Hp→Prop),Inv X pins σ H s→t σ H Q→wpAny (model X.prog X.w) X.A (isTrue e X.env (eval e X.env)) (TP X pins σ Q) X.xe s
def PW (X:Cx) (e:Expr) (t:TT):Prop :=
 ∀ (whole:Sem Value) (pins:List (Addr×Obj)) (s:Shared) (σ:St) (H:Hp) (Q:Bool→Hp→Prop),Inv X pins σ H s→t σ H Q→wpAny (model X.prog X.w) X.A (isTrue e X.env whole) (TP X pins σ Q) X.xe s
theorem PW.pt {X:Cx} {e:Expr} {t:TT} (h:PW X e t):PT X e t:=h _
def PA (X:Cx) (es:List Expr) (t:TA):Prop :=
 ∀ (pos:Pos) (pins:List (Addr×Obj)) (s:Shared) (σ:St) (H:Hp) (Q:List V→Hp→Prop),Inv X pins σ H s→t σ H Q→wpAny (model X.prog X.w) X.A (spliced (backTo pos (starEach es X.env))) (AP X pins σ Q) X.xe s
def PS (X:Cx) (st:Stmt) (t:TS):Prop :=
 ∀ (pins:List (Addr×Obj)) (s:Shared) (σ:St) (H:Hp) (D:zb5),Inv X pins σ H s→t D σ H→wpAny (model X.prog X.w) X.A (exec st X.env) (SP X pins D) X.xe s
def PSs (X:Cx) (st:List Stmt) (t:TS):Prop :=
 ∀ (pins:List (Addr×Obj)) (s:Shared) (σ:St) (H:Hp) (D:zb5),Inv X pins σ H s→t D σ H→wpAny (model X.prog X.w) X.A (execs st X.env) (SP X pins D) X.xe s
theorem thn {α:Type} {t:Sem α} {Q Q':α→Shared→Prop} {M:Model} {A:Around} {E:Value→Shared→Prop} {s:Shared} (h:wpAny M A t Q E s) (hQ:∀ a s,Q a s→Q' a s):wpAny M A t Q' E s:=wpAny_mono h hQ fun _ _ x=>x
end L2
namespace L2
open PySem PySem.Spec PyProof.Rows
section
variable {X:Cx}
def zac (i:Nat):TE:=fun σ H Q=>∃ v,σ[i]?=some (some v)∧Q v H
def tC (v:V):TE:=fun _ H Q=>Q v H
theorem zvk {i:Nat} {x:Str} {pos:Pos} (hN:X.N[i]?=some x) (hv:Vis X.env.scope x) (hd:(x == ("__debug__":Str))=false:=by decide) (hcd:(x == ("__classdict__":Str))=false:=by decide):PE X (.Name x pos) (zac i):=by
 intro pins s σ H Q I h
 obtain ⟨v,e,h⟩:=h
 obtain ⟨m,hn,hl⟩:=I.loc
 obtain ⟨u,r,l⟩:=hl i x v hN e hv
 have fin:EP X pins σ Q u s:=⟨v,H,I,r,h⟩
 rcases l with ⟨hk,hm⟩ | ⟨hk,c,hc,hcell⟩
 ·exact wpAny_Name (wpAny_loadName_local I.ok.kind hk hn hm fin) hd
 ·rcases hk with hk | hk
  ·exact wpAny_Name (wpAny_loadName_cell I.ok.kind hk hc hcell fin) hd
  ·exact wpAny_Name (wpAny_loadName_free I.ok.kind hk hc hcell fin hcd) hd
theorem zag {i j pos}:PE X (.Constant (.int i) j pos) (tC (.int i)):=fun _ _ _ H _ I h=>wpAny_Constant_int ⟨.int i,H,I.tok _,⟨_,rfl⟩,h⟩
theorem zgZ {b j pos}:PE X (.Constant (.bool b) j pos) (tC (.bl b)):=fun _ _ _ H _ I h=>Constant_bool ⟨.bl b,H,I,rfl,h⟩
theorem zgG {j pos}:PE X (.Constant .none j pos) (tC .non):=fun _ _ _ H _ I h=>Constant_none ⟨.non,H,I,rfl,h⟩
theorem zc6 {x j pos}:PE X (.Constant (.str x) j pos) (tC (.str x)):=fun _ _ _ H _ I h=>Calls.Constant_str ⟨.str x,H,I.tok _,⟨_,rfl⟩,h⟩
def Gl (X:Cx) (x:Str):Prop:=X.env.kindOf x=some .globalImplicit
theorem zfD {E:Value→Shared→Prop} {pins:List (Addr×Obj)} {s:Shared} {σ:St} {H:Hp} {x:Str} {u:Value} {pos:Pos} {Q:Value→Shared→Prop} (I:Inv X pins σ H s) (hg:Gl X x) (hm:X.mg x=some u) (h:Q u s)
  (hd:(x == ("__debug__":Str))=false:=by decide):wpAny (model X.prog X.w) X.A (eval (.Name x pos) X.env) Q E s :=
 Calls.Name_function_global I.ok.kind hg (Calls.loadGlobal_global (by rw [I.ok.glob];exact I.mod.glob.keeps I.bk) hm h) hd
theorem zgF {E:Value→Shared→Prop} {pins:List (Addr×Obj)} {s:Shared} {σ:St} {H:Hp} {x:Str} {u:Value} {pos:Pos} {Q:Value→Shared→Prop} (I:Inv X pins σ H s) (hg:Gl X x) (hm:X.mg x=none) (hv:bootBuiltins x=some u) (h:Q u s)
  (hn:x≠"__name__":=by decide) (hd:(x == ("__debug__":Str))=false:=by decide):wpAny (model X.prog X.w) X.A (eval (.Name x pos) X.env) Q E s:=by
 obtain ⟨mb,h1,h2⟩:=I.mod.blt
 exact Calls.Name_function_global I.ok.kind hg (Calls.loadGlobal_builtin (by rw [I.ok.glob];exact I.mod.glob.keeps I.bk) hm (by rw [I.ok.blt];exact h1.keeps I.bk) ((h2 x hn).trans hv) h) hd
theorem zbY {x:Str} {v:V} {u:Value} {pos:Pos} (hg:Gl X x) (hm:X.mg x=some u) (r:zc5 v u) (hd:(x == ("__debug__":Str))=false:=by decide):PE X (.Name x pos) (tC v) :=
 fun _ _ _ H _ I h=>zfD I hg hm ⟨v,H,I,r,h⟩ hd
theorem zex {x:Str} {v:V} {u:Value} {pos:Pos} (hg:Gl X x) (hm:X.mg x=none) (hv:bootBuiltins x=some u) (r:zc5 v u) (hn:x≠"__name__":=by decide) (hd:(x == ("__debug__":Str))=false:=by decide):PE X (.Name x pos) (tC v) :=
 fun _ _ _ H _ I h=>zgF I hg hm hv ⟨v,H,I,r,h⟩ hn hd
variable {a b:Expr} {ta tb:TE} {pos:Pos}
def PC (X:Cx) (op:CmpOp) (a b:Expr) (t:TE):Prop :=
 ∀ (pins:List (Addr×Obj)) (s:Shared) (σ:St) (H:Hp) (Q:VK),Inv X pins σ H s→t σ H Q →
  wpAny (model X.prog X.w) X.A (eval a X.env) (fun v s₁=>wpAny (model X.prog X.w) X.A (eval b X.env) (fun u s₂=>wpAny (model X.prog X.w) X.A (compareOp op v u) (EP X pins σ Q) X.xe s₂) X.xe s₁) X.xe s
def tB (t:TE):TT:=fun σ H Q=>t σ H fun x H1=>∃ c,x=.bl c∧Q c H1
theorem zcW {e:Expr} {t:TE} (h:PE X e t) (he:∀ whole,isTrue e X.env whole=(do let v ← whole;standAt e.pos;holding [v] (truthy v)):=by intro _;rfl):PT X e (tB t):=by
 intro pins s σ H Q I hw
 refine isTrue_plain (thn (h pins s σ H _ I hw) fun v s1 hQ'=>?_) (he _)
 obtain ⟨x,H1,I1,r1,q1⟩:=hQ'
 obtain ⟨d,rfl,q⟩:=q1
 cases r1
 exact wpAny_truthy_bool ⟨H1,I1,q⟩
variable {tA tB':TT} {rest:List Expr}
def zpP (t u:TT):TT:=fun σ H Q=>t σ H fun c H1=>if c=true then u σ H1 Q else Q false H1
def tOr (t u:TT):TT:=fun σ H Q=>t σ H fun c H1=>if c=true then Q true H1 else u σ H1 Q
def zii (t:TT):TT:=fun σ H Q=>t σ H fun c H1=>Q (!c) H1
theorem zlZ (ha:PT X a tA):PW X (.BoolOp .And [a] pos) tA:=by
 intro wh pins s σ H Q I h
 refine isTrue_and (thn (ha pins s σ H Q I h) fun c s1 e=>?_)
 cases c with
 | true=>exact isTrue_and_nil e
 | false=>exact e
theorem zig (ha:PT X a tA):PW X (.BoolOp .Or [a] pos) tA:=by
 intro wh pins s σ H Q I h
 refine isTrue_or (thn (ha pins s σ H Q I h) fun c s1 e=>?_)
 cases c with
 | false=>exact isTrue_or_nil e
 | true=>exact e
theorem zmJ (ha:PT X a tA) (hb:PW X (.BoolOp .And (b::rest) pos) tB'):PW X (.BoolOp .And (a::b::rest) pos) (zpP tA tB'):=by
 intro wh pins s σ H Q I h
 refine isTrue_and (thn (ha pins s σ H _ I h) fun c s1 hQ'=>?_)
 obtain ⟨H1,I1,q1⟩:=hQ'
 cases c with
 | true=>exact hb wh pins s1 σ H1 Q I1 q1
 | false=>exact ⟨H1,I1,q1⟩
theorem zkU (ha:PT X a tA) (hb:PW X (.BoolOp .Or (b::rest) pos) tB'):PW X (.BoolOp .Or (a::b::rest) pos) (tOr tA tB'):=by
 intro wh pins s σ H Q I h
 refine isTrue_or (thn (ha pins s σ H _ I h) fun c s1 hQ'=>?_)
 obtain ⟨H1,I1,q1⟩:=hQ'
 cases c with
 | true=>exact ⟨H1,I1,q1⟩
 | false=>exact hb wh pins s1 σ H1 Q I1 q1
theorem zeE (ha:PT X a tA):PT X (.UnaryOp .Not a pos) (zii tA):=by
 intro pins s σ H Q I h
 exact isTrue_not (ha pins s σ H (fun c H1=>Q (!c) H1) I h)
def zf8 (ta tb:TE):TE:=fun σ H Q=>ta σ H fun x H1=>∃ c,x=.bl c∧if c=true then tb σ H1 Q else Q (.bl false) H1
def zop (ta:TE):TE:=fun σ H Q=>ta σ H fun x H1=>∃ c,x=.bl c∧Q (.bl (!c)) H1
theorem zi6 {op} {t:TE} (h:PE X a t):PE X (.BoolOp op [a] pos) t:=fun pins s σ H Q I hw=>BoolOp_one (h pins s σ H Q I hw)
theorem zhF (ha:PE X a ta) (hb:PE X (.BoolOp .And (b::rest) pos) tb):PE X (.BoolOp .And (a::b::rest) pos) (zf8 ta tb):=by
 intro pins s σ H Q I h
 refine BoolOp_and (thn (ha pins s σ H _ I h) fun v s1 hQ'=>?_)
 obtain ⟨x,H1,I1,r1,q1⟩:=hQ'
 obtain ⟨c,rfl,q1⟩:=q1
 cases r1
 refine wpAny_truthy_bool ?_
 cases c with
 | true=>exact hb pins s1 σ H1 Q I1 q1
 | false=>exact ⟨.bl false,H1,I1,rfl,q1⟩
theorem zrJ (ha:PE X a ta):PE X (.UnaryOp .Not a pos) (zop ta):=by
 intro pins s σ H Q I h
 refine UnaryOp_ (thn (ha pins s σ H _ I h) fun v s1 hQ'=>?_)
 obtain ⟨x,H1,I1,r1,q1⟩:=hQ'
 obtain ⟨c,rfl,q1⟩:=q1
 cases r1
 exact not_of (wpAny_truthy_bool ⟨.bl (!c),H1,I1,rfl,q1⟩)
end
end L2
namespace L2
open PySem PySem.Spec PyProof.Rows
def SqL (K:PySem.W.Frag) (H:Hp) (a:Addr) (xs:List V):Prop :=
 Rd H a (.lst xs) ∨
  ∃ (o:Obj) (its:Array Value) (n:Nat),K.lookup a=some o∧o.cls=.type "list"∧o.dict=none∧o.data=.seq its n∧its.size≤sizeLine∧zcc xs its.toList
def SqT (K:PySem.W.Frag) (H:Hp) (a:Addr) (xs:List V):Prop :=
 Rd H a (.tup xs) ∨
  ∃ (o:Obj) (its:Array Value) (n:Nat),K.lookup a=some o∧o.cls=.type "tuple"∧o.data=.seq its n∧its.size≤sizeLine∧zcc xs its.toList
def absV:Value→Option V
 | .none=>some .non
 | .bool b=>some (.bl b)
 | .int i _=>some (.int i)
 | .str x _=>some (.str x)
 | .bytes b _=>some (.byt b)
 | .float b _=>some (.flt b)
 | .ref a=>some (.ref a)
 | .type n=>some (.ty n)
 | _=>none
theorem zc5.abs {x:V} {u:Value} (r:zc5 x u):absV u=some x:=by
 cases x with
 | non=>cases r;rfl
 | bl _=>cases r;rfl
 | int _=>obtain ⟨t,rfl⟩:=r;rfl
 | str _=>obtain ⟨t,rfl⟩:=r;rfl
 | byt _=>obtain ⟨t,rfl⟩:=r;rfl
 | flt _=>obtain ⟨t,rfl⟩:=r;rfl
 | ref _=>cases r;rfl
 | ty _=>cases r;rfl
theorem zc5.inj {x y:V} {u:Value} (r:zc5 x u) (q:zc5 y u):x=y:=Option.some.inj (r.abs.symm.trans q.abs)
theorem zcc.inj:∀ {xs ys:List V} {us:List Value},zcc xs us→zcc ys us→xs=ys
 | _,_,_,.nil,.nil=>rfl
 | _,_,_,.cons r t,.cons r' t'=>by rw [r.inj r',zcc.inj t t']
section
variable {X:Cx} {pins:List (Addr×Obj)} {σ:St} {H:Hp} {s:Shared} {a:Addr} {xs ys:List V}
theorem SqL.of {K:PySem.W.Frag} (h:H a=some (.lst xs)):SqL K H a xs:=.inl (.inl h)
theorem SqT.of {K:PySem.W.Frag} (h:H a=some (.tup xs)):SqT K H a xs:=.inl (.inl h)
theorem Inv.list (I:Inv X pins σ H s) (h:SqL X.K H a xs):∃ its:List Value,zcc xs its∧PlainL s.heap a its.toArray∧xs.length≤sizeLine:=by
 rcases h with h | ⟨o,its,n,hk,hc,hd,hs,hz,r⟩
 ·obtain ⟨z,its,n,r,e⟩:=h.ok I.hok
  exact ⟨its,r,⟨_,n,e,rfl,rfl,rfl⟩,z⟩
 ·refine ⟨its.toList,r,⟨o,n,I.kIn a o hk,hc,hd,by simpa using hs⟩,?_⟩
  have e:=r.length
  simp only [Array.length_toList] at e
  (first|lia|omega)
theorem Inv.tuple (I:Inv X pins σ H s) (h:SqT X.K H a xs):∃ its:List Value,zcc xs its∧IsTup s.heap a its.toArray∧xs.length≤sizeLine:=by
 rcases h with h | ⟨o,its,n,hk,hc,hs,hz,r⟩
 ·obtain ⟨z,its,r,p⟩:=h.ok I.hok
  exact ⟨its,r,p,z⟩
 ·refine ⟨its.toList,r,⟨o,I.kIn a o hk,hc,n,by simpa using hs⟩,?_⟩
  have e:=r.length
  simp only [Array.length_toList] at e
  (first|lia|omega)
theorem Inv.list_inj (I:Inv X pins σ H s) (h:SqL X.K H a xs) (h':SqL X.K H a ys):xs=ys:=by
 obtain ⟨its,r,⟨o,n,e,_,_,d⟩,_⟩:=I.list h
 obtain ⟨its',r',⟨o',n',e',_,_,d'⟩,_⟩:=I.list h'
 rw [e] at e';cases e'
 rw [d] at d'
 injection d' with d1 _
 have:its=its':=by simpa using congrArg Array.toList d1
 subst this
 exact r.inj r'
end
abbrev Cx.wish (X:Cx) (E:Value→Shared→Prop):Cx:={ X with xe:=E }
abbrev Cx.nox (X:Cx):Cx:=X.wish fun _ _=>False
theorem Cx.Ok.wish {X:Cx} (ok:X.Ok) (E:Value→Shared→Prop):(X.wish E).Ok :=
 ⟨ok.mod,ok.kind,ok.glob,ok.blt,ok.above,ok.inj,ok.has,ok.cab,ok.hd,ok.frames,ok.stk,ok.exf,ok.bs,ok.bsz,ok.noex,ok.exfs,ok.funs,ok.frf⟩
theorem Cx.Ok.unwish {X:Cx} {E:Value→Shared→Prop} (ok:(X.wish E).Ok):X.Ok :=
 ⟨ok.mod,ok.kind,ok.glob,ok.blt,ok.above,ok.inj,ok.has,ok.cab,ok.hd,ok.frames,ok.stk,ok.exf,ok.bs,ok.bsz,ok.noex,ok.exfs,ok.funs,ok.frf⟩
section
variable {X:Cx} {pins:List (Addr×Obj)} {σ:St} {H:Hp} {s:Shared} {E:Value→Shared→Prop}
theorem Inv.wish (I:Inv X pins σ H s) (E:Value→Shared→Prop):Inv (X.wish E) pins σ H s:=⟨I.ok.wish E,I.os,I.bare,I.base,I.loc,I.cell,I.free,I.freeC,I.pin,I.hok,I.len⟩
theorem Inv.unwish (I:Inv (X.wish E) pins σ H s):Inv X pins σ H s:=⟨I.ok.unwish,I.os,I.bare,I.base,I.loc,I.cell,I.free,I.freeC,I.pin,I.hok,I.len⟩
theorem SP.unwish {D:zb5} {f:Flow} {s':Shared} (h:SP (X.wish E) pins D f s'):SP X pins D f s':=by
 cases f with
 | next=>obtain ⟨σ',H',I,q⟩:=h;exact ⟨σ',H',I.unwish,q⟩
 | brk=>obtain ⟨σ',H',I,q⟩:=h;exact ⟨σ',H',I.unwish,q⟩
 | cont=>obtain ⟨σ',H',I,q⟩:=h;exact ⟨σ',H',I.unwish,q⟩
 | ret u=>obtain ⟨v,σ',H',I,r,q⟩:=h;exact ⟨v,σ',H',I.unwish,r,q⟩
theorem PSs.nox {st:List Stmt} {t:TS} (h:PSs X.nox st t):PSs X st t:=fun pins s σ H D I hw =>
 wpAny_mono (h pins s σ H D (I.wish _) hw) (fun _ _ q=>q.unwish) fun _ _ z=>False.elim z
end
section
variable {X:Cx} {st:Stmt} {rest:List Stmt} {t u:TS} {e:Expr} {te:TE} {pos:Pos}
def zaR:TS:=fun D σ H=>D.nx σ H
def zaG (t u:TS):TS:=fun D σ H=>t { D with nx:=u D } σ H
theorem zaQ:PSs X [] zaR:=fun _ _ σ H _ I h=>wpAny_execs_nil ⟨σ,H,I,h⟩
theorem zaf (h1:PS X st t) (h2:PSs X rest u):PSs X (st::rest) (zaG t u):=by
 intro pins s σ H D I h
 refine wpAny_execs_cons (thn (h1 pins s σ H { D with nx:=u D } I h) fun f s1 q=>?_)
 cases f with
 | next =>
  obtain ⟨σ',H',I',q⟩:=q
  exact h2 pins s1 σ' H' D I' q
 | ret v=>exact q
 | brk=>exact q
 | cont=>exact q
theorem zam (h1:PS X st t):PSs X [st] t:=by
 intro pins s σ H D I h
 refine wpAny_execs_cons (thn (h1 pins s σ H D I h) fun f s1 q=>?_)
 cases f with
 | next=>exact wpAny_execs_nil q
 | ret v=>exact q
 | brk=>exact q
 | cont=>exact q
theorem Inv.quiet {pins:List (Addr×Obj)} {σ:St} {H:Hp} {s:Shared} (I:Inv X pins σ H s):interactive X.env=false:=by simp [interactive,I.ok.kind]
def zbP (te:TE):TS:=fun D σ H=>te σ H fun _ H1=>D.nx σ H1
theorem zbF (he:PE X e te) (hs:swapsWith e none pos.line X.env=pure false:=by rfl):PS X (.Expr e pos) (zbP te):=by
 intro pins s σ H D I h
 exact wpAny_Expr_any (thn (he pins s σ H _ I h) fun v s1 ⟨x,H1,I1,r1,q1⟩=>⟨σ,H1,I1,q1⟩) I.quiet hs
def zcu (te:TE):TS:=fun D σ H=>te σ H D.rt
theorem zaY (he:PE X e te):PS X (.Return (some e) pos) (zcu te):=by
 intro pins s σ H D I h
 exact wpAny_Return_some (thn (he pins s σ H _ I h) fun v s1 ⟨x,H1,I1,r1,q1⟩=>⟨x,σ,H1,I1,r1,q1⟩)
def zcw (c:TT) (t u:TS):TS:=fun D σ H=>c σ H fun b H1=>if b=true then t D σ H1 else u D σ H1
theorem zcv {c:Expr} {a b:List Stmt} {tc:TT} (hc:PT X c tc) (ha:PSs X a t) (hb:PSs X b u):PS X (.If c a b pos) (zcw tc t u):=by
 intro pins s σ H D I h
 refine wpAny_If (thn (hc pins s σ H _ I h) fun d s1 hQ'=>?_)
 obtain ⟨H1,I1,q1⟩:=hQ'
 cases d with
 | true=>exact ha pins s1 σ H1 D I1 q1
 | false=>exact hb pins s1 σ H1 D I1 q1
def zrI:TS:=fun _ _ _=>False
theorem zqi:PS X st zrI:=fun _ _ _ _ _ _ h=>h.elim
end
abbrev TG:=V→St→Hp→(St→Hp→Prop)→Prop
abbrev TGs:=List V→St→Hp→(St→Hp→Prop)→Prop
def PG (X:Cx) (target:Expr) (t:TG):Prop :=
 ∀ (pins:List (Addr×Obj)) (s:Shared) (σ:St) (H:Hp) (v:V) (u:Value) (Q:St→Hp→Prop),Inv X pins σ H s→zc5 v u→t v σ H Q →
  wpAny (model X.prog X.w) X.A (assign target X.env u) (fun _ s'=>∃ σ' H',Inv X pins σ' H' s'∧Q σ' H') X.xe s
def PGs (X:Cx) (ts:List Expr) (t:TGs):Prop :=
 ∀ (pins:List (Addr×Obj)) (s:Shared) (σ:St) (H:Hp) (vs:List V) (us:List Value) (Q:St→Hp→Prop),Inv X pins σ H s→zcc vs us→t vs σ H Q →
  wpAny (model X.prog X.w) X.A (assignInOrder ((assignEach ts X.env).map (·.2)) us) (fun _ s'=>∃ σ' H',Inv X pins σ' H' s'∧Q σ' H') X.xe s
abbrev TSet:=V→V→V→Hp→(Hp→Prop)→Prop
def PSet (X:Cx) (t:TSet):Prop :=
 ∀ (pins:List (Addr×Obj)) (s:Shared) (σ:St) (H:Hp) (o i v:V) (ov iv u:Value) (Q:Hp→Prop),Inv X pins σ H s→zc5 o ov→zc5 i iv→zc5 v u→t o i v H Q →
  wpAny (model X.prog X.w) X.A (setItem ov iv u) (fun _ s'=>∃ H',Inv X pins σ H' s'∧Q H') X.xe s
section
variable {X:Cx} {pos:Pos}
def zak (i:Nat):TG:=fun v σ H Q=>Q (σ.set i (some v)) H
theorem zaF {i:Nat} {x:Str} (hN:X.N.Nodup) (hi:X.N[i]?=some x) (hx:Loc X.env.scope x) (hf:X.fn x=true∨X.env.scope.names.lookup x=some .local:=by first | exact .inl rfl | exact .inr rfl | assumption):PG X (.Name x pos) (zak i):=by
 intro pins s σ H v u Q I r h
 exact wpAny_assign_Name (zje I hN hi hx r (fun s' I'=>⟨_,H,I',h⟩) hf)
def zlw:TGs:=fun vs σ H Q=>vs=[]∧Q σ H
def zcs (t:TG) (u:TGs):TGs:=fun vs σ H Q=>∃ v r,vs=v::r∧t v σ H fun σ' H'=>u r σ' H' Q
theorem zeh:PGs X [] zlw:=by
 intro pins s σ H vs us Q I r h
 obtain ⟨e,h⟩:=h
 subst e
 cases r
 exact assignInOrder_nil ⟨σ,H,I,h⟩
theorem za9 {e:Expr} {es:List Expr} {t:TG} {u:TGs} (h1:PG X e t) (h2:PGs X es u)
  (hs:(assignEach (e::es) X.env).map (·.2)=assign e X.env::(assignEach es X.env).map (·.2):=by rfl):PGs X (e::es) (zcs t u):=by
 intro pins s σ H vs us Q I r h
 obtain ⟨v,vr,e1,h⟩:=h
 subst e1
 cases r with
 | cons r rr =>
  rw [hs]
  refine assignInOrder_cons (thn (h1 pins s σ H _ _ _ I r h) fun _ s1 hQ'=>?_)
  obtain ⟨σ1,H1,I1,q1⟩:=hQ'
  exact h2 pins s1 σ1 H1 _ _ Q I1 rr q1
def zlN (K:PySem.W.Frag) (n:Nat) (t:TGs):TG:=fun v σ H Q=>∃ a xs,v=.ref a∧SqT K H a xs∧xs.length=n∧t xs σ H Q
theorem zgf {es:List Expr} {k:Nat} {t:TGs} {n:Nat} (hc:X.calm=true) (h:PGs X es t)
  (hn:(assignEach es X.env).length=n:=by rfl) (hst:(assignEach es X.env).findIdx? (·.1)=none:=by rfl):PG X (.Tuple es k pos) (zlN X.K n t):=by
 intro pins s σ H v u Q I r hw
 obtain ⟨a,xs,e1,hq,hl,hw⟩:=hw
 subst e1
 cases r
 obtain ⟨its,rv,ht,hz⟩:=I.tuple hq
 refine assign_Tuple_tuple (I.ok.hd hc) ht (by simp [hn,← hl,rv.length]) hst fun h' hx=>?_
 have I1:Inv X pins σ H { s with heap:=h' }:=I.kept (t':=s.toks) fun b o e=>hx b o (Nat.ne_of_lt (Heap.lt_size e)) e
 exact h pins _ σ H xs _ Q I1 (by simpa using rv) hw
def znV (to ti:TE) (t:TSet):TG:=fun v σ H Q=>to σ H fun o H1=>ti σ H1 fun i H2=>t o i v H2 fun H3=>Q σ H3
theorem zkW {o i:Expr} {to ti:TE} {t:TSet} (ho:PE X o to) (hi:PE X i ti) (hs:PSet X t)
  (ha:∀ v,assign (.Subscript o i pos) X.env v=(do
   let ov ← holding [v] (eval o X.env)
   let iv ← holding [v,ov] (eval i X.env)
   standAt pos
   holding [v,ov,iv] (setItem ov iv v)
   release [v,ov,iv] []):=by intro _;rfl):PG X (.Subscript o i pos) (znV to ti t):=by
 intro pins s σ H v u Q I r h
 rw [ha]
 refine wpAny_bind (wpAny_holding (thn (ho pins s σ H _ I h) fun ov s1 hQ'=>?_))
 obtain ⟨x,H1,I1,r1,q1⟩:=hQ'
 refine wpAny_bind (wpAny_holding (thn (hi pins s1 σ H1 _ I1 q1) fun iv s2 hQ'=>?_))
 obtain ⟨y,H2,I2,r2,q2⟩:=hQ'
 refine wpAny_bind (wpAny_standAt (wpAny_bind (wpAny_holding (thn (hs pins s2 σ H2 x y v ov iv u _ I2 r1 r2 r q2) fun _ s3 hQ'=>?_))))
 obtain ⟨H3,I3,q3⟩:=hQ'
 exact wpAny_release ⟨σ,H3,I3,q3⟩
def za5 (te:TE) (g:TG):TS:=fun D σ H=>te σ H fun x H1=>g x σ H1 D.nx
theorem zfZ {tg e:Expr} {te:TE} {g:TG} (he:PE X e te) (hg:PG X tg g) (hs:swapsWithSole [tg] e pos.line X.env=pure false:=by rfl) (hw:swappedStores [tg] e X.env=pure none:=by rfl)
  (h1:(assignEach [tg] X.env).map (·.2)=[assign tg X.env]:=by rfl):PS X (.Assign [tg] e pos) (za5 te g):=by
 intro pins s σ H D I h
 refine wpAny_Assign_stores (thn (he pins s σ H _ I h) fun v s1 hQ'=>?_) hs hw
 obtain ⟨x,H1,I1,r1,q1⟩:=hQ'
 rw [h1]
 exact thn (hg pins s1 σ H1 x v _ I1 r1 q1) fun _ s2 q=>q
theorem zaB {i:Nat} {x:Str} {e:Expr} {te:TE} {pos':Pos} (hN:X.N.Nodup) (hi:X.N[i]?=some x) (hx:Loc X.env.scope x) (he:PE X e te) (hs:swapsWith e (some (.Name x pos')) pos.line X.env=pure false:=by rfl) (hf:X.fn x=true∨X.env.scope.names.lookup x=some .local:=by first | exact .inl rfl | exact .inr rfl | assumption) :
  PS X (.Assign [.Name x pos'] e pos) (za5 te (zak i)):=by
 intro pins s σ H D I h
 refine wpAny_Assign_Name (thn (he pins s σ H _ I h) fun v s1 hQ'=>?_) hs
 obtain ⟨y,H1,I1,r1,q1⟩:=hQ'
 exact zje I1 hN hi hx r1 (fun s2 I2=>⟨_,H1,I2,q1⟩) hf
end
section
variable {X:Cx} {pos:Pos}
def zpo (c:TT) (tb:TS):TS:=fun D σ H=>∃ W:Nat→St→Hp→Prop,(∃ m,W m σ H)∧∀ m σ H,W m σ H →
 c σ H fun b H1=>if b=true then ∃ N:St→Hp→Prop,(∀ σ' H',N σ' H'→∃ m',m'<m∧W m' σ' H')∧tb { D with nx:=N,ct:=N,bk:=D.nx } σ H1 else D.nx σ H1
theorem zp0 {c:Expr} {body:List Stmt} {tc:TT} {tb:TS} (hp:PassesOwn (model X.prog X.w) X.A X.env X.xe) (hc:PT X c tc) (hb:PSs X body tb):PS X (.While c body [] pos) (zpo tc tb):=by
 intro pins s σ H D I h
 obtain ⟨W,⟨m0,w0⟩,turn⟩:=h
 refine wpAny_While (codeAny_whileLoop (fun n s'=>∃ σ' H',Inv X pins σ' H' s'∧W n σ' H') ?_ m0 ⟨σ,H,I,w0⟩)
 rintro n s1 ⟨σ1,H1,I1,w1⟩
 refine wpAny_passesOwn hp (thn (hc pins s1 σ1 H1 _ I1 (turn n σ1 H1 w1)) fun b s2 hQ'=>?_)
 obtain ⟨H2,I2,q2⟩:=hQ'
 cases b with
 | true =>
  obtain ⟨N,hN,q2⟩:=q2
  rw [if_pos rfl]
  refine wpAny_passesOwn hp (thn (hb pins s2 σ1 H2 _ I2 q2) fun f s3 q3=>?_)
  cases f with
  | next =>
   obtain ⟨σ3,H3,I3,n3⟩:=q3
   obtain ⟨m',hm,w3⟩:=hN σ3 H3 n3
   exact ⟨m',hm,σ3,H3,I3,w3⟩
  | cont =>
   obtain ⟨σ3,H3,I3,n3⟩:=q3
   obtain ⟨m',hm,w3⟩:=hN σ3 H3 n3
   exact ⟨m',hm,σ3,H3,I3,w3⟩
  | brk=>exact q3
  | ret v=>exact q3
 | false =>
  rw [if_neg Bool.false_ne_true]
  exact wpAny_execs_nil ⟨σ1,H2,I2,q2⟩
end
structure It where
 go:Nat→Hp→Prop
 yld:Nat→Hp→V→Hp→Prop
 stop:Nat→Hp→Prop
def znL (X:Cx) (pins:List (Addr×Obj)) (H:Hp) (b:Addr):Prop :=
 H b=none∧b≠X.env.locals∧b∉X.fs∧(b∈X.ex∨X.s₀.heap.objs.size≤b)∧(∀ x c,X.env.cells.lookup x=some c→c≠b)∧∀ p∈X.pn++pins,p.1≠b
theorem Inv.fpOk {X:Cx} {pins:List (Addr×Obj)} {σ:St} {H H':Hp} {s:Shared} {b:Addr} (I:Inv X pins σ H s) (hb:s.heap.objs.size≤b) (hn:H' b=none):znL X pins H' b:=by
 refine ⟨hn,Nat.ne_of_gt (Nat.lt_of_lt_of_le I.lt hb),I.nofs hb,.inr (Nat.le_trans I.sz hb),fun x c e z=>?_,fun p hp z=>?_⟩
 ·obtain ⟨v,q⟩:=I.cell x c e
  exact absurd (Nat.lt_of_lt_of_le q.lt (by rw [z];exact hb)) (Nat.lt_irrefl _)
 ·exact absurd (Nat.lt_of_lt_of_le (Heap.lt_size (I.pin p hp).1) (by rw [z];exact hb)) (Nat.lt_irrefl _)
structure zt2 (P:Program) (w:World) (K:PySem.W.Frag) (tg:Expr) (J:It) (fp:List Addr) (it:Addr) (tn:Nat→Heap→Prop):Prop where
 mem:it∈fp
 obj:∀ i h,tn i h→∀ b∈fp,∃ o,h.get? b=some o∧∀ v,o.data≠.cell v
 keep:∀ i h h',tn i h→(∀ b∈fp,∀ o,h.get? b=some o→h'.get? b=some o)→tn i h'
 item:∀ (X:Cx),X.prog=P→X.w=w→X.K=K→X.calm=true→∀ (i:Nat) (pins:List (Addr×Obj)) (s:Shared) (σ:St) (H:Hp) (E:Value→Shared→Prop),Inv X pins σ H s→(∀ b∈fp,znL X pins H b)→tn i s.heap→J.go i H →
  wpAny (model P w) X.A (pyNext (.ref it)) (fun r s1=>∃ u,r=some u ∧
   wpAny (model P w) X.A (letOwnedTupleGo tg (.ref it) u) (fun _ s2=>∃ x H',Inv X pins σ H' s2∧zc5 x u∧J.yld i H x H'∧tn (i+1) s2.heap∧∀ b∈fp,H' b=none) E s1) E s
 done:∀ (X:Cx),X.prog=P→X.w=w→X.K=K→X.calm=true→∀ (i:Nat) (pins:List (Addr×Obj)) (s:Shared) (σ:St) (H:Hp) (E:Value→Shared→Prop),Inv X pins σ H s→(∀ b∈fp,znL X pins H b)→tn i s.heap→J.stop i H →
  wpAny (model P w) X.A (pyNext (.ref it)) (fun r s1=>r=none∧Inv X pins σ H s1) E s
 self:∀ (A:Around) (i:Nat) (s:Shared) (Q:Value→Shared→Prop) (E:Value→Shared→Prop),tn i s.heap→Q (.ref it) s→wpAny (model P w) A (pyIter (.ref it)) Q E s
abbrev TI:=St→Hp→(It→Hp→Prop)→Prop
def PIE (X:Cx) (pins:List (Addr×Obj)) (σ:St) (tg:Expr) (R:It→Hp→Prop) (itv:Value) (s2:Shared):Prop :=
 ∃ (it:Addr) (fp:List Addr) (tn:Nat→Heap→Prop) (J:It) (H':Hp),itv=.ref it∧Inv X pins σ H' s2∧zt2 X.prog X.w X.K tg J fp it tn∧tn 0 s2.heap∧(∀ b∈fp,znL X pins H' b)∧R J H'
def PI (X:Cx) (tg iter:Expr) (wi:TI):Prop :=
 ∀ (pins:List (Addr×Obj)) (s:Shared) (σ:St) (H:Hp) (R:It→Hp→Prop),Inv X pins σ H s→wi σ H R →
  wpAny (model X.prog X.w) X.A (eval iter X.env) (fun v s1=>wpAny (model X.prog X.w) X.A (pyIter v) (PIE X pins σ tg R) X.xe s1) X.xe s
theorem zum {M:Model} {A:Around} {E:Value→Shared→Prop} {s:Shared} {tg:Expr} {it:Addr} {u:Value} {o:Obj} {n:String} {vs:Array Value} {Q:Unit→Shared→Prop} (ho:s.heap.get? it=some o) (hc:o.cls=.type n) (hd:o.data=.fields vs)
  (hn:["enumerate","zip","dict_itemiterator","dict_reverseitemiterator","odict_iterator","itertools.zip_longest","itertools.pairwise"].contains n=false) (hQ:Q () s):wpAny M A (letOwnedTupleGo tg (.ref it) u) Q E s:=by
 unfold letOwnedTupleGo
 cases tg <;> first
  | exact wpAny_pure hQ
  | (cases u <;> first
    | exact wpAny_pure hQ
    | (refine wpAny_bind (wpAny_load ho ?_)
       rw [hc,hd]
       show wpAny M A (if (["enumerate","zip","dict_itemiterator","dict_reverseitemiterator","odict_iterator","itertools.zip_longest","itertools.pairwise"].contains n&&vs[0]? == some (rawInt _))=true then _ else _) Q E s
       rw [if_neg (by intro h;rw [hn,Bool.false_and] at h;cases h)]
       exact wpAny_pure hQ))
def Itl (K:PySem.W.Frag) (a:Addr):It :=
 ⟨fun i H=>∃ xs x,SqL K H a xs∧xs[i]?=some x,fun i H x H'=>H'=H∧∀ xs,SqL K H a xs→xs[i]?=some x,fun i H=>∃ xs,SqL K H a xs∧xs.length≤i⟩
def Itr (lo:Int) (n:Nat):It:=⟨fun i _=>i<n,fun i H x H'=>H'=H∧x=.int (lo+i),fun i _=>n≤i⟩
theorem zpH {P:Program} {w:World} {K:PySem.W.Frag} {tg:Expr} (a it:Addr):zt2 P w K tg (Itl K a) [it] it (fun i h=>h.IsListIter it a i) where
 mem:=by simp
 obj:=fun i h st b hb=>by
  have e:b=it:=by simpa using hb
  subst e
  obtain ⟨o,e,c,d⟩:=st
  exact ⟨o,e,fun v z=>by rw [d] at z;cases z⟩
 keep:=fun i h h' st k=>st.at fun o e=>k it (by simp) o e
 item:=by
  intro X hP hw hK hc i pins s σ H E I hf st hg
  subst hP hw hK
  obtain ⟨xs,x,hq,hx⟩:=hg
  obtain ⟨its,rv,p,hz⟩:=I.list hq
  obtain ⟨u,hu,ru⟩:=rv.get hx
  obtain ⟨f0,f1,f2,f3,f4,f5⟩:=hf it (by simp)
  refine wpAny_pyNext_list_item st p.isList (x:=u) (by simpa using hu) fun h' st' sb=>?_
  have I1:Inv X pins σ H { s with heap:=h' }:=I.turned (t':=s.toks) (fun b o hb e=>(sb.2 b hb).trans e) f0 f1 f3 f4 f5
  obtain ⟨o,e,c,d⟩:=id st'
  exact ⟨u,rfl,zum (s:={ s with heap:=h' }) e c d (by decide) ⟨x,H,I1,ru,⟨rfl,fun ys hy=>by rw [I.list_inj hy hq];exact hx⟩,st',fun b hb=>(hf b hb).1⟩⟩
 done:=by
  intro X hP hw hK hc i pins s σ H E I hf st hg
  subst hP hw hK
  obtain ⟨xs,hq,hx⟩:=hg
  obtain ⟨its,rv,p,hz⟩:=I.list hq
  obtain ⟨f0,f1,f2,f3,f4,f5⟩:=hf it (by simp)
  have hl:=rv.length
  exact wpAny_pyNext_list_end (I.ok.hd hc) st p.isList (by simp;(first|lia|omega)) fun h' eb=>⟨rfl,I.turned (t':=s.toks) (fun b o hb e=>eb b o hb e) f0 f1 f3 f4 f5⟩
 self:=fun _ _ _ _ _ st h=>wpAny_pyIter_listiter st h
theorem znn {P:Program} {w:World} {K:PySem.W.Frag} {tg:Expr} (it:Addr) (lo:Int) (n:Nat):zt2 P w K tg (Itr lo n) [it] it (fun i h=>IsRangeIter h it (lo+(i:Nat)*1) ((n:Int) - (i:Nat)) 1) where
 mem:=by simp
 obj:=fun i h st b hb=>by
  have e:b=it:=by simpa using hb
  subst e
  exact ⟨_,st,fun v z=>by
   have z':Data.fields _=Data.cell v:=z
   cases z'⟩
 keep:=fun i h h' st k=>k it (by simp) _ st
 item:=by
  intro X hP hw hK hc i pins s σ H E I hf st hg
  subst hP hw hK
  obtain ⟨f0,f1,f2,f3,f4,f5⟩:=hf it (by simp)
  have W:=Walks.range (prog:=X.prog) (w:=X.w) (I.ok.hd hc) it lo 1 n
  refine W.item i s _ _ hg st fun v h' tk hv st' kk=>?_
  obtain ⟨t,rfl⟩:=hv
  have I1:Inv X pins σ H { s with heap:=h',toks:=tk }:=I.turned (fun b o hb e=>kk b o (by simpa using hb) e) f0 f1 f3 f4 f5
  refine ⟨_,rfl,zum (s:={ s with heap:=h',toks:=tk }) (n:="range_iterator") st' rfl rfl (by decide) ⟨.int (lo+i),H,I1,⟨t,?_⟩,⟨rfl,rfl⟩,st',fun b hb=>(hf b hb).1⟩⟩
  rw [Int.mul_one]
 done:=by
  intro X hP hw hK hc i pins s σ H E I hf st hg
  subst hP hw hK
  obtain ⟨f0,f1,f2,f3,f4,f5⟩:=hf it (by simp)
  exact wpAny_pyNext_range_end (I.ok.hd hc) st (by have:n≤i:=hg;(first|lia|omega)) fun h' eb=>⟨rfl,I.turned (t':=s.toks) (fun b o hb e=>eb b o hb e) f0 f1 f3 f4 f5⟩
 self:=fun _ _ _ _ _ st h=>wpAny_pyIter_rangeiter st h
end L2
namespace L2
open PySem PySem.Spec PyProof.Rows
section
variable {X:Cx} {tg:Expr}
def zeV (K:PySem.W.Frag) (tl:TE):TI:=fun σ H R=>tl σ H fun x H1=>∃ a,x=.ref a∧(∃ xs,SqL K H1 a xs)∧R (Itl K a) H1
theorem zd8 {l:Expr} {tl:TE} (hl:PE X l tl):PI X tg l (zeV X.K tl):=by
 intro pins s σ H R I h
 refine thn (hl pins s σ H _ I h) fun v s1 hQ'=>?_
 obtain ⟨x,H1,I1,r1,q1⟩:=hQ'
 obtain ⟨a,e,⟨xs,hq⟩,q⟩:=q1
 subst e
 cases r1
 obtain ⟨its,rv,p,hz⟩:=I1.list hq
 refine wpAny_pyIter_list p.isList ?_
 refine ⟨s1.heap.objs.size,[s1.heap.objs.size],_,_,H1,rfl,I1.kept (t':=s1.toks) fun b o e=>Heap.get?_push_of_some _ e,zpH a _,⟨_,Heap.get?_push_size _ rfl,rfl,rfl⟩,fun b hb=>?_,q⟩
 have e:b=s1.heap.objs.size:=by simpa using hb
 subst e
 exact I1.fpOk (Nat.le_refl _) (I1.hok.fresh (Nat.le_refl _))
theorem zqT {pins:List (Addr×Obj)} {σ:St} {H:Hp} {s:Shared} {R:It→Hp→Prop} {E:Value→Shared→Prop} {lo hi:Int} {t u v:Tok} {tk:Nat} (I:Inv X pins σ H s) (h1:-(2 ^ 62)≤lo) (h2:lo<2 ^ 62) (h3:-(2 ^ 62)≤hi) (h4:hi<2 ^ 62)
  (q:R (Itr lo (hi - lo).toNat) H):wpAny (model X.prog X.w) X.A (pyIter (.ref s.heap.objs.size)) (PIE X pins σ tg R) E { s with heap:=s.heap.push { cls:=.type "range",data:=.fields #[.int lo t,.int hi u,.int 1 v] },toks:=tk }:=by
 refine wpAny_pyIter_range (IsRange.new ..) (small_one h1 h2 h3 h4) ?_
 have I1:Inv X pins σ H { s with heap:=s.heap.push { cls:=.type "range",data:=.fields #[.int lo t,.int hi u,.int 1 v] },toks:=tk }:=I.kept fun b o e=>Heap.get?_push_of_some _ e
 refine ⟨(s.heap.push { cls:=.type "range",data:=.fields #[.int lo t,.int hi u,.int 1 v] }).objs.size,[(s.heap.push { cls:=.type "range",data:=.fields #[.int lo t,.int hi u,.int 1 v] }).objs.size],_,_,H,rfl,
  I1.kept (t':=tk) fun b o e=>Heap.get?_push_of_some _ e,znn _ lo (hi - lo).toNat,?_,fun b hb=>?_,q⟩
 ·have e1:lo+((0:Nat):Int)*1=lo:=by simp
  have e2:(((hi - lo).toNat:Nat):Int) - ((0:Nat):Int)=Builtin.Range.rangeSize lo hi 1:=by rw [rangeSize_one];split <;> (first|lia|omega)
  show IsRangeIter _ _ (lo+((0:Nat):Int)*1) ((((hi - lo).toNat:Nat):Int) - ((0:Nat):Int)) 1
  rw [e1,e2]
  exact Heap.get?_push_size _ rfl
 ·have e:b=(s.heap.push { cls:=.type "range",data:=.fields #[.int lo t,.int hi u,.int 1 v] }).objs.size:=by simpa using hb
  subst e
  exact I1.fpOk (Nat.le_refl _) (I1.hok.fresh (Nat.le_refl _))
def zeo (ta:TA):TI:=fun σ H R=>ta σ H fun vs H1=>∃ j:Int,vs=[.int j]∧-(2 ^ 62)≤j∧j<2 ^ 62∧R (Itr 0 j.toNat) H1
theorem zcb {a:Expr} {ta:TA} {p pos:Pos} (hg:Gl X "range") (hm:X.mg "range"=none) (ha:PA X [a] ta) (hs:starEach [a] X.env=[(false,eval a X.env)]:=by rfl):PI X tg (.Call (.Name "range" p) [a] [] pos) (zeo ta):=by
 intro pins s σ H R I h
 refine Call_ (zgF I hg hm boot_range (PyProof.Rows.callWith_type1 (thn (ha pos pins s σ H _ I h) fun us s1 hQ'=>?_) hs rfl))
 obtain ⟨vs,H1,I1,r1,q1⟩:=hQ'
 obtain ⟨j,e,q1,q2,q⟩:=q1
 subst e
 cases r1 with
 | cons r rr =>
  cases rr
  obtain ⟨t,rfl⟩:=r
  exact call_range_1 (zqT I1 (by (first|lia|omega)) (by (first|lia|omega)) q1 q2 (by simpa using q))
def zk7 (wi:TI) (g:TG) (tb:TS):TS:=fun D σ H=>wi σ H fun J H1=>∃ W:Nat→Nat→St→Hp→Prop,(∃ m,W 0 m σ H1)∧∀ i m σ H,W i m σ H →
 (J.stop i H∧D.nx σ H)∨(J.go i H∧∃ N:St→Hp→Prop,(∀ σ' H',N σ' H'→∃ m',m'<m∧W (i+1) m' σ' H')∧∀ x H',J.yld i H x H'→g x σ H' fun σ2 H2=>tb { D with nx:=N,ct:=N,bk:=D.nx } σ2 H2)
def zla (fp:List Addr) (h:Heap):List (Addr×Obj):=fp.filterMap fun b=>(h.get? b).map fun o=>(b,o)
theorem zfg {fp:List Addr} {h:Heap} {b:Addr} {o:Obj} (hb:b∈fp) (e:h.get? b=some o):(b,o)∈zla fp h:=List.mem_filterMap.mpr ⟨b,hb,by rw [e];rfl⟩
theorem znO {fp:List Addr} {h:Heap} {p:Addr×Obj} (hp:p∈zla fp h):p.1∈fp∧h.get? p.1=some p.2:=by
 obtain ⟨b,hb,e⟩:=List.mem_filterMap.mp hp
 cases q:h.get? b with
 | none=>rw [q] at e;cases e
 | some o =>
  rw [q] at e
  have e':(b,o)=p:=Option.some.inj e
  subst e'
  exact ⟨hb,q⟩
theorem Inv.pinned {pins:List (Addr×Obj)} {σ:St} {H:Hp} {s:Shared} {fp:List Addr} (I:Inv X pins σ H s) (hf:∀ b∈fp,znL X pins H b) (ho:∀ b∈fp,∃ o,s.heap.get? b=some o∧∀ v,o.data≠.cell v):Inv X (pins++zla fp s.heap) σ H s :=
 I.pins_of fun p hp=>(List.mem_append.mp hp).elim (fun z=>I.pin p (List.mem_append_right _ z)) fun z=>by
  obtain ⟨hb,e⟩:=znO z
  obtain ⟨f0,f1,f2,_⟩:=hf p.1 hb
  obtain ⟨o,e',d⟩:=ho p.1 hb
  rw [e] at e';cases e'
  exact ⟨e,f0,f1,f2,d⟩
theorem Inv.unpinned {pins pl:List (Addr×Obj)} {σ:St} {H:Hp} {s:Shared} (I:Inv X (pins++pl) σ H s):Inv X pins σ H s:=I.pins_of fun p hp=>I.pin p (List.mem_append_right _ (List.mem_append_left _ hp))
theorem zep {iter:Expr} {body:List Stmt} {wi:TI} {g:TG} {tb:TS} {pos:Pos} (hp:PassesOwn (model X.prog X.w) X.A X.env X.xe) (hc:X.calm=true) (hi:PI X tg iter wi) (hg:PG X tg g) (hb:PSs X body tb)
  (hs:∀ x,foldedSetIterable iter X.env x=pure x:=by intro _;rfl):PS X (.For tg iter body [] pos) (zk7 wi g tb):=by
 intro pins s σ H D I h
 refine wpAny_For (thn (hi pins s σ H _ I h) fun v s1 h1=>thn h1 fun itv s2 h2=>?_) hs
 obtain ⟨it,fp,tn,J,H2,e,I2,T,st2,f2,W,⟨m0,w0⟩,turn⟩:=h2
 subst e
 have stat:∀ {H':Hp},(∀ b∈fp,H' b=none)→∀ b∈fp,znL X pins H' b:=fun hn b hb=>⟨hn b hb,(f2 b hb).2⟩
 refine codeAny_forLoop_any (fun n s'=>∃ i σ' H',Inv X pins σ' H' s'∧tn i s'.heap∧(∀ b∈fp,H' b=none)∧W i n σ' H') ?_ m0 ⟨0,σ,H2,I2,st2,fun b hb=>(f2 b hb).1,w0⟩
 rintro n s3 ⟨i,σ3,H3,I3,st3,fr3,w3⟩
 rcases turn i n σ3 H3 w3 with ⟨stop,qn⟩ | ⟨go,N,hN,step⟩
 ·refine wpAny_passesOwn hp (thn (T.done X rfl rfl rfl hc i pins s3 σ3 H3 X.xe I3 (stat fr3) st3 stop) fun r s4 hQ'=>?_)
  obtain ⟨hr,I4⟩:=hQ'
  subst hr
  exact wpAny_execs_nil ⟨σ3,H3,I4,qn⟩
 ·refine wpAny_passesOwn hp (thn (T.item X rfl rfl rfl hc i pins s3 σ3 H3 X.xe I3 (stat fr3) st3 go) fun r s4 hQ'=>?_)
  obtain ⟨u,hr,h4⟩:=hQ'
  subst hr
  refine wpAny_passesOwn hp (thn h4 fun _ s5 hQ'=>?_)
  obtain ⟨x,H5,I5,r5,y5,st5,fr5⟩:=hQ'
  have I5':=I5.pinned (stat fr5) (T.obj _ _ st5)
  refine wpAny_passesOwn hp (thn (hg _ s5 σ3 H5 x u _ I5' r5 (step x H5 y5)) fun _ s6 hQ'=>?_)
  obtain ⟨σ6,H6,I6,q6⟩:=hQ'
  refine wpAny_passesOwn hp (thn (hb _ s6 σ6 H6 _ I6 q6) fun f s7 q7=>?_)
  have again:∀ {σ7:St} {H7:Hp},Inv X (pins++zla fp s5.heap) σ7 H7 s7→N σ7 H7→∃ m,m<n∧∃ i σ' H',Inv X pins σ' H' s7∧tn i s7.heap∧(∀ b∈fp,H' b=none)∧W i m σ' H':=fun {σ7 H7} I7 n7=>by
   obtain ⟨m',hm,w7⟩:=hN σ7 H7 n7
   refine ⟨m',hm,i+1,σ7,H7,I7.unpinned,T.keep _ _ _ st5 fun b hb o e=>(I7.pin (b,o) (List.mem_append_right _ (List.mem_append_right _ (zfg hb e)))).1,fun b hb=>?_,w7⟩
   obtain ⟨o,e,d⟩:=T.obj _ _ st5 b hb
   exact (I7.pin (b,o) (List.mem_append_right _ (List.mem_append_right _ (zfg hb e)))).2.1
  cases f with
  | next=>obtain ⟨σ7,H7,I7,n7⟩:=q7;exact again I7 n7
  | cont=>obtain ⟨σ7,H7,I7,n7⟩:=q7;exact again I7 n7
  | brk=>obtain ⟨σ7,H7,I7,q7⟩:=q7;exact ⟨σ7,H7,I7.unpinned,q7⟩
  | ret v=>obtain ⟨x7,σ7,H7,I7,r7,q7⟩:=q7;exact ⟨x7,σ7,H7,I7.unpinned,r7,q7⟩
end
theorem zqJ {K:PySem.W.Frag} {a:Addr} {xs:List V} {g:TG} {tb:TS} {D:zb5} {σ:St} {H:Hp} (Pv:Nat→St→Hp→Prop) (h0:Pv 0 σ H) (hl:∀ i σ H,i≤xs.length→Pv i σ H→SqL K H a xs)
  (hs:∀ i x σ H,xs[i]?=some x→Pv i σ H→g x σ H fun σ2 H2=>tb { D with nx:=Pv (i+1),ct:=Pv (i+1),bk:=D.nx } σ2 H2) (hd:∀ σ H,Pv xs.length σ H→D.nx σ H) :
  ∃ W:Nat→Nat→St→Hp→Prop,(∃ m,W 0 m σ H)∧∀ i m σ H,W i m σ H →
   ((Itl K a).stop i H∧D.nx σ H)∨((Itl K a).go i H∧∃ N:St→Hp→Prop,(∀ σ' H',N σ' H'→∃ m',m'<m∧W (i+1) m' σ' H')∧∀ x H',(Itl K a).yld i H x H'→g x σ H' fun σ2 H2=>tb { D with nx:=N,ct:=N,bk:=D.nx } σ2 H2):=by
 refine ⟨fun i m σ H=>m=xs.length - i∧i≤xs.length∧Pv i σ H,⟨xs.length,by simp,Nat.zero_le _,h0⟩,?_⟩
 rintro i m σ H ⟨rfl,hi,p⟩
 have q:=hl i σ H hi p
 by_cases hlt:i<xs.length
 ·refine .inr ⟨⟨xs,xs[i],q,by simp [hlt]⟩,Pv (i+1),fun σ' H' p'=>⟨xs.length - (i+1),by (first|lia|omega),rfl,hlt,p'⟩,fun x H' y=>?_⟩
  obtain ⟨e,y⟩:=y
  subst e
  exact hs i x σ _ (y xs q) p
 ·have e:i=xs.length:=by (first|lia|omega)
  subst e
  exact .inl ⟨⟨xs,q,Nat.le_refl _⟩,hd σ H p⟩
theorem zpl {lo:Int} {n:Nat} {g:TG} {tb:TS} {D:zb5} {σ:St} {H:Hp} (Pv:Nat→St→Hp→Prop) (h0:Pv 0 σ H)
  (hs:∀ i σ H,i<n→Pv i σ H→g (.int (lo+i)) σ H fun σ2 H2=>tb { D with nx:=Pv (i+1),ct:=Pv (i+1),bk:=D.nx } σ2 H2) (hd:∀ σ H,Pv n σ H→D.nx σ H) :
  ∃ W:Nat→Nat→St→Hp→Prop,(∃ m,W 0 m σ H)∧∀ i m σ H,W i m σ H →
   ((Itr lo n).stop i H∧D.nx σ H)∨((Itr lo n).go i H∧∃ N:St→Hp→Prop,(∀ σ' H',N σ' H'→∃ m',m'<m∧W (i+1) m' σ' H')∧∀ x H',(Itr lo n).yld i H x H'→g x σ H' fun σ2 H2=>tb { D with nx:=N,ct:=N,bk:=D.nx } σ2 H2):=by
 refine ⟨fun i m σ H=>m=n - i∧i≤n∧Pv i σ H,⟨n,by simp,Nat.zero_le _,h0⟩,?_⟩
 rintro i m σ H ⟨rfl,hi,p⟩
 by_cases hlt:i<n
 ·refine .inr ⟨hlt,Pv (i+1),fun σ' H' p'=>⟨n - (i+1),by (first|lia|omega),rfl,hlt,p'⟩,fun x H' y=>?_⟩
  obtain ⟨e,y⟩:=y
  subst e y
  exact hs i σ _ hlt p
 ·have e:i=n:=by (first|lia|omega)
  subst e
  exact .inl ⟨Nat.le_refl _,hd σ H p⟩
theorem zpR {c:TT} {tb:TS} {D:zb5} {σ:St} {H:Hp} (Pv:St→Hp→Prop) (μ:St→Hp→Nat) (h0:Pv σ H)
  (hs:∀ σ H,Pv σ H→c σ H fun b H1=>if b=true then tb { D with nx:=fun σ' H'=>Pv σ' H'∧μ σ' H'<μ σ H,ct:=fun σ' H'=>Pv σ' H'∧μ σ' H'<μ σ H,bk:=D.nx } σ H1 else D.nx σ H1)
  (mono:∀ σ H Q Q',(∀ b H1,Q b H1→Q' b H1)→c σ H Q→c σ H Q'):zpo c tb D σ H:=by
 refine ⟨fun m σ H=>m=μ σ H∧Pv σ H,⟨_,rfl,h0⟩,?_⟩
 rintro m σ H ⟨rfl,p⟩
 refine mono σ H _ _ (fun b H1 q=>?_) (hs σ H p)
 cases b with
 | true=>exact ⟨_,fun σ' H' ⟨p',l⟩=>⟨_,l,rfl,p'⟩,q⟩
 | false=>exact q
end L2
namespace L2
open PySem PySem.Spec PyProof.Rows
abbrev R2:=V→V→Hp→VK→Prop
def OpR (X:Cx) (f:Value→Value→Sem Value) (r:R2):Prop :=
 ∀ (pins:List (Addr×Obj)) (s:Shared) (σ:St) (H:Hp) (x y:V) (v u:Value) (Q:VK),Inv X pins σ H s→zc5 x v→zc5 y u→r x y H Q →
  wpAny (model X.prog X.w) X.A (f v u) (EP X pins σ Q) X.xe s
def UnR (X:Cx) (f:Value→Sem Value) (r:V→Hp→VK→Prop):Prop :=
 ∀ (pins:List (Addr×Obj)) (s:Shared) (σ:St) (H:Hp) (x:V) (v:Value) (Q:VK),Inv X pins σ H s→zc5 x v→r x H Q →
  wpAny (model X.prog X.w) X.A (f v) (EP X pins σ Q) X.xe s
def zfP (X:Cx) (f:Value) (r:List V→Hp→VK→Prop):Prop :=
 ∀ (pins:List (Addr×Obj)) (s:Shared) (σ:St) (H:Hp) (xs:List V) (us:List Value) (Q:VK),Inv X pins σ H s→zcc xs us→r xs H Q →
  wpAny (model X.prog X.w) X.A (call f us) (EP X pins σ Q) X.xe s
def TruR (X:Cx) (r:V→Hp→(Bool→Hp→Prop)→Prop):Prop :=
 ∀ (pins:List (Addr×Obj)) (s:Shared) (σ:St) (H:Hp) (x:V) (v:Value) (Q:Bool→Hp→Prop),Inv X pins σ H s→zc5 x v→r x H Q →
  wpAny (model X.prog X.w) X.A (truthy v) (TP X pins σ Q) X.xe s
def tOp (r:R2) (ta tb:TE):TE:=fun σ H Q=>ta σ H fun x H1=>tb σ H1 fun y H2=>r x y H2 Q
def tUn (r:V→Hp→VK→Prop) (ta:TE):TE:=fun σ H Q=>ta σ H fun x H1=>r x H1 Q
def rI (C:Int→Int→Prop) (g:Int→Int→V):R2:=fun x y H Q=>∃ i j,x=.int i∧y=.int j∧C i j∧Q (g i j) H
def rI0 (g:Int→Int→V):R2:=fun x y H Q=>∃ i j,x=.int i∧y=.int j∧Q (g i j) H
def rU (g:Int→V):V→Hp→VK→Prop:=fun x H Q=>∃ i,x=.int i∧Q (g i) H
section
variable {X:Cx} {a b c:Expr} {ta tb tc:TE} {pos:Pos}
theorem binT (ha:PE X a ta) (hb:PE X b tb) {pins:List (Addr×Obj)} {s:Shared} {σ:St} {H:Hp} {R:V→V→Hp→Prop} (I:Inv X pins σ H s)
  (h:ta σ H fun x H1=>tb σ H1 fun y H2=>R x y H2) {Q:Value→Shared→Prop} {f:Value→Value→Sem Value}
  (hf:∀ v u s2 x y H2,Inv X pins σ H2 s2→zc5 x v→zc5 y u→R x y H2→wpAny (model X.prog X.w) X.A (f v u) Q X.xe s2) :
  wpAny (model X.prog X.w) X.A (eval a X.env) (fun v s₁=>wpAny (model X.prog X.w) X.A (eval b X.env) (fun u s₂=>wpAny (model X.prog X.w) X.A (f v u) Q X.xe s₂) X.xe s₁) X.xe s:=by
 refine thn (ha pins s σ H _ I h) fun v s1 hQ'=>?_
 obtain ⟨x,H1,I1,r1,q1⟩:=hQ'
 refine thn (hb pins s1 σ H1 _ I1 q1) fun u s2 hQ'=>?_
 obtain ⟨y,H2,I2,r2,q2⟩:=hQ'
 exact hf v u s2 x y H2 I2 r1 r2 q2
theorem zaA {op:Operator} {r:R2} (ho:OpR X (binaryOp op) r) (ha:PE X a ta) (hb:PE X b tb):PE X (.BinOp a op b pos) (tOp r ta tb):=by
 intro pins s σ H Q I h
 exact wpAny_BinOp (binT ha hb I h fun v u s2 x y H2 I2 rx ry q=>ho pins s2 σ H2 x y v u Q I2 rx ry q)
theorem znr {op:UnaryOp} {r:V→Hp→VK→Prop} (ho:UnR X (unaryOp op) r) (ha:PE X a ta):PE X (.UnaryOp op a pos) (tUn r ta):=by
 intro pins s σ H Q I h
 exact UnaryOp_ (thn (ha pins s σ H _ I h) fun v s1 ⟨x,H1,I1,r1,q1⟩=>ho pins s1 σ H1 x v Q I1 r1 q1)
theorem opI {f:Value→Value→Sem Value} {C:Int→Int→Prop} {g:Int→Int→Int}
  (rule:∀ (i j:Int) (t u:Tok) (s:Shared) (Q:Value→Shared→Prop) (E:Value→Shared→Prop),C i j→Q (.int (g i j) s.toks) { s with toks:=s.toks+1 }→wpAny (model X.prog X.w) X.A (f (.int i t) (.int j u)) Q E s) :
  OpR X f (rI C fun i j=>.int (g i j)):=by
 intro pins s σ H x y v u Q I rx ry h
 obtain ⟨i,j,rfl,rfl,hc,q⟩:=h
 obtain ⟨t,rfl⟩:=rx
 obtain ⟨t',rfl⟩:=ry
 exact rule i j t t' s _ _ hc ⟨.int (g i j),H,I.tok _,⟨_,rfl⟩,q⟩
theorem opI0 {f:Value→Value→Sem Value} {g:Int→Int→Int}
  (rule:∀ (i j:Int) (t u:Tok) (s:Shared) (Q:Value→Shared→Prop) (E:Value→Shared→Prop),Q (.int (g i j) s.toks) { s with toks:=s.toks+1 }→wpAny (model X.prog X.w) X.A (f (.int i t) (.int j u)) Q E s) :
  OpR X f (rI0 fun i j=>.int (g i j)):=by
 intro pins s σ H x y v u Q I rx ry h
 obtain ⟨i,j,rfl,rfl,q⟩:=h
 obtain ⟨t,rfl⟩:=rx
 obtain ⟨t',rfl⟩:=ry
 exact rule i j t t' s _ _ ⟨.int (g i j),H,I.tok _,⟨_,rfl⟩,q⟩
theorem opB0 {f:Value→Value→Sem Value} {g:Int→Int→Bool}
  (rule:∀ (i j:Int) (t u:Tok) (s:Shared) (Q:Value→Shared→Prop) (E:Value→Shared→Prop),Q (.bool (g i j)) s→wpAny (model X.prog X.w) X.A (f (.int i t) (.int j u)) Q E s) :
  OpR X f (rI0 fun i j=>.bl (g i j)):=by
 intro pins s σ H x y v u Q I rx ry h
 obtain ⟨i,j,rfl,rfl,q⟩:=h
 obtain ⟨t,rfl⟩:=rx
 obtain ⟨t',rfl⟩:=ry
 exact rule i j t t' s _ _ ⟨.bl (g i j),H,I,rfl,q⟩
def znN (i j:Int):Prop:=0≤j∧j≤1000000∧i.natAbs<2 ^ 64
theorem zb0:OpR X (binaryOp .Add) (rI0 fun i j=>.int (i+j)):=opI0 fun _ _ _ _ _ _ _ q=>add_int q
theorem zeq:OpR X (binaryOp .Sub) (rI0 fun i j=>.int (i - j)):=opI0 fun _ _ _ _ _ _ _ q=>sub_int q
theorem zgK:OpR X (binaryOp .Mod) (rI (fun _ j=>0<j) fun i j=>.int (i % j)):=opI fun i j _ _ _ _ _ hc q=>by
 have h1:(0:Int)<j:=hc
 exact mod_int' (by (first|lia|omega)) (by rw [Int.fmod_eq_emod_of_nonneg i (by (first|lia|omega))];exact q)
theorem ztk:OpR X (binaryOp .Mod) (rI (fun _ j=>j≠0) fun i j=>.int (i.fmod j)):=opI fun _ _ _ _ _ _ _ hc q=>mod_int' hc q
theorem zkR:OpR X (binaryOp .Pow) (rI znN fun i j=>.int (i ^ j.toNat)):=opI fun _ _ _ _ _ _ _ hc q=>pow_int_small hc.1 hc.2.1 hc.2.2 q
theorem unI {f:Value→Sem Value} {g:Int→Int}
  (rule:∀ (i:Int) (t:Tok) (s:Shared) (Q:Value→Shared→Prop) (E:Value→Shared→Prop),Q (.int (g i) s.toks) { s with toks:=s.toks+1 }→wpAny (model X.prog X.w) X.A (f (.int i t)) Q E s) :
  UnR X f (rU fun i=>.int (g i)):=by
 intro pins s σ H x v Q I rx h
 obtain ⟨i,rfl,q⟩:=h
 obtain ⟨t,rfl⟩:=rx
 exact rule i t s _ _ ⟨.int (g i),H,I.tok _,⟨_,rfl⟩,q⟩
theorem zi2:UnR X (unaryOp .USub) (rU fun i=>.int (-i)):=unI fun _ _ _ _ _ q=>neg_int q
end
def scal:V→V→Bool
 | .non,.non=>true | .non,.int _=>true | .int _,.non=>true | .non,.bl _=>true | .bl _,.non=>true | .non,.str _=>true | .str _,.non=>true
 | .int _,.int _=>true | .bl _,.bl _=>true | .str _,.str _=>true | .byt _,.byt _=>true
 | .int _,.str _=>true | .str _,.int _=>true | .bl _,.str _=>true | .str _,.bl _=>true
 | _,_=>false
def rEq:R2:=fun x y H Q=>scal x y=true∧Q (.bl (decide (x=y))) H
def rNe:R2:=fun x y H Q=>scal x y=true∧Q (.bl (!decide (x=y))) H
theorem zn5 {i j:Int}:decide (V.int i=V.int j)=(i == j):=by
 rw [Bool.eq_iff_iff]
 simp
theorem zrA {i j:Bool}:decide (V.bl i=V.bl j)=(i == j):=by
 rw [Bool.eq_iff_iff]
 simp
theorem zpu {i j:Str}:decide (V.str i=V.str j)=(i == j):=by
 rw [Bool.eq_iff_iff]
 simp
theorem zov {i j:Array UInt8}:decide (V.byt i=V.byt j)=(i.toList == j.toList):=by
 rw [Bool.eq_iff_iff]
 cases i
 cases j
 simp
section
variable {X:Cx} {a b c:Expr} {ta tb tc:TE} {pos:Pos}
theorem zbT {pins:List (Addr×Obj)} {σ:St} {H:Hp} {s:Shared} {Q:VK} {k k':Bool} (I:Inv X pins σ H s) (q:Q (.bl k) H) (e:k=k'):EP X pins σ Q (.bool k') s:=by
 subst e
 exact ⟨.bl k,H,I,rfl,q⟩
theorem zgn:OpR X (compareOp .Eq) rEq:=by
 intro pins s σ H x y v u Q I rx ry h
 obtain ⟨hs,q⟩:=h
 cases x with
 | non =>
  cases rx
  cases y with
  | non=>cases ry;exact PySem.EqNone.eq_none_none (zbT I q (by simp))
  | bl j=>cases ry;exact PySem.EqNone.eq_none_bool (zbT I q (by simp))
  | int j=>obtain ⟨t',rfl⟩:=ry;exact PySem.EqNone.eq_none_int (zbT I q (by simp))
  | str j=>obtain ⟨t',rfl⟩:=ry;exact PySem.EqNone.eq_none_str (zbT I q (by simp))
  | _=>exact absurd (show false=true from hs) Bool.false_ne_true
 | bl i =>
  cases rx
  cases y with
  | non=>cases ry;exact PySem.EqNone.eq_bool_none (zbT I q (by simp))
  | bl j=>cases ry;exact eq_bool (zbT I q zrA)
  | str j=>obtain ⟨t',rfl⟩:=ry;exact PySem.EqMixed.eq_bool_str (zbT I q (by simp))
  | _=>exact absurd (show false=true from hs) Bool.false_ne_true
 | int i =>
  obtain ⟨t,rfl⟩:=rx
  cases y with
  | non=>cases ry;exact PySem.EqNone.eq_int_none (zbT I q (by simp))
  | int j=>obtain ⟨t',rfl⟩:=ry;exact eq_int (zbT I q zn5)
  | str j=>obtain ⟨t',rfl⟩:=ry;exact PySem.EqMixed.eq_int_str (zbT I q (by simp))
  | _=>exact absurd (show false=true from hs) Bool.false_ne_true
 | str i =>
  obtain ⟨t,rfl⟩:=rx
  cases y with
  | non=>cases ry;exact PySem.EqNone.eq_str_none (zbT I q (by simp))
  | bl j=>cases ry;exact PySem.EqMixed.eq_str_bool (zbT I q (by simp))
  | int j=>obtain ⟨t',rfl⟩:=ry;exact PySem.EqMixed.eq_str_int (zbT I q (by simp))
  | str j=>obtain ⟨t',rfl⟩:=ry;exact eq_str (zbT I q zpu)
  | _=>exact absurd (show false=true from hs) Bool.false_ne_true
 | byt i =>
  obtain ⟨t,rfl⟩:=rx
  cases y with
  | byt j=>obtain ⟨t',rfl⟩:=ry;exact PySem.W.eq_bytes (zbT I q zov)
  | _=>exact absurd (show false=true from hs) Bool.false_ne_true
 | _=>cases y <;> exact absurd (show false=true from hs) Bool.false_ne_true
theorem zsJ:OpR X (compareOp .NotEq) rNe:=by
 intro pins s σ H x y v u Q I rx ry h
 obtain ⟨hs,q⟩:=h
 cases x with
 | non =>
  cases rx
  cases y with
  | non=>cases ry;exact PySem.EqNone.ne_none_none (zbT I q (by simp))
  | bl j=>cases ry;exact PySem.EqNone.ne_none_bool (zbT I q (by simp))
  | int j=>obtain ⟨t',rfl⟩:=ry;exact PySem.EqNone.ne_none_int (zbT I q (by simp))
  | str j=>obtain ⟨t',rfl⟩:=ry;exact PySem.EqNone.ne_none_str (zbT I q (by simp))
  | _=>exact absurd (show false=true from hs) Bool.false_ne_true
 | bl i =>
  cases rx
  cases y with
  | non=>cases ry;exact PySem.EqNone.ne_bool_none (zbT I q (by simp))
  | bl j=>cases ry;exact ne_bool (zbT I q (congrArg not zrA))
  | str j=>obtain ⟨t',rfl⟩:=ry;exact PySem.EqMixed.ne_bool_str (zbT I q (by simp))
  | _=>exact absurd (show false=true from hs) Bool.false_ne_true
 | int i =>
  obtain ⟨t,rfl⟩:=rx
  cases y with
  | non=>cases ry;exact PySem.EqNone.ne_int_none (zbT I q (by simp))
  | int j=>obtain ⟨t',rfl⟩:=ry;exact ne_int (zbT I q (congrArg not zn5))
  | str j=>obtain ⟨t',rfl⟩:=ry;exact PySem.EqMixed.ne_int_str (zbT I q (by simp))
  | _=>exact absurd (show false=true from hs) Bool.false_ne_true
 | str i =>
  obtain ⟨t,rfl⟩:=rx
  cases y with
  | non=>cases ry;exact PySem.EqNone.ne_str_none (zbT I q (by simp))
  | bl j=>cases ry;exact PySem.EqMixed.ne_str_bool (zbT I q (by simp))
  | int j=>obtain ⟨t',rfl⟩:=ry;exact PySem.EqMixed.ne_str_int (zbT I q (by simp))
  | str j=>obtain ⟨t',rfl⟩:=ry;exact ne_str (zbT I q (congrArg not zpu))
  | _=>exact absurd (show false=true from hs) Bool.false_ne_true
 | byt i =>
  obtain ⟨t,rfl⟩:=rx
  cases y with
  | byt j=>obtain ⟨t',rfl⟩:=ry;exact PySem.W.ne_bytes (zbT I q (congrArg not zov))
  | _=>exact absurd (show false=true from hs) Bool.false_ne_true
 | _=>cases y <;> exact absurd (show false=true from hs) Bool.false_ne_true
theorem zoT:OpR X (compareOp .Lt) (rI0 fun i j=>.bl (decide (i<j))):=opB0 fun _ _ _ _ _ _ _ q=>lt_int q
theorem zp2:OpR X (compareOp .LtE) (rI0 fun i j=>.bl (decide (i≤j))):=opB0 fun _ _ _ _ _ _ _ q=>le_int q
theorem ztx:OpR X (compareOp .Gt) (rI0 fun i j=>.bl (decide (j<i))):=opB0 fun _ _ _ _ _ _ _ q=>gt_int q
theorem zsq:OpR X (compareOp .GtE) (rI0 fun i j=>.bl (decide (j≤i))):=opB0 fun _ _ _ _ _ _ _ q=>ge_int q
theorem zuG:OpR X (compareOp .Is) (fun x y H Q=>y=.non∧Q (.bl (decide (x=.non))) H):=by
 intro pins s σ H x y v u Q I rx ry h
 obtain ⟨rfl,q⟩:=h
 cases ry
 refine is_none_gen (zbT I q ?_)
 cases x <;> first
  | (cases rx;rfl)
  | (obtain ⟨t,rfl⟩:=rx;rfl)
theorem zbH (b:Expr) {op:CmpOp} (h:op≠.In:=by decide) (h2:op≠.NotIn:=by decide):behindInMarks op b=false:=by
 have e1:(op == CmpOp.In)=false:=by cases op <;> first | rfl | exact absurd rfl h
 have e2:(op == CmpOp.NotIn)=false:=by cases op <;> first | rfl | exact absurd rfl h2
 cases b <;> simp [behindInMarks,e1,e2]
theorem zfA {op:CmpOp} {r:R2} (ho:OpR X (compareOp op) r) (ha:PE X a ta) (hb:PE X b tb) (hm:behindInMarks op b=false):PE X (.Compare a [op] [b] pos) (tOp r ta tb):=by
 intro pins s σ H Q I h
 exact wpAny_Compare1 (binT ha hb I h fun v u s2 x y H2 I2 rx ry q=>ho pins s2 σ H2 x y v u Q I2 rx ry q) hm
def za8 (t:TE):TT:=fun σ H Q=>t σ H fun x H'=>∃ k,x=.bl k∧Q k H'
theorem zbl {op:CmpOp} {r:R2} (ho:OpR X (compareOp op) r) (ha:PE X a ta) (hb:PE X b tb) (hm:behindInMarks op b=false):PT X (.Compare a [op] [b] pos) (za8 (tOp r ta tb)):=by
 intro pins s σ H Q I h
 refine wpAny_isTrue_Compare1 (thn (ha pins s σ H _ I h) fun v s1 ⟨x,H1,I1,r1,q1⟩=>thn (hb pins s1 σ H1 _ I1 q1) fun u s2 ⟨y,H2,I2,r2,q2⟩ =>
  thn (ho pins s2 σ H2 x y v u _ I2 r1 r2 q2) fun c s3 ⟨z,H3,I3,r3,k,e,q3⟩=>?_) hm
 subst e
 cases r3
 exact wpAny_truthy_bool ⟨H3,I3,q3⟩
def zk8 (r r':R2) (ta tb tc:TE):TE:=fun σ H Q=>ta σ H fun x H1=>tb σ H1 fun y H2=>r x y H2 fun z H3=>∃ k,z=.bl k ∧
 (if k=true then tc σ H3 fun w' H4=>r' y w' H4 Q else Q (.bl false) H3)
theorem zqb {op op':CmpOp} {r r':R2} (ho:OpR X (compareOp op) r) (ho':OpR X (compareOp op') r') (ha:PE X a ta) (hb:PE X b tb) (hc:PE X c tc)
  (hm:lastMarks [op,op'] [b,c]=false:=by with_unfolding_all rfl):PE X (.Compare a [op,op'] [b,c] pos) (zk8 r r' ta tb tc):=by
 intro pins s σ H Q I h
 refine Compare_chain (thn (ha pins s σ H _ I h) fun v s1 ⟨x,H1,I1,r1,q1⟩=>chain_link (thn (hb pins s1 σ H1 _ I1 q1) fun u s2 ⟨y,H2,I2,r2,q2⟩ =>
  thn (ho pins s2 σ H2 x y v u _ I2 r1 r2 q2) fun d s3 ⟨z,H3,I3,r3,k,e,q3⟩=>?_)) hm
 subst e
 cases r3
 refine wpAny_truthy_bool ?_
 cases k with
 | false=>exact ite_ff ⟨.bl false,H3,I3,rfl,q3⟩
 | true=>exact ite_tt (chain_last (thn (hc pins s3 σ H3 _ I3 q3) fun w' s4 ⟨z',H4,I4,r4,q4⟩=>ho' pins s4 σ H4 y z' u w' Q I4 r2 r4 q4))
theorem zq4 {op op':CmpOp} {r r':R2} (ho:OpR X (compareOp op) r) (ho':OpR X (compareOp op') r') (ha:PE X a ta) (hb:PE X b tb) (hc:PE X c tc)
  (hm:lastMarks [op,op'] [b,c]=false:=by with_unfolding_all rfl):PT X (.Compare a [op,op'] [b,c] pos) (za8 (zk8 r r' ta tb tc)):=by
 intro pins s σ H Q I h
 refine isTrue_chain (thn (ha pins s σ H _ I h) fun v s1 ⟨x,H1,I1,r1,q1⟩=>test_link (thn (hb pins s1 σ H1 _ I1 q1) fun u s2 ⟨y,H2,I2,r2,q2⟩ =>
  thn (ho pins s2 σ H2 x y v u _ I2 r1 r2 q2) fun d s3 ⟨z,H3,I3,r3,k,e,q3⟩=>?_)) hm
 subst e
 cases r3
 refine wpAny_truthy_bool ?_
 cases k with
 | false =>
  obtain ⟨k',e',q'⟩:=q3
  cases e'
  exact ite_ff ⟨H3,I3,q'⟩
 | true =>
  refine ite_tt (test_last (thn (hc pins s3 σ H3 _ I3 q3) fun w' s4 ⟨z',H4,I4,r4,q4⟩=>thn (ho' pins s4 σ H4 y z' u w' _ I4 r2 r4 q4) fun d' s5 hQ'=>?_))
  obtain ⟨z2,H5,I5,r5,k2,e2,q5⟩:=hQ'
  subst e2
  cases r5
  exact wpAny_truthy_bool ⟨H5,I5,q5⟩
def zua (K:PySem.W.Frag) (x:V) (H:Hp) (k:Bool):Prop :=
 match x with
 | .non=>k=false
 | .bl b=>k=b
 | .int i=>k=(i != 0)
 | .str y=>y.length≤sizeLine∧k=((y.length:Int) != 0)
 | .byt y=>y.size≤sizeLine∧k=((y.size:Int) != 0)
 | .ref p=>(∃ xs,SqL K H p xs∧k=!xs.isEmpty)∨(∃ xs,SqT K H p xs∧k=!xs.isEmpty)∨∃ kvs,H p=some (.dK kvs)∧k=!kvs.isEmpty
 | _=>False
theorem znc {κ:Type} {kvs:List (κ×V)} {vs:List (κ×Value)} (r:KV kvs vs):(!vs.isEmpty)=!kvs.isEmpty:=by
 cases r <;> rfl
theorem zja {xs:List V} {its:List Value} (r:zcc xs its):(!its.toArray.isEmpty)=!xs.isEmpty:=by
 cases r <;> simp
theorem zkX:(sizeLine:Nat)<2 ^ 63:=by rw [sizeLine_eq];decide
theorem zus:TruR X (fun x H Q=>∃ k,zua X.K x H k∧Q k H):=by
 intro pins s σ H x v Q I rx h
 obtain ⟨k,e,q⟩:=h
 have hl:=zkX
 have hs:sizeLine=16777216:=sizeLine_eq
 cases x with
 | non =>
  cases rx
  have e':k=false:=e
  subst e'
  exact truthy_none ⟨H,I,q⟩
 | bl b =>
  cases rx
  have e':k=b:=e
  subst e'
  exact wpAny_truthy_bool ⟨H,I,q⟩
 | int i =>
  obtain ⟨t,rfl⟩:=rx
  have e':k=(i != 0):=e
  subst e'
  exact PySem.P.truthy_int ⟨H,I,q⟩
 | str y =>
  obtain ⟨t,rfl⟩:=rx
  obtain ⟨hy,e'⟩:y.length≤sizeLine∧k=((y.length:Int) != 0):=e
  subst e'
  exact PySem.P.truthy_str (by (first|lia|omega)) ⟨H,I.tok _,q⟩
 | byt y =>
  obtain ⟨t,rfl⟩:=rx
  obtain ⟨hy,e'⟩:y.size≤sizeLine∧k=((y.size:Int) != 0):=e
  subst e'
  exact PySem.W.truthy_bytes (by (first|lia|omega)) ⟨H,I.tok _,q⟩
 | ref p =>
  cases rx
  have e':(∃ xs,SqL X.K H p xs∧k=!xs.isEmpty)∨(∃ xs,SqT X.K H p xs∧k=!xs.isEmpty)∨∃ kvs,H p=some (.dK kvs)∧k=!kvs.isEmpty:=e
  rcases e' with ⟨xs,hx,e'⟩ | ⟨xs,hx,e'⟩ | ⟨kvs,hx,e'⟩
  ·subst e'
   obtain ⟨its,r,pl,hz⟩:=I.list hx
   have hlen:=r.length
   exact wpAny_truthy_list pl.isList (by simp only [List.size_toArray];(first|lia|omega)) ⟨H,I.tok _,by rw [zja r];exact q⟩
  ·subst e'
   obtain ⟨its,r,pl,hz⟩:=I.tuple hx
   have hlen:=r.length
   exact truthy_tuple pl (by simp only [List.size_toArray];(first|lia|omega)) ⟨H,I.tok _,by rw [zja r];exact q⟩
  ·subst e'
   obtain ⟨hz,hS,vs,r,m⟩:kvs.length≤sizeLine∧(p == sysModules)=false∧∃ vs,KV kvs vs∧s.heap.DictOf (zmD X.prog X.w) p vs:=I.hok p _ hx
   have hlen:kvs.length=vs.length:=Paired.length r
   exact wpAny_truthy_dict hS m (by (first|lia|omega)) ⟨H,I.tok _,by rw [znc r];exact q⟩
 | _=>exact (show False from e).elim
theorem zp4 (ha:PE X a ta) (he:∀ whole,isTrue a X.env whole=(do let v ← whole;standAt a.pos;holding [v] (truthy v))) :
  PT X a (fun σ H Q=>ta σ H fun x H'=>∃ k,zua X.K x H' k∧Q k H'):=by
 intro pins s σ H Q I h
 exact isTrue_plain (thn (ha pins s σ H _ I h) fun v s1 ⟨x,H1,I1,r1,q1⟩=>zus pins s1 σ H1 x v Q I1 r1 q1) (he _)
theorem zlh {x:V} {us:List Value} (r:zcc [x] us):∃ u,us=[u]∧zc5 x u:=by
 cases r with
 | cons r1 r2=>cases r2;exact ⟨_,rfl,r1⟩
theorem zm7 {x y:V} {us:List Value} (r:zcc [x,y] us):∃ u w',us=[u,w']∧zc5 x u∧zc5 y w':=by
 cases r with
 | cons r1 r2 =>
  cases r2 with
  | cons r3 r4=>cases r4;exact ⟨_,_,rfl,r1,r3⟩
theorem zmM:zfP X (.builtin "abs") (fun xs H Q=>∃ i,xs=[.int i]∧Q (.int (if i<0 then -i else i)) H):=by
 intro pins s σ H xs us Q I r h
 obtain ⟨i,rfl,q⟩:=h
 obtain ⟨u,rfl,t,rfl⟩:=zlh r
 exact call_abs_int fun u tk=>⟨.int (if i<0 then -i else i),H,I.tok _,⟨_,rfl⟩,q⟩
theorem zn6 (hc:X.calm=true):zfP X (.builtin "max") (fun xs H Q=>∃ i j,xs=[.int i,.int j]∧Q (.int (if j > i then j else i)) H):=by
 intro pins s σ H xs us Q I r h
 obtain ⟨i,j,rfl,q⟩:=h
 obtain ⟨u,w',rfl,⟨t,rfl⟩,⟨t',rfl⟩⟩:=zm7 r
 refine max_two_ints (I.ok.hd hc) fun h' tk k=>⟨_,H,I.kept k,?_,q⟩
 by_cases hj:j > i
 ·rw [if_pos hj,if_pos hj];exact ⟨_,rfl⟩
 ·rw [if_neg hj,if_neg hj];exact ⟨_,rfl⟩
theorem zlx:zfP X (.type "int") (fun xs H Q=>(∃ i,xs=[.int i]∧Q (.int i) H)∨∃ k,xs=[.bl k]∧Q (.int (if k then 1 else 0)) H):=by
 intro pins s σ H xs us Q I r h
 rcases h with ⟨i,rfl,q⟩ | ⟨k,rfl,q⟩
 ·obtain ⟨u,rfl,t,rfl⟩:=zlh r
  exact call_int_int ⟨.int i,H,I,⟨_,rfl⟩,q⟩
 ·obtain ⟨u,rfl,r1⟩:=zlh r
  cases r1
  exact call_int_bool ⟨.int (if k then 1 else 0),H,I.tok _,⟨_,rfl⟩,q⟩
end
end L2
namespace L2
open PySem PySem.Spec PyProof.Rows
structure ObjM (h:Heap) (x dx C:Addr) (mA:Str→Option Value):Prop where
 obj:h.get? x=some (PySem.W.instObj C dx)
 ns:h.Ns1 dx mA
 ne:dx≠x
theorem zkM {h:Heap} {dx:Addr} {mA:Str→Option Value} (n:h.Ns1 dx mA):∃ od,h.get? dx=some od∧∀ name,PySem.W.lookIn name od=some (mA name):=by
 obtain ⟨o,es,ep,ho,hd,hk,_,hm⟩:=n
 refine ⟨o,ho,fun name=>?_⟩
 have e:=hm name
 unfold nsFind findBy at e
 rw [← Array.find?_toList] at e
 unfold PySem.W.lookIn
 rw [hd]
 dsimp only
 split
 ·rename_i y q
  rw [q] at e
  exact congrArg some e
 ·rename_i q
  rw [q] at e
  have a:es.toList.any (·.refKey)=false:=by
   rw [List.any_eq_false]
   intro y hy
   obtain ⟨z,t,hkey⟩:=hk y (Array.mem_toList_iff.mp hy)
   simp [DictEntry.refKey,hkey]
  have a':¬ es.toList.any (·.refKey)=true:=by rw [a];exact Bool.false_ne_true
  rw [if_neg a']
  exact congrArg some e
theorem ObjM.look {h:Heap} {x dx C:Addr} {mA:Str→Option Value} (I:ObjM h x dx C mA):∃ od,PySem.W.InstAt h x (PySem.W.instObj C dx) C (some od)∧∀ name,PySem.W.lookIn name od=some (mA name) :=
 let ⟨od,ho,hl⟩:=zkM I.ns
 ⟨od,⟨I.obj,rfl,rfl,ho⟩,hl⟩
section
variable {prog:Program} {w:World} {A:Around} {E:Value→Shared→Prop} {s:Shared} {K:PySem.W.Frag} {x dx C f:Addr} {mA:Str→Option Value} {name:Str} {v:Value}
end
theorem ztI.some_of {v:V} {o:Option Value} (r:ztI (some v) o):∃ u,o=some u∧zc5 v u:=by
 cases o with
 | none=>exact (show False from r).elim
 | some u=>exact ⟨u,rfl,r⟩
theorem zoX {v:V} {u:Value} (r:zc5 v u):PySem.W.handedIn u=true:=by
 cases v with
 | non=>cases (show u=Value.none from r);rfl
 | bl b=>cases (show u=Value.bool b from r);rfl
 | int i=>obtain ⟨t,e⟩:=(show ∃ t,u=Value.int i t from r);cases e;rfl
 | str x=>obtain ⟨t,e⟩:=(show ∃ t,u=Value.str x t from r);cases e;rfl
 | byt b=>obtain ⟨t,e⟩:=(show ∃ t,u=Value.bytes b t from r);cases e;rfl
 | flt b=>obtain ⟨t,e⟩:=(show ∃ t,u=Value.float b t from r);cases e;rfl
 | ref a=>cases (show u=Value.ref a from r);rfl
 | ty n=>cases (show u=Value.type n from r);rfl
section
variable {P:Program} {w:World} {H H':Hp} {h h':Heap} {a C dx:Addr} {fs fs':List (Str×V)}
theorem zsk (hok:HOk P w H h) (e:H a=some (.ins C dx fs)):∃ mA,ObjM h a dx C mA∧(∀ f,ztI (fs.lookup f) (mA f))∧PySem.Within mA (fs.map (·.1))∧fs.length≤1000∧H dx=some (.own a):=by
 obtain ⟨d,z,ne,ob,mA,n,r,q⟩:=(show zcG P w H h a (.ins C dx fs) from hok a _ e)
 exact ⟨mA,⟨ob,n,ne⟩,r,q,z,d⟩
end
structure Cls (K:PySem.W.Frag) (C:Addr):Prop where
 pg:PySem.W.plainGet K C Str.empty=true
 hd:PySem.W.hasDictIn K C=true
 po:PySem.W.plainOver K C=true
 sa:PySem.W.findIn K (.ref C) "__setattr__"=some (some (.builtin "object.__setattr__"))
theorem Cls.get {K:PySem.W.Frag} {C:Addr} (c:Cls K C) (f:Str):PySem.W.plainGet K C f=true:=c.pg
section
variable {X:Cx} {pins:List (Addr×Obj)} {σ:St} {H:Hp} {s:Shared} {a C dx:Addr} {fs:List (Str×V)} {f:Str} {v:V} {A:Around} {E:Value→Shared→Prop}
theorem ztT {prog:Program} {w:World} {env:Env} {e:Expr} {f:Str} {pos:Pos} {s:Shared} {Q:Value→Shared→Prop} (hb:attributeBase e f env (eval e env)=eval e env)
  (h:wpAny (model prog w) A (eval e env) (fun o s₁=>wpAny (model prog w) A (getAttr o f true) Q E s₁) E s):wpAny (model prog w) A (eval (.Attribute e f pos) env) Q E s :=
 Attribute_any_ h (by rw [arm_eval_Attribute,hb])
end
section
variable {X:Cx} {o e value:Expr} {f:Str} {pos pos' tpos:Pos} {ta tv:TE}
end
section
variable {X:Cx} {pins:List (Addr×Obj)} {σ:St} {H:Hp} {s:Shared} {A:Around} {E:Value→Shared→Prop} {Q:Value→Shared→Prop} {c:Value} {b:Bool}
inductive zmW (K:PySem.W.Frag) (H:Hp):V→Value→Prop where
 | non:zmW K H .non (.type "NoneType")
 | bl (x:Bool):zmW K H (.bl x) (.type "bool")
 | int (i:Int):zmW K H (.int i) (.type "int")
 | str (x:Str):zmW K H (.str x) (.type "str")
 | flt (x:UInt64):zmW K H (.flt x) (.type "float")
 | lst {a:Addr} {xs:List V} (e:H a=some (.lst xs)):zmW K H (.ref a) (.type "list")
 | frz {a:Addr} {o:Obj} {xs:List V} (e:H a=some (.frz o (.lst xs))):zmW K H (.ref a) (.type "list")
 | tup {a:Addr} {xs:List V} (e:H a=some (.tup xs)):zmW K H (.ref a) (.type "tuple")
 | dK {a:Addr} {kvs:List (Key×V)} (e:H a=some (.dK kvs)):zmW K H (.ref a) (.type "dict")
 | dT {a:Addr} {kvs:List (List Key×V)} (e:H a=some (.dT kvs)):zmW K H (.ref a) (.type "dict")
 | ins {a C dx:Addr} {fs:List (Str×V)} (e:H a=some (.ins C dx fs)) (cl:Cls K C) (ha:PySem.W.findIn K (.ref C) "__class__"=some (some (.builtin "object.__class__")))
   (hn:PySem.W.specialIn K (.builtin "object.__class__") "__get__"=some (some (.builtin "getset_descriptor.__get__"))) (htk:PySem.W.takesIn K (.builtin "object.__class__")=some true)
   (hm:PySem.W.mroIn K C (.type "object")=some true):zmW K H (.ref a) (.ref C)
theorem zpr {x:V} {u t:Value} (I:Inv X pins σ H s) (rx:zc5 x u) (ty:zmW X.K H x t) (e:PySem.W.kitOne X.K t c=some b) (h:∀ tk,Q (.bool b) { s with toks:=tk }) :
  wpAny (model X.prog X.w) A (call (.builtin "isinstance") [u,c]) Q E s:=by
 cases ty with
 | non=>cases (show u=Value.none from rx);exact PySem.W.kia_one PySem.W.kitx_none I.kIn True.intro e (fun z=>nomatch z) h
 | bl y=>cases (show u=Value.bool y from rx);exact PySem.W.kia_one PySem.W.kitx_bool I.kIn True.intro e (fun z=>nomatch z) h
 | int i=>obtain ⟨t,q⟩:=(show ∃ t,u=Value.int i t from rx);cases q;exact PySem.W.kia_one PySem.W.kitx_int I.kIn True.intro e (fun z=>nomatch z) h
 | str y=>obtain ⟨t,q⟩:=(show ∃ t,u=Value.str y t from rx);cases q;exact PySem.W.kia_one PySem.W.kitx_str I.kIn True.intro e (fun z=>nomatch z) h
 | flt y=>obtain ⟨t,q⟩:=(show ∃ t,u=Value.float y t from rx);cases q;exact PySem.W.kia_one PySem.W.kitx_float I.kIn True.intro e (fun z=>nomatch z) h
 | @lst a xs ea =>
  cases (show u=Value.ref a from rx)
  obtain ⟨_,_,n,_,h1⟩:=(show zcG X.prog X.w H s.heap a (.lst xs) from I.hok a _ ea)
  exact PySem.W.kia_one PySem.W.kitx_list I.kIn ⟨_,h1,rfl⟩ e (fun z=>nomatch z) h
 | @frz a ob xs ea =>
  cases (show u=Value.ref a from rx)
  obtain ⟨_,_,_,n,_,h1⟩:=(show zcG X.prog X.w H s.heap a (.frz ob (.lst xs)) from I.hok a _ ea)
  exact PySem.W.kia_one PySem.W.kitx_list I.kIn ⟨_,h1,rfl⟩ e (fun z=>nomatch z) h
 | @tup a xs ea =>
  cases (show u=Value.ref a from rx)
  obtain ⟨_,_,_,p⟩:=(show zcG X.prog X.w H s.heap a (.tup xs) from I.hok a _ ea)
  obtain ⟨o,h1,h2,_⟩:=p
  exact PySem.W.kia_one PySem.W.kitx_tuple I.kIn ⟨o,h1,h2⟩ e (fun z=>nomatch z) h
 | @dK a kvs ea =>
  cases (show u=Value.ref a from rx)
  obtain ⟨_,_,vs,_,p⟩:=(show zcG X.prog X.w H s.heap a (.dK kvs) from I.hok a _ ea)
  obtain ⟨o,es,ep,h1,h2,_⟩:=p
  exact PySem.W.kia_one PySem.W.kitx_dict I.kIn ⟨o,h1,h2.1⟩ e (fun z=>nomatch z) h
 | @dT a kvs ea =>
  cases (show u=Value.ref a from rx)
  obtain ⟨_,_,xs,_,o,es,ep,h1,h2,_⟩:=(show zcG X.prog X.w H s.heap a (.dT kvs) from I.hok a _ ea)
  exact PySem.W.kia_one PySem.W.kitx_dict I.kIn ⟨o,h1,h2.1⟩ e (fun z=>nomatch z) h
 | @ins a C dx fs ea cl ha hn htk hm =>
  cases (show u=Value.ref a from rx)
  obtain ⟨mA,O,_⟩:=zsk I.hok ea
  obtain ⟨od,J,_⟩:=O.look
  exact PySem.W.kia_one (PySem.W.kitx_own (cl.get _) cl.hd ha hn htk hm) I.kIn J e (fun z=>nomatch z) h
end
end L2
namespace L2
open PySem PySem.Spec PyProof.Rows
structure zg3 (k:Nat) (A:Around):Prop where
 hd:A.handled=none
 dp:A.depth+3*k+5<recursionLimit
 un:A.units+16*k+200<cLine
theorem zg3.mono {j k:Nat} {A:Around} (r:zg3 k A) (h:j≤k):zg3 j A:=⟨r.hd,by have:=r.dp;(first|lia|omega),by have:=r.un;(first|lia|omega)⟩
theorem zg3.deeper {k:Nat} {A:Around} (r:zg3 (k+1) A) (env:Env):zg3 k (A.deeper env) :=
 ⟨r.hd,by have:=r.dp;show A.depth+1+3*k+5<_;(first|lia|omega),by have:=r.un;show A.units+3+16*k+200<_;(first|lia|omega)⟩
theorem zm4 {A:Around} {C:Addr} {us:List Value} {kw:List (Str×Value)}:(A.under (.builtin "type.__call__" ⟨.ref C::us,kw⟩)).depth=A.depth+1:=by
 first | rfl | simp [Around.under,Code.weight,Code.isCreation,Code.isGuard,Code.isCaller,Code.frames,Code.isFrame,guardIds]
theorem znF {A:Around} {C:Addr} {us:List Value} {kw:List (Str×Value)}:(A.under (.builtin "type.__call__" ⟨.ref C::us,kw⟩)).units=A.units+1:=by
 first | rfl | simp [Around.under,Code.cUnits,Code.frames,Code.isFrame]
theorem zg3.make {k:Nat} {A:Around} (r:zg3 (k+1) A) (C:Addr) (us:List Value) (kw:List (Str×Value)):zg3 k (A.under (.builtin "type.__call__" ⟨.ref C::us,kw⟩)) :=
 ⟨r.hd,by have:=r.dp;rw [zm4];(first|lia|omega),by have:=r.un;rw [znF];(first|lia|omega)⟩
theorem zg3.depth {k:Nat} {A:Around} (r:zg3 k A):A.depth<recursionLimit:=by have:=r.dp;(first|lia|omega)
theorem zg3.units {k:Nat} {A:Around} (r:zg3 k A):A.units+64<cLine:=by have:=r.un;(first|lia|omega)
def zah:TA:=fun _ H Q=>Q [] H
def zab (ta:TE) (tr:TA):TA:=fun σ H Q=>ta σ H fun x H1=>tr σ H1 fun xs H2=>Q (x::xs) H2
section
variable {X:Cx} {e:Expr} {es:List Expr} {te:TE} {t:TA} {pos:Pos}
theorem zad:PA X [] zah:=fun _ _ _ _ H Q I h=>Calls.spliced_nil ⟨[],H,I,.nil,h⟩
theorem zaa (ha:PE X e te) (hr:PA X es t) (hs:starEach (e::es) X.env=(false,eval e X.env)::starEach es X.env:=by rfl):PA X (e::es) (zab te t):=by
 intro pos pins s σ H Q I h
 rw [hs]
 show wpAny _ _ (spliced ((false,eval e X.env)::backTo pos (starEach es X.env))) _ _ s
 refine Calls.spliced_cons (thn (ha pins s σ H _ I h) fun u s1 hQ'=>?_)
 obtain ⟨x,H1,I1,r1,q1⟩:=hQ'
 exact thn (hr pos pins s1 σ H1 _ I1 q1) fun us s2 ⟨xs,H2,I2,r2,q2⟩=>⟨x::xs,H2,I2,.cons r1 r2,q2⟩
def zds (t:TA):TE:=fun σ H Q=>t σ H fun xs H1=>xs.length≤sizeLine∧∀ p,H1 p=none→Q (.ref p) (upd H1 p (.tup xs))
def zbX (t:TA):TE:=fun σ H Q=>t σ H fun xs H1=>xs.length≤sizeLine∧∀ p,H1 p=none→Q (.ref p) (upd H1 p (.lst xs))
theorem zca {x1} (h:PA X es t):PE X (.Tuple es x1 pos) (zds t):=by
 intro pins s σ H Q I hq
 refine wpAny_Tuple_spliced (thn (h pos pins s σ H _ I hq) fun us s1 ⟨xs,H1,I1,r,z,q⟩=>⟨by rw [← r.length];exact z,?_⟩)
 have hf:H1 s1.heap.objs.size=none:=I1.hok.fresh (Nat.le_refl _)
 refine ⟨.ref s1.heap.objs.size,upd H1 s1.heap.objs.size (.tup xs),I1.laid (t':=s1.toks) (fun b u e=>Heap.get?_push_of_some _ e) (Nat.le_refl _) ?_,rfl,q _ hf⟩
 exact ⟨z,us,r,⟨_,Heap.get?_push_size _ rfl,rfl,_,rfl⟩⟩
theorem zaN (h:PA X es t):PE X (.List es pos) (zbX t):=by
 intro pins s σ H Q I hq
 refine wpAny_List_spliced (thn (h pos pins s σ H _ I hq) fun us s1 ⟨xs,H1,I1,r,z,q⟩=>⟨by rw [← r.length];exact z,?_⟩)
 have hf:H1 s1.heap.objs.size=none:=I1.hok.fresh (Nat.le_refl _)
 refine ⟨.ref s1.heap.objs.size,upd H1 s1.heap.objs.size (.lst xs),I1.laid (t':=s1.toks) (fun b u e=>Heap.get?_push_of_some _ e) (Nat.le_refl _) ?_,rfl,q _ hf⟩
 exact ⟨z,us,0,r,Heap.get?_push_size _ rfl⟩
end
abbrev Sp:=List V→Hp→VK→XK→Prop
abbrev CXT:=List Env→Hp→Shared→XK→Value→Shared→Prop
structure zrY (P:Program) (w:World) (K:PySem.W.Frag) (mg:Str→Option Value) (base:Heap) (A:Around) (outer:List Env) (s:Shared) (H:Hp):Prop where
 frames:A.frames=some outer
 mod:Mod K mg base
 bs:∀ b o,base.get? b=some o→s.heap.get? b=some o∧H b=none
 bsz:base.objs.size≤s.heap.objs.size
 funs:s.heap.FunFrames base outer
 frf:∀ b∈frs outer,H b=none
 hok:HOk P w H s.heap
 bare:AllBare s.gens
def CE (outer:List Env) (P:Program) (w:World) (H:Hp) (s:Shared) (Q:VK) (u:Value) (s':Shared):Prop :=
 ∃ v H',s'.os=s.os∧AllBare s'.gens∧Un (frs outer) [] H H' s.heap s'.heap∧HOk P w H' s'.heap∧zc5 v u∧Q v H'
def CR (CX:CXT) (outer:List Env) (P:Program) (w:World) (H:Hp) (s:Shared) (Q:VK) (E:XK) (r:Result) (s':Shared):Prop :=
 match r with
 | .ok (.ret u)=>CE outer P w H s Q u s'
 | .ok _=>False
 | .error e=>CX outer H s E e s'
structure zdW (P:Program) (w:World) (K:PySem.W.Frag) (mg:Str→Option Value) (base:Heap) (CX:CXT) (k:Nat) (f:Addr) (fd:FuncData) (ps:List Str) (sp:Sp):Prop where
 len:∀ vs H Q E,sp vs H Q E→vs.length=ps.length
 run:∀ (A:Around) (outer:List Env) (s:Shared) (H:Hp) (args:Args) (us:List Value) (vs:List V) (Q:VK) (E:XK),zg3 k A→zrY P w K mg base A outer s H→BindsTo s fd args (ps.zip us)→zcc vs us→sp vs H Q E →
  codeAny (model P w) A (.call (.ref f) args) (CR CX outer P w H s Q E) s
theorem zrY.make {P:Program} {w:World} {K:PySem.W.Frag} {mg:Str→Option Value} {base:Heap} {A:Around} {outer:List Env} {s:Shared} {H:Hp} (e:zrY P w K mg base A outer s H) (C:Addr) (us:List Value) (kw:List (Str×Value)) :
  zrY P w K mg base (A.under (.builtin "type.__call__" ⟨.ref C::us,kw⟩)) outer s H:=⟨by first | exact e.frames | (simpa [Around.under,Code.envs,Code.isFrame,pushEnvs] using e.frames),e.mod,e.bs,e.bsz,e.funs,e.frf,e.hok,e.bare⟩
section
variable {X:Cx} {pins:List (Addr×Obj)} {σ:St} {H:Hp} {s s':Shared}
theorem Inv.env0 (I:Inv X pins σ H s):zrY X.prog X.w X.K X.mg X.base X.A X.stack s H :=
 ⟨I.ok.frames,I.ok.mod,I.bs,Nat.le_trans I.ok.bsz I.sz,I.stack,I.stkFree,I.hok,I.bare⟩
theorem Inv.after {Q:VK} {u:Value} (I:Inv X pins σ H s) (h:CE X.stack X.prog X.w H s Q u s'):EP X pins σ Q u s':=by
 obtain ⟨v,H',os,bare,un,hok,r,q⟩:=h
 obtain ⟨hh,g,d,t,os'⟩:=s'
 obtain rfl:os'=s.os:=os
 exact ⟨v,H',I.call (h':=hh) (g':=g) (d':=d) (t':=t) (ch:=[]) un hok bare (fun b z=>absurd z (by simp)),r,q⟩
end
def zat (sp:Sp) (dvs:List V) (E:XK) (t:TA):TE:=fun σ H Q=>t σ H fun vs H1=>sp (vs++dvs) H1 Q E
def zb4 (K:PySem.W.Frag) (fd:FuncData) (ps:List Str) (ds:List Value):Prop :=
 ∀ (s:Shared) (us:List Value),K.In s.heap→(us++ds).length=ps.length→BindsTo s fd ⟨us,[]⟩ (ps.zip (us++ds))
theorem zb4.all {K:PySem.W.Frag} {fd:FuncData} {ps:List Str} (h:∀ us:List Value,us.length=ps.length→bindArgs fd ⟨us,[]⟩=pure (ps.zip us)):zb4 K fd ps []:=fun s us _ hl=>by
 rw [List.append_nil] at hl ⊢
 exact .of_eq (h us hl)
def zi0 (CX:CXT) (X:Cx) (E:XK):Prop:=∀ (pins:List (Addr×Obj)) (σ:St) (H:Hp) (s:Shared) (e:Value) (s':Shared),Inv X pins σ H s→CX X.stack H s E e s'→X.xe e s'
section
variable {X:Cx} {CX:CXT} {k:Nat} {f C:Addr} {fd:FuncData} {ps:List Str} {sp:Sp} {dvs:List V} {ds:List Value} {E:XK} {x m:Str} {p pos apos:Pos} {e o:Expr} {es:List Expr} {ta:TE} {t:TA}
theorem zuw {pins:List (Addr×Obj)} {σ:St} {H:Hp} {s:Shared} {Q:VK} {us:List Value} {vs:List V} (F:zdW X.prog X.w X.K X.mg X.base CX k f fd ps sp) (hr:zg3 k X.A) (hb:zb4 X.K fd ps ds) (hd:zcc dvs ds) (hx:zi0 CX X E)
  (I:Inv X pins σ H s) (r:zcc vs us) (h:sp (vs++dvs) H Q E):wpAny (model X.prog X.w) X.A (call (.ref f) us) (EP X pins σ Q) X.xe s:=by
 have r2:zcc (vs++dvs) (us++ds):=r.append hd
 have hl:(us++ds).length=ps.length:=by rw [← r2.length];exact F.len _ _ _ _ h
 refine wpAny_call (codeAny_mono (F.run X.A X.stack s H ⟨us,[]⟩ (us++ds) (vs++dvs) Q E hr I.env0 (hb s us I.kIn hl) r2 h) fun r s' hq=>?_)
 cases r with
 | error e=>exact hx pins σ H s e s' I hq
 | ok fl =>
  cases fl with
  | ret u=>exact I.after hq
  | next=>exact False.elim hq
  | brk=>exact False.elim hq
  | cont=>exact False.elim hq
theorem zap (F:zdW X.prog X.w X.K X.mg X.base CX k f fd ps sp) (hr:zg3 k X.A) (hg:Gl X x) (hm:X.mg x=some (.ref f)) (hk:PySem.W.keepIn X.K (.ref f)=true) (hb:zb4 X.K fd ps ds) (hd:zcc dvs ds) (hx:zi0 CX X E)
  (ha:PA X (e::es) t) (hdb:(x == ("__debug__":Str))=false:=by decide) (he:starEach (e::es) X.env=(false,eval e X.env)::starEach es X.env:=by rfl) (hpl:(backTo pos (starEach es X.env)).any (·.1)=false:=by rfl) :
  PE X (.Call (.Name x p) (e::es) [] pos) (zat sp dvs E t):=by
 intro pins s σ H Q I h
 refine wpAny_Call_Name_kw (zfD I hg hm ?_ hdb)
 refine PySem.W.callWith_K (h₀:=X.base) I.ok.mod.kin hk (thn (ha pos pins s σ H _ I h) fun us s1 ⟨vs,H1,I1,r,q⟩=>⟨I1.kIn,?_⟩) he hpl
 exact zuw F hr hb hd hx I1 r q
end
def PK (X:Cx) (kws:List Keyword) (t:TA):Prop :=
 ∀ (pos:Pos) (pins:List (Addr×Obj)) (s:Shared) (σ:St) (H:Hp) (Q:List V→Hp→Prop),Inv X pins σ H s→t σ H Q→wpAny (model X.prog X.w) X.A (evalAll ((backToKw pos (keywordEach kws X.env)).map (·.2))) (AP X pins σ Q) X.xe s
section
variable {X:Cx} {CX:CXT} {k:Nat} {f C:Addr} {fd:FuncData} {ps ks:List Str} {sp:Sp} {E:XK} {x m:Str} {p pos apos kpos:Pos} {e o:Expr} {es:List Expr} {kws:List Keyword} {te ta:TE} {t tk:TA} {nm:Option Str}
variable {g:List Value→List Value→List Value} {gV:List V→List V→List V}
end
structure zaM (N P:List Str) (sc:Scope):Prop where
 kind:sc.kind=.function
 co:sc.isCoroutine=false
 gen:sc.isGenerator=false
 nd:N.Nodup
 pre:N.take P.length=P
 par:∀ x∈P,sc.names.lookup x=some .local∨sc.names.lookup x=some .cell
 nofree:∀ y∈sc.names,y.2≠.free
theorem zkt {kindOf:Str→Option NameKind} {x:Str}:∀ {binds:List (Str×Value)} {m:Str→Option Value},(∀ v,(x,v)∉binds)→bindL kindOf binds m x=m x
 | [],_,_=>rfl
 | (n,v)::r,m,h=>by
  unfold bindL
  rw [zkt fun w hw=>h w (List.mem_cons_of_mem _ hw)]
  split
  ·have:x≠n:=by rintro rfl;exact h v List.mem_cons_self
   simp [this]
  ·rfl
theorem zkP {kindOf:Str→Option NameKind} {x:Str}:∀ {binds:List (Str×Value)} {m:Str→Option Value},(∀ v,(x,v)∉binds)→bindC kindOf binds m x=m x
 | [],_,_=>rfl
 | (n,v)::r,m,h=>by
  unfold bindC
  rw [zkP fun w hw=>h w (List.mem_cons_of_mem _ hw)]
  split
  ·rfl
  ·have:x≠n:=by rintro rfl;exact h v List.mem_cons_self
   simp [this]
theorem zlB {kindOf:Str→Option NameKind} {x:Str} {v:Value}:∀ {P:List Str} {vs:List Value} {i:Nat} {m:Str→Option Value},P.Nodup→P[i]?=some x→vs[i]?=some v→kindOf x=some .local →
  bindL kindOf (P.zip vs) m x=some v
 | [],_,_,_,_,h,_,_=>by simp at h
 | _::_,[],_,_,_,_,h,_=>by simp at h
 | p::P,w::vs,0,m,nd,h1,h2,hk=>by
  simp at h1 h2;subst h1;subst h2
  show bindL kindOf ((p,w)::P.zip vs) m p=_
  unfold bindL
  rw [zkt fun v hv=>(List.nodup_cons.mp nd).1 (List.of_mem_zip hv).1,if_pos hk]
  simp
 | p::P,w::vs,i+1,m,nd,h1,h2,hk=>by
  show bindL kindOf ((p,w)::P.zip vs) m x=_
  unfold bindL
  exact zlB (i:=i) (List.nodup_cons.mp nd).2 (by simpa using h1) (by simpa using h2) hk
theorem zkn {kindOf:Str→Option NameKind} {x:Str} {v:Value}:∀ {P:List Str} {vs:List Value} {i:Nat} {m:Str→Option Value},P.Nodup→P[i]?=some x→vs[i]?=some v→kindOf x≠some .local →
  bindC kindOf (P.zip vs) m x=some v
 | [],_,_,_,_,h,_,_=>by simp at h
 | _::_,[],_,_,_,_,h,_=>by simp at h
 | p::P,w::vs,0,m,nd,h1,h2,hk=>by
  simp at h1 h2;subst h1;subst h2
  show bindC kindOf ((p,w)::P.zip vs) m p=_
  unfold bindC
  rw [zkP fun v hv=>(List.nodup_cons.mp nd).1 (List.of_mem_zip hv).1,if_neg hk]
  simp
 | p::P,w::vs,i+1,m,nd,h1,h2,hk=>by
  show bindC kindOf ((p,w)::P.zip vs) m x=_
  unfold bindC
  exact zkn (i:=i) (List.nodup_cons.mp nd).2 (by simpa using h1) (by simpa using h2) hk
def zb1 (N:List Str) (vs:List V):St:=vs.map some++List.replicate (N.length - vs.length) none
def zpM (CX:CXT) (P:Program) (w:World) (K:PySem.W.Frag) (mg:Str→Option Value) (base:Heap) (N:List Str) (qual:Str) (scope:Scope) (f:Addr) (cd:Value) (A:Around) (outer:List Env) (s:Shared) (H:Hp) (E:XK):Cx where
 prog:=P
 w:=w
 K:=K
 mg:=mg
 base:=base
 A:=A.deeper (envOfC qual scope s.heap.objs.size f cd)
 N:=N
 s₀:=s
 H₀:=H
 env:=envOfC qual scope s.heap.objs.size f cd
 outer:=outer
 stack:=envOfC qual scope s.heap.objs.size f cd::outer
 ex:=[]
 calm:=true
 fn:=fun _=>true
 pn:=[]
 xe:=fun e s'=>wpAny (model P w) (A.deeper (envOfC qual scope s.heap.objs.size f cd)) (leaving (envOfC qual scope s.heap.objs.size f cd) e) (fun _ s''=>CX outer H s E e s'') (fun e' s''=>CX outer H s E e' s'') s'
theorem zmQ {sc:Scope} {n:Nat} {x:Str} (h:sc.names.lookup x=some .cell):∃ c,(cellsFrom n sc.names []).lookup x=some c:=by
 have q:=PySem.W.cellsFrom_some sc.names n [] (.inl h)
 exact Option.isSome_iff_exists.mp q
theorem zpn {CX:CXT} {P:Program} {w:World} {K:PySem.W.Frag} {mg:Str→Option Value} {base:Heap} {N ps:List Str} {qual:Str} {scope:Scope} {f:Addr} {cd:Value} {A:Around} {outer:List Env} {s s1:Shared} {H:Hp} {E:XK} {us:List Value} {vs:List V}
  (S:zaM N ps scope) (hd:A.handled=none) (e0:zrY P w K mg base A outer s H) (hl:vs.length=ps.length) (r:zcc vs us)
  (x:InCallC s s.heap.objs.size (bindL (envOfC qual scope s.heap.objs.size f cd).kindOf (ps.zip us) fun _=>none) (cellsFrom (s.heap.objs.size+1) scope.names []) (bindC (envOfC qual scope s.heap.objs.size f cd).kindOf (ps.zip us) fun _=>none) s1) :
  Inv (zpM CX P w K mg base N qual scope f cd A outer s H E) [] (zb1 N vs) H s1:=by
 have hpl:ps.length≤N.length:=by have:=congrArg List.length S.pre;rw [List.length_take] at this;(first|lia|omega)
 obtain ⟨h1,tk,rfl,hk⟩:=x.done
 have noA:∀ b:Addr,b∉(zpM CX P w K mg base N qual scope f cd A outer s H E).ex:=fun b z=>absurd (show b∈([]:List Addr) from z) (by simp)
 refine ⟨⟨e0.mod,S.kind,rfl,rfl,Nat.le_refl _,fun y z c h1 h2=>?_,fun y hy=>?_,fun y c _ h=>?_,fun _=>hd,Around.frames_deeper e0.frames,.inr ⟨rfl,rfl⟩,fun b z=>absurd z (noA b),e0.bs,e0.bsz,fun b _ _=>noA b,fun b z=>absurd z (noA b),e0.funs,e0.frf⟩,
  rfl,e0.bare,Un.kept hk,⟨_,x.toInCall.ns,fun i y v h1 h2 h3=>?_⟩,fun y c h=>⟨_,x.cell y c h⟩,e0.hok.fresh (Nat.le_refl _),fun y c h=>?_,fun p hp=>absurd (show p∈([]:List (Addr×Obj)) from hp) (by simp),e0.hok.kept hk,?_⟩
 ·exact name_of_addr x.apart (PySem.mem_of_lookup h1) (PySem.mem_of_lookup h2)
 ·have hy:scope.names.lookup y=some .cell∨scope.names.lookup y=some .free:=hy
  rcases hy with hy | hy
  ·exact zmQ hy
  ·exact absurd rfl (S.nofree _ (PySem.mem_of_lookup hy))
 ·exact Nat.le_of_lt (x.above y c (PySem.mem_of_lookup h))
 ·have hi:i<vs.length:=by
   unfold zb1 at h2
   by_cases hi:i<vs.length
   ·exact hi
   ·rw [List.getElem?_append_right (by simpa using hi)] at h2
    rw [List.getElem?_replicate] at h2
    split at h2 <;> cases h2
  have ha:vs[i]?=some v:=by
   unfold zb1 at h2
   rw [List.getElem?_append_left (by simpa using hi),List.getElem?_map] at h2
   cases e:vs[i]? with
   | none=>rw [e] at h2;cases h2
   | some a=>rw [e] at h2;cases h2;rfl
  obtain ⟨u,hu,rv⟩:=r.get ha
  have hp:ps[i]?=some y:=by
   rw [← S.pre,List.getElem?_take_of_lt (by (first|lia|omega))];exact h1
  have ndP:ps.Nodup:=by rw [← S.pre];exact S.nd.sublist (List.take_sublist _ _)
  refine ⟨u,rv,?_⟩
  rcases S.par y (List.mem_of_getElem? hp) with k | k
  ·exact .inl ⟨k,zlB ndP hp hu k⟩
  ·obtain ⟨c,e⟩:=zmQ (n:=s.heap.objs.size+1) k
   refine .inr ⟨.inl k,c,e,?_⟩
   have q:=x.cell y c e
   rw [zkn ndP hp hu (by show scope.names.lookup y≠_;rw [k];decide)] at q
   exact q
 ·exact e0.hok.fresh (Nat.le_of_lt (x.above y c (PySem.mem_of_lookup h)))
 ·unfold zb1
  show _=N.length
  rw [List.length_append,List.length_map,List.length_replicate]
  (first|lia|omega)
theorem zuQ {CX:CXT} {P:Program} {w:World} {K:PySem.W.Frag} {mg:Str→Option Value} {base:Heap} {k:Nat} {f:Addr} {name qual:Str} {params:Arguments} {body:List Stmt} {scope:Scope} {dV kV doc pm cdv ct oc:Value} {an od:Option Addr}
  {osl:Array (Option Value)} {N ps:List Str} {sp:Sp} (lk:K.lookup f=some ⟨oc,od,.func (PySem.W.fnOf name qual params body scope dV kV doc pm an cdv ct),osl⟩) (hcd:PySem.W.codeIn K cdv qual=true) (S:zaM N ps scope)
  (len:∀ vs H Q E,sp vs H Q E→vs.length=ps.length)
  (hbody:∀ (A:Around) (outer:List Env) (s:Shared) (H:Hp) (vs:List V) (Q:VK) (E:XK),zg3 k (A.deeper (envOfC qual scope s.heap.objs.size f cdv))→sp vs H Q E →
   ∃ t,PSs (zpM CX P w K mg base N qual scope f cdv A outer s H E) body t∧t { nx:=fun _ H'=>Q .non H',rt:=Q } (zb1 N vs) H) :
  zdW P w K mg base CX (k+1) f (PySem.W.fnOf name qual params body scope dV kV doc pm an cdv ct) ps sp:=by
 refine ⟨len,fun A outer s H args us vs Q E hr e0 hb r hsp=>?_⟩
 have hl:=len _ _ _ _ hsp
 have KX:K.In s.heap:=e0.mod.kin.keeps fun b o e=>(e0.bs b o e).1
 have lim:s.heap.NoLimit:=e0.mod.nolimit.keeps fun b o e=>(e0.bs b o e).1
 have hkind:∀ y∈ps.zip us,scope.names.lookup y.1=some .local∨(scope.names.lookup y.1=some .cell∧((cellsFrom (s.heap.objs.size+1) scope.names []).lookup y.1).isSome=true):=fun ⟨n,v⟩ hy=>by
  rcases S.par n (List.of_mem_zip hy).1 with q | q
  ·exact .inl q
  ·exact .inr ⟨q,PySem.W.cellsFrom_some _ _ _ (.inl q)⟩
 refine codeAny_call_function hr.depth (KX _ _ lk) rfl S.co S.gen rfl (PySem.W.codeRec_of KX hcd) (hb _ _ _ _ ?_)
 refine wpAny_newFunctionEnv_cells S.kind hkind fun env he s1 x=>?_
 subst he
 refine ⟨lim.keeps x.toInCall.keep,codeAny_func ?_⟩
 obtain ⟨t,ht,hq⟩:=hbody A outer s H vs Q E (hr.deeper _) hsp
 have I:Inv (zpM CX P w K mg base N qual scope f cdv A outer s H E) [] (zb1 N vs) H s1:=zpn S hr.hd e0 hl r x
 refine wpAny_mono (ht [] s1 (zb1 N vs) H _ I hq) (fun fl s' hs=>?_) fun e s' hs=>hs
 have fin:∀ {σ':St} {H':Hp} {v:V} {u:Value},Inv (zpM CX P w K mg base N qual scope f cdv A outer s H E) [] σ' H' s'→zc5 v u→Q v H'→CE outer P w H s Q u s' :=
  fun {σ' H' v u} J rv q=>⟨v,H',J.os,J.bare,J.base,J.hok,rv,q⟩
 cases fl with
 | ret u =>
  obtain ⟨v,σ',H',J,rv,q⟩:=hs
  exact fin J rv q
 | next =>
  obtain ⟨σ',H',J,q⟩:=hs
  exact fin (v:=V.non) (u:=Value.none) J rfl q
 | brk =>
  obtain ⟨_,_,_,q⟩:=hs
  exact False.elim q
 | cont =>
  obtain ⟨_,_,_,q⟩:=hs
  exact False.elim q
end L2
namespace L2
open PySem PySem.Spec PyProof.Rows
section
variable {X:Cx} {x:Str} {p pos:Pos} {e:Expr} {es:List Expr} {t:TA} {id T:String} {r:List V→Hp→VK→Prop}
def tCB (r:List V→Hp→VK→Prop) (t:TA):TE:=fun σ H Q=>t σ H fun vs H1=>r vs H1 Q
theorem zao (hc:zfP X (.builtin id) r) (hg:Gl X x) (hm:X.mg x=none) (hv:bootBuiltins x=some (.builtin id)) (ha:PA X (e::es) t) (hn:x≠"__name__":=by decide) (hdb:(x == ("__debug__":Str))=false:=by decide)
  (he:starEach (e::es) X.env=(false,eval e X.env)::starEach es X.env:=by rfl) (hpl:(backTo pos (starEach es X.env)).any (·.1)=false:=by rfl):PE X (.Call (.Name x p) (e::es) [] pos) (tCB r t):=by
 intro pins s σ H Q I h
 refine wpAny_Call_Name_kw (zgF I hg hm hv ?_ hn hdb)
 exact PyProof.Rows.callWith_builtin1 (thn (ha pos pins s σ H _ I h) fun us s1 ⟨vs,H1,I1,r1,q1⟩=>hc pins s1 σ H1 vs us Q I1 r1 q1) he hpl
theorem zc1 (hc:zfP X (.type T) r) (hg:Gl X x) (hm:X.mg x=none) (hv:bootBuiltins x=some (.type T)) (ha:PA X (e::es) t) (hn:x≠"__name__":=by decide) (hdb:(x == ("__debug__":Str))=false:=by decide)
  (he:starEach (e::es) X.env=(false,eval e X.env)::starEach es X.env:=by rfl) (hpl:(backTo pos (starEach es X.env)).any (·.1)=false:=by rfl):PE X (.Call (.Name x p) (e::es) [] pos) (tCB r t):=by
 intro pins s σ H Q I h
 refine wpAny_Call_Name_kw (zgF I hg hm hv ?_ hn hdb)
 exact PyProof.Rows.callWith_type1 (thn (ha pos pins s σ H _ I h) fun us s1 ⟨vs,H1,I1,r1,q1⟩=>hc pins s1 σ H1 vs us Q I1 r1 q1) he hpl
end
end L2
namespace HT
open PySem PyProof.Rows
section
open PySem.SeqAt
open PySem.AutoSeq1 (wpAny_loadPart')
open PySem.MeetsSeq PySem.MeetsSeq2 PySem.MeetsSeq3
end
section
variable {prog:Program} {w:World} {A:Around} {E:Value→Shared→Prop} {s:Shared}
def sIx (n d:Nat):Option Int→Nat
 | none=>d
 | some v=>if v<0 then (v+(n:Int)).toNat else min v.toNat n
theorem zjW (n d:Nat):sIx n d none=d:=rfl
theorem zmt (n d k:Nat):sIx n d (some (k:Int))=min k n:=by
 show (if (k:Int)<0 then ((k:Int)+(n:Int)).toNat else min (k:Int).toNat n)=min k n
 rw [if_neg (by (first|lia|omega)),Int.toNat_natCast]
end
end HT
namespace L2
open PySem PySem.Spec PyProof.Rows
abbrev TO:=St→Hp→(Option Int→Hp→Prop)→Prop
def PO (X:Cx) (e:Option Expr) (t:TO):Prop :=
 ∀ (pins:List (Addr×Obj)) (s:Shared) (σ:St) (H:Hp) (Q:Option Int→Hp→Prop),Inv X pins σ H s→t σ H Q →
  wpAny (model X.prog X.w) X.A (evalPart e X.env) (fun u s'=>∃ o H',Inv X pins σ H' s'∧IsPart u o∧Q o H') X.xe s
def zaZ:TO:=fun _ H Q=>Q none H
def zcP (t:TE):TO:=fun σ H Q=>t σ H fun x H1=>∃ i,x=.int i∧Q (some i) H1
section
variable {X:Cx} {e:Expr} {te:TE} {lo hi:Option Expr} {tl th:TO} {pos p2:Pos}
theorem zcN:PO X none zaZ:=by
 intro pins s σ H Q I h
 rw [evalPart_none]
 exact wpAny_pure ⟨none,H,I,.none,h⟩
theorem zcM (h:PE X e te):PO X (some e) (zcP te):=by
 intro pins s σ H Q I hw
 rw [evalPart_some]
 refine thn (h pins s σ H _ I hw) fun u s1 hQ'=>?_
 obtain ⟨x,H1,I1,r1,q1⟩:=hQ'
 obtain ⟨i,rfl,q⟩:=q1
 obtain ⟨t,rfl⟩:=r1
 exact ⟨some i,H1,I1,.int i t,q⟩
def SlR (X:Cx) (r:V→Option Int→Option Int→Hp→VK→Prop):Prop :=
 ∀ (pins:List (Addr×Obj)) (s:Shared) (σ:St) (H:Hp) (x:V) (v vl vu:Value) (lo hi:Option Int) (sl:Addr) (Q:VK),Inv X pins σ H s→zc5 x v→s.heap.IsSliceOf sl vl vu .none→IsPart vl lo→IsPart vu hi→r x lo hi H Q →
  ∃ T id,typeLookup (.type T) "__getitem__"=pure (some (.builtin id))∧s.TypeIs v T∧wpAny (model X.prog X.w) X.A (getItem v (.ref sl)) (EP X pins σ Q) X.xe s
def tSl (r:V→Option Int→Option Int→Hp→VK→Prop) (te:TE) (tl th:TO):TE:=fun σ H Q=>te σ H fun x H1=>tl σ H1 fun l H2=>th σ H2 fun u H3=>r x l u H3 Q
theorem zb6 {r:V→Option Int→Option Int→Hp→VK→Prop} (hr:SlR X r) (he:PE X e te) (hl:PO X lo tl) (hu:PO X hi th):PE X (.Subscript e (.Slice lo hi none p2) pos) (tSl r te tl th):=by
 intro pins s σ H Q I h
 refine Subscript_ (thn (he pins s σ H _ I h) fun v s1 hQ'=>?_)
 obtain ⟨x,H1,I1,r1,q1⟩:=hQ'
 refine wpAny_Slice (thn (hl pins s1 σ H1 _ I1 q1) fun vl s2 ⟨l,H2,I2,pl,q2⟩=>thn (hu pins s2 σ H2 _ I2 q2) fun vu s3 hQ'=>?_)
 obtain ⟨u,H3,I3,pu,q3⟩:=hQ'
 rw [evalPart_none]
 refine wpAny_pure ?_
 have I4:Inv X pins σ H3 { s3 with heap:=s3.heap.push { cls:=.type "slice",data:=.fields #[vl,vu,.none] } }:=I3.kept (t':=s3.toks) fun b ob q=>Heap.get?_push_of_some _ q
 obtain ⟨T,id,hT,ht,hg⟩:=hr pins { s3 with heap:=s3.heap.push { cls:=.type "slice",data:=.fields #[vl,vu,.none] } } σ H3 x v vl vu l u s3.heap.objs.size Q I4 r1 (Heap.IsSliceOf.new ..) pl pu q3
 show wpAny (model X.prog X.w) X.A (subscriptTail e (.Slice lo hi none p2) v (.ref s3.heap.objs.size)) (EP X pins σ Q) X.xe { s3 with heap:=s3.heap.push { cls:=.type "slice",data:=.fields #[vl,vu,.none] } }
 exact tail_any (ops:=[.ref s3.heap.objs.size,v]) ht hT hg (by with_unfolding_all rfl)
def zbW (xs:List V) (lo hi:Option Int):List V:=(xs.drop (HT.sIx xs.length 0 lo)).take (HT.sIx xs.length xs.length hi - HT.sIx xs.length 0 lo)
theorem zlS (xs:List V) (lo hi:Option Int):(zbW xs lo hi).length≤xs.length:=by
 unfold zbW
 rw [List.length_take,List.length_drop]
 (first|lia|omega)
end
end L2
namespace L2
open PySem PySem.Spec PyProof.Rows
def ixN (n:Nat) (i:Int):Option Nat:=if 0≤i then (if i<n then some i.toNat else none) else if -(n:Int)≤i then some (i+n).toNat else none
def atI {α:Type} (xs:List α) (i:Int):Option α:=(ixN xs.length i).bind fun j=>xs[j]?
theorem zol {n:Nat} {i:Int} {j:Nat} (h:ixN n i=some j):seqIndex? i n=some j∧j<n∧-(n:Int)≤i∧i<n:=by
 unfold ixN at h
 by_cases h0:0≤i
 ·rw [if_pos h0] at h
  by_cases h1:i<n
  ·rw [if_pos h1] at h
   have e:i.toNat=j:=Option.some.inj h
   exact ⟨by rw [seqIndex_of h0 h1,e],by (first|lia|omega),by (first|lia|omega),h1⟩
  ·rw [if_neg h1] at h;cases h
 ·rw [if_neg h0] at h
  by_cases h1:-(n:Int)≤i
  ·rw [if_pos h1] at h
   have e:(i+n).toNat=j:=Option.some.inj h
   exact ⟨by rw [seqIndex_neg (by (first|lia|omega)) h1,e],by (first|lia|omega),h1,by (first|lia|omega)⟩
  ·rw [if_neg h1] at h;cases h
theorem zoJ {α:Type} {xs:List α} {i:Int} {v:α} (h:atI xs i=some v):∃ j,seqIndex? i xs.length=some j∧xs[j]?=some v∧j<xs.length∧-(xs.length:Int)≤i∧i<xs.length:=by
 unfold atI at h
 cases e:ixN xs.length i with
 | none=>rw [e] at h;cases h
 | some j =>
  rw [e] at h
  obtain ⟨h1,h2,h3,h4⟩:=zol e
  exact ⟨j,h1,h,h2,h3,h4⟩
theorem zcq {α:Type} {xs:List α} {j:Nat} {v:α} (h:xs[j]?=some v):atI xs (j:Int)=some v:=by
 have hj:j<xs.length:=(List.getElem?_eq_some_iff.mp h).1
 have e:ixN xs.length (j:Int)=some j:=by
  unfold ixN
  rw [if_pos (by (first|lia|omega)),if_pos (by (first|lia|omega))];simp
 unfold atI;rw [e];exact h
def zss (b:Expr):Prop:=∀ o i,subscripted b false o i=operate [o,i] (getItem o i)
def IxR (X:Cx) (r:R2):Prop :=
 ∀ (value slice:Expr) (pins:List (Addr×Obj)) (s:Shared) (σ:St) (H:Hp) (x y:V) (v u:Value) (Q:VK),Inv X pins σ H s→zc5 x v→zc5 y u→r x y H Q →
  subscripted slice false v u=operate [v,u] (getItem v u)→wpAny (model X.prog X.w) X.A (subscriptTail value slice v u) (EP X pins σ Q) X.xe s
def MtR (X:Cx) (id:String) (r:V→List V→Hp→VK→Prop):Prop :=
 ∀ (pins:List (Addr×Obj)) (s:Shared) (σ:St) (H:Hp) (x:V) (xs:List V) (v:Value) (us:List Value) (Q:VK),Inv X pins σ H s→zc5 x v→zcc xs us→r x xs H Q →
  wpAny (model X.prog X.w) X.A (call (.builtin id) (v::us)) (EP X pins σ Q) X.xe s
section
variable {X:Cx} {a b:Expr} {ta tb:TE} {pos:Pos}
theorem zbZ {r:R2} (hr:IxR X r) (ha:PE X a ta) (hb:PE X b tb) (hs:zss b):PE X (.Subscript a b pos) (tOp r ta tb):=by
 intro pins s σ H Q I h
 exact Subscript_ (binT ha hb I h fun v u s2 x y H2 I2 rx ry q=>hr a b pins s2 σ H2 x y v u Q I2 rx ry q (hs _ _))
def zcO (K:PySem.W.Frag):R2:=fun x y H Q=>∃ p xs i v,x=.ref p∧y=.int i∧SqL K H p xs∧atI xs i=some v∧Q v H
def zil (K:PySem.W.Frag):R2:=fun x y H Q=>∃ p xs i v,x=.ref p∧y=.int i∧SqT K H p xs∧atI xs i=some v∧Q v H
theorem za1:IxR X (zcO X.K):=by
 intro value slice pins s σ H x y v u Q I rx ry h hs
 obtain ⟨p,xs,i,z,rfl,rfl,hq,he,q⟩:=h
 cases rx
 obtain ⟨t,rfl⟩:=ry
 obtain ⟨its,r,pl,hz⟩:=I.list hq
 obtain ⟨j,h1,h2,h3,h4,h5⟩:=zoJ he
 obtain ⟨w,ew,rw'⟩:=r.get h2
 have hl:=r.length
 have hn:=zkX
 have fin:EP X pins σ Q w s:=⟨z,H,I,rw',q⟩
 by_cases h0:0≤i
 ·have hj:i.toNat=j:=by
   rw [seqIndex_of h0 h5] at h1
   exact Option.some.inj h1
  exact item_listR pl.isList h0 (by (first|lia|omega)) (by rw [hj];simpa using ew) fin hs
 ·have hj:(i+(its.toArray.size:Int)).toNat=j:=by
   rw [seqIndex_neg (by (first|lia|omega)) h4] at h1
   rw [List.size_toArray,← hl]
   exact Option.some.inj h1
  exact subscriptTail_builtinR (x:=w) pl.isList.typeIs slot_list_getitem.lookup
   (wpAny_getItem_list_neg (Q:=fun r s'=>r=w∧EP X pins σ Q r s') pl.isList (by (first|lia|omega)) (by rw [List.size_toArray] <;> (first|lia|omega)) (by (first|lia|omega)) (by rw [hj];simpa using ew) ⟨rfl,fin⟩) hs
theorem zer:IxR X (zil X.K):=by
 intro value slice pins s σ H x y v u Q I rx ry h hs
 obtain ⟨p,xs,i,z,rfl,rfl,hq,he,q⟩:=h
 cases rx
 obtain ⟨t,rfl⟩:=ry
 obtain ⟨its,r,pl,hz⟩:=I.tuple hq
 obtain ⟨j,h1,h2,h3,h4,h5⟩:=zoJ he
 obtain ⟨w,ew,rw'⟩:=r.get h2
 have hl:=r.length
 have hn:=zkX
 have fin:EP X pins σ Q w s:=⟨z,H,I,rw',q⟩
 exact subscriptTail_builtinR (x:=w) pl.typeIs slot_tuple_getitem.lookup
  (getItem_tuple (j:=j) (Q:=fun r s'=>r=w∧EP X pins σ Q r s') pl (by (first|lia|omega)) (by (first|lia|omega)) (by rw [List.size_toArray,← hl];exact h1) (by simpa using ew) ⟨rfl,fin⟩) hs
theorem znH (its:List Value) (n j:Nat) (u:Value):Obj.mapSeq (·.setIfInBounds j u) { cls:=.type "list",data:=.seq its.toArray n }={ cls:=.type "list",data:=.seq (its.set j u).toArray n }:=by
 simp [Obj.mapSeq]
theorem Inv.lst {pins:List (Addr×Obj)} {σ:St} {H:Hp} {s:Shared} {p:Addr} {xs:List V} (I:Inv X pins σ H s) (h:H p=some (.lst xs)) :
  ∃ (its:List Value) (n:Nat),zcc xs its∧s.heap.get? p=some { cls:=.type "list",data:=.seq its.toArray n }∧xs.length≤sizeLine:=by
 obtain ⟨z,its,n,r,e⟩:=I.hok p _ h
 exact ⟨its,n,r,e,z⟩
theorem Inv.lstUpd {pins:List (Addr×Obj)} {σ:St} {H:Hp} {s:Shared} {p:Addr} {xs ys:List V} {its its':List Value} {n n':Nat} {f:Obj→Obj} (I:Inv X pins σ H s) (h:H p=some (.lst xs))
  (ho:s.heap.get? p=some { cls:=.type "list",data:=.seq its.toArray n }) (hf:f { cls:=.type "list",data:=.seq its.toArray n }={ cls:=.type "list",data:=.seq its'.toArray n' }) (r:zcc ys its') (hz:ys.length≤sizeLine) (t:Nat) :
  Inv X pins σ (upd H p (.lst ys)) { s with heap:=s.heap.update p f,toks:=t }:=by
 have e:(s.heap.update p f).get? p=some { cls:=.type "list",data:=.seq its'.toArray n' }:=by
  rw [Heap.get?_update_self f ho (by rw [hf] <;> rfl),hf]
 refine I.write (x:=p) (e:=p) (by rw [h];trivial) (.inl rfl) (fun b u hb q=>(Heap.get?_update_other _ _ (Ne.symm hb)).trans q) ⟨_,e⟩ ?_
 exact ⟨hz,its',n',r,e⟩
def zid:V→V→V→Hp→(Hp→Prop)→Prop:=fun o i v H Q=>∃ p xs k j,o=.ref p∧i=.int k∧H p=some (.lst xs)∧ixN xs.length k=some j∧Q (upd H p (.lst (xs.set j v)))
theorem zfO:PSet X zid:=by
 intro pins s σ H o i v ov iv u Q I ro ri rv h
 obtain ⟨p,xs,k,j,rfl,rfl,hp,hj,q⟩:=h
 cases ro
 obtain ⟨t,rfl⟩:=ri
 obtain ⟨its,n,r,ho,hz⟩:=I.lst hp
 obtain ⟨h1,h2,h3,h4⟩:=zol hj
 have hl:=r.length
 have hn:=zkX
 have I':Inv X pins σ (upd H p (.lst (xs.set j v))) { s with heap:=s.heap.update p (Obj.mapSeq (·.setIfInBounds j u)) } :=
  I.lstUpd hp ho (znH its n j u) (r.set rv j) (by rw [List.length_set];exact hz) s.toks
 by_cases h0:0≤k
 ·have hk:k.toNat=j:=by
   rw [seqIndex_of h0 h4] at h1
   exact Option.some.inj h1
  exact PySem.W.ki_setAt ho h0 (by (first|lia|omega)) (by rw [List.size_toArray,← hl];exact h4) (by rw [hk];exact ⟨_,I',q⟩)
 ·have hk:(k+(its.toArray.size:Int)).toNat=j:=by
   rw [seqIndex_neg (by (first|lia|omega)) h3] at h1
   rw [List.size_toArray,← hl]
   exact Option.some.inj h1
  exact PySem.W.ki_setBack ho (by (first|lia|omega)) (by rw [List.size_toArray,← hl];exact h3) (by (first|lia|omega)) (by rw [hk];exact ⟨_,I',q⟩)
theorem zkV (lo hi:Option Int) (n:Nat):(sliceBounds lo hi none n).1=((HT.sIx n 0 lo:Nat):Int)∧(sliceBounds lo hi none n).2.1=((HT.sIx n n hi:Nat):Int)∧(sliceBounds lo hi none n).2.2=1:=by
 refine ⟨?_,?_,rfl⟩
 ·cases lo with
  | none=>simp [sliceBounds,HT.sIx]
  | some i =>
   simp only [sliceBounds,HT.sIx,Option.getD_none,show (1:Int) > 0 by decide,if_true]
   by_cases h:i<0
   ·simp only [h,if_true] <;> (first|lia|omega)
   ·simp only [h,if_false] <;> (first|lia|omega)
 ·cases hi with
  | none=>simp [sliceBounds,HT.sIx]
  | some i =>
   simp only [sliceBounds,HT.sIx,Option.getD_none,show (1:Int) > 0 by decide,if_true]
   by_cases h:i<0
   ·simp only [h,if_true] <;> (first|lia|omega)
   ·simp only [h,if_false] <;> (first|lia|omega)
theorem zjS (its:List Value) (lo hi:Option Int):slicePick its.toArray lo hi none=((its.drop (HT.sIx its.length 0 lo)).take (HT.sIx its.length its.length hi - HT.sIx its.length 0 lo)).toArray:=by
 obtain ⟨h1,h2,h3⟩:=zkV lo hi its.toArray.size
 unfold slicePick
 rw [h1,h2,h3]
 simp only [sliceRange_one,pick_run,List.size_toArray] <;> rfl
def zfl (K:PySem.W.Frag):V→Option Int→Option Int→Hp→VK→Prop:=fun x lo hi H Q=>∃ a xs,x=.ref a∧SqL K H a xs∧∀ p,H p=none→Q (.ref p) (upd H p (.lst (zbW xs lo hi)))
theorem zcL:SlR X (zfl X.K):=by
 intro pins s σ H x v vl vu lo hi sl Q I rx hs pl pu h
 obtain ⟨a,xs,rfl,hx,q⟩:=h
 cases rx
 obtain ⟨its,r,ht,hz⟩:=I.list hx
 have hlen:=r.length
 refine ⟨"list",_,slot_list_getitem.lookup,ht.isList.typeIs,?_⟩
 refine wpAny_getItem_list_slice ht.isList hs pl pu .none (by simp) ?_ (by rw [List.size_toArray] <;> (first|lia|omega))
 rw [zjS,← hlen]
 refine ⟨.ref s.heap.objs.size,_,I.laid (t':=s.toks) (o:=.lst (zbW xs lo hi)) (fun b ob q=>Heap.get?_push_of_some _ q) (Nat.le_refl _) ?_,rfl,q _ (I.hok.fresh (Nat.le_refl _))⟩
 exact ⟨Nat.le_trans (zlS xs lo hi) hz,_,0,(r.drop (HT.sIx xs.length 0 lo)).take (HT.sIx xs.length xs.length hi - HT.sIx xs.length 0 lo),Heap.get?_push_size _ rfl⟩
def zjK:V→Bool
 | .non=>true
 | .bl _=>true
 | .int _=>true
 | .str _=>true
 | _=>false
def eqV:V→V→Bool
 | .non,.non=>true
 | .bl a,.bl b=>a == b
 | .bl a,.int b=>(if a then 1 else 0) == b
 | .int a,.bl b=>a == (if b then 1 else 0)
 | .int a,.int b=>a == b
 | .str a,.str b=>a == b
 | _,_=>false
theorem zut {A:Around} {s:Shared} {y x:V} {u v:Value} (ry:zc5 y u) (rx:zc5 x v) (fy:zjK y=true) (fx:zjK x=true):SeqAt.EqAt A s u v (eqV y x):=by
 cases y with
 | non =>
  cases ry
  cases x with
  | non=>cases rx;exact SeqAt.EqAt.same _
  | bl b=>cases rx;exact SeqAt.EqAt.none_bool b
  | int b=>obtain ⟨t,rfl⟩:=rx;exact SeqAt.EqAt.none_int b t
  | str b=>obtain ⟨t,rfl⟩:=rx;exact SeqAt.EqAt.none_str b t
  | _=>exact absurd (show false=true from fx) Bool.false_ne_true
 | bl a =>
  cases ry
  cases x with
  | non=>cases rx;exact SeqAt.EqAt.bool_none a
  | bl b=>cases rx;exact SeqAt.EqAt.bool_bool a b
  | int b=>obtain ⟨t,rfl⟩:=rx;exact SeqAt.EqAt.bool_int a b t
  | str b=>obtain ⟨t,rfl⟩:=rx;exact SeqAt.EqAt.bool_str a b t
  | _=>exact absurd (show false=true from fx) Bool.false_ne_true
 | int a =>
  obtain ⟨t',rfl⟩:=ry
  cases x with
  | non=>cases rx;exact SeqAt.EqAt.int_none a t'
  | bl b=>cases rx;exact SeqAt.EqAt.int_bool a t' b
  | int b=>obtain ⟨t,rfl⟩:=rx;exact SeqAt.EqAt.int_int a t' b t
  | str b=>obtain ⟨t,rfl⟩:=rx;exact SeqAt.EqAt.int_str a t' b t
  | _=>exact absurd (show false=true from fx) Bool.false_ne_true
 | str a =>
  obtain ⟨t',rfl⟩:=ry
  cases x with
  | non=>cases rx;exact SeqAt.EqAt.str_none a t'
  | bl b=>cases rx;exact SeqAt.EqAt.str_bool a t' b
  | int b=>obtain ⟨t,rfl⟩:=rx;exact SeqAt.EqAt.str_int a t' b t
  | str b=>obtain ⟨t,rfl⟩:=rx;exact SeqAt.EqAt.str_str a t' b t
  | _=>exact absurd (show false=true from fx) Bool.false_ne_true
 | _=>exact absurd (show false=true from fy) Bool.false_ne_true
def eqU (x:V) (u:Value):Bool:=match u with
 | .none=>eqV .non x
 | .bool b=>eqV (.bl b) x
 | .int i _=>eqV (.int i) x
 | .str z _=>eqV (.str z) x
 | _=>false
theorem zrE {x y:V} {u:Value} (r:zc5 y u) (f:zjK y=true):eqU x u=eqV y x:=by
 cases y with
 | non=>cases r;rfl
 | bl b=>cases r;rfl
 | int i=>obtain ⟨t,rfl⟩:=r;rfl
 | str z=>obtain ⟨t,rfl⟩:=r;rfl
 | _=>exact absurd (show false=true from f) Bool.false_ne_true
theorem zmN {A:Around} {s:Shared} {x:V} {v:Value} (rx:zc5 x v) (fx:zjK x=true):∀ {xs:List V} {us:List Value},zcc xs us→xs.all zjK=true→∀ u∈us,SeqAt.EqAt A s u v (eqU x u)
 | _,_,.nil,_=>fun u hu=>by cases hu
 | y::xs,u::us,.cons r t,f=>fun u' hu=>by
  rw [List.all_cons,Bool.and_eq_true] at f
  rcases List.mem_cons.mp hu with rfl | hu
  ·rw [zrE r f.1];exact zut r rx f.1 fx
  ·exact zmN rx fx t f.2 u' hu
theorem zaq:zfP X (.builtin "len") (fun xs H Q=>∃ p ys,xs=[.ref p]∧(SqL X.K H p ys∨SqT X.K H p ys)∧Q (.int ys.length) H):=by
 intro pins s σ H xs us Q I r h
 obtain ⟨p,ys,rfl,hq,q⟩:=h
 obtain ⟨u,rfl,rx⟩:=zlh r
 cases rx
 have hn:=zkX
 rcases hq with hq | hq
 ·obtain ⟨its,r',pl,hz⟩:=I.list hq
  have hlen:=r'.length
  exact Calls.call_len_list pl.isList (by simp only [List.size_toArray] <;> (first|lia|omega)) ⟨.int ys.length,H,I.tok _,⟨s.toks+1,by rw [List.size_toArray,hlen]⟩,q⟩
 ·obtain ⟨its,r',pl,hz⟩:=I.tuple hq
  have hlen:=r'.length
  exact len_tuple pl (by simp only [List.size_toArray] <;> (first|lia|omega)) ⟨.int ys.length,H,I.tok _,⟨s.toks+1,by rw [List.size_toArray,hlen]⟩,q⟩
theorem zd0:zfP X (.type "list") (fun xs H Q=>∃ p ys,xs=[.ref p]∧(SqL X.K H p ys∨SqT X.K H p ys)∧∀ l,H l=none→Q (.ref l) (upd H l (.lst ys))):=by
 intro pins s σ H xs us Q I r h
 obtain ⟨p,ys,rfl,hq,q⟩:=h
 obtain ⟨u,rfl,rx⟩:=zlh r
 cases rx
 have fin:∀ (its:List Value),zcc ys its→ys.length≤sizeLine→∀ (h':Heap) (c':Nat),(∀ b o',s.heap.get? b=some o'→h'.get? b=some o') →
   h'.get? s.heap.objs.size=some { cls:=.type "list",dict:=none,data:=.seq its.toArray c',slots:=#[] }→EP X pins σ Q (.ref s.heap.objs.size) { s with heap:=h' }:=fun its r' hz h' c' kp e =>
  ⟨.ref s.heap.objs.size,_,I.laid (t':=s.toks) kp (Nat.le_refl _) (show zcG X.prog X.w _ h' _ (.lst ys) from ⟨hz,its,c',r',e⟩),rfl,q _ (I.hok.fresh (Nat.le_refl _))⟩
 rcases hq with hq | hq
 ·obtain ⟨its,r',pl,hz⟩:=I.list hq
  have hlen:=r'.length
  obtain ⟨o,ho,hc,n,hd⟩:=pl.isList
  exact call_list_seq p (.inl rfl) ho hc hd (fun h' c' kp e=>fin its r' hz h' c' kp e) (by simp only [List.size_toArray] <;> (first|lia|omega))
 ·obtain ⟨its,r',pl,hz⟩:=I.tuple hq
  have hlen:=r'.length
  obtain ⟨o,ho,hc,n,hd⟩:=pl
  exact call_list_seq p (.inr rfl) ho hc hd (fun h' c' kp e=>fin its r' hz h' c' kp e) (by simp only [List.size_toArray] <;> (first|lia|omega))
theorem zeu:zfP X (.type "tuple") (fun xs H Q=>∃ p ys,xs=[.ref p]∧((SqL X.K H p ys∧∀ l,H l=none→Q (.ref l) (upd H l (.tup ys)))∨(SqT X.K H p ys∧Q (.ref p) H))):=by
 intro pins s σ H xs us Q I r h
 obtain ⟨p,ys,rfl,h⟩:=h
 obtain ⟨u,rfl,rx⟩:=zlh r
 cases rx
 rcases h with ⟨hq,q⟩ | ⟨hq,q⟩
 ·obtain ⟨its,r',pl,hz⟩:=I.list hq
  have hlen:=r'.length
  refine call_tuple_list pl.isList (fun h' kp=>?_) (by simp only [List.size_toArray] <;> (first|lia|omega))
  have I1:Inv X pins σ H { s with heap:=h' }:=I.kept (t':=s.toks) kp
  have I2:Inv X pins σ (upd H h'.objs.size (.tup ys)) { s with heap:=h'.push { cls:=.type "tuple",data:=.seq its.toArray } } :=
   I1.laid (t':=s.toks) (fun b o e=>Heap.get?_push_of_some _ e) (Nat.le_refl _) (show zcG X.prog X.w _ _ _ (.tup ys) from ⟨hz,its,r',IsTup.new _ _⟩)
  exact ⟨.ref h'.objs.size,_,I2,rfl,q _ (I1.hok.fresh (Nat.le_refl _))⟩
 ·obtain ⟨its,r',pl,hz⟩:=I.tuple hq
  exact call_tuple_same pl ⟨.ref p,H,I,rfl,q⟩
def tyV (K:PySem.W.Frag) (T:String) (x:V) (H:Hp):Prop:=match x with
 | .str _=>T="str"
 | .int _=>T="int"
 | .ref p=>(T="list"∧∃ xs,SqL K H p xs)∨(T="tuple"∧∃ o,K.lookup p=some o∧o.cls=.type "tuple"∧o.dict=none) ∨
   (T="dict"∧((∃ kvs,H p=some (.dK kvs))∨∃ kvs,H p=some (.dT kvs)))∨(T="set"∧∃ S n,H p=some (.set S n))
 | _=>False
theorem zuB {pins:List (Addr×Obj)} {σ:St} {H:Hp} {s:Shared} {T:String} {x:V} {v:Value} (I:Inv X pins σ H s) (r:zc5 x v) (ty:tyV X.K T x H) :
  s.TypeIs v T∧∀ a,v=.ref a→∃ ob,s.heap.get? a=some ob∧ob.dict=none:=by
 cases x with
 | str z =>
  obtain ⟨t,rfl⟩:=r
  cases (show T="str" from ty)
  exact ⟨typeIs_str s z t,fun _ e=>nomatch e⟩
 | int i =>
  obtain ⟨t,rfl⟩:=r
  cases (show T="int" from ty)
  exact ⟨typeIs_int s i t,fun _ e=>nomatch e⟩
 | ref p =>
  cases r
  rcases ty with ⟨rfl,xs,hq⟩ | ⟨rfl,o,hk,hc,hd⟩ | ⟨rfl,hk⟩ | ⟨rfl,S,n,hk⟩
  ·obtain ⟨its,_,pl,_⟩:=I.list hq
   refine ⟨pl.isList.typeIs,fun a e=>?_⟩
   cases e
   obtain ⟨o,n,e,c,hd,_⟩:=pl
   exact ⟨o,e,hd⟩
  ·refine ⟨⟨o,I.kIn p o hk,hc⟩,fun a e=>?_⟩
   cases e
   exact ⟨o,I.kIn _ o hk,hd⟩
  ·have z:∃ o,s.heap.get? p=some o∧o.ExactDict:=by
    rcases hk with ⟨kvs,hk⟩ | ⟨kvs,hk⟩
    ·obtain ⟨_,_,_,_,o,_,_,e,ex,_⟩:=I.hok p _ hk
     exact ⟨o,e,ex⟩
    ·obtain ⟨_,_,_,_,o,_,_,e,ex,_⟩:=I.hok p _ hk
     exact ⟨o,e,ex⟩
   obtain ⟨o,e,ex⟩:=z
   refine ⟨⟨o,e,ex.1⟩,fun a e2=>?_⟩
   cases e2
   exact ⟨o,e,ex.2.1⟩
  ·obtain ⟨o,_,_,_,e,ex,_⟩:=I.hok p _ hk
   refine ⟨⟨o,e,ex.1⟩,fun a e2=>?_⟩
   cases e2
   exact ⟨o,e,ex.2.1⟩
 | _=>exact False.elim ty
def tBM (K:PySem.W.Frag) (T:String) (r:V→List V→Hp→VK→Prop) (to:TE) (t:TA):TE:=fun σ H Q=>to σ H fun x H1=>tyV K T x H1∧t σ H1 fun xs H2=>r x xs H2 Q
variable {o e:Expr} {es:List Expr} {to:TE} {t:TA} {name:Str} {apos cpos:Pos} {T id:String} {r:V→List V→Hp→VK→Prop}
theorem ze8 (pa:PlainAttrs T) (slot:Slot T name id) (hty:typeOf (.builtin id)=pure (.type "method_descriptor")) (hm:MtR X id r) (ho:PE X o to) (ha:PA X (e::es) t)
  (hbase:attributeBase o name X.env (eval o X.env)=eval o X.env:=by rfl)
  (hfew:((backTo cpos (starEach (e::es) X.env)).all (fun x=>!x.1)&&(backToKw cpos (keywordEach [] X.env)).all (fun x=>x.1.isSome)
   && decide ((e::es).length+([]:List Keyword).length+(if ([]:List Keyword).isEmpty then 0 else 1)<30))=true:=by rfl)
  (hline:(apos.endLine == cpos.line)=true:=by rfl) (hs:starEach (e::es) X.env=(false,eval e X.env)::starEach es X.env:=by rfl) (hplain:(backTo cpos (starEach es X.env)).any (·.1)=false:=by rfl) :
  PE X (.Call (.Attribute o name apos) (e::es) [] cpos) (tBM X.K T r to t):=by
 intro pins s σ H Q I h
 refine wpAny_Call_method_late hbase hfew hline rfl (thn (ho pins s σ H _ I h) fun v s1 hQ'=>?_)
 obtain ⟨x,H1,I1,r1,ty,q1⟩:=hQ'
 obtain ⟨h1,h2⟩:=zuB I1 r1 ty
 refine ⟨T,id,pa,slot,hty,h1,h2,?_⟩
 have hA:=ha cpos pins s1 σ H1 _ I1 q1
 rw [hs] at hA ⊢
 refine Calls.callWith_builtin (by show (false || (backTo cpos (starEach es X.env)).any (·.1))=false;rw [hplain] <;> rfl) (Calls.evalArgs_plain ?_)
 exact thn hA fun us s2 ⟨vs,H2,I2,r2,q2⟩=>hm pins s2 σ H2 x vs v us Q I2 r1 r2 q2
end
end L2
namespace L2
open PySem PySem.Spec PyProof.Rows
def MtM (X:Cx) (id:String) (r:V→List V→Hp→VK→Prop):Prop :=
 ∀ (pins:List (Addr×Obj)) (s:Shared) (σ:St) (H:Hp) (x:V) (xs:List V) (v:Value) (us:List Value) (Q:VK),Inv X pins σ H s→zc5 x v→zcc xs us→r x xs H Q →
  wpAny (model X.prog X.w) X.A (call (.builtin id) (v::us)) (EP X pins σ Q) X.xe s
theorem zcc.one:∀ {x:V} {us:List Value},zcc [x] us→∃ u,us=[u]∧zc5 x u
 | _,_,.cons r .nil=>⟨_,rfl,r⟩
theorem zcc.two:∀ {x y:V} {us:List Value},zcc [x,y] us→∃ u v,us=[u,v]∧zc5 x u∧zc5 y v
 | _,_,_,.cons r (.cons q .nil)=>⟨_,_,rfl,r,q⟩
theorem zcc.rep {xs:List V} {us:List Value} (h:zcc xs us):∀ k:Nat,zcc (List.replicate k xs).flatten (List.replicate k us).flatten
 | 0=>.nil
 | k+1=>by
  rw [List.replicate_succ,List.replicate_succ,List.flatten_cons,List.flatten_cons]
  exact zcc.append h (zcc.rep h k)
theorem zkB (its:List Value):∀ (k:Nat) (acc:List Value),
  List.foldl (fun x1 x2=>x1++x2) acc.toArray (List.replicate k its.toArray)=(acc++(List.replicate k its).flatten).toArray
 | 0,acc=>by simp
 | k+1,acc=>by
  have e:acc.toArray++its.toArray=(acc++its).toArray:=by simp
  have e2:(acc++its)++(List.replicate k its).flatten=acc++(List.replicate (k+1) its).flatten:=by
   rw [List.replicate_succ,List.flatten_cons,List.append_assoc]
  rw [← e2,← zkB its k (acc++its),← e,List.replicate_succ,List.foldl_cons]
section
variable {X:Cx} {pins:List (Addr×Obj)} {σ:St} {H:Hp} {s:Shared} {l b:Addr} {xs ys zs:List V}
theorem Inv.lset {its its':List Value} {n:Nat} {f:Array Value→Array Value} {t':Nat} (I:Inv X pins σ H s) (hH:H l=some (.lst xs))
  (e:s.heap.get? l=some { cls:=.type "list",data:=.seq its.toArray n }) (hf:f its.toArray=its'.toArray) (hv:zcc ys its') (hz:ys.length≤sizeLine) :
  Inv X pins σ (upd H l (.lst ys)) { s with heap:=s.heap.update l (Obj.mapSeq f),toks:=t' }:=by
 have q:=PySem.IsL.update e f
 rw [hf] at q
 refine I.write (x:=l) (e:=l) (by rw [hH];exact trivial) (.inl rfl) (fun b' u hb hu=>(Heap.get?_update_other s.heap (Obj.mapSeq f) (Ne.symm hb)).trans hu) ⟨_,q⟩ ?_
 exact ⟨hz,its',_,hv,q⟩
theorem Inv.lnew {its:List Value} {t':Nat} (I:Inv X pins σ H s) (hv:zcc ys its) (hz:ys.length≤sizeLine) :
  Inv X pins σ (upd H s.heap.objs.size (.lst ys)) { s with heap:=s.heap.push { cls:=.type "list",data:=.seq its.toArray },toks:=t' } :=
 I.laid (fun _ _ q=>Heap.get?_push_of_some _ q) (Nat.le_refl _) ⟨hz,its,0,hv,Heap.get?_push_size _ rfl⟩
theorem Inv.fresh (I:Inv X pins σ H s):H s.heap.objs.size=none:=I.hok.fresh (Nat.le_refl _)
theorem Inv.lstM (I:Inv X pins σ H s) (hH:H l=some (.lst xs)):xs.length≤sizeLine∧∃ (its:List Value) (n:Nat),zcc xs its∧xs.length=its.length∧s.heap.get? l=some { cls:=.type "list",data:=.seq its.toArray n }:=by
 obtain ⟨z,its,n,r,e⟩:=I.hok l _ hH
 exact ⟨z,its,n,r,r.length,e⟩
theorem zmP {n:Nat} (h:n≤sizeLine):Builtin.List.listTooLong n=false:=by
 unfold Builtin.List.listTooLong
 exact decide_eq_false (by (first|lia|omega))
end
section
variable {X:Cx}
def zaI:V→List V→Hp→VK→Prop:=fun x vs H Q=>∃ l xs y,x=.ref l∧vs=[y]∧H l=some (.lst xs)∧xs.length<sizeLine∧Q .non (upd H l (.lst (xs++[y])))
theorem zbU:MtM X "list.append" zaI:=by
 intro pins s σ H x vs v us Q I rx rv h
 obtain ⟨l,xs,y,rfl,rfl,hH,hz,q⟩:=h
 cases rx
 obtain ⟨u,rfl,ru⟩:=rv.one
 obtain ⟨z,its,n,r,hl,e⟩:=I.lstM hH
 refine call_meets F.slot_list_append ⟨_,e,rfl⟩ F.entry_list_append (F.args_list_append_2 _ _) (PySem.list_append l its.toArray n u (by rw [List.size_toArray];(first|lia|omega))) ⟨e,?_⟩
 refine ⟨.non,_,I.lset (its':=its++[u]) hH e (by simp) (r.append (.cons ru .nil)) ?_,rfl,q⟩
 rw [List.length_append,List.length_singleton]
 (first|lia|omega)
def zj8:V→List V→Hp→VK→Prop:=fun x vs H Q=>∃ l b xs zs,x=.ref l∧vs=[.ref b]∧H l=some (.lst xs)∧H b=some (.lst zs)∧xs.length+zs.length≤sizeLine∧Q .non (upd H l (.lst (xs++zs)))
theorem zn3:MtM X "list.extend" zj8:=by
 intro pins s σ H x vs v us Q I rx rv h
 obtain ⟨l,b,xs,zs,rfl,rfl,hH,hB,hz,q⟩:=h
 cases rx
 obtain ⟨u,rfl,ru⟩:=rv.one
 cases ru
 obtain ⟨z,its,n,r,hl,e⟩:=I.lstM hH
 obtain ⟨z2,its2,n2,r2,hl2,e2⟩:=I.lstM hB
 have hsz:its.toArray.size+its2.toArray.size≤sizeLine:=by rw [List.size_toArray,List.size_toArray];(first|lia|omega)
 have hlong:¬ (!its.toArray.isEmpty&&Builtin.List.listTooLong (its.toArray.size+its2.toArray.size))=true:=by
  rw [zmP hsz,Bool.and_false]
  exact Bool.false_ne_true
 refine call_meets F.slot_list_extend ⟨_,e,rfl⟩ F.entry_list_extend (F.args_list_extend_2 _ _)
  (AutoSeq1.list_extend_list_list_0 l its.toArray n b its2.toArray n2 hlong (by rw [List.size_toArray];(first|lia|omega)) (by (first|lia|omega))) ⟨e,e2,?_⟩
 refine ⟨.non,_,I.lset (its':=its++its2) hH e (by simp) (r.append r2) ?_,rfl,q⟩
 rw [List.length_append]
 (first|lia|omega)
def zel:R2:=fun x y H Q=>∃ l b xs zs,x=.ref l∧y=.ref b∧H l=some (.lst xs)∧H b=some (.lst zs)∧xs.length+zs.length≤sizeLine∧∀ p,H p=none→Q (.ref p) (upd H p (.lst (xs++zs)))
theorem zcV:OpR X (binaryOp .Add) zel:=by
 intro pins s σ H x y v u Q I rx ry h
 obtain ⟨l,b,xs,zs,rfl,rfl,hH,hB,hz,q⟩:=h
 cases rx
 cases ry
 obtain ⟨z,its,n,r,hl,e⟩:=I.lstM hH
 obtain ⟨z2,its2,n2,r2,hl2,e2⟩:=I.lstM hB
 refine PySem.P.add_list e e2 ?_ (by rw [List.size_toArray,List.size_toArray];(first|lia|omega))
 have ea:its.toArray++its2.toArray=(its++its2).toArray:=by simp
 rw [ea]
 exact ⟨.ref _,_,I.lnew (t':=s.toks) (r.append r2) (by rw [List.length_append];(first|lia|omega)),rfl,q _ I.fresh⟩
def ztW:R2:=fun x y H Q=>∃ l k xs,x=.ref l∧y=.int k∧H l=some (.lst xs)∧-(2 ^ 63)≤k∧k<2 ^ 63∧xs.length*k.toNat≤sizeLine ∧
 ∀ p,H p=none→Q (.ref p) (upd H p (.lst (List.replicate k.toNat xs).flatten))
theorem zr5 {α:Type} (xs:List α) (k:Nat):(List.replicate k xs).flatten.length=k*xs.length:=by
 induction k with
 | zero=>simp
 | succ k ih=>rw [List.replicate_succ,List.flatten_cons,List.length_append,ih,Nat.succ_mul,Nat.add_comm]
theorem zrX:OpR X (binaryOp .Mult) ztW:=by
 intro pins s σ H x y v u Q I rx ry h
 obtain ⟨l,k,xs,rfl,rfl,hH,h1,h2,hz,q⟩:=h
 cases rx
 obtain ⟨t,rfl⟩:=ry
 obtain ⟨z,its,n,r,hl,e⟩:=I.lstM hH
 have hlen:its.toArray.size*k.toNat≤sizeLine:=by rw [List.size_toArray,← hl];exact hz
 have hcap:¬ its.toArray.size*k.toNat > (2 ^ 63 - 1) / 8:=by
  have:(sizeLine:Nat)≤(2 ^ 63 - 1) / 8:=by decide
  (first|lia|omega)
 have hfit:¬ (!Builtin.List.listFitsIndex k)=true:=by
  rw [fitsIndex_both h1 h2]
  exact Bool.false_ne_true
 have hlong:¬ Builtin.List.listTooLong (its.toArray.size*k.toNat)=true:=by
  rw [zmP hlen]
  exact Bool.false_ne_true
 have hnew:List.foldl (fun x1 x2=>x1++x2) #[] (List.replicate (if its.toArray.isEmpty=true then 0 else k.toNat) its.toArray)=(List.replicate k.toNat its).flatten.toArray:=by
  have f0:∀ m:Nat,List.foldl (fun x1 x2=>x1++x2) #[] (List.replicate m its.toArray)=(List.replicate m its).flatten.toArray:=fun m=>by
   have:=zkB its m []
   rw [List.nil_append] at this
   exact this
  rw [f0]
  cases its with
  | nil=>simp
  | cons a r'=>rw [if_neg (by simp)]
 refine wpAny_binaryOp_repeat_ref (T:="list") (U:="int") (by decide) ⟨_,e,rfl⟩ (fun s'=>typeIs_int s' k t) noFill_list_mul F.fills_int_mul F.slot_int_rmul repeat_list F.slot_int_index.lookup
  (call_meets F.slot_int_rmul (typeIs_int s k t) F.entry_int_rmul (F.args_int_rmul_2 _ _) (int___rmul___int_list k t l its.toArray n)
   ⟨e,rfl,⟨_,e,rfl⟩,call_meets F.slot_list_mul ⟨_,e,rfl⟩ F.entry_list_mul (F.args_list_mul_2 _ _) (AutoListH.list___mul___list_int_3 l its.toArray n k t hfit hcap hlong) ⟨e,?_⟩⟩)
 rw [hnew]
 exact ⟨.ref _,_,I.lnew (t':=s.toks) (r.rep k.toNat) (by rw [zr5,Nat.mul_comm];exact hz),rfl,q _ I.fresh⟩
end
section
variable {prog:Program} {w:World} {A:Around} {E:Value→Shared→Prop} {s:Shared}
end
section
variable {X:Cx}
end
end L2
namespace Att
open PySem PySem.W PySem.Calls PyProof.Rows
theorem zhY {P:Params} {h:Heap}:∀ (ns:List Int) (vs:List Value),WellAll P h vs (ns.map WData.int)→IntsAre vs ns:=by
 intro ns
 induction ns with
 | nil =>
  intro vs w
  rw [List.map_nil] at w
  cases w
  exact .nil
 | cons n ns ih =>
  intro vs w
  rw [List.map_cons] at w
  cases w with
  | cons a b =>
   cases a
   exact .cons _ _ (ih _ b)
theorem zoC {l:OpenLaw} {n:Nat} (hn:l.most=some n) {P:Params} {h:Heap} {args:List WData} {vals:List Value}
  (hpre:l.row.toRowW.claim.pre args=true) (hwl:WellAll P h vals args) :
  ∃ a vs ns,vals=[Value.ref a]∧args=[WData.list (ns.map WData.int)]∧h.get? a=some { cls:=.type "list",data:=.seq vs.toArray }∧IntsAre vs ns∧ns.length≤n:=by
 have hsh:WShape.hasAll [] args [.list .int]=true:=(pre_splitW hpre).1
 have hc:l.pre.holds [] { args:=args }=true:=(pre_splitW hpre).2
 obtain ⟨d,r,rfl,h1,h2⟩:=hasAllW_cons hsh
 obtain rfl:=hasAllW_nil h2
 obtain ⟨xs,rfl,h3⟩:=hasW_list h1
 obtain ⟨ns,rfl⟩:=items_int h3
 have hlen:ns.length≤n:=by
  unfold OpenLaw.pre at hc
  have h4:(WTm.not (.lt (.lit (.int (n:Int))) (.len (.arg 0)))).holds [] { args:=[.list (ns.map .int)] }=true:=by
   have h4:=(holds_andW hc).1
   rw [hn] at h4
   exact h4
  have h5:=condW_of h4 (w_not (w_lt w_lit (w_len_list (w_arg rfl))))
  rw [List.length_map] at h5
  refine Nat.le_of_not_lt fun q=>?_
  have q':(n:Int)<((ns.length:Nat):Int):=by (first|lia|omega)
  first
   | (rw [decide_eq_true q'] at h5;exact absurd h5 (by decide))
   | (simp at h5;(first|lia|omega))
 cases hwl with
 | cons w1 w2 =>
  cases w2
  cases w1 with
  | list ho hall=>exact ⟨_,_,ns,rfl,rfl,ho,zhY ns _ hall,hlen⟩
theorem zoE (l:OpenLaw) (args:List WData):l.row.toRowW.claim.post args (.bool true) args=true :=
 postW_of (r:=l.row.toRowW) (X:=(true == true))
  (show WShape.has [] (.bool true) .bool=true by first | rfl | decide | simp [WShape.has,WShape.arms,WShape.armsAll])
  (show (WTm.eq .res (.lit (.bool true))).value [] { args:=args,res:=some (.bool true),after:=args }=some (.bool (true == true)) from w_eq_bool (w_res rfl) w_lit) rfl
theorem attach_call {l:OpenLaw} {n:Nat} {q:Program} {loose:List Str} {XP:(Str→Option Value)→Heap→Prop} {YP:World→Heap→Prop} {d:DefRec}
  (hn:l.most=some n) (hdf:d.params.defaults=[])
  (call:∀ (w:World) (s₀ s₁:Shared) (mg mb:Str→Option Value) (fa:Addr) (o:Obj) (pm cd doc:Value) (a:Addr) (vs:List Value) (ns:List Int),
   Ground q loose [] XP w s₀ mg mb s₁.heap→YP w s₁.heap →
   s₁.heap.get? fa=some o→o.data=.func (docDef d.name d.params d.body d.scope pm cd doc)→s₁.heap.CodeRec cd d.name→mg d.name=some (.ref fa) →
   s₁.heap.get? a=some { cls:=.type "list",data:=.seq vs.toArray }→IntsAre vs ns→ns.length≤n→s₁.gens=#[] →
   codeAny (model l.prog w) callerA (.call (.ref fa) ⟨[.ref a],[]⟩) (fun r s'=>r=.ok (.ret (.bool true))∧OldK s₁.heap s'.heap∧s'.os=s₁.os∧AllBare s'.gens) s₁) :
  WalkO q loose XP YP l.row.toRowW d [] (fun f vs=>PySem.call f vs):=by
 intro w s₀ s₁ mg mb G Y fa o pm cd doc dV kV ho hd hcd hD hmg hg args vals as hpre hlay hrd hwl hlo
 obtain rfl:dV=.none:=Dflts.none hD hdf
 obtain rfl:kV=.none:=Dflts.noKw hD
 obtain ⟨a,vs,ns,rfl,rfl,hobj,hints,hlen⟩:=zoC hn hpre hwl
 refine enter_call (codeAny_mono (call w s₀ s₁ mg mb fa o pm cd doc a vs ns G Y ho (fd_plain hd) hcd hmg hobj hints hlen hg) fun r s' hq=>?_)
 obtain ⟨rfl,h2,h3,h4⟩:=hq
 exact ⟨.inl ⟨.bool true,.bool true,[],rfl,fun _=>rfl,.bool true,zoE l _,fun _=>⟨List.Pairwise.nil,fun _ hm=>(nomatch hm)⟩⟩,h2,h3,h4⟩
section
variable {prog:Program} {w:World} {A:Around} {E:Value→Shared→Prop} {s:Shared} {K:Frag}
end
end Att
namespace L2
open PySem PySem.Spec PyProof.Rows
theorem zkQ:∀ {vs:List Value} {ns:List Int},IntsAre vs ns→zcc (ns.map V.int) vs
 | _,_,.nil=>.nil
 | _,_,.cons n t h=>.cons ⟨t,rfl⟩ (zkQ h)
def Only (H:Hp):Prop:=∀ b,H b=none∨∃ o xs,H b=some (.frz o (.lst xs))
theorem zrb {P:Program} {w:World} {K:PySem.W.Frag} {mg mb:Str→Option Value} {CX:CXT} {k:Nat} {fa a:Addr} {fd:FuncData} {x:Str} {sp:Sp} {s₁:Shared} {vs:List Value} {ns:List Int}
  (KX:K.In s₁.heap) (hns:s₁.heap.Ns mainGlobals mg) (hb:s₁.heap.Ns builtinsNs mb) (hbb:∀ x:Str,x≠"__name__"→mb x=bootBuiltins x) (hlim:s₁.heap.NoLimit) (hg:s₁.gens=#[])
  (ha:s₁.heap.get? a=some { cls:=.type "list",data:=.seq vs.toArray }) (hi:IntsAre vs ns) (hl:ns.length≤sizeLine) (hr:zg3 k callerA)
  (F:∀ base:Heap,K.In base→base.Ns mainGlobals mg→zdW P w K mg base CX k fa fd [x] sp) (hbind:∀ (s:Shared) (u:Value),BindsTo s fd ⟨[u],[]⟩ [(x,u)])
  (hsp:∀ H:Hp,Only H→SqL K H a (ns.map V.int)→sp [.ref a] H (fun v _=>v=.bl true) fun _ _ _=>False)
  (hCX:∀ H e s',CX [] H s₁ (fun _ _ _=>False) e s'→False) :
  codeAny (model P w) callerA (.call (.ref fa) ⟨[.ref a],[]⟩) (fun r s'=>r=.ok (.ret (.bool true))∧OldK s₁.heap s'.heap∧s'.os=s₁.os∧AllBare s'.gens) s₁:=by
 have rv:=zkQ hi
 have lenV:=hi.length
 have core:∀ H:Hp,Only H→SqL K H a (ns.map V.int)→HOk P w H s₁.heap→(∀ b,H b≠none→b=a)→(H a≠none→K.lookup a=none) →
   codeAny (model P w) callerA (.call (.ref fa) ⟨[.ref a],[]⟩) (fun r s'=>r=.ok (.ret (.bool true))∧OldK s₁.heap s'.heap∧s'.os=s₁.os∧AllBare s'.gens) s₁:=by
  intro H hO hS hok hA hK
  have base_of:∀ {b:Addr} {o:Obj},s₁.heap.get? b=some o→H b=none→(zq3 s₁.heap H).get? b=some o:=fun e n=>zqV e n
  have noA:∀ {b:Addr} {o:Obj} {es:Array DictEntry} {ep:Nat},s₁.heap.get? b=some o→o.data=.dict es ep→H b=none:=fun {b o es ep} e d=>by
   cases q:H b with
   | none=>rfl
   | some u =>
    have e':b=a:=hA b (by rw [q];simp)
    subst e'
    rw [ha] at e;cases e
    have d':Data.seq vs.toArray _=Data.dict es ep:=d
    cases d'
  have nsK:∀ {b:Addr} {m:Str→Option Value},s₁.heap.Ns b m→(zq3 s₁.heap H).Ns b m:=fun {b m} ⟨o,es,ep,e,d,r⟩=>⟨o,es,ep,base_of e (noA e d),d,r⟩
  have hKb:K.In (zq3 s₁.heap H):=fun b o e=>base_of (KX b o e) (by
   cases q:H b with
   | none=>rfl
   | some u =>
    have e':b=a:=hA b (by rw [q];simp)
    subst e'
    rw [hK (by rw [q];simp)] at e;cases e)
  have hM:Mod K mg (zq3 s₁.heap H):=⟨hKb,nsK hns,⟨mb,nsK hb,hbb⟩,let ⟨mc,h1,h2⟩:=hlim;⟨mc,nsK h1,h2⟩⟩
  have e0:zrY P w K mg (zq3 s₁.heap H) callerA [] s₁ H:=⟨rfl,hM,fun b o e=>zsT e,Nat.le_of_eq (zoW _ _),trivial,fun b hb=>absurd (show b∈([]:List Addr) from hb) (by simp),hok,.of_eq hg⟩
  refine codeAny_mono ((F _ hKb (nsK hns)).run callerA [] s₁ H ⟨[.ref a],[]⟩ [.ref a] [.ref a] _ _ hr e0 (hbind s₁ (.ref a)) (.cons rfl .nil) (hsp H hO hS)) fun r s' h=>?_
  cases r with
  | error e=>exact (hCX H e s' h).elim
  | ok fl =>
   cases fl with
   | next=>exact False.elim h
   | brk=>exact False.elim h
   | cont=>exact False.elim h
   | ret u =>
    obtain ⟨v,H',os,bare,un,hok',r',q⟩:=h
    have q':v=.bl true:=q
    subst q'
    obtain rfl:u=Value.bool true:=r'
    refine ⟨rfl,OldK.of_keep fun b o e=>?_,os,bare⟩
    cases q:H b with
    | none=>exact un.keep b o e q (by intro z;exact absurd (show b∈([]:List Addr) from z) (by simp)) (by simp)
    | some u =>
     rcases hO b with z | ⟨ob,xs,z⟩
     ·rw [q] at z;cases z
     ·have z2:=un.frzs b ob _ z
      obtain ⟨e1,_⟩:=hok b _ z
      obtain ⟨e2,_⟩:=hok' b _ z2
      rw [e] at e1;cases e1
      exact e2
 cases hk:K.lookup a with
 | some o =>
  have e:=KX a o hk
  rw [ha] at e
  cases e
  refine core (fun _=>none) (fun _=>.inl rfl) (.inr ⟨_,vs.toArray,_,hk,rfl,rfl,rfl,by rw [List.size_toArray,lenV];exact hl,by simpa using rv⟩) (fun b u z=>by have z':(none:Option HO)=some u:=z;cases z') (fun b z=>absurd rfl z) fun z=>absurd rfl z
 | none =>
  refine core (fun b=>if b=a then some (.frz { cls:=.type "list",data:=.seq vs.toArray } (.lst (ns.map V.int))) else none) (fun b=>?_) (.inl (.inr ⟨{ cls:=.type "list",data:=.seq vs.toArray },if_pos rfl⟩)) (fun b u z=>?_) (fun b z=>?_) fun _=>hk
  ·by_cases hb:b=a
   ·exact .inr ⟨_,_,if_pos hb⟩
   ·exact .inl (if_neg hb)
  ·by_cases hb:b=a
   ·have z':=(if_pos hb).symm.trans z
    cases z'
    subst hb
    exact ⟨ha,by rw [List.length_map];exact hl,vs,_,rv,ha⟩
   ·have z':=(if_neg hb).symm.trans z
    cases z'
  ·by_cases hb:b=a
   ·exact hb
   ·exact absurd (if_neg hb) z
end L2
namespace L2
open PySem PySem.Spec PyProof.Rows
theorem ztm {l:PySem.W.OpenLaw} {n k:Nat} {q:Program} {loose:List Str} {XP:(Str→Option Value)→Heap→Prop} {YP:World→Heap→Prop} {d:DefRec} {K:Params→PySem.W.Frag} {CX:World→CXT} {sp:World→Sp} {x:Str}
  (hn:l.most=some n) (hn2:n≤sizeLine) (hdf:d.params.defaults=[]) (hr:zg3 k callerA)
  (hY:∀ (w:World) (h:Heap),YP w h→(K w.params).In h)
  (F:∀ (w:World) (mg:Str→Option Value) (fa:Addr) (h:Heap),(K w.params).In h→h.Ns mainGlobals mg→mg d.name=some (.ref fa) →
   ∃ fd:FuncData,(∀ (s:Shared) (u:Value),BindsTo s fd ⟨[u],[]⟩ [(x,u)]) ∧
    ∀ base:Heap,(K w.params).In base→base.Ns mainGlobals mg→zdW l.prog w (K w.params) mg base (CX w) k fa fd [x] (sp w))
  (hsp:∀ (w:World) (H:Hp) (a:Addr) (ns:List Int),ns.length≤n→Only H→SqL (K w.params) H a (ns.map V.int)→sp w [.ref a] H (fun v _=>v=.bl true) fun _ _ _=>False)
  (hCX:∀ (w:World) (H:Hp) (s:Shared) (e:Value) (s':Shared),CX w [] H s (fun _ _ _=>False) e s'→False) :
  PySem.W.WalkO q loose XP YP l.row.toRowW d [] (fun f vs=>PySem.call f vs):=by
 refine Att.attach_call hn hdf fun w s₀ s₁ mg mb fa o pm cd doc a vs ns G Y ho hd hcd hmg hobj hints hlen hg=>?_
 have KX:=hY w _ Y
 obtain ⟨fd,hb,hF⟩:=F w mg fa _ KX G.T.g hmg
 exact zrb KX G.T.g G.T.b G.T.builtins G.T.nolimit hg hobj hints (Nat.le_trans hlen hn2) hr hF hb (fun H hO hS=>hsp w H a ns hlen hO hS) fun H e s'=>hCX w H s₁ e s'
end L2
namespace L2
open PySem PySem.Spec PyProof.Rows
def zgr (s:Stmt):Arguments:=match s with
 | .FunctionDef _ a _ _ _ _ _ _ _ _=>a
 | _=>{ posonlyargs:=[],args:=[],vararg:=none,kwonlyargs:=[],kw_defaults:=[],kwarg:=none,defaults:=[] }
def ze1 (s:Stmt):List Stmt:=match s with
 | .FunctionDef _ _ b _ _ _ _ _ _ _=>b
 | _=>[]
def zan (s:Stmt):Scope:=match s with
 | .FunctionDef _ _ _ _ _ _ sc _ _ _=>sc
 | _=>{ kind:=.function,names:=[],isGenerator:=false,isCoroutine:=false }
abbrev CX0:CXT:=fun _ _ _ _ _ _=>False
abbrev E0:XK:=fun _ _ _=>False
theorem za0 {X:Cx}:zi0 CX0 X E0:=fun _ _ _ _ _ _ _ h=>h.elim
structure Fun (K:PySem.W.Frag) (x qual:Str) (st:Stmt) (f:Addr) (fd:FuncData):Prop where
 ex:∃ (oc:Value) (od:Option Addr) (kV doc pm:Value) (an:Option Addr) (cdv ct:Value) (osl:Array (Option Value)),
  fd=PySem.W.fnOf x qual (zgr st) (ze1 st) (zan st) .none kV doc pm an cdv ct∧K.lookup f=some ⟨oc,od,.func fd,osl⟩∧PySem.W.codeIn K cdv qual=true
 kp:PySem.W.keepIn K (.ref f)=true
section
variable {P:Program} {w:World} {K:PySem.W.Frag} {mg:Str→Option Value} {base:Heap}
theorem Fun.ok {x qual:Str} {st:Stmt} {f:Addr} {fd:FuncData} {N ps:List Str} {k:Nat} {sp:Sp} (F:Fun K x qual st f fd) (S:zaM N ps (zan st)) (len:∀ vs H Q E,sp vs H Q E→vs.length=ps.length)
  (hbody:∀ (cdv:Value) (A:Around) (outer:List Env) (s:Shared) (H:Hp) (vs:List V) (Q:VK) (E:XK),zg3 k (A.deeper (envOfC qual (zan st) s.heap.objs.size f cdv))→sp vs H Q E →
   ∃ t,PSs (zpM CX0 P w K mg base N qual (zan st) f cdv A outer s H E).nox (ze1 st) t∧t { nx:=fun _ H'=>Q .non H',rt:=Q } (zb1 N vs) H):zdW P w K mg base CX0 (k+1) f fd ps sp:=by
 obtain ⟨oc,od,kV,doc,pm,an,cdv,ct,osl,rfl,lk,hcd⟩:=F.ex
 refine zuQ lk hcd S len fun A outer s H vs Q E hr hsp=>?_
 obtain ⟨t,h,q⟩:=hbody cdv A outer s H vs Q E hr hsp
 exact ⟨t,h.nox,q⟩
theorem Fun.binds {x qual:Str} {st:Stmt} {f:Addr} {fd:FuncData} {ps:List Str} (F:Fun K x qual st f fd)
  (h:∀ (kV doc pm:Value) (an:Option Addr) (cdv ct:Value) (us:List Value),us.length=ps.length→bindArgs (PySem.W.fnOf x qual (zgr st) (ze1 st) (zan st) .none kV doc pm an cdv ct) ⟨us,[]⟩=pure (ps.zip us)):zb4 K fd ps []:=by
 obtain ⟨oc,od,kV,doc,pm,an,cdv,ct,osl,rfl,lk,hcd⟩:=F.ex
 exact .all (h kV doc pm an cdv ct)
theorem zbG {x qual:Str} {st:Stmt} {f:Addr} {oc:Value} {od an:Option Addr} {osl:Array (Option Value)} {kV doc pm cdv ct:Value} (l:K.lookup f=some ⟨oc,od,.func (PySem.W.fnOf x qual (zgr st) (ze1 st) (zan st) .none kV doc pm an cdv ct),osl⟩)
  (c:PySem.W.codeIn K cdv qual=true) (k:PySem.W.keepIn K (.ref f)=true):Fun K x qual st f (PySem.W.fnOf x qual (zgr st) (ze1 st) (zan st) .none kV doc pm an cdv ct):=⟨⟨oc,od,kV,doc,pm,an,cdv,ct,osl,rfl,l,c⟩,k⟩
end
theorem zbN {n:Nat} (h:n≤1000):n<sizeLine:=Nat.lt_of_le_of_lt h (by decide)
section
variable {X:Cx}
theorem pv (i:Nat) {x:Str} {pos:Pos} (hN:X.N[i]?=some x:=by rfl) (hv:Vis X.env.scope x:=by first | exact Or.inl rfl | exact Or.inr (Or.inl rfl) | exact Or.inr (Or.inr rfl)) (hd:(x == ("__debug__":Str))=false:=by decide)
  (hcd:(x == ("__classdict__":Str))=false:=by decide):PE X (.Name x pos) (zac i):=zvk hN hv hd hcd
end
theorem zt1 {A B:Prop} (h:B):if false=true then A else B:=by
 rw [if_neg Bool.false_ne_true]
 exact h
theorem iteT {A B:Prop} (h:A):if true=true then A else B:=by
 rw [if_pos rfl]
 exact h
theorem zdZ {c A B:Prop} [Decidable c] (h1:c→A) (h2:¬ c→B):if c then A else B:=by
 by_cases h:c
 ·rw [if_pos h]
  exact h1 h
 ·rw [if_neg h]
  exact h2 h
def zaL (H H':Hp):Prop:=∀ b o,H b=some o→H' b=some o
theorem zaL.refl (H:Hp):zaL H H:=fun _ _ h=>h
theorem zaL.trans {H H1 H2:Hp} (a:zaL H H1) (b:zaL H1 H2):zaL H H2:=fun c o h=>b c o (a c o h)
theorem zaL.free {H H':Hp} (e:zaL H H') {l:Addr} (h:H' l=Option.none):H l=Option.none:=by
 cases q:H l with
 | none=>rfl
 | some o =>
  rw [e l o q] at h
  cases h
theorem zaL.seq {K:PySem.W.Frag} {H H':Hp} {a:Addr} {xs:List V} (e:zaL H H') (h:SqL K H a xs):SqL K H' a xs:=by
 rcases h with (h | ⟨o,h⟩) | h
 ·exact .inl (.inl (e _ _ h))
 ·exact .inl (.inr ⟨o,e _ _ h⟩)
 ·exact .inr h
end L2
namespace L2
open PySem PySem.Spec PyProof.Rows
section
variable {X:Cx}
theorem zg5:OpR X (binaryOp .FloorDiv) (rI (fun _ j=>0<j∧j.natAbs.log2<9000) fun i j=>.int (i / j)):=opI fun i j _ _ _ _ _ hc q=>by
 have h1:(0:Int)<j:=hc.1
 exact floordiv_int (by (first|lia|omega)) (by rw [Int.fdiv_eq_ediv_of_nonneg i (by (first|lia|omega))];exact q) (.inl (PyProof.noPylong_of_log2 hc.2))
theorem zf7:OpR X (binaryOp .FloorDiv) (rI (fun _ j=>j≠0∧j.natAbs.log2<9000) fun i j=>.int (i.fdiv j)):=opI fun _ _ _ _ _ _ _ hc q=>floordiv_int hc.1 q (.inl (PyProof.noPylong_of_log2 hc.2))
theorem zgt:OpR X (binaryOp .Mod) (rI (fun _ j=>j≠0) fun i j=>.int (i.fmod j)):=ztk
theorem zcB:OpR X (binaryOp .Mult) (rI IntMulOk fun i j=>.int (i*j)):=opI fun _ _ _ _ _ _ _ hc q=>mul_int q hc
theorem ztX {i j:Int} (h1:-(2 ^ 64)<j) (h2:j<2 ^ 64):IntMulOk i j:=.of_right (intBits_le_64 h1 h2)
theorem mulL {i j:Int} (h1:-(2 ^ 64)<i) (h2:i<2 ^ 64):IntMulOk i j:=.of_left (intBits_le_64 h1 h2)
theorem zpK {i j:Int} (m n:Nat) (h1:i.natAbs<2 ^ m) (h2:j.natAbs<2 ^ n) (h:m+n≤134217728:=by decide):IntMulOk i j:=.of_le (intBits_le_iff.mpr h1) (intBits_le_iff.mpr h2) h
theorem znQ {j:Int} (m:Nat) (h0:j≠0) (h:j.natAbs<2 ^ m) (hm:m≤9000:=by decide):j.natAbs.log2<9000 :=
 Nat.lt_of_lt_of_le ((Nat.log2_lt (by (first|lia|omega))).mpr h) hm
theorem zjg:bootBuiltins "int"=some (.type "int"):=by decide +kernel
theorem zku:bootBuiltins "bool"=some (.type "bool"):=by decide +kernel
theorem zdx:bootBuiltins "list"=some (.type "list"):=by decide +kernel
theorem zia:bootBuiltins "ValueError"=some (.type "ValueError"):=by decide +kernel
theorem zfh:bootBuiltins "tuple"=some (.type "tuple"):=by decide +kernel
theorem zkA (K:PySem.W.Frag):PySem.W.kitOne K (.type "int") (.type "bool")=some false:=by first | rfl | kernel_rfl
def zsL (a:Addr) (c:Value) (h:Heap):Prop:=∃ oe vs,h.get? a=some oe∧oe.cls=c∧oe.data=.fields vs
def excO (a:Addr) (c:Value):HO:=.ext (zsL a c)
structure zdQ (K:PySem.W.Frag) (c:Value):Prop where
 kit:∀ a:Addr,PySem.W.KitX K (.ref a) c (zsL a c)
inductive TyX (K:PySem.W.Frag) (H:Hp):V→Value→Prop where
 | of {x:V} {t:Value} (h:zmW K H x t):TyX K H x t
 | exc {a:Addr} {c:Value} (h:H a=some (excO a c)) (k:zdQ K c):TyX K H (.ref a) c
def zvm:V→Option Value
 | .ty n=>some (.type n)
 | .ref c=>some (.ref c)
 | _=>none
def zit (K:PySem.W.Frag):List V→Hp→VK→Prop:=fun xs H Q=>∃ x c t cv b,xs=[x,c]∧zvm c=some cv∧TyX K H x t∧PySem.W.kitOne K t cv=some b∧Q (.bl b) H
def ziY (C:Value) (E:XK):TS:=fun _ _ H=>E C none H
def zo8 (sp:Sp) (dvs:List V) (E:St→XK) (t:TA):TE:=fun σ H Q=>t σ H fun vs H1=>sp (vs++dvs) H1 Q (E σ)
theorem zmr {K:PySem.W.Frag} {H:Hp} {Q:VK} {i:Int} (q:Q (.bl true) H):zit K [.int i,.ty "int"] H Q:=⟨_,_,_,_,true,rfl,rfl,.of (.int i),rfl,q⟩
theorem zgM {K:PySem.W.Frag} {H:Hp} {Q:VK} {i:Int} (q:Q (.bl false) H):zit K [.int i,.ty "bool"] H Q:=⟨_,_,_,_,false,rfl,rfl,.of (.int i),zkA K,q⟩
theorem zmq {K:PySem.W.Frag} {H:Hp} {Q:VK} {r:Addr} {xs:List V} (h:H r=some (.tup xs)) (q:Q (.bl true) H):zit K [.ref r,.ty "tuple"] H Q:=⟨_,_,_,_,true,rfl,rfl,.of (.tup h),rfl,q⟩
theorem zjJ {c:V} {u cv:Value} (r:zc5 c u) (h:zvm c=some cv):u=cv:=by
 cases c with
 | ty n=>cases r;exact Option.some.inj h
 | ref a=>cases r;exact Option.some.inj h
 | _=>cases h
theorem zcz:zfP X (.builtin "isinstance") (zit X.K):=by
 intro pins s σ H xs us Q I r h
 obtain ⟨x,c,t,cv,b,rfl,hc,ty,e,q⟩:=h
 obtain ⟨u,w',rfl,rx,rw'⟩:=zm7 r
 obtain rfl:=zjJ rw' hc
 cases ty with
 | of ty=>exact zpr I rx ty e fun tk=>⟨.bl b,H,I.tok tk,rfl,q⟩
 | @exc a c h k =>
  cases (show u=Value.ref a from rx)
  obtain ⟨p,_,_⟩:=(show zcG X.prog X.w H s.heap a (excO a t) from I.hok a _ h)
  exact PySem.W.kia_one (k.kit a) I.kIn p e (fun z=>nomatch z) fun tk=>⟨.bl b,H,I.tok tk,rfl,q⟩
theorem zof {l:List Int} {j:Nat} (h:j<l.length):l.getD j 0=l[j]:=by
 rw [List.getD_eq_getElem?_getD,List.getElem?_eq_getElem h]
 rfl
def zmR (K:PySem.W.Frag):V→List V→Hp→VK→Prop:=fun x vs H Q=>∃ l xs y,x=.ref l∧vs=[y]∧SqL K H l xs∧zjK y=true∧xs.all zjK=true∧Q (.int ((xs.countP fun z=>eqV z y:Nat):Int)) H
theorem zi3 {x:V}:∀ {xs:List V} {us:List Value},zcc xs us→xs.all zjK=true→us.countP (eqU x)=xs.countP fun y=>eqV y x
 | _,_,.nil,_=>rfl
 | y::xs,u::us,.cons r t,f=>by
  rw [List.all_cons,Bool.and_eq_true] at f
  rw [List.countP_cons,List.countP_cons,zrE r f.1,zi3 t f.2]
theorem zqE:MtR X "list.count" (zmR X.K):=by
 intro pins s σ H x vs v us Q I rx rv h
 obtain ⟨l,xs,y,rfl,rfl,hl,fy,fs,q⟩:=h
 cases rx
 obtain ⟨u,rfl,ru⟩:=rv.one
 obtain ⟨its,r,⟨⟨cls,dd,data,sl⟩,n,e,hc,hdn,hd⟩,_⟩:=I.list hl
 simp only at hc hd
 subst hc hd
 refine call_meets F.slot_list_count ⟨_,e,rfl⟩ F.entry_list_count (F.args_list_count_2 _ _) (SeqAt.list_countAt l its.toArray n dd sl u (eqU y)) ⟨e,fun w hw=>zmN ru fy r fs w (by simpa using hw),?_⟩
 refine ⟨.int _,H,I.tok _,⟨_,rfl⟩,?_⟩
 rw [List.toList_toArray,zi3 r fs]
 exact q
def tTru (K:PySem.W.Frag) (ta:TE):TT:=fun σ H Q=>ta σ H fun x H'=>∃ k,zua K x H' k∧Q k H'
def zc0 (t:TS):TS:=fun D σ H=>∃ R:St→Hp→Prop,t { D with nx:=R } σ H∧∀ σ' H',R σ' H'→D.nx σ' H'
theorem zbS {st:Stmt} {t:TS} (h:PS X st t):PS X st (zc0 t):=by
 intro pins s σ H D I hw
 obtain ⟨R,hw,hR⟩:=hw
 refine thn (h pins s σ H _ I hw) fun f s' q=>?_
 cases f with
 | next=>obtain ⟨σ',H',I',q⟩:=q;exact ⟨σ',H',I',hR _ _ q⟩
 | brk=>exact q
 | cont=>exact q
 | ret u=>exact q
end
theorem zaE {H:Hp} {p:Addr} (h:H p=none) (o:HO):zaL H (upd H p o):=fun b u q=>by rw [zaC (zau q h)];exact q
theorem zaL.add {H0 H:Hp} {p:Addr} {o:HO} (s:zaL H0 H) (h:H p=none):zaL H0 (upd H p o):=s.trans (zaE h o)
theorem zaL.put {H0 H:Hp} {p:Addr} {o:HO} (s:zaL H0 H) (h:H0 p=none):zaL H0 (upd H p o):=fun b u q=>by rw [zaC (zau q h)];exact s _ _ q
theorem zqk {K:PySem.W.Frag} {i:Int} {H:Hp} {k:Bool}:zua K (.int i) H k=(k=(i != 0)):=rfl
theorem ztz {K:PySem.W.Frag} {i:Bool} {H:Hp} {k:Bool}:zua K (.bl i) H k=(k=i):=rfl
theorem zrt (a b:Int):scal (.int a) (.int b)=true:=rfl
theorem ztG (a b:Bool):scal (.bl a) (.bl b)=true:=rfl
theorem zvg {ns:List Int} {k:Int} (h0:0≤k) (h:k<(ns.length:Int)):∃ v:Int,atI (ns.map V.int) k=some (.int v)∧ns[k.toNat]?=some v:=by
 have hk:k.toNat<ns.length:=by (first|lia|omega)
 have ek:k=((k.toNat:Nat):Int):=by (first|lia|omega)
 have q:atI (ns.map V.int) ((k.toNat:Nat):Int)=some (.int ns[k.toNat]):=zcq (by rw [List.getElem?_map,List.getElem?_eq_getElem hk] <;> rfl)
 rw [← ek] at q
 exact ⟨ns[k.toNat],q,List.getElem?_eq_getElem hk⟩
def zpi (J:It) (g:TG) (tb:TS):TS:=fun D σ H=>∃ W:Nat→Nat→St→Hp→Prop,(∃ m,W 0 m σ H)∧∀ i m σ H,W i m σ H →
 (J.stop i H∧D.nx σ H)∨(J.go i H∧∃ N:St→Hp→Prop,(∀ σ' H',N σ' H'→∃ m',m'<m∧W (i+1) m' σ' H')∧∀ x H',J.yld i H x H'→g x σ H' fun σ2 H2=>tb { D with nx:=N,ct:=N,bk:=D.nx } σ2 H2)
theorem zsO {wi:TI} {g:TG} {tb:TS} {D:zb5} {σ:St} {H:Hp}:zk7 wi g tb D σ H=wi σ H fun J H1=>zpi J g tb D σ H1:=rfl
theorem zcY {lo:Int} {n:Nat} {g:TG} {tb:TS} {D:zb5} {σ:St} {H:Hp} (Pv:Nat→St→Hp→Prop) (h0:Pv 0 σ H)
  (hs:∀ i σ H,i<n→Pv i σ H→g (.int (lo+i)) σ H fun σ2 H2=>tb { D with nx:=Pv (i+1),ct:=Pv (i+1),bk:=D.nx } σ2 H2) (hd:∀ σ H,Pv n σ H→D.nx σ H):zpi (Itr lo n) g tb D σ H:=zpl Pv h0 hs hd
theorem zhN {K:PySem.W.Frag} {a:Addr} {xs:List V} {g:TG} {tb:TS} {D:zb5} {σ:St} {H:Hp} (Pv:Nat→St→Hp→Prop) (h0:Pv 0 σ H) (hl:∀ i σ H,i≤xs.length→Pv i σ H→SqL K H a xs)
  (hs:∀ i x σ H,xs[i]?=some x→Pv i σ H→g x σ H fun σ2 H2=>tb { D with nx:=Pv (i+1),ct:=Pv (i+1),bk:=D.nx } σ2 H2) (hd:∀ σ H,Pv xs.length σ H→D.nx σ H):zpi (Itl K a) g tb D σ H:=zqJ Pv h0 hl hs hd
end L2
namespace L2
open PySem PySem.Spec PyProof.Rows
section
variable {P:Program} {w:World}
theorem zcG.there {H:Hp} {h:Heap} {a:Addr} {o:HO} (x:zcG P w H h a o):∃ ob,h.get? a=some ob:=by
 cases o with
 | lst xs=>obtain ⟨_,_,_,_,e⟩:=x;exact ⟨_,e⟩
 | tup xs=>obtain ⟨_,_,_,ob,e,_⟩:=x;exact ⟨ob,e⟩
 | dK kvs=>obtain ⟨_,_,_,_,ob,_,_,e,_⟩:=x;exact ⟨ob,e⟩
 | dT kvs=>obtain ⟨_,_,_,_,ob,_,_,e,_⟩:=x;exact ⟨ob,e⟩
 | set S n=>obtain ⟨ob,_,_,_,e,_⟩:=x;exact ⟨ob,e⟩
 | ins C dx fs=>obtain ⟨_,_,_,e,_⟩:=x;exact ⟨_,e⟩
 | own y=>exact x
 | xd fs=>obtain ⟨_,⟨ob,_,_,e,_⟩,_⟩:=x;exact ⟨ob,e⟩
 | rng lo hi=>obtain ⟨_,_,_,e⟩:=x;exact ⟨_,e⟩
 | frz ob u=>obtain ⟨e,_⟩:=x;exact ⟨ob,e⟩
 | tbl ps=>exact ⟨_,(show h.get? a=some _ from x)⟩
 | met f y=>exact ⟨_,(show h.get? a=some _ from x)⟩
 | ext φ=>obtain ⟨_,⟨ob,e⟩,_⟩:=x;exact ⟨ob,e⟩
structure zsu (P:Program) (w:World) (outer:List Env) (H:Hp) (s:Shared) (E:XK) (ea:Addr) (s':Shared) (B:Heap) (cls a0:Value) (H':Hp):Prop where
 os:s'.os=s.os
 bare:AllBare s'.gens
 un:Un (frs outer) [] H H' s.heap s'.heap
 hokB:HOk P w H' B
 fly:Heap.FlyingW B outer ea cls a0 s'.heap
 cov:∀ b o,s.heap.get? b=some o→H b=none→b∉frs outer→B.get? b=some o
 covT:∀ b o,s.heap.get? b=some o→b∉frs outer→∃ o',B.get? b=some o'
 new:s.heap.get? ea=none
 free:H' ea=none
 want:E cls none H'
theorem zsu.later {outer:List Env} {H H':Hp} {s s':Shared} {E:XK} {ea:Addr} {B h:Heap} {cls a0:Value} (x:zsu P w outer H s E ea s' B cls a0 H') (st:B.StaysIn h) (sm:s'.heap.UpToSlots h)
  (ff:s'.heap.FunFrames B outer):Un (frs outer) [] H H' s.heap h∧HOk P w H' h:=by
 have slot:∀ b o,s'.heap.get? b=some o→b∈frs outer→∃ sl,h.get? b=some { o with slots:=sl }:=fun b o e hb=>by
  obtain ⟨_,o',e',nf⟩:=ff.mem hb
  rw [e] at e'
  cases e'
  exact sm b o e nf
 refine ⟨⟨fun b o e n hb _=>st b o (x.cov b o e n hb),fun b o e n hb hx=>?_,x.un.free,fun b o e hx=>?_,x.un.tups,x.un.frzs,x.un.tbls⟩,x.hokB.kept st⟩
 ·obtain ⟨sl,e1⟩:=x.un.slot b o e n hb hx
  obtain ⟨sl',e2⟩:=slot b _ e1 hb
  exact ⟨sl',e2⟩
 ·by_cases hb:b∈frs outer
  ·obtain ⟨o1,e1⟩:=x.un.there b o e hx
   obtain ⟨sl,e2⟩:=slot b o1 e1 hb
   exact ⟨_,e2⟩
  ·obtain ⟨o',e'⟩:=x.covT b o e hb
   exact ⟨o',st b o' e'⟩
end
section
variable {P:Program} {w:World} {K:PySem.W.Frag} {mg:Str→Option Value} {base:Heap} {N:List Str} {qual:Str} {scope:Scope} {f:Addr} {cd:Value} {A:Around} {outer:List Env} {s₀:Shared} {H₀:Hp} {E:XK}
end
def zrD (X:Cx) (C:Addr) (E:XK):Prop:=∀ (pins:List (Addr×Obj)) (σ:St) (H:Hp) (s:Shared) (ea:Addr) (h':Heap) (args:List Value),Inv X pins σ H s→Heap.MadeExcOf s.heap h' ea (.ref C) args→E (.ref C) none H→X.xe (.ref ea) { s with heap:=h' }
section
variable {P:Program} {w:World} {K:PySem.W.Frag} {mg:Str→Option Value} {base:Heap} {N:List Str} {qual:Str} {scope:Scope} {f:Addr} {cd:Value} {A:Around} {outer:List Env} {s₀:Shared} {H₀:Hp} {E:XK}
end
abbrev zes:List Value:=[.type "ValueError",.type "Exception",.type "BaseException",.type "object"]
def zrF (h:Heap) (C:Addr):Prop:=∃ bm N nm q bs hdct sn sub ab col dd k0 k1 k2 k3 k5 mN,h.get? C=some (excClassObj nm q C N bs bm hdct sn sub ab col dd k0 k1 k2 k3 k5 "ValueError.__new__")∧h.Ns N mN∧mN "__init__"=none∧OwnTail h zes bm
theorem zfV {K:PySem.W.Frag} {h:Heap} {C:Addr} (X:K.In h) (q:PySem.W.excIn K C zes "ValueError.__new__"=true):zrF h C:=by
 unfold PySem.W.excIn at q
 split at q
 ·rename_i dd cd sl ho
  split at q
  ·rename_i C2 bm k0 k1 k2 k3 n k5 hm hs
   simp only [Bool.and_eq_true,beq_iff_eq,Bool.not_eq_true'] at q
   obtain ⟨⟨⟨⟨⟨r1,r2⟩,r3⟩,r4⟩,r5⟩,r6⟩:=q
   subst r1 r2
   obtain ⟨a1,a2,a3,a4,a5,a6,a7,a8,a9,a10,a11⟩:=cd
   dsimp only at hm r3 r5 r6
   subst hm r3
   have z:sl=#[k0,k1,k2,k3,some (.builtin "ValueError.__new__"),k5]:=by
    obtain ⟨l⟩:=sl
    exact congrArg Array.mk hs
   subst z
   exact ⟨bm,_,_,_,_,_,_,_,_,_,_,k0,k1,k2,k3,k5,_,X _ _ ho,.of_isNs (PySem.W.isNs_of_in X r5),PySem.W.nsMap_none_of_in X r5 r6,PySem.W.tail_of_in X r4⟩
  ·cases q
 ·cases q
theorem zjs {X:Cx} {x:Str} {C:Addr} {E:XK} {z:Str} {j:Nat} {np cpos pos pz:Pos} (hm:X.mg x=some (.ref C)) (hq:PySem.W.excIn X.K C zes "ValueError.__new__"=true) (hg:Gl X x) (hc:X.calm=true) (hT:zrD X C E)
  (hd:(x == ("__debug__":Str))=false:=by decide):PS X (.Raise (some (.Call (.Name x np) [.Constant (.str z) j pz] [] cpos)) none pos) (ziY (.ref C) E):=by
 intro pins s σ H D I h
 have hw:E (.ref C) none H:=h
 have O:=zfV I.ok.mod.kin hq
 obtain ⟨b1,b2,b3,b4,b5,b6,b7,b8,b9,b10,b11,b12,b13,b14,b15,b16,b17,hC,hN,hni,T⟩:=O
 refine wpAny_Raise_call_subT (C:=C) (nm:=b3) (q:=b4) (N:=b2) (bs:=b5) (bm:=b1) (hdct:=b6) (sn:=b7) (sub:=b8) (ab:=b9) (col:=b10) (dd:=b11) (k0:=b12) (k1:=b13) (k2:=b14) (k3:=b15) (k5:=b16) (mN:=b17)
  PySem.F.excBase_ValueError (T.hasType PySem.F.excBase_ValueError.hasBase) (I.ok.hd hc) rfl hni (zfD I hg hm ⟨rfl,?_⟩ hd)
 refine Calls.evalArgs_plain ?_
 refine thn ((zaa (X:=X) (zc6 (x:=z) (j:=j) (pos:=pz)) zad (by rfl)) cpos pins s σ H (fun vs H1=>vs=[.str z]∧H1=H) I ⟨rfl,rfl⟩) fun us s2 hQ'=>?_
 obtain ⟨vs,H1,I1,r,e1,e2⟩:=hQ'
 subst e1 e2
 have hl:=r.length
 refine ⟨rfl,by rw [← hl];exact Nat.le_of_lt (zbN (by show 1≤1000;decide)),I1.bk _ _ hC,hN.keeps I1.bk,T.keeps I1.bk,fun h' e hmade=>?_⟩
 exact hT pins σ _ s2 e h' us I1 hmade hw
section
variable {X:Cx} {CX:CXT} {k:Nat} {f:Addr} {fd:FuncData} {ps:List Str} {sp:Sp} {dvs:List V} {ds:List Value} {E:St→XK} {x:Str} {p pos:Pos} {e:Expr} {es:List Expr} {t:TA}
def zoD (CX:CXT) (X:Cx) (E:St→XK):Prop:=∀ (pins:List (Addr×Obj)) (σ:St) (H:Hp) (s:Shared) (e:Value) (s':Shared),Inv X pins σ H s→CX X.stack H s (E σ) e s'→X.xe e s'
theorem zqg (F:zdW X.prog X.w X.K X.mg X.base CX k f fd ps sp) (hr:zg3 k X.A) (hg:Gl X x) (hm:X.mg x=some (.ref f)) (hk:PySem.W.keepIn X.K (.ref f)=true) (hb:zb4 X.K fd ps ds) (hd:zcc dvs ds) (hx:zoD CX X E)
  (ha:PA X (e::es) t) (hdb:(x == ("__debug__":Str))=false:=by decide) (he:starEach (e::es) X.env=(false,eval e X.env)::starEach es X.env:=by rfl) (hpl:(backTo pos (starEach es X.env)).any (·.1)=false:=by rfl) :
  PE X (.Call (.Name x p) (e::es) [] pos) (zo8 sp dvs E t):=by
 intro pins s σ H Q I h
 refine wpAny_Call_Name_kw (zfD I hg hm ?_ hdb)
 refine PySem.W.callWith_K (h₀:=X.base) I.ok.mod.kin hk (thn (ha pos pins s σ H _ I h) fun us s1 ⟨vs,H1,I1,r,q⟩=>⟨I1.kIn,?_⟩) he hpl
 have r2:zcc (vs++dvs) (us++ds):=r.append hd
 have hl:(us++ds).length=ps.length:=by rw [← r2.length];exact F.len _ _ _ _ q
 refine wpAny_call (codeAny_mono (F.run X.A X.stack s1 H1 ⟨us,[]⟩ (us++ds) (vs++dvs) Q (E σ) hr I1.env0 (hb s1 us I1.kIn hl) r2 q) fun res s' hq=>?_)
 cases res with
 | error e=>exact hx pins σ H1 s1 e s' I1 hq
 | ok fl =>
  cases fl with
  | ret u=>exact I1.after hq
  | next=>exact False.elim hq
  | brk=>exact False.elim hq
  | cont=>exact False.elim hq
end
theorem Cx.Ok.pinned {X:Cx} (ok:X.Ok) (pn:List (Addr×Obj)) (xe:Value→Shared→Prop):Cx.Ok { X with pn:=pn,xe:=xe } :=
 ⟨ok.mod,ok.kind,ok.glob,ok.blt,ok.above,ok.inj,ok.has,ok.cab,ok.hd,ok.frames,ok.stk,ok.exf,ok.bs,ok.bsz,ok.noex,ok.exfs,ok.funs,ok.frf⟩
theorem Inv.ofTry {X:Cx} {pins pins':List (Addr×Obj)} {xe:Value→Shared→Prop} {σ:St} {H:Hp} {s:Shared} (I:Inv { X with pn:=X.pn++pins,xe:=xe } pins' σ H s) (ok:X.Ok):Inv X pins σ H s :=
 ⟨ok,I.os,I.bare,I.base,I.loc,I.cell,I.free,I.freeC,fun p hp=>I.pin p (List.mem_append_left _ hp),I.hok,I.len⟩
theorem Inv.track {X:Cx} {pins:List (Addr×Obj)} {σ:St} {H:Hp} {s:Shared} {a:Addr} {o:HO} (I:Inv X pins σ H s) (hn:H a=none) (h0:X.s₀.heap.get? a=none) (hL:a≠X.env.locals) (hc:∀ x c,X.env.cells.lookup x=some c→c≠a)
  (hp:∀ p∈X.pn++pins,p.1≠a) (new:zcG X.prog X.w (upd H a o) s.heap a o):Inv X pins σ (upd H a o) s:=by
 refine ⟨I.ok,I.os,I.bare,⟨I.base.keep,I.base.slot,fun b u q n hx=>?_,I.base.there,fun b xs q=>?_,fun b u xs q=>?_,fun b ps q=>?_⟩,I.loc,I.cell,?_,fun x c e=>?_,fun p q=>?_,fun b u e=>?_,I.len⟩
 ·have nb:b≠a:=fun z=>by rw [z,h0] at q;cases q
  rw [zaC nb]
  exact I.base.free b u q n hx
 ·have q2:=I.base.tups b xs q
  rw [zaC (zau q2 hn)]
  exact q2
 ·have q2:=I.base.frzs b u xs q
  rw [zaC (zau q2 hn)]
  exact q2
 ·obtain ⟨m,q2⟩:=I.base.tbls b ps q
  exact ⟨m,by rw [zaC (zau q2 hn)];exact q2⟩
 ·rw [zaC hL.symm]
  exact I.free
 ·rw [zaC (hc x c e)]
  exact I.freeC x c e
 ·obtain ⟨e,n,r⟩:=I.pin p q
  exact ⟨e,by rw [zaC (hp p q)];exact n,r⟩
 ·by_cases hb:b=a
  ·subst hb
   rw [zai] at e
   cases e
   exact new
  ·rw [zaC hb] at e
   exact (I.hok b u e).stay (fun c v _ q=>q) (fun c q=>by rw [zaC (zau q hn)];exact q) fun c xs q=>by rw [zaC (zau q hn)];exact q
theorem zjr {X:Cx} {pins:List (Addr×Obj)} {σ:St} {H:Hp} {s:Shared} {M:Model} {A:Around} {E:Value→Shared→Prop} {i:Nat} {n:Str} {pos:Pos} {Q:Unit→Shared→Prop} (I:Inv X pins σ H s) (hN:X.N.Nodup) (hi:X.N[i]?=some n)
  (hk:X.env.scope.names.lookup n=some .local) (h:∀ s',Inv X pins (σ.set i none) H s'→Q () s'):wpAny M A (do bindName X.env n .none;unbindBehindTheSuite X.env n pos) Q E s:=by
 obtain ⟨m,hn,hl⟩:=id I.loc
 have hcls:(X.env.scope.kind == .class || (X.env.scope.kind == .module&&X.env.locals != X.env.globals))=false:=by rw [I.ok.kind];rfl
 have hiσ:i<σ.length:=by rw [I.len];exact (List.getElem?_eq_some_iff.mp hi).1
 obtain ⟨oL,_,_,hoL,_⟩:=id hn
 refine wpAny_nameGoes_keeps hk hn hcls fun h' v hn' hs=>?_
 have below:∀ b o,X.s₀.heap.get? b=some o→b≠X.env.locals:=fun b o e=>Nat.ne_of_lt (Nat.lt_of_lt_of_le (Heap.lt_size e) I.ok.above)
 refine h _ ⟨I.ok,I.os,I.bare,⟨fun b o e n hb hx=>?_,fun b o e n hb hx=>?_,I.base.free,fun b o e hx=>?_,I.base.tups,I.base.frzs,I.base.tbls⟩,⟨_,hn',fun j y v' e1 e2 e3=>?_⟩,fun y c e=>?_,I.free,I.freeC,fun p hp=>?_,fun b ob e=>?_,by simpa using I.len⟩
 ·exact (hs.2 b (below b o e)).trans (I.base.keep b o e n hb hx)
 ·obtain ⟨sl,e1⟩:=I.base.slot b o e n hb hx
  exact ⟨sl,(hs.2 b (below b o e)).trans e1⟩
 ·obtain ⟨o',e1⟩:=I.base.there b o e hx
  exact ⟨o',(hs.2 b (below b o e)).trans e1⟩
 ·have hj:j≠i:=fun z=>by
   rw [z,List.getElem?_set_self hiσ] at e2
   cases e2
  rw [List.getElem?_set_ne (Ne.symm hj)] at e2
  obtain ⟨u',r',q⟩:=hl j y v' e1 e2 e3
  refine ⟨u',r',?_⟩
  rcases q with ⟨k,e⟩ | ⟨k,c,e,z⟩
  ·refine .inl ⟨k,?_⟩
   have:y≠n:=fun e=>hj (zj0 hN e1 (e ▸ hi))
   simp [this,e]
  ·exact .inr ⟨k,c,e,z.sameBut hs (I.cne y c e)⟩
 ·obtain ⟨w',z⟩:=I.cell y c e
  exact ⟨w',z.sameBut hs (I.cne y c e)⟩
 ·obtain ⟨e,n,ne,nf,d⟩:=I.pin p hp
  exact ⟨(hs.2 p.1 ne).trans e,n,ne,nf,d⟩
 ·refine (I.hok b ob e).stay (fun c w' hc q=>(hs.2 c ?_).trans q) (fun _ q=>q) fun _ _ q=>q
  rintro rfl
  rcases hc with rfl | hc
  ·rw [I.free] at e;cases e
  ·rw [I.free] at hc;cases hc
theorem ziu {M:Model} {A:Around} {E:Value→Shared→Prop} {h:Heap} {g:Array GenState} {d:Drawn} {t:Nat} {os:OsState} {e D:Addr} {oe:Obj} {cls:Value} {Q:Bool→Shared→Prop} (he:h.get? e=some oe) (hcls:oe.cls=cls)
  (O:zrF h D) (L:PySem.W.Looks M h (isSubtype cls (.ref D)) true) (hq:Q true ⟨h,g,d,t,os⟩):wpAny M A (excMatches (.ref e) (.ref D)) Q E ⟨h,g,d,t,os⟩:=by
 obtain ⟨b1,b2,b3,b4,b5,b6,b7,b8,b9,b10,b11,b12,b13,b14,b15,b16,b17,hD,hN,hni,T⟩:=O
 have hcB:(Value.ref D::b1).contains (.type "BaseException")=true:=by rw [List.contains_cons,T.hasType PySem.F.excBase_ValueError.hasBase,Bool.or_true]
 have f:=tc_notTuple
 unfold excMatches
 repeat (first | (with_reducible refine wpAny_loadPart_at he ?_;rw [hcls]) | with_reducible refine wpAny_loadPart_at hD ?_ | (with_reducible refine wpAny_isSubtype_exc hD ?_;rw [hcB]) | (with_reducible refine L.at ?_) | wp_step)
 exact hq
def Cx.inExc (X:Cx) (ea:Addr):Cx:={ X with A:=X.A.mark (some (.ref ea)),calm:=false }
theorem Inv.toExc {X:Cx} {pins:List (Addr×Obj)} {σ:St} {H:Hp} {s:Shared} {ea:Addr} (I:Inv X pins σ H s) (hf:(X.A.mark (some (.ref ea))).frames=some X.stack):Inv (X.inExc ea) pins σ H s :=
 ⟨⟨I.ok.mod,I.ok.kind,I.ok.glob,I.ok.blt,I.ok.above,I.ok.inj,I.ok.has,I.ok.cab,(by intro z;cases z),hf,I.ok.stk,I.ok.exf,I.ok.bs,I.ok.bsz,I.ok.noex,I.ok.exfs,I.ok.funs,I.ok.frf⟩,I.os,I.bare,I.base,I.loc,I.cell,I.free,I.freeC,I.pin,I.hok,I.len⟩
theorem Inv.ofExc {X:Cx} {pins:List (Addr×Obj)} {σ:St} {H:Hp} {s:Shared} {ea:Addr} (I:Inv (X.inExc ea) pins σ H s) (ok:X.Ok):Inv X pins σ H s :=
 ⟨ok,I.os,I.bare,I.base,I.loc,I.cell,I.free,I.freeC,I.pin,I.hok,I.len⟩
structure zew (K:PySem.W.Frag) (C:Addr):Prop where
 ga:PySem.W.findIn K (.ref C) "__getattribute__"=some (some (.builtin "BaseException.__getattribute__"))
 gn:PySem.W.findIn K (.ref C) "__getattr__"=some none
 cl:PySem.W.findIn K (.ref C) "__class__"=some (some (.builtin "object.__class__"))
 mb:PySem.W.mroIn K C (.type "BaseException")=some true
 mo:PySem.W.mroIn K C (.type "object")=some true
structure znX (K:PySem.W.Frag) (C:Addr):Prop where
 ga:PySem.W.findIn K (.ref C) "__getattribute__"=some (some (.builtin "BaseException.__getattribute__"))
 gn:PySem.W.findIn K (.ref C) "__getattr__"=some none
 cl:PySem.W.findIn K (.ref C) "__class__"=some (some (.builtin "object.__class__"))
 mb:PySem.W.mroIn K C (.type "BaseException")=some true
 mo:PySem.W.mroIn K C (.type "object")=some true
 ok:PySem.W.excIn K C zes "ValueError.__new__"=true
theorem znX.five {K:PySem.W.Frag} {C:Addr} (Z:znX K C):zew K C:=⟨Z.ga,Z.gn,Z.cl,Z.mb,Z.mo⟩
section
open Builtin Builtin.ObjectAttr Builtin.Getset_descriptor PySem.W
variable {K:PySem.W.Frag} {prog:Program} {w:World} {A:Around} {E:Value→Shared→Prop} {h:Heap} {g:Array GenState} {d:Drawn} {t:Nat} {os:OsState} {a C:Addr} {o:Obj}
theorem zm1:splitId "BaseException.__getattribute__"=some ("BaseException","__getattribute__"):=by decide +kernel
theorem znz:builtinKind "BaseException.__getattribute__"=some .slot:=by decide +kernel
theorem zni {R:Result→Shared→Prop} (X:K.In h) (Z:zew K C) (hx:h.get? a=some o) (hc:o.cls=.ref C) (hq:R (.ok (.ret (.ref C))) ⟨h,g,d,t,os⟩) :
  codeAny (model prog w) A (.call (.builtin "getset_descriptor.__get__") ⟨[.builtin "object.__class__",.ref a,.ref C],[]⟩) R ⟨h,g,d,t,os⟩:=by
 have LT:PySem.W.Looks (model prog w) h (typeOf (.ref a)) (.ref C):=hc ▸ (PySem.W.Looks.ld hx).andThen .now
 have LM:=PySem.W.looks_mroIn (M:=model prog w) X Z.mo
 refine codeAny_call_builtin PySem.W.KF.slot_gs.plain PySem.W.KF.entry_gs (PySem.W.KF.slot_gs.check _ _ _ _ _ _ _ _ PySem.W.KF.type_class (PySem.W.KF.args_gs _ _ _) ?_)
 unfold Builtin.«getset_descriptor.__get__»
 unfold descrGet
 rw [PySem.W.dga_obj]
 refine wpAny_bind (wpAny_pure ?_)
 unfold descrGetter descrCheckInstance
 unfold descrNameAndClass isInstance
 simp only [PySem.W.KF.owner_class]
 repeat lk
 refine ⟨Code.quiet_builtin _ (by decide +kernel),codeAny_builtin PySem.W.KF.entry_class ?_⟩
 unfold Builtin.«object.__class__»
 unfold shownTypeOf
 repeat lk
 exact hq
theorem zk2 {tk:Tok} {Q:Fin→Shared→Prop} (X:K.In h) (Z:zew K C) (hx:h.get? a=some o) (hc:o.cls=.ref C) (hq:Q (.done (.ret (.ref C))) ⟨h,g,d,t,os⟩) :
  wpAny (model prog w) A (Builtin.«object.__getattribute__» ⟨[.ref a,.str "__class__" tk],[]⟩) Q E ⟨h,g,d,t,os⟩:=by
 have LC:=PySem.W.looks_findIn (M:=model prog w) X Z.cl
 have h5:(⟨h,g,d,t,os⟩:Shared).TypeIs (.builtin "object.__class__") "getset_descriptor":=F.typeOf_object_class
 have f5:=F.typeOf_object_class
 have f6:=F.slot_gs_get.lookup
 have f7:=F.slot_gs_set.lookup
 repeat (any_goals (first | assumption | (with_reducible refine wpAny_loadPart_at hx ?_;rw [hc]) | with_reducible refine LC.at ?_ | wp_step))
 refine zni X Z hx hc ?_
 repeat (any_goals (first | assumption | wp_step))
theorem zgH {M:Model} {v:Value} {Q:Unit→Shared→Prop} (X:K.In h) (Z:zew K C) (hx:h.get? a=some o) (hc:o.cls=.ref C) (hq:Q () ⟨h,g,d,t,os⟩) :
  wpAny M A (checkBuiltinCall "BaseException.__getattribute__" ⟨[.ref a,v],[]⟩) Q E ⟨h,g,d,t,os⟩:=by
 have LM:=PySem.W.looks_mroIn (M:=M) X Z.mb
 have LT:PySem.W.Looks M h (typeOf (.ref a)) (.ref C):=hc ▸ (PySem.W.Looks.ld hx).andThen .now
 have ao:=F.args_bexc_ga (.ref a) v
 simp only [checkBuiltinCall,znz,zm1]
 refine wpAny_bind ?_
 unfold isInstance
 refine wpAny_bind (LT.at (LM.at ?_))
 repeat (any_goals (first | assumption | wp_step))
theorem zpB {tk:Tok} {Q:Value→Shared→Prop} (X:K.In h) (Z:zew K C) (FB:ExcAttrBase "ValueError" zes) (hx:h.get? a=some o) (hc:o.cls=.ref C) (hq:Q (.ref C) ⟨h,g,d,t,os⟩) :
  wpAny (model prog w) A (getAttrBy (.ref a) (.str "__class__" tk) false) Q E ⟨h,g,d,t,os⟩:=by
 have LG:=PySem.W.looks_findIn (M:=model prog w) X Z.ga
 have LN:=PySem.W.looks_findIn (M:=model prog w) X Z.gn
 have f3:=FB.ga.bind (.ref a)
 have n2:(Value.builtin "BaseException.__getattribute__" == Value.builtin "object.__getattribute__")=false:=by decide +kernel
 have n1:(onTheHeap (Value.ref C)&&(Value.builtin "BaseException.__getattribute__" == Value.builtin "object.__getattribute__"))=false:=by rw [n2];rfl
 repeat (any_goals (first | assumption | (with_reducible refine wpAny_loadPart_at hx ?_;rw [hc]) | with_reducible refine LG.at ?_ | with_reducible refine LN.at ?_ | wp_step))
 refine codeAny_call_builtin FB.ga.plain F.entry_bexc_ga (zgH X Z hx hc (zk2 X Z hx hc ?_))
 repeat (any_goals (first | assumption | wp_step))
theorem zhk {Q:Option Value→Shared→Prop} (X:K.In h) (Z:zew K C) (FB:ExcAttrBase "ValueError" zes) (hx:h.get? a=some o) (hc:o.cls=.ref C) (hq:Q (some (.ref C)) ⟨h,g,d,t+1,os⟩) :
  wpAny (model prog w) A (getAttr? (.ref a) "__class__") Q E ⟨h,g,d,t,os⟩:=by
 unfold getAttr? getAttrBy?
 repeat (any_goals (first | assumption | with_reducible apply zpB X Z FB hx hc | wp_step))
theorem zhO (Z:znX K C):zdQ K (.ref C):=⟨fun x=>{
 ty:=fun M h _ p=>by
  obtain ⟨oe,vs,e,c,_⟩:=p
  exact c ▸ (PySem.W.Looks.ld e).andThen .now
 it:=fun M h X _=>by
  obtain ⟨b1,b2,b3,b4,b5,b6,b7,b8,b9,b10,b11,b12,b13,b14,b15,b16,b17,hC,_⟩:=zfV X Z.ok
  intro A' Q' E' s' k q
  unfold isType loadHead
  exact wpAny_bind (wpAny_loadPart (k _ _ hC) (wpAny_pure q))
 ne:=fun h tp dd its n sl X htp=>by
  obtain ⟨b1,b2,b3,b4,b5,b6,b7,b8,b9,b10,b11,b12,b13,b14,b15,b16,b17,hC,_⟩:=zfV X Z.ok
  refine Bool.eq_false_iff.mpr fun q=>?_
  have e:C=tp:=Value.ref.inj (beq_iff_eq.mp q)
  subst e
  rw [hC] at htp
  have z:=congrArg Obj.data (Option.some.inj htp)
  exact nomatch z
 ca:=fun {prog w A E Q s} X p q=>by
  obtain ⟨h,g,d,t,os⟩:=s
  obtain ⟨oe,vs,e,c,_⟩:=p
  exact zhk X Z.five PySem.F.attrBase_ValueError e c q }⟩
end
end L2
namespace L2
open PySem PySem.Spec PyProof.Rows
theorem zn9 {env:Env} {x:Str} {c:Addr} (h:env.cells.lookup x=some c):cellOf env x=pure c:=by
 unfold cellOf
 rw [h]
theorem zgy {env:Env}:∀ (l:List (Str×NameKind)) (cs:List (Str×Addr)),(∀ y∈l,y.2=.free→∃ c,env.cells.lookup y.1=some c)→(∀ x c,cs.lookup x=some c→env.cells.lookup x=some c) →
  ∃ cl,(forIn l cs fun (y:Str×NameKind) r=>(if (y.2 == .free)=true then do let c ← cellOf env y.1;pure (ForInStep.yield ((y.1,c)::r)) else pure (ForInStep.yield r):Sem (ForInStep (List (Str×Addr)))))=pure cl ∧
   (∀ x c,cl.lookup x=some c→env.cells.lookup x=some c)∧(∀ y∈l,y.2=.free→∃ c,cl.lookup y.1=some c)∧∀ x,(∃ c,cs.lookup x=some c)→∃ c,cl.lookup x=some c
 | [],cs,_,hc=>⟨cs,by simp,hc,by simp,fun _ h=>h⟩
 | y::l,cs,hf,hc=>by
  have hf':∀ z∈l,z.2=.free→∃ c,env.cells.lookup z.1=some c:=fun z hz=>hf z (List.mem_cons_of_mem _ hz)
  by_cases hy:y.2=.free
  ·obtain ⟨c,e⟩:=hf y List.mem_cons_self hy
   have hc':∀ x d,List.lookup x ((y.1,c)::cs)=some d→env.cells.lookup x=some d:=fun x d q=>by
    rw [List.lookup_cons] at q
    split at q
    ·rename_i b
     cases q
     rw [beq_iff_eq.mp b,e]
    ·exact hc x d q
   obtain ⟨cl,e1,e2,e3,e4⟩:=zgy l ((y.1,c)::cs) hf' hc'
   refine ⟨cl,?_,e2,fun z hz q=>?_,fun x ⟨d,q⟩=>e4 x ?_⟩
   ·rw [List.forIn_cons,if_pos (by rw [hy];rfl),zn9 e]
    simpa using e1
   ·rcases List.mem_cons.mp hz with r | r
    ·exact e4 z.1 ⟨c,by rw [r,List.lookup_cons];simp⟩
    ·exact e3 z r q
   ·rw [List.lookup_cons]
    split
    ·exact ⟨_,rfl⟩
    ·exact ⟨d,q⟩
  ·obtain ⟨cl,e1,e2,e3,e4⟩:=zgy l cs hf' hc
   refine ⟨cl,?_,e2,fun z hz q=>?_,e4⟩
   ·rw [List.forIn_cons,if_neg (by simpa using hy)]
    simpa using e1
   ·rcases List.mem_cons.mp hz with r | r
    ·rw [r] at q;exact absurd q hy
    ·exact e3 z r q
theorem znw {scope:Scope} {env:Env} (h:∀ y∈scope.names,y.2=.free→∃ c,env.cells.lookup y.1=some c) :
  ∃ cl,closureFor scope env=pure cl∧(∀ x c,cl.lookup x=some c→env.cells.lookup x=some c)∧∀ y∈scope.names,y.2=.free→∃ c,cl.lookup y.1=some c:=by
 obtain ⟨cl,e1,e2,e3,_⟩:=zgy scope.names [] h (by simp)
 refine ⟨cl,?_,e2,e3⟩
 unfold closureFor
 simp only [bind_pure]
 exact e1
theorem zkE {P:Program} {w:World} {A:Around} {R:Result→Shared→Prop} {s:Shared} {elt target iter:Expr} {ifs:List Expr} {scope:Scope} {pos:Pos} {it acc:Value} {env:Env} {Z:Value→Shared→Prop} (J:Nat→Shared→Prop)
  (hZ:Z=notedBy (model P w) A env fun e s'=>R (.error e) s')
  (turn:∀ n s,J n s→wpAny (model P w) A (pyNext it) (fun r s1=>match r with
   | none=>R (.ok .next) s1
   | some v=>wpAny (model P w) A (letOwnedTupleGo target it v) (fun _ s2=>wpAny (model P w) A (assign target env v) (fun _ s3 =>
     wpAny (model P w) A (forIn ifs true fun c r=>if r=true then do let ok ← isTrue c env (eval c env);pure (ForInStep.yield ok) else pure (ForInStep.yield r)) (fun ok s4 =>
      if ok=true then wpAny (model P w) A (eval elt env) (fun x s5=>wpAny (model P w) A (call (.builtin "list.append") [acc,x]) (fun _ s6=>∃ m,m<n∧J m s6) Z s5) Z s4
      else ∃ m,m<n∧J m s4) Z s3) Z s2) Z s1) Z s)
  (n:Nat) (h:J n s):codeAny (model P w) A (.compLoop (.ListComp elt [⟨target,iter,ifs,0⟩] scope pos) 0 it acc env) R s:=by
 subst hZ
 refine codeAny_loop rfl J (fun n s hJ=>?_) n h
 show wpAny _ _ (Sem.onRaise (compTurn (.ListComp elt [⟨target,iter,ifs,0⟩] scope pos) 0 it acc env) fun x=>do noteFrame x env;theTreesLotGoes x) _ _ s
 refine wpAny_noted ?_
 rw [compTurn_list]
 refine wpAny_bind (wpAny_standAt (wpAny_bind (thn (turn n s hJ) fun r s1 h1=>?_)))
 cases r with
 | none=>exact wpAny_pure h1
 | some v =>
  refine wpAny_bind (thn h1 fun _ s2 h2=>wpAny_bind (thn h2 fun _ s3 h3=>wpAny_bind (thn h3 fun ok s4 h4=>?_)))
  cases ok with
  | false=>exact wpAny_pure ⟨rfl,h4⟩
  | true=>exact wpAny_bind (wpAny_bind (thn h4 fun x s5 h5=>wpAny_bind (thn h5 fun _ s6 h6=>wpAny_pure (wpAny_pure ⟨rfl,h6⟩))))
def PTs (X:Cx) (ifs:List Expr) (t:TT):Prop:=∀ (pins:List (Addr×Obj)) (s:Shared) (σ:St) (H:Hp) (Q:Bool→Hp→Prop),Inv X pins σ H s→t σ H Q →
 wpAny (model X.prog X.w) X.A (forIn ifs true fun c r=>if r=true then do let ok ← isTrue c X.env (eval c X.env);pure (ForInStep.yield ok) else pure (ForInStep.yield r)) (TP X pins σ Q) X.xe s
def zbM:TT:=fun _ H Q=>Q true H
theorem zc7 {X:Cx}:PTs X [] zbM:=fun _ _ _ H _ I h=>wpAny_tests_nil ⟨H,I,h⟩
theorem ztq {X:Cx} {c:Expr} {t:TT} (h:PT X c t):PTs X [c] t:=fun pins s σ H Q I q=>wpAny_tests_one (h pins s σ H Q I q)
def zt3 (cap:List (Option Nat)) (σ:St):St:=cap.map fun o=>o.bind fun j=>(σ[j]?).join
def zdm (wi:TI) (g:TG) (tt:TT) (te:TE) (cap:List (Option Nat)):TE:=fun σ H Q=>wi σ H fun J H1=>∀ D,H1 D=none→∃ W:Nat→Nat→St→Hp→Prop,(∃ m,W 0 m (zt3 cap σ) (upd H1 D (.lst [])))∧∀ i m σc Hc,W i m σc Hc →
 (J.stop i Hc∧Q (.ref D) Hc)∨(J.go i Hc∧∃ N:St→Hp→Prop,(∀ σ' H',N σ' H'→∃ m',m'<m∧W (i+1) m' σ' H')∧∀ x H',J.yld i Hc x H'→g x σc H' fun σ2 H2=>tt σ2 H2 fun b H3=>if b=true then te σ2 H3 fun y H4=>zaI (.ref D) [y] H4 fun _ H5=>N σ2 H5 else N σ2 H3)
def Cx.blk (X:Cx) (Nc:List Str) (scope:Scope) (cl:List (Str×Addr)) (s:Shared) (H:Hp) (fp:List Addr):Cx:={ X with
 N:=Nc,s₀:=s,H₀:=H,env:=compEnvC scope cl s.heap.objs.size X.env,outer:=X.stack,stack:=X.stack,ex:=fp,fn:=fun _=>false,pn:=[],xe:=fun _ _=>False }
structure zm3 (sc:Scope) (N Nc:List Str) (cap:List (Option Nat)) (scope:Scope):Prop where
 kind:scope.kind=.function
 nocell:∀ y∈scope.names,y.2≠.cell
 free:∀ y∈scope.names,y.2=.free→sc.names.lookup y.1=some .cell∨sc.names.lookup y.1=some .free
 once:∀ y∈scope.names,scope.names.lookup y.1=some y.2
 nd:Nc.Nodup
 len:cap.length=Nc.length
 cap:∀ (i:Nat) (y:Str) (j:Nat),Nc[i]?=some y→cap[i]?=some (some j)→N[j]?=some y∧scope.names.lookup y=some .free
def zrW (sc:Scope) (N Nc:List Str) (cap:List (Option Nat)) (scope:Scope):Bool :=
 scope.kind == .function&&scope.names.all (fun y=>y.2 != .cell&&scope.names.lookup y.1 == some y.2&&(y.2 != .free || sc.names.lookup y.1 == some .cell || sc.names.lookup y.1 == some .free))&&decide Nc.Nodup&&cap.length == Nc.length
  && (Nc.zip cap).all fun p=>p.2.all fun j=>N[j]? == some p.1&&scope.names.lookup p.1 == some .free
theorem zm3.of {sc:Scope} {N Nc:List Str} {cap:List (Option Nat)} {scope:Scope} (h:zrW sc N Nc cap scope=true):zm3 sc N Nc cap scope:=by
 unfold zrW at h
 simp only [Bool.and_eq_true,beq_iff_eq,List.all_eq_true,bne_iff_ne,ne_eq,Bool.or_eq_true,decide_eq_true_eq] at h
 obtain ⟨⟨⟨⟨h1,h2⟩,h3⟩,h4⟩,h5⟩:=h
 refine ⟨h1,fun y hy=>(h2 y hy).1.1,fun y hy hf=>?_,fun y hy=>(h2 y hy).1.2,h3,h4,fun i y j e1 e2=>?_⟩
 ·rcases (h2 y hy).2 with (q | q) | q
  ·exact absurd hf q
  ·exact .inl q
  ·exact .inr q
 ·have m:(y,some j)∈Nc.zip cap:=by
   refine List.mem_of_getElem? (i:=i) ?_
   rw [List.getElem?_zip_eq_some]
   exact ⟨e1,e2⟩
  have z:=h5 _ m
  simpa using z
theorem zed {env:Env} {x:Str}:∀ {names:List (Str×NameKind)} {k:NameKind},((names.map fun (n,k)=>if (k == NameKind.free&&env.scope.kind == .function&&env.kindOf n == some .cell) then (n,NameKind.cell) else (n,k)).lookup x=some k)→k≠.cell∧names.lookup x=some k∨(k=.cell∧(names.lookup x=some .cell∨names.lookup x=some .free))
 | [],_,h=>by simp at h
 | (n,q)::r,k,h=>by
  have ih:=@zed env x r k
  rw [List.map_cons] at h
  dsimp only at h
  by_cases hx:(x == n)=true
  ·by_cases hc:(q == NameKind.free&&env.scope.kind == .function&&env.kindOf n == some .cell)=true
   ·rw [if_pos hc,List.lookup_cons,hx] at h
    cases h
    rw [Bool.and_eq_true,Bool.and_eq_true] at hc
    refine .inr ⟨rfl,.inr ?_⟩
    rw [List.lookup_cons,hx]
    exact congrArg some (beq_iff_eq.mp hc.1.1)
   ·rw [if_neg hc,List.lookup_cons,hx] at h
    cases h
    rw [List.lookup_cons,hx]
    by_cases z:q=.cell
    ·exact .inr ⟨z,.inl (congrArg some z)⟩
    ·exact .inl ⟨z,rfl⟩
  ·have hx':(x == n)=false:=by simpa using hx
   rw [List.lookup_cons,hx']
   refine ih ?_
   by_cases hc:(q == NameKind.free&&env.scope.kind == .function&&env.kindOf n == some .cell)=true
   ·rw [if_pos hc,List.lookup_cons,hx'] at h
    exact h
   ·rw [if_neg hc,List.lookup_cons,hx'] at h
    exact h
section
variable {X:Cx} {pins:List (Addr×Obj)} {σ:St} {H:Hp} {s:Shared}
theorem zsp {Nc:List Str} {cap:List (Option Nat)} {scope:Scope} {cl:List (Str×Addr)} {fp:List Addr} {h1:Heap} {tk:Nat} {m1:Str→Option Value} (I:Inv X pins σ H s) (B:zm3 X.env.scope X.N Nc cap scope)
  (hsub:∀ x c,cl.lookup x=some c→X.env.cells.lookup x=some c) (hfr:∀ y∈scope.names,y.2=.free→∃ c,cl.lookup y.1=some c) (hf:∀ b∈fp,znL X pins H b) (hin:∀ b∈fp,b<s.heap.objs.size)
  (hk:∀ b o,s.heap.get? b=some o→h1.get? b=some o) (hn:h1.Ns s.heap.objs.size m1):Inv (X.blk Nc scope cl s H fp) [] (zt3 cap σ) H { s with heap:=h1,toks:=tk }:=by
 have ok:=I.ok
 have bsz:X.base.objs.size≤s.heap.objs.size:=Nat.le_trans ok.bsz I.sz
 refine ⟨⟨ok.mod,B.kind,ok.glob,ok.blt,Nat.le_refl _,fun x y c h1 h2=>ok.inj x y c (hsub x c h1) (hsub y c h2),fun x hx=>?_,(by intro x c z;cases z),ok.hd,ok.frames,.inl rfl,fun b hb=>⟨Nat.ne_of_lt (hin b hb),fun x c e=>(hf b hb).2.2.2.2.1 x c (hsub x c e)⟩,
  I.bs,bsz,fun b o e hb=>?_,fun b hb z=>?_,I.stack,I.stkFree⟩,rfl,I.bare,Un.kept hk,⟨m1,hn,fun i y v e1 e2 e3=>?_⟩,fun x c e=>?_,I.hok.fresh (Nat.le_refl _),fun x c e=>I.freeC x c (hsub x c e),(by intro p hp;cases hp),I.hok.kept hk,?_⟩
 ·have look:∀ k,(relabel scope X.env).names.lookup x=some k→k=.cell∨k=.free→∃ c,cl.lookup x=some c:=fun k q hk=>by
   rcases zed q with ⟨n1,n2⟩ | ⟨_,n2 | n2⟩
   ·rcases hk with r | r
    ·exact absurd r n1
    ·exact hfr (x,k) (PySem.mem_of_lookup n2) r
   ·exact absurd rfl (B.nocell _ (PySem.mem_of_lookup n2))
   ·exact hfr (x,.free) (PySem.mem_of_lookup n2) rfl
  rcases hx with q | q
  ·exact look _ q (.inl rfl)
  ·exact look _ q (.inr rfl)
 ·rcases (hf b hb).2.2.2.1 with q | q
  ·exact ok.noex b o e q
  ·exact absurd (Nat.lt_of_lt_of_le (Heap.lt_size e) (Nat.le_trans ok.bsz q)) (Nat.lt_irrefl _)
 ·rcases List.mem_cons.mp (I.stkSub b z) with q | q
  ·exact (hf b hb).2.1 q
  ·exact (hf b hb).2.2.1 q
 ·have e2':(cap[i]?).map (fun o=>o.bind fun j=>(σ[j]?).join)=some (some v):=by rw [← List.getElem?_map];exact e2
  obtain ⟨o,ho,eo⟩:=Option.map_eq_some_iff.mp e2'
  obtain ⟨j,rfl,ej⟩:=Option.bind_eq_some_iff.mp eo
  have ej':σ[j]?=some (some v):=by
   cases q:σ[j]? with
   | none=>rw [q] at ej;cases ej
   | some z=>rw [q] at ej;cases ej;rfl
  obtain ⟨c1,c2⟩:=B.cap i y j e1 ho
  have vis:=B.free (y,.free) (PySem.mem_of_lookup c2) rfl
  obtain ⟨m,_,hl⟩:=I.loc
  obtain ⟨u,r,lk⟩:=hl j y v c1 ej' (.inr vis)
  obtain ⟨c',ec⟩:=hfr (y,.free) (PySem.mem_of_lookup c2) rfl
  have ec2:=hsub _ _ ec
  rcases lk with ⟨kl,_⟩ | ⟨_,c,e,z⟩
  ·have kl':X.env.scope.names.lookup y=some .local:=kl
   rcases vis with q | q
   ·have q':X.env.scope.names.lookup y=some .cell:=q
    rw [kl'] at q';cases q'
   ·have q':X.env.scope.names.lookup y=some .free:=q
    rw [kl'] at q';cases q'
  ·have ecc:X.env.cells.lookup y=some c':=ec2
   rw [e] at ecc
   cases ecc
   refine ⟨u,r,.inr ⟨?_,_,ec,?_⟩⟩
   ·rcases e3 with q | q | q
    ·rcases zed q with ⟨_,n2⟩ | ⟨n1,_⟩
     ·rw [c2] at n2;cases n2
     ·cases n1
    ·exact .inl q
    ·exact .inr q
   ·obtain ⟨o,ho,hd⟩:=z
    exact ⟨o,hk _ _ ho,hd⟩
 ·obtain ⟨v,o,ho,hd⟩:=I.cell x c (hsub x c e)
  exact ⟨v,o,hk _ _ ho,hd⟩
 ·show (zt3 cap σ).length=Nc.length
  rw [zt3,List.length_map,B.len]
theorem zoy {Nc:List Str} {scope:Scope} {cl:List (Str×Addr)} {fp:List Addr} {σc:St} {Hc:Hp} {s':Shared} {h':Heap} (I:Inv X pins σ H s) (hf:∀ b∈fp,znL X pins H b) (J:Inv (X.blk Nc scope cl s H fp) [] σc Hc s')
  (hs:Heap.SameBut s.heap.objs.size s'.heap h'):Inv X pins σ Hc { s' with heap:=h' }:=by
 have ne:∀ b o,s.heap.get? b=some o→b≠s.heap.objs.size:=fun b o e=>Nat.ne_of_lt (Heap.lt_size e)
 have u:=J.base
 refine I.call' (ch:=fp) J.os ⟨fun b o e n hb hx=>(hs.2 b (ne b o e)).trans (u.keep b o e n hb hx),fun b o e n hb hx=>?_,u.free,fun b o e hx=>?_,u.tups,u.frzs,u.tbls⟩ (fun b ob e=>?_) J.bare fun b hb=>⟨(hf b hb).2.2.2.1,(hf b hb).2.1,(hf b hb).2.2.2.2.1,(hf b hb).2.2.2.2.2⟩
 ·obtain ⟨sl,q⟩:=u.slot b o e n hb hx
  exact ⟨sl,(hs.2 b (ne b o e)).trans q⟩
 ·obtain ⟨o',q⟩:=u.there b o e hx
  exact ⟨o',(hs.2 b (ne b o e)).trans q⟩
 ·have hC:Hc s.heap.objs.size=none:=J.free
  refine (J.hok b ob e).stay (fun c w' hc q=>(hs.2 c ?_).trans q) (fun _ q=>q) fun _ _ q=>q
  rintro rfl
  rcases hc with z | hc
  ·rw [← z,hC] at e;cases e
  ·rw [hC] at hc;cases hc
end
theorem Inv.turns {X:Cx} {pins:List (Addr×Obj)} {σ:St} {H:Hp} {s:Shared} {h':Heap} {t':Nat} {ch:List Addr} (I:Inv X pins σ H s) (k:∀ b o,b∉ch→s.heap.get? b=some o→h'.get? b=some o) (hf:∀ b∈ch,znL X pins H b):Inv X pins σ H { s with heap:=h',toks:=t' }:=by
 refine I.call (g':=s.gens) (d':=s.drawn) (ch:=ch) ⟨fun b o e _ _ hx=>k b o hx e,fun b o e _ _ hx=>⟨o.slots,k b o hx e⟩,fun _ _ _ n _=>n,fun b o e hx=>⟨o,k b o hx e⟩,fun _ _ q=>q,fun _ _ _ q=>q,fun _ ps q=>⟨#[],by rw [q];simp⟩⟩ (fun b u e=>?_) I.bare
  fun b hb=>⟨(hf b hb).2.2.2.1,(hf b hb).2.1,(hf b hb).2.2.2.2.1,(hf b hb).2.2.2.2.2⟩
 refine (I.hok b u e).stay (fun c v hc q=>k c v (fun z=>?_) q) (fun _ q=>q) fun _ _ q=>q
 have n:=(hf c z).1
 rcases hc with r | r
 ·rw [r,e] at n;cases n
 ·rw [r] at n;cases n
theorem zk5 {X:Cx} {pins:List (Addr×Obj)} {s:Shared} {σ:St} {H:Hp} {Q:VK} {sc:Scope} {N Nc:List Str} {cap:List (Option Nat)} {elt tg iter:Expr} {ifs:List Expr} {scope:Scope} {pos pos':Pos} {wi:TI} {g:TG} {tt:TT} {te:TE} {use:Option (Value→Sem Unit)} {QQ:Value→Shared→Prop}
  (hc:X.calm=true) (hsc:X.env.scope=sc) (hN:X.N=N) (B:zm3 sc N Nc cap scope) (hi:PI X tg iter wi)
  (hg:∀ cl s H fp,PG (X.blk Nc scope cl s H fp) tg g) (ht:∀ cl s H fp,PTs (X.blk Nc scope cl s H fp) ifs tt) (he:∀ cl s H fp,PE (X.blk Nc scope cl s H fp) elt te)
  (hs:∀ x,foldedSetIterable iter X.env x=pure x) (I:Inv X pins σ H s) (h:zdm wi g tt te cap σ H Q)
  (fin:∀ (s3:Shared) (H3:Hp) (cl:List (Str×Addr)) (fp:List Addr) (D:Addr) (σc:St) (Hc:Hp) (s6:Shared),Inv X pins σ H3 s3→(∀ b∈fp,znL X pins H3 b)→Inv (X.blk Nc scope cl s3 H3 fp) [] σc Hc s6→Q (.ref D) Hc→compPost (model X.prog X.w) X.A X.xe use QQ (.ref D) s3.heap.objs.size (.ok .next) s6) :
  wpAny (model X.prog X.w) X.A (comprehension (.ListComp elt [⟨tg,iter,ifs,0⟩] scope pos) scope X.env pos' (newList []) false (eval iter X.env) use) QQ X.xe s:=by
 subst hsc hN
 obtain ⟨cl,hclos,hsub,hfr⟩:=znw (scope:=scope) (env:=X.env) fun y hy hf=>I.ok.has y.1 (B.free y hy hf)
 refine wpAny_comprehension_free (use:=use) rfl hs hclos B.kind (fun y hy hl=>by rw [B.once y hy,hl]) (thn (hi pins s σ H _ I h) fun v s1 h1=>thn h1 fun itv s2 h2=>?_)
 obtain ⟨it,fp,tn,J,H2,rfl,I2,T,st2,f2,hw⟩:=h2
 refine wpAny_newObj_type ?_
 have hfree:H2 s2.heap.objs.size=none:=I2.hok.fresh (Nat.le_refl _)
 have I3:=I2.laid (t':=s2.toks) (o:=.lst []) (fun b u e=>Heap.get?_push_of_some { cls:=.type "list",dict:=none,data:=.seq ([]:List Value).toArray } e) (Nat.le_refl _) ⟨by decide,[],0,.nil,Heap.get?_push_size _ rfl⟩
 obtain ⟨W,⟨m0,w0⟩,turn⟩:=hw _ hfree
 have keep23:∀ b o,s2.heap.get? b=some o→(s2.heap.push { cls:=.type "list",dict:=none,data:=.seq ([]:List Value).toArray }).get? b=some o:=fun b o e=>Heap.get?_push_of_some _ e
 have hin:∀ b∈fp,b<s2.heap.objs.size:=fun b hb=>let ⟨o,e,_⟩:=T.obj 0 _ st2 b hb;Heap.lt_size e
 have f3:∀ b∈fp,znL X pins (upd H2 s2.heap.objs.size (.lst [])) b:=fun b hb=>⟨by rw [zaC (Nat.ne_of_lt (hin b hb))];exact (f2 b hb).1,(f2 b hb).2⟩
 have st3:=T.keep 0 _ _ st2 fun b _ o e=>keep23 b o e
 have hin3:∀ b∈fp,b<(s2.heap.push { cls:=.type "list",dict:=none,data:=.seq ([]:List Value).toArray }).objs.size:=fun b hb=>let ⟨o,e,_⟩:=T.obj 0 _ st3 b hb;Heap.lt_size e
 clear keep23 hin
 generalize s2.heap.push { cls:=.type "list",dict:=none,data:=.seq ([]:List Value).toArray }=h3 at I3 st3 hin3 ⊢
 generalize upd H2 s2.heap.objs.size (.lst [])=H3 at I3 f3 w0
 generalize s2.heap.objs.size=D at hfree w0 turn ⊢
 refine wpAny_newFunctionEnv B.nocell (by intro y hy;cases hy) (fun h1 hns hsb=>?_) B.kind
 have keep:∀ b o,h3.get? b=some o→h1.get? b=some o:=fun b o e=>(hsb.2 b (Nat.ne_of_lt (Heap.lt_size e))).trans (Heap.get?_push_of_some _ e)
 have I4:=zsp (tk:=s2.toks+([]:List (Str×Value)).length) I3 B hsub hfr f3 hin3 keep hns
 have st4:=T.keep 0 _ _ st3 fun b _ o e=>keep b o e
 have stat:∀ {H':Hp},(∀ b∈fp,H' b=none)→∀ b∈fp,znL (X.blk Nc scope cl { s2 with heap:=h3,toks:=s2.toks } H3 fp) [] H' b:=fun hn b hb =>
  ⟨hn b hb,Nat.ne_of_lt (hin3 b hb),fun z=>by
   rcases List.mem_cons.mp (I3.stkSub b z) with q | q
   ·exact (f3 b hb).2.1 q
   ·exact (f3 b hb).2.2.1 q,.inl hb,fun x c e=>(f3 b hb).2.2.2.2.1 x c (hsub x c e),by intro p hp;cases hp⟩
 have hcb:(X.blk Nc scope cl { s2 with heap:=h3,toks:=s2.toks } H3 fp).calm=true:=hc
 have loop:codeAny (model X.prog X.w) X.A (.compLoop (.ListComp elt [⟨tg,iter,ifs,0⟩] scope pos) 0 (.ref it) (.ref D) (compEnvC scope cl h3.objs.size X.env)) (compPost (model X.prog X.w) X.A X.xe use QQ (.ref D) h3.objs.size) { s2 with heap:=h1,toks:=s2.toks+([]:List (Str×Value)).length }:=by
  refine zkE (fun n s'=>∃ i σ' H',Inv (X.blk Nc scope cl { s2 with heap:=h3,toks:=s2.toks } H3 fp) [] σ' H' s'∧tn i s'.heap∧(∀ b∈fp,H' b=none)∧W i n σ' H') rfl ?_ m0 ⟨0,_,H3,I4,st4,fun b hb=>(f3 b hb).1,w0⟩
  rintro n s5 ⟨i,σ5,H5,I5,st5,fr5,w5⟩
  rcases turn i n σ5 H5 w5 with ⟨stop,qn⟩ | ⟨go,N',hN',step⟩
  ·refine thn (T.done (X.blk Nc scope cl { s2 with heap:=h3,toks:=s2.toks } H3 fp) rfl rfl rfl hcb i [] s5 σ5 H5 _ I5 (stat fr5) st5 stop) fun r s6 hQ'=>?_
   obtain ⟨hr,I6⟩:=hQ'
   subst hr
   exact fin { s2 with heap:=h3,toks:=s2.toks } H3 cl fp D σ5 H5 s6 I3 f3 I6 qn
  ·refine thn (T.item (X.blk Nc scope cl { s2 with heap:=h3,toks:=s2.toks } H3 fp) rfl rfl rfl hcb i [] s5 σ5 H5 _ I5 (stat fr5) st5 go) fun r s6 hQ'=>?_
   obtain ⟨u,hr,h6⟩:=hQ'
   subst hr
   refine thn h6 fun _ s7 hQ'=>?_
   obtain ⟨x,H7,I7,r7,y7,st7,fr7⟩:=hQ'
   have I7':=I7.pinned (stat fr7) (T.obj _ _ st7)
   refine wpAny_mono (hg cl _ H3 fp _ s7 σ5 H7 x u _ I7' r7 (step x H7 y7)) (fun _ s8 hQ'=>?_) fun _ _ z=>z.elim
   obtain ⟨σ8,H8,I8,q8⟩:=hQ'
   have again:∀ {H9:Hp} {s9:Shared} {m:Nat},Inv (X.blk Nc scope cl { s2 with heap:=h3,toks:=s2.toks } H3 fp) ([]++zla fp s7.heap) σ8 H9 s9→m<n→W (i+1) m σ8 H9→∃ m,m<n∧∃ i σ' H',Inv (X.blk Nc scope cl { s2 with heap:=h3,toks:=s2.toks } H3 fp) [] σ' H' s9∧tn i s9.heap∧(∀ b∈fp,H' b=none)∧W i m σ' H':=fun {H9 s9 m} I9 hm w9=>by
    refine ⟨m,hm,i+1,σ8,H9,I9.unpinned,T.keep _ _ _ st7 fun b hb o e=>(I9.pin (b,o) (List.mem_append_right _ (List.mem_append_right _ (zfg hb e)))).1,fun b hb=>?_,w9⟩
    obtain ⟨o,e,d⟩:=T.obj _ _ st7 b hb
    exact (I9.pin (b,o) (List.mem_append_right _ (List.mem_append_right _ (zfg hb e)))).2.1
   refine wpAny_mono (ht cl _ H3 fp _ s8 σ8 H8 _ I8 q8) (fun b s9 hQ'=>?_) fun _ _ z=>z.elim
   obtain ⟨H9,I9,q9⟩:=hQ'
   cases b with
   | false =>
    rw [if_neg (by decide)] at q9
    obtain ⟨m',hm,w9⟩:=hN' _ _ q9
    exact again I9 hm w9
   | true =>
    rw [if_pos rfl] at q9
    refine wpAny_mono (he cl _ H3 fp _ s9 σ8 H9 _ I9 q9) (fun u s10 hQ'=>?_) fun _ _ z=>z.elim
    obtain ⟨y,H10,I10,r10,q10⟩:=hQ'
    refine wpAny_mono (zbU (X:=X.blk Nc scope cl { s2 with heap:=h3,toks:=s2.toks } H3 fp) _ s10 σ8 H10 (.ref D) [y] (.ref D) [u] _ I10 rfl (.cons r10 .nil) q10) (fun _ s11 hQ'=>?_) fun _ _ z=>z.elim
    obtain ⟨_,H11,I11,_,q11⟩:=hQ'
    obtain ⟨m',hm,w11⟩:=hN' _ _ q11
    exact again I11 hm w11
 exact codeAny_compStart_list loop (T.self _ 0 _ _ _ st4 loop)
theorem zdN {X:Cx} {sc:Scope} {N Nc:List Str} {cap:List (Option Nat)} {elt tg iter:Expr} {ifs:List Expr} {scope:Scope} {pos:Pos} {wi:TI} {g:TG} {tt:TT} {te:TE} (hc:X.calm=true) (hsc:X.env.scope=sc) (hN:X.N=N) (B:zm3 sc N Nc cap scope) (hi:PI X tg iter wi)
  (hg:∀ cl s H fp,PG (X.blk Nc scope cl s H fp) tg g) (ht:∀ cl s H fp,PTs (X.blk Nc scope cl s H fp) ifs tt) (he:∀ cl s H fp,PE (X.blk Nc scope cl s H fp) elt te)
  (hs:∀ x,foldedSetIterable iter X.env x=pure x:=by intro _;rfl):PE X (.ListComp elt [⟨tg,iter,ifs,0⟩] scope pos) (zdm wi g tt te cap):=by
 intro pins s σ H Q I h
 rw [eval_ListComp]
 refine zk5 hc hsc hN B hi hg ht he hs I h fun s3 H3 cl fp D σc Hc s6 I3 f3 I6 q=>?_
 obtain ⟨m,hn,_⟩:=id I6.loc
 exact ⟨m,hn,fun h' hs'=>⟨.ref D,Hc,zoy I3 f3 I6 hs',rfl,q⟩⟩
theorem zgh {X:Cx} {i:Nat} {y:Str} {py spos:Pos} {sc:Scope} {N Nc:List Str} {cap:List (Option Nat)} {elt tg iter:Expr} {ifs:List Expr} {scope:Scope} {pos:Pos} {wi:TI} {g:TG} {tt:TT} {te:TE} (hnd:X.N.Nodup) (hix:X.N[i]?=some y) (hl:X.env.scope.names.lookup y=some .local)
  (hc:X.calm=true) (hsc:X.env.scope=sc) (hN:X.N=N) (B:zm3 sc N Nc cap scope) (hi:PI X tg iter wi)
  (hg:∀ cl s H fp,PG (X.blk Nc scope cl s H fp) tg g) (ht:∀ cl s H fp,PTs (X.blk Nc scope cl s H fp) ifs tt) (he:∀ cl s H fp,PE (X.blk Nc scope cl s H fp) elt te)
  (hsw:swapsWith (.ListComp elt [⟨tg,iter,ifs,0⟩] scope pos) (some (.Name y py)) spos.line X.env=pure true:=by rfl)
  (hs:∀ x,foldedSetIterable iter X.env x=pure x:=by intro _;rfl):PS X (.Assign [.Name y py] (.ListComp elt [⟨tg,iter,ifs,0⟩] scope pos) spos) (za5 (zdm wi g tt te cap) (zak i)):=by
 intro pins s σ H D0 I h
 rw [exec_Assign_Name_used _ _ _ _ hsw]
 refine wpAny_bind (wpAny_standAt (wpAny_bind (wpAny_bind (thn (zk5 (use:=some (assign (.Name y py) X.env)) (QQ:=fun _ s'=>SP X pins D0 .next s') hc hsc hN B hi hg ht he hs I h fun s3 H3 cl fp D σc Hc s6 I3 f3 I6 q=>?_) fun _ s' hq=>wpAny_pure (wpAny_pure hq)))))
 have I6x:Inv X pins σ Hc s6:=zoy I3 f3 I6 (Heap.SameBut.refl ..)
 obtain ⟨m,hn,_⟩:=id I6.loc
 have hC:Hc s3.heap.objs.size=none:=I6.free
 have fpC:=I3.fpOk (b:=s3.heap.objs.size) (Nat.le_refl _) hC
 refine wpAny_assign_Name (zlF I6x hnd hix (.inl hl) (v:=.ref D) rfl (fun s7 I7 ch=>?_) (.inr hl))
 obtain ⟨a,same,ha⟩:=ch
 have nC:s3.heap.objs.size≠a:=by
  rcases ha with r | r
  ·rw [r];exact fpC.2.1
  ·exact (fpC.2.2.2.2.1 _ _ r).symm
 refine ⟨m,hn.sameBut same nC,fun h' hs'=>⟨_,_,I7.turns (t':=s7.toks) (ch:=[s3.heap.objs.size]) (fun b o hb e=>(hs'.2 b (by simpa using hb)).trans e) fun b hb=>?_,q⟩⟩
 have e:b=s3.heap.objs.size:=by simpa using hb
 rw [e]
 exact fpC
theorem zpv {K:PySem.W.Frag} {a:Addr} {xs:List V} {g:TG} {tt:TT} {te:TE} {σ:St} {H:Hp} {D:Addr} {Q:VK} (Pv:Nat→List V→St→Hp→Prop) (h0:Pv 0 [] σ (upd H D (.lst []))) (hl:∀ i ys σ H,i≤xs.length→Pv i ys σ H→SqL K H a xs)
  (hs:∀ i x ys σ H,xs[i]?=some x→H D=some (.lst ys)→Pv i ys σ H→g x σ H fun σ2 H2=>tt σ2 H2 fun b H3=>if b=true then te σ2 H3 fun y H4=>zaI (.ref D) [y] H4 fun _ H5=>∃ ys,H5 D=some (.lst ys)∧Pv (i+1) ys σ2 H5 else ∃ ys,H3 D=some (.lst ys)∧Pv (i+1) ys σ2 H3)
  (hd:∀ ys σ H,H D=some (.lst ys)→Pv xs.length ys σ H→Q (.ref D) H) :
  ∃ W:Nat→Nat→St→Hp→Prop,(∃ m,W 0 m σ (upd H D (.lst [])))∧∀ i m σc Hc,W i m σc Hc →
   ((Itl K a).stop i Hc∧Q (.ref D) Hc)∨((Itl K a).go i Hc∧∃ N:St→Hp→Prop,(∀ σ' H',N σ' H'→∃ m',m'<m∧W (i+1) m' σ' H')∧∀ x H',(Itl K a).yld i Hc x H'→g x σc H' fun σ2 H2=>tt σ2 H2 fun b H3=>if b=true then te σ2 H3 fun y H4=>zaI (.ref D) [y] H4 fun _ H5=>N σ2 H5 else N σ2 H3):=by
 refine ⟨fun i m σ H=>m=xs.length - i∧i≤xs.length∧∃ ys,H D=some (.lst ys)∧Pv i ys σ H,⟨_,rfl,Nat.zero_le _,[],zai,h0⟩,?_⟩
 rintro i m σ H ⟨rfl,hi,ys,hD,pv⟩
 have q:=hl i ys σ H hi pv
 by_cases hlt:i<xs.length
 ·refine .inr ⟨⟨xs,xs[i],q,by simp [hlt]⟩,fun σ H=>∃ ys,H D=some (.lst ys)∧Pv (i+1) ys σ H,fun σ' H' p'=>⟨_,by (first|lia|omega),rfl,hlt,p'⟩,fun x H' yl=>?_⟩
  obtain ⟨e,yl⟩:=yl
  subst e
  exact hs i x ys σ _ (yl xs q) hD pv
 ·have e:i=xs.length:=by (first|lia|omega)
  subst e
  exact .inl ⟨⟨xs,q,Nat.le_refl _⟩,hd ys σ H hD pv⟩
theorem zm5 {lo:Int} {n:Nat} {g:TG} {tt:TT} {te:TE} {σ:St} {H:Hp} {D:Addr} {Q:VK} (Pv:Nat→List V→St→Hp→Prop) (h0:Pv 0 [] σ (upd H D (.lst [])))
  (hs:∀ i ys σ H,i<n→H D=some (.lst ys)→Pv i ys σ H→g (.int (lo+i)) σ H fun σ2 H2=>tt σ2 H2 fun b H3=>if b=true then te σ2 H3 fun y H4=>zaI (.ref D) [y] H4 fun _ H5=>∃ ys,H5 D=some (.lst ys)∧Pv (i+1) ys σ2 H5 else ∃ ys,H3 D=some (.lst ys)∧Pv (i+1) ys σ2 H3)
  (hd:∀ ys σ H,H D=some (.lst ys)→Pv n ys σ H→Q (.ref D) H) :
  ∃ W:Nat→Nat→St→Hp→Prop,(∃ m,W 0 m σ (upd H D (.lst [])))∧∀ i m σc Hc,W i m σc Hc →
   ((Itr lo n).stop i Hc∧Q (.ref D) Hc)∨((Itr lo n).go i Hc∧∃ N:St→Hp→Prop,(∀ σ' H',N σ' H'→∃ m',m'<m∧W (i+1) m' σ' H')∧∀ x H',(Itr lo n).yld i Hc x H'→g x σc H' fun σ2 H2=>tt σ2 H2 fun b H3=>if b=true then te σ2 H3 fun y H4=>zaI (.ref D) [y] H4 fun _ H5=>N σ2 H5 else N σ2 H3):=by
 refine ⟨fun i m σ H=>m=n - i∧i≤n∧∃ ys,H D=some (.lst ys)∧Pv i ys σ H,⟨_,rfl,Nat.zero_le _,[],zai,h0⟩,?_⟩
 rintro i m σ H ⟨rfl,hi,ys,hD,pv⟩
 by_cases hlt:i<n
 ·refine .inr ⟨hlt,fun σ H=>∃ ys,H D=some (.lst ys)∧Pv (i+1) ys σ H,fun σ' H' p'=>⟨_,by (first|lia|omega),rfl,hlt,p'⟩,fun x H' yl=>?_⟩
  obtain ⟨e,yl⟩:=yl
  subst e yl
  exact hs i ys σ _ hlt hD pv
 ·have e:i=n:=by (first|lia|omega)
  subst e
  exact .inl ⟨Nat.le_refl _,hd ys σ H hD pv⟩
end L2
namespace L2
open PySem PySem.Spec PyProof.Rows
theorem zn7 (bs:List Bool):(List.range bs.length).all (fun i=>bs.getD i false)=bs.all id:=by
 rw [Bool.eq_iff_iff,List.all_eq_true,List.all_eq_true]
 constructor
 ·intro h x hx
  obtain ⟨i,hi,e⟩:=List.getElem_of_mem hx
  have:=h i (List.mem_range.mpr hi)
  rw [List.getD_eq_getElem?_getD,List.getElem?_eq_getElem hi] at this
  rw [← e]
  exact this
 ·intro h i hi
  have hi:=List.mem_range.mp hi
  rw [List.getD_eq_getElem?_getD,List.getElem?_eq_getElem hi]
  exact h _ (List.getElem_mem hi)
def zpL (K:PySem.W.Frag):List V→Hp→VK→Prop:=fun xs H Q=>∃ (p:Addr) (bs:List Bool),xs=[.ref p]∧SqL K H p (bs.map V.bl)∧Q (.bl (bs.all id)) H
def zu3 (K:PySem.W.Frag):List V→Hp→VK→Prop:=fun xs H Q=>∃ (p:Addr) (ns:List Int),xs=[.ref p]∧SqL K H p (ns.map V.int)∧Q (.int ns.sum) H
theorem zu8 {bs:List Bool} {its:List Value} {i:Nat} {v:Value} (r:zcc (bs.map V.bl) its) (e:its.toArray[i]?=some v):v=.bool (bs.getD i false):=by
 have l:=r.length
 rw [List.length_map] at l
 have e':its[i]?=some v:=by simpa using e
 have hi:i<bs.length:=by rw [l];exact (List.getElem?_eq_some_iff.mp e').1
 obtain ⟨u,hu,ru⟩:=r.get (i:=i) (x:=.bl bs[i]) (by rw [List.getElem?_map,List.getElem?_eq_getElem hi];rfl)
 rw [e'] at hu
 cases hu
 cases ru
 rw [List.getD_eq_getElem?_getD,List.getElem?_eq_getElem hi]
 rfl
theorem zrn {P:Program} {w:World} {A:Around} {bs:List Bool} {its:List Value} (r:zcc (bs.map V.bl) its):TruthOf P w A (fun i v=>its.toArray[i]?=some v) fun i=>bs.getD i false:=fun i v s Q E hP hQ=>by
 rw [zu8 r hP]
 exact wpAny_pure hQ
section
variable {X:Cx}
theorem zfY (hc:X.calm=true):zfP X (.builtin "all") (zpL X.K):=by
 intro pins s σ H xs us Q I r h
 obtain ⟨p,bs,rfl,hl,q⟩:=h
 obtain ⟨u,rfl,ru⟩:=r.one
 cases ru
 obtain ⟨its,rv,pl,_⟩:=I.list hl
 have l:=rv.length
 rw [List.length_map] at l
 obtain ⟨o,n,e,_⟩:=id pl
 have hne:p≠s.heap.objs.size:=Nat.ne_of_lt (Heap.lt_size e)
 refine call_all_walk (wpAny_pyIter_list pl.isList ?_)
 refine ⟨s.heap.objs.size,_,_,_,_,_,fun i=>bs.getD i false,rfl,Walks.list (A:=X.A.in1) (I.ok.hd hc) _ p hne its.toArray,⟨⟨_,Heap.get?_push_size _ rfl,rfl,rfl⟩,?_⟩,zrn rv,fun h' tk hk=>⟨.bl _,H,I.kept fun b u eb=>?_,rfl,?_⟩⟩
 ·exact pl.isList.at fun o e=>Heap.get?_push_of_some _ e
 ·exact hk b u (fun z=>Nat.ne_of_lt (Heap.lt_size eb) (by simpa using z)) (Heap.get?_push_of_some _ eb)
 ·rw [List.size_toArray,← l,zn7]
  exact q
theorem zl4 {ns:List Int} {its:List Value} {i:Nat} {v:Value} (r:zcc (ns.map V.int) its) (e:its.toArray[i]?=some v):∃ t,v=.int (ns.getD i 0) t:=by
 have l:=r.length
 rw [List.length_map] at l
 have e':its[i]?=some v:=by simpa using e
 have hi:i<ns.length:=by rw [l];exact (List.getElem?_eq_some_iff.mp e').1
 obtain ⟨u,hu,ru⟩:=r.get (i:=i) (x:=.int ns[i]) (by rw [List.getElem?_map,List.getElem?_eq_getElem hi];rfl)
 rw [e'] at hu
 cases hu
 obtain ⟨t,rfl⟩:=ru
 refine ⟨t,?_⟩
 rw [List.getD_eq_getElem?_getD,List.getElem?_eq_getElem hi]
 rfl
theorem zjb (ns:List Int):∀ k,k≤ns.length→preSum (fun i=>ns.getD i 0) k=(ns.take k).sum
 | 0,_=>by simp [preSum]
 | k+1,h=>by
  rw [preSum,zjb ns k (by (first|lia|omega)),List.take_add_one,List.getElem?_eq_getElem (by (first|lia|omega)),List.sum_append,List.getD_eq_getElem?_getD,List.getElem?_eq_getElem (by (first|lia|omega))]
  simp
theorem zm0 (hc:X.calm=true):zfP X (.builtin "sum") (zu3 X.K):=by
 intro pins s σ H xs us Q I r h
 obtain ⟨p,ns,rfl,hl,q⟩:=h
 obtain ⟨u,rfl,ru⟩:=r.one
 cases ru
 obtain ⟨its,rv,pl,_⟩:=I.list hl
 have l:=rv.length
 rw [List.length_map] at l
 obtain ⟨o,n,e,_⟩:=id pl
 have hlt:=Heap.lt_size e
 have hne:p≠s.heap.objs.size:=Nat.ne_of_lt hlt
 refine call_sum_walkG (wpAny_pyIter_list pl.isList ?_)
 refine ⟨s.heap.objs.size,_,_,_,_,_,fun i=>ns.getD i 0,rfl,Walks.list (A:=X.A.in1) (I.ok.hd hc) _ p hne its.toArray,⟨⟨_,Heap.get?_push_size _ rfl,rfl,rfl⟩,?_⟩,fun b hb=>?_,fun i v hv=>zl4 rv hv,fun h' tk t' hk=>⟨.int _,H,I.kept fun b u eb=>?_,⟨t',rfl⟩,?_⟩⟩
 ·exact pl.isList.at fun o e=>Heap.get?_push_of_some _ e
 ·rw [Heap.size_push]
  rcases List.mem_cons.mp hb with z | z
  ·rw [z];exact Nat.lt_succ_self _
  ·have z':b=p:=by simpa using z
   rw [z'];exact Nat.lt_succ_of_lt hlt
 ·exact hk b u (fun z=>Nat.ne_of_lt (Heap.lt_size eb) (by simpa using z)) (Heap.get?_push_of_some _ eb)
 ·rw [List.size_toArray,← l,zjb _ _ (Nat.le_refl _),List.take_length]
  exact q
end
end L2
namespace L2
open PySem PySem.Spec PyProof.Rows
def Itz (K:PySem.W.Frag) (p q:Addr):It where
 go:=fun i H=>∃ xs ys a b,SqL K H p xs∧SqL K H q ys∧xs[i]?=some a∧ys[i]?=some b
 yld:=fun i H x H'=>∃ t a b,x=.ref t∧H t=none∧H'=upd H t (.tup [a,b])∧(∀ xs,SqL K H p xs→xs[i]?=some a)∧∀ ys,SqL K H q ys→ys[i]?=some b
 stop:=fun i H=>∃ xs ys,SqL K H p xs∧SqL K H q ys∧i=min xs.length ys.length
def tnZ (z TI TO i1 i2 p q:Addr) (i:Nat) (h:Heap):Prop:=IsZip h z TI TO .none∧IsPair h TI (.ref i1) (.ref i2)∧(∃ a b,IsPair h TO a b)∧h.IsListIter i1 p i∧h.IsListIter i2 q i
theorem zrx {z TI TO i1 i2 p q:Addr} {i:Nat} {h h':Heap} (st:tnZ z TI TO i1 i2 p q i h) (k:∀ b∈[z,TI,TO,i1,i2],∀ o,h.get? b=some o→h'.get? b=some o):tnZ z TI TO i1 i2 p q i h':=by
 obtain ⟨a1,a2,⟨x,y,a3⟩,a4,a5⟩:=st
 exact ⟨k z (by simp) _ a1,k TI (by simp) _ a2,⟨x,y,k TO (by simp) _ a3⟩,a4.at fun o e=>k i1 (by simp) o e,a5.at fun o e=>k i2 (by simp) o e⟩
theorem zbO {o:Obj} {vs:Array Value} (h:o.data=.fields vs):∀ v,o.data≠.cell v:=fun v z=>by rw [h] at z;cases z
theorem zrg {P:Program} {w:World} {K:PySem.W.Frag} {elts:List Expr} {k:Nat} {pos:Pos} {z TI TO i1 i2 p q:Addr} (D:ZipApart z TI TO i1 i2 p q):zt2 P w K (.Tuple elts k pos) (Itz K p q) [z,TI,TO,i1,i2] z (tnZ z TI TO i1 i2 p q) where
 mem:=by simp
 obj:=fun i h st b hb=>by
  obtain ⟨a1,a2,⟨x,y,a3⟩,⟨o4,a4,_,d4⟩,⟨o5,a5,_,d5⟩⟩:=st
  simp only [List.mem_cons,List.not_mem_nil,or_false] at hb
  rcases hb with rfl | rfl | rfl | rfl | rfl
  ·exact ⟨_,a1,zbO rfl⟩
  ·exact ⟨_,a2,fun v z=>nomatch (show Data.seq _ _=Data.cell v from z)⟩
  ·exact ⟨_,a3,fun v z=>nomatch (show Data.seq _ _=Data.cell v from z)⟩
  ·exact ⟨_,a4,zbO d4⟩
  ·exact ⟨_,a5,zbO d5⟩
 keep:=fun i h h' st kk=>zrx st kk
 item:=by
  intro X hP hw hK hc i pins s σ H E I hf st hg
  subst hP hw hK
  obtain ⟨xs,ys,a,b,hx,hy,ea,eb⟩:=hg
  obtain ⟨its1,r1,pl1,z1⟩:=I.list hx
  obtain ⟨its2,r2,pl2,z2⟩:=I.list hy
  obtain ⟨ua,eua,rua⟩:=r1.get ea
  obtain ⟨ub,eub,rub⟩:=r2.get eb
  obtain ⟨s1,s2,s3,s4,s5⟩:=st
  have W:=WalksT.zip2 (prog:=X.prog) (w:=X.w) (A:=X.A) (I.ok.hd hc) z TI TO i1 i2 p q D its1.toArray its2.toArray
  have hi:i<min its1.toArray.size its2.toArray.size:=by
   have h1:=(List.getElem?_eq_some_iff.mp eua).1
   have h2:=(List.getElem?_eq_some_iff.mp eub).1
   simp only [List.size_toArray]
   (first|lia|omega)
  refine W.item i s _ _ hi ⟨s1,s2,s3,s4,s5,pl1.isList,pl2.isList⟩ fun T vals h' tk hp hT hTup mid kk=>⟨_,rfl,?_⟩
  obtain ⟨u,v,e1,e2,rfl⟩:=hp
  have e1':u=ua:=by
   have:its1[i]?=some u:=by simpa using e1
   rw [eua] at this;cases this;rfl
  have e2':v=ub:=by
   have:its2[i]?=some v:=by simpa using e2
   rw [eub] at this;cases this;rfl
  subst e1' e2'
  refine W.go elts k pos i T { s with heap:=h',toks:=tk } _ _ mid fun h2 st2 kk2=>?_
  obtain ⟨t1,t2,t3,t4,t5,_,_⟩:=st2
  have sub:∀ b∈[z,TO,i1,i2],b∈[z,TI,TO,i1,i2]:=fun b hb=>by
   simp only [List.mem_cons,List.not_mem_nil,or_false] at hb ⊢
   rcases hb with h | h | h | h <;> simp [h]
  have I1:Inv X pins σ H { s with heap:=h2,toks:=tk }:=I.turns (ch:=[z,TO,i1,i2]) (fun b o hb e=>kk2 b o hb (kk b o hb e)) fun b hb=>hf b (sub b hb)
  have nT:H T=none:=I.hok.fresh hT
  have I2:=I1.track (a:=T) (o:=.tup [a,b]) nT (Heap.get?_none_of_le (Nat.le_trans I.sz hT)) (Nat.ne_of_gt (Nat.lt_of_lt_of_le I.lt hT)) (fun x c e=>by
   obtain ⟨v,q⟩:=I.cell x c e
   exact Nat.ne_of_lt (Nat.lt_of_lt_of_le q.lt hT)) (fun p hp=>Nat.ne_of_lt (Nat.lt_of_lt_of_le (Heap.lt_size (I.pin p hp).1) hT)) (by
   refine ⟨by show 2≤sizeLine;decide,[u,v],.cons rua (.cons rub .nil),?_⟩
   obtain ⟨o,ho,hcl,hd⟩:=hTup
   exact ⟨o,kk2 T o (W.apart i T h' mid) ho,hcl,hd⟩)
  refine ⟨.ref T,_,I2,rfl,⟨T,a,b,rfl,nT,rfl,fun xs' h'=>?_,fun ys' h'=>?_⟩,⟨t1,t2,t3,t4,t5⟩,fun b hb=>?_⟩
  ·rw [I.list_inj h' hx];exact ea
  ·rw [I.list_inj h' hy];exact eb
  ·have hb2:∃ o,s.heap.get? b=some o:=by
    obtain ⟨x3,y3,s3⟩:=s3
    obtain ⟨o4,s4,_⟩:=s4
    obtain ⟨o5,s5,_⟩:=s5
    simp only [List.mem_cons,List.not_mem_nil,or_false] at hb
    rcases hb with h | h | h | h | h <;> rw [h] <;> first | exact ⟨_,s1⟩ | exact ⟨_,s2⟩ | exact ⟨_,s3⟩ | exact ⟨_,s4⟩ | exact ⟨_,s5⟩
   obtain ⟨o,e⟩:=hb2
   rw [zaC (Nat.ne_of_lt (Nat.lt_of_lt_of_le (Heap.lt_size e) hT))]
   exact (hf b hb).1
 done:=by
  intro X hP hw hK hc i pins s σ H E I hf st hg
  subst hP hw hK
  obtain ⟨xs,ys,hx,hy,rfl⟩:=hg
  obtain ⟨its1,r1,pl1,z1⟩:=I.list hx
  obtain ⟨its2,r2,pl2,z2⟩:=I.list hy
  obtain ⟨s1,s2,s3,s4,s5⟩:=st
  have W:=WalksT.zip2 (prog:=X.prog) (w:=X.w) (A:=X.A) (I.ok.hd hc) z TI TO i1 i2 p q D its1.toArray its2.toArray
  have sub:∀ b∈[z,TO,i1,i2],b∈[z,TI,TO,i1,i2]:=fun b hb=>by
   simp only [List.mem_cons,List.not_mem_nil,or_false] at hb ⊢
   rcases hb with h | h | h | h <;> simp [h]
  refine W.done s _ _ ?_ fun h' tk kk=>⟨rfl,I.turns (ch:=[z,TO,i1,i2]) (fun b o hb e=>kk b o hb e) fun b hb=>hf b (sub b hb)⟩
  rw [List.size_toArray,List.size_toArray,← r1.length,← r2.length]
  exact ⟨s1,s2,s3,s4,s5,pl1.isList,pl2.isList⟩
 self:=fun A i s Q E st h=>wpAny_pyIter_zip st.1 h
def iZip (K:PySem.W.Frag) (ta:TA):TI:=fun σ H R=>ta σ H fun vs H1=>∃ p q,vs=[.ref p,.ref q]∧(∃ xs,SqL K H1 p xs)∧(∃ ys,SqL K H1 q ys)∧R (Itz K p q) H1
theorem zrN {X:Cx} {a b:Expr} {elts:List Expr} {k:Nat} {tp p pos:Pos} {ta:TA} (hg:Gl X "zip") (hm:X.mg "zip"=none) (ha:PA X [a,b] ta) (hs:starEach [a,b] X.env=[(false,eval a X.env),(false,eval b X.env)]:=by rfl) (hs2:starEach [b] X.env=[(false,eval b X.env)]:=by rfl) :
  PI X (.Tuple elts k tp) (.Call (.Name "zip" p) [a,b] [] pos) (iZip X.K ta):=by
 intro pins s σ H R I h
 refine Call_ (zgF I hg hm boot_zip (PyProof.Rows.callWith_type1 (thn (ha pos pins s σ H _ I h) fun us s1 hQ'=>?_) (by rw [hs,hs2]) (by rw [hs2];rfl)))
 obtain ⟨vs,H1,I1,r1,q1⟩:=hQ'
 obtain ⟨p1,p2,rfl,⟨xs,hx⟩,⟨ys,hy⟩,q⟩:=q1
 obtain ⟨u,v,rfl,ru,rv⟩:=zm7 r1
 cases ru
 cases rv
 obtain ⟨its1,_,pl1,_⟩:=I1.list hx
 obtain ⟨its2,_,pl2,_⟩:=I1.list hy
 have a1:p1<s1.heap.objs.size:=by obtain ⟨_,e,_⟩:=pl1.isList;exact Heap.lt_size e
 have a2:p2<s1.heap.objs.size:=by obtain ⟨_,e,_⟩:=pl2.isList;exact Heap.lt_size e
 refine call_zip_2 pl1.isList pl2.isList fun h' hz hTI hTO hi1 hi2 hsz hk=>?_
 refine wpAny_pyIter_zip hz ?_
 refine ⟨_,_,_,_,H1,rfl,I1.kept (t':=s1.toks) hk,zrg (zipApart_new a1 a2),⟨hz,hTI,⟨_,_,hTO⟩,hi1,hi2⟩,fun b hb=>?_,q⟩
 have hb':s1.heap.objs.size≤b:=by
  simp only [List.mem_cons,List.not_mem_nil,or_false] at hb
  rcases hb with h | h | h | h | h <;> rw [h] <;> first | exact Nat.le_refl _ | exact Nat.le_add_right _ _
 exact I1.fpOk hb' (I1.hok.fresh hb')
theorem ztl {K:PySem.W.Frag} {p q:Addr} {xs ys:List V} {g:TG} {tb:TS} {D:zb5} {σ:St} {H:Hp} (Pv:Nat→St→Hp→Prop) (h0:Pv 0 σ H) (hl:∀ i σ H,i≤min xs.length ys.length→Pv i σ H→SqL K H p xs∧SqL K H q ys)
  (hs:∀ i x y t σ H,xs[i]?=some x→ys[i]?=some y→Pv i σ H→H t=none→g (.ref t) σ (upd H t (.tup [x,y])) fun σ2 H2=>tb { D with nx:=Pv (i+1),ct:=Pv (i+1),bk:=D.nx } σ2 H2) (hd:∀ σ H,Pv (min xs.length ys.length) σ H→D.nx σ H) :
  ∃ W:Nat→Nat→St→Hp→Prop,(∃ m,W 0 m σ H)∧∀ i m σ H,W i m σ H →
   ((Itz K p q).stop i H∧D.nx σ H)∨((Itz K p q).go i H∧∃ N:St→Hp→Prop,(∀ σ' H',N σ' H'→∃ m',m'<m∧W (i+1) m' σ' H')∧∀ x H',(Itz K p q).yld i H x H'→g x σ H' fun σ2 H2=>tb { D with nx:=N,ct:=N,bk:=D.nx } σ2 H2):=by
 refine ⟨fun i m σ H=>m=min xs.length ys.length - i∧i≤min xs.length ys.length∧Pv i σ H,⟨_,rfl,Nat.zero_le _,h0⟩,?_⟩
 rintro i m σ H ⟨rfl,hi,pv⟩
 obtain ⟨hx,hy⟩:=hl i σ H hi pv
 by_cases hlt:i<min xs.length ys.length
 ·have l1:i<xs.length:=by (first|lia|omega)
  have l2:i<ys.length:=by (first|lia|omega)
  refine .inr ⟨⟨xs,ys,xs[i],ys[i],hx,hy,by simp [l1],by simp [l2]⟩,Pv (i+1),fun σ' H' p'=>⟨_,by (first|lia|omega),rfl,hlt,p'⟩,fun x H' yl=>?_⟩
  obtain ⟨t,a,b,rfl,ht,rfl,e1,e2⟩:=yl
  exact hs i a b t σ H (e1 xs hx) (e2 ys hy) pv ht
 ·have e:i=min xs.length ys.length:=by (first|lia|omega)
  subst e
  exact .inl ⟨⟨xs,ys,hx,hy,rfl⟩,hd σ H pv⟩
theorem zqp {K:PySem.W.Frag} {p q:Addr} {xs zs:List V} {g:TG} {tt:TT} {te:TE} {σ:St} {H:Hp} {D:Addr} {Q:VK} (Pv:Nat→List V→St→Hp→Prop) (h0:Pv 0 [] σ (upd H D (.lst [])))
  (hl:∀ i ys σ H,i≤min xs.length zs.length→Pv i ys σ H→SqL K H p xs∧SqL K H q zs)
  (hs:∀ i x z t ys σ H,xs[i]?=some x→zs[i]?=some z→H D=some (.lst ys)→Pv i ys σ H→H t=none→g (.ref t) σ (upd H t (.tup [x,z])) fun σ2 H2=>tt σ2 H2 fun b H3=>if b=true then te σ2 H3 fun y H4=>zaI (.ref D) [y] H4 fun _ H5=>∃ ys,H5 D=some (.lst ys)∧Pv (i+1) ys σ2 H5 else ∃ ys,H3 D=some (.lst ys)∧Pv (i+1) ys σ2 H3)
  (hd:∀ ys σ H,H D=some (.lst ys)→Pv (min xs.length zs.length) ys σ H→Q (.ref D) H) :
  ∃ W:Nat→Nat→St→Hp→Prop,(∃ m,W 0 m σ (upd H D (.lst [])))∧∀ i m σc Hc,W i m σc Hc →
   ((Itz K p q).stop i Hc∧Q (.ref D) Hc)∨((Itz K p q).go i Hc∧∃ N:St→Hp→Prop,(∀ σ' H',N σ' H'→∃ m',m'<m∧W (i+1) m' σ' H')∧∀ x H',(Itz K p q).yld i Hc x H'→g x σc H' fun σ2 H2=>tt σ2 H2 fun b H3=>if b=true then te σ2 H3 fun y H4=>zaI (.ref D) [y] H4 fun _ H5=>N σ2 H5 else N σ2 H3):=by
 refine ⟨fun i m σ H=>m=min xs.length zs.length - i∧i≤min xs.length zs.length∧∃ ys,H D=some (.lst ys)∧Pv i ys σ H,⟨_,rfl,Nat.zero_le _,[],zai,h0⟩,?_⟩
 rintro i m σ H ⟨rfl,hi,ys,hD,pv⟩
 obtain ⟨hx,hz⟩:=hl i ys σ H hi pv
 by_cases hlt:i<min xs.length zs.length
 ·have l1:i<xs.length:=by (first|lia|omega)
  have l2:i<zs.length:=by (first|lia|omega)
  refine .inr ⟨⟨xs,zs,xs[i],zs[i],hx,hz,by simp [l1],by simp [l2]⟩,fun σ H=>∃ ys,H D=some (.lst ys)∧Pv (i+1) ys σ H,fun σ' H' p'=>⟨_,by (first|lia|omega),rfl,hlt,p'⟩,fun x H' yl=>?_⟩
  obtain ⟨t,a,b,rfl,ht,rfl,e1,e2⟩:=yl
  exact hs i a b t ys σ H (e1 xs hx) (e2 zs hz) hD pv ht
 ·have e:i=min xs.length zs.length:=by (first|lia|omega)
  subst e
  exact .inl ⟨⟨xs,zs,hx,hz,rfl⟩,hd ys σ H hD pv⟩
end L2
namespace L2
open PySem PySem.Spec PyProof.Rows
inductive Tr where
 | int (i:Int)
 | bl (b:Bool)
 | str (x:Str)
 | non
 | lst (l:List Tr)
 | tup (l:List Tr)
inductive zc3 (K:PySem.W.Frag) (H:Hp):Nat→Tr→V→Prop where
 | int {n:Nat} (i:Int):zc3 K H n (.int i) (.int i)
 | bl {n:Nat} (b:Bool):zc3 K H n (.bl b) (.bl b)
 | str {n:Nat} (x:Str):zc3 K H n (.str x) (.str x)
 | non {n:Nat}:zc3 K H n .non .non
 | lst {n:Nat} {p:Addr} {xs:List V} {ts:List Tr} (h:SqL K H p xs) (l:xs.length=ts.length) (e:∀ (i:Nat) x t,xs[i]?=some x→ts[i]?=some t→zc3 K H n t x):zc3 K H (n+1) (.lst ts) (.ref p)
 | tup {n:Nat} {p:Addr} {xs:List V} {ts:List Tr} (h:SqT K H p xs) (l:xs.length=ts.length) (e:∀ (i:Nat) x t,xs[i]?=some x→ts[i]?=some t→zc3 K H n t x):zc3 K H (n+1) (.tup ts) (.ref p)
section
variable {X:Cx} {pins:List (Addr×Obj)} {σ:St} {H:Hp} {s:Shared}
theorem zfe {A:Around} {n:Nat} {xs ys:List V} {ts:List Tr} {us vs:List Value} (lx:xs.length=ts.length) (ly:ys.length=ts.length) (r1:zcc xs us) (r2:zcc ys vs)
  (ih:∀ (i:Nat) x t,xs[i]?=some x→ts[i]?=some t→∀ y,zc3 X.K H n t y→∀ (u v:Value) (A:Around),zc5 x u→zc5 y v→A.units+n<cLine→SeqAt.EqAt A s u v true)
  (ey:∀ (i:Nat) y t,ys[i]?=some y→ts[i]?=some t→zc3 X.K H n t y) (hu:A.units+(n+1)<cLine) :
  ∀ j (h1:j<us.toArray.size) (h2:j<vs.toArray.size),SeqAt.EqAt A.in1 s us.toArray[j] vs.toArray[j] true:=by
 intro j h1 h2
 have k1:j<xs.length:=by rw [r1.length];simpa using h1
 have k2:j<ys.length:=by rw [r2.length];simpa using h2
 have k3:j<ts.length:=by (first|lia|omega)
 obtain ⟨u,e1,ru⟩:=r1.get (List.getElem?_eq_getElem k1)
 obtain ⟨v,e2,rv⟩:=r2.get (List.getElem?_eq_getElem k2)
 have q1:us.toArray[j]=u:=by
  have:=(List.getElem?_eq_some_iff.mp e1).2
  simpa using this
 have q2:vs.toArray[j]=v:=by
  have:=(List.getElem?_eq_some_iff.mp e2).2
  simpa using this
 rw [q1,q2]
 exact ih j _ _ (List.getElem?_eq_getElem k1) (List.getElem?_eq_getElem k3) _ (ey j _ _ (List.getElem?_eq_getElem k2) (List.getElem?_eq_getElem k3)) u v A.in1 ru rv (by show A.units+1+n<cLine;(first|lia|omega))
theorem zfd (n:Nat):(List.range n).all (fun _=>true)=true:=by simp
theorem zka (I:Inv X pins σ H s) {n:Nat} {t:Tr} {x:V} (hx:zc3 X.K H n t x):∀ y,zc3 X.K H n t y→∀ (u v:Value) (A:Around),zc5 x u→zc5 y v→A.units+n<cLine→SeqAt.EqAt A s u v true:=by
 induction hx with
 | int i =>
  intro y hy u v A ru rv hu
  cases hy
  obtain ⟨a,rfl⟩:=ru
  obtain ⟨b,rfl⟩:=rv
  have:=SeqAt.EqAt.int_int (A:=A) (s:=s) i a i b
  rw [beq_self_eq_true] at this
  exact this
 | bl b =>
  intro y hy u v A ru rv hu
  cases hy
  cases ru
  cases rv
  exact SeqAt.EqAt.same _
 | str x =>
  intro y hy u v A ru rv hu
  cases hy
  obtain ⟨a,rfl⟩:=ru
  obtain ⟨b,rfl⟩:=rv
  have:=SeqAt.EqAt.str_str (A:=A) (s:=s) x a x b
  rw [beq_self_eq_true] at this
  exact this
 | non =>
  intro y hy u v A ru rv hu
  cases hy
  cases ru
  cases rv
  exact SeqAt.EqAt.same _
 | @lst n p xs ts h l e ih =>
  intro y hy u v A ru rv hu
  cases hy with
  | @lst _ q ys _ h2 l2 e2 =>
   cases ru
   cases rv
   by_cases hpq:p=q
   ·subst hpq
    exact SeqAt.EqAt.same _
   ·obtain ⟨us,r1,p1,_⟩:=I.list h
    obtain ⟨vs,r2,p2,_⟩:=I.list h2
    have z:=SeqAt.RcAt.lists (A:=A) p1.isList p2.isList (by rw [List.size_toArray,List.size_toArray,← r1.length,← r2.length,l,l2]) (by (first|lia|omega)) (e:=fun _=>true) (zfe l l2 r1 r2 ih e2 hu)
    rw [zfd] at z
    exact SeqAt.EqAt.of_refs hpq z
 | @tup n p xs ts h l e ih =>
  intro y hy u v A ru rv hu
  cases hy with
  | @tup _ q ys _ h2 l2 e2 =>
   cases ru
   cases rv
   by_cases hpq:p=q
   ·subst hpq
    exact SeqAt.EqAt.same _
   ·obtain ⟨us,r1,p1,_⟩:=I.tuple h
    obtain ⟨vs,r2,p2,_⟩:=I.tuple h2
    have z:=SeqAt.RcAt.tuples (A:=A) p1 p2 (by (first|lia|omega)) (e:=fun _=>true) (zfe l l2 r1 r2 ih e2 hu)
    rw [zfd,List.size_toArray,List.size_toArray,← r1.length,← r2.length,l,l2,beq_self_eq_true,Bool.and_self] at z
    exact SeqAt.EqAt.of_refs hpq z
def rEqD (K:PySem.W.Frag):R2:=fun x y H Q=>∃ n ts,n≤60∧(zc3 K H (n+1) (.lst ts) x∧zc3 K H (n+1) (.lst ts) y∨zc3 K H (n+1) (.tup ts) x∧zc3 K H (n+1) (.tup ts) y)∧Q (.bl true) H
def rNeD (K:PySem.W.Frag):R2:=fun x y H Q=>∃ n ts,n≤60∧(zc3 K H (n+1) (.lst ts) x∧zc3 K H (n+1) (.lst ts) y∨zc3 K H (n+1) (.tup ts) x∧zc3 K H (n+1) (.tup ts) y)∧Q (.bl false) H
theorem zu4 (hu:X.A.units+64<cLine):OpR X (compareOp .Eq) (rEqD X.K):=by
 intro pins s σ H x y v u Q I rx ry h
 obtain ⟨n,ts,hn,h,q⟩:=h
 have hu':X.A.units+(n+1)<cLine:=by (first|lia|omega)
 rcases h with ⟨h1,h2⟩ | ⟨h1,h2⟩
 ·cases h1 with
  | @lst _ p xs _ a1 a2 a3 =>
   cases h2 with
   | @lst _ p' ys _ b1 b2 b3 =>
    cases rx
    cases ry
    obtain ⟨us,r1,p1,_⟩:=I.list a1
    obtain ⟨vs,r2,p2,_⟩:=I.list b1
    have z:=SeqAt.RcAt.lists (A:=X.A) p1.isList p2.isList (by rw [List.size_toArray,List.size_toArray,← r1.length,← r2.length,a2,b2]) (by (first|lia|omega)) (e:=fun _=>true) (zfe a2 b2 r1 r2 (fun i x t e1 e2=>zka I (a3 i x t e1 e2)) b3 hu')
    rw [zfd] at z
    exact z X.prog X.w X.xe _ ⟨.bl true,H,I,rfl,q⟩
 ·cases h1 with
  | @tup _ p xs _ a1 a2 a3 =>
   cases h2 with
   | @tup _ p' ys _ b1 b2 b3 =>
    cases rx
    cases ry
    obtain ⟨us,r1,p1,_⟩:=I.tuple a1
    obtain ⟨vs,r2,p2,_⟩:=I.tuple b1
    have z:=SeqAt.RcAt.tuples (A:=X.A) p1 p2 (by (first|lia|omega)) (e:=fun _=>true) (zfe a2 b2 r1 r2 (fun i x t e1 e2=>zka I (a3 i x t e1 e2)) b3 hu')
    rw [zfd,List.size_toArray,List.size_toArray,← r1.length,← r2.length,a2,b2,beq_self_eq_true,Bool.and_self] at z
    exact z X.prog X.w X.xe _ ⟨.bl true,H,I,rfl,q⟩
theorem zt8 (hu:X.A.units+64<cLine):OpR X (compareOp .NotEq) (rNeD X.K):=by
 intro pins s σ H x y v u Q I rx ry h
 obtain ⟨n,ts,hn,h,q⟩:=h
 have hu':X.A.units+(n+1)<cLine:=by (first|lia|omega)
 rcases h with ⟨h1,h2⟩ | ⟨h1,h2⟩
 ·cases h1 with
  | @lst _ p xs _ a1 a2 a3 =>
   cases h2 with
   | @lst _ p' ys _ b1 b2 b3 =>
    cases rx
    cases ry
    obtain ⟨us,r1,p1,_⟩:=I.list a1
    obtain ⟨vs,r2,p2,_⟩:=I.list b1
    have z:=SeqAt.RcNeAt.lists (A:=X.A) p1.isList p2.isList (by rw [List.size_toArray,List.size_toArray,← r1.length,← r2.length,a2,b2]) (by (first|lia|omega)) (e:=fun _=>true) (zfe a2 b2 r1 r2 (fun i x t e1 e2=>zka I (a3 i x t e1 e2)) b3 hu')
    rw [zfd] at z
    exact z X.prog X.w X.xe _ ⟨.bl false,H,I,rfl,q⟩
 ·cases h1 with
  | @tup _ p xs _ a1 a2 a3 =>
   cases h2 with
   | @tup _ p' ys _ b1 b2 b3 =>
    cases rx
    cases ry
    obtain ⟨us,r1,p1,_⟩:=I.tuple a1
    obtain ⟨vs,r2,p2,_⟩:=I.tuple b1
    have z:=SeqAt.RcNeAt.tuples (A:=X.A) p1 p2 (by (first|lia|omega)) (e:=fun _=>true) (zfe a2 b2 r1 r2 (fun i x t e1 e2=>zka I (a3 i x t e1 e2)) b3 hu')
    rw [zfd,List.size_toArray,List.size_toArray,← r1.length,← r2.length,a2,b2,beq_self_eq_true,Bool.and_self] at z
    exact z X.prog X.w X.xe _ ⟨.bl false,H,I,rfl,q⟩
end
end L2
namespace L2
open PySem PySem.Spec PyProof.Rows
theorem zmV {P:Program} {w:World} {A:Around} {E:Value→Shared→Prop} {I ax:Addr} {items:Array Value} (hh:A.handled=none) (hne:ax≠I):∀ (k i:Nat) (s:Shared) (Q:List Value→Shared→Prop),s.heap.IsListIter I ax i→s.heap.IsList ax items→i+k≤items.size →
  (∀ h' tk,h'.IsListIter I ax (i+k)→h'.IsList ax items→(∀ b o,b≠I→s.heap.get? b=some o→h'.get? b=some o)→Q ((items.toList.drop i).take k) { s with heap:=h',toks:=tk })→wpAny (model P w) A (draw (.ref I) k) Q E s
 | 0,i,s,Q,hit,hl,_,hQ=>by
  refine wpAny_pure (a:=[]) ?_
  have:=hQ s.heap s.toks hit hl fun _ _ _ e=>e
  simpa using this
 | k+1,i,s,Q,hit,hl,hle,hQ=>by
  have hi:i<items.size:=by (first|lia|omega)
  refine wpAny_bind (m:=pyNext (.ref I)) ((Walks.list (A:=A) hh I ax hne items).item i s _ _ hi ⟨hit,hl⟩ fun v h1 tk1 hv st kk=>?_)
  refine wpAny_bind (wpAny_holding (zmV hh hne k (i+1) _ _ st.1 st.2 (by (first|lia|omega)) fun h2 tk2 hit2 hl2 kk2=>wpAny_pure ?_))
  have hv':items[i]=v:=by
   have:=(Array.getElem?_eq_some_iff.mp hv).2
   exact this
  have hd:items.toList.drop i=v::items.toList.drop (i+1):=by
   rw [← hv',List.drop_eq_getElem_cons (by simpa using hi)]
   simp
  have:=hQ h2 tk2 (by rw [show i+(k+1)=i+1+k by (first|lia|omega)];exact hit2) hl2 fun b o hb e=>kk2 b o hb (kk b o (by simpa using hb) e)
  rw [hd,List.take_succ_cons] at this
  exact this
theorem znG {P:Program} {w:World} {A:Around} {E:Value→Shared→Prop} {s:Shared} {t:Addr} {items:Array Value} {Q:List Value→Shared→Prop} (hh:A.handled=none) (ht:s.heap.IsList t items)
  (hQ:∀ h' tk,(∀ b o,s.heap.get? b=some o→h'.get? b=some o)→Q items.toList { s with heap:=h',toks:=tk }):wpAny (model P w) A (unpackItems (.ref t) items.size none) Q E s:=by
 obtain ⟨o,ho,hcl,hdt⟩:=id ht
 have hne:t≠s.heap.objs.size:=Nat.ne_of_lt (Heap.lt_size ho)
 have ty:s.TypeIs (.ref t) "list":=⟨o,ho,hcl⟩
 unfold unpackItems notIterableAtAll
 refine wpAny_bind (wpAny_bind (wpAny_specialOf ty F.slot_list_iter.lookup (wpAny_pure ?_)))
 simp only [Bool.false_eq_true,if_false]
 refine wpAny_bind (wpAny_holding (wpAny_pyIter_list ht ?_))
 have ht1:(s.heap.push { cls:=.type "list_iterator",data:=.fields #[.ref t,.int 0 0] }).IsList t items:=ht.at fun o e=>Heap.get?_push_of_some _ e
 refine wpAny_bind (wpAny_holding (zmV hh hne items.size 0 _ _ ⟨_,Heap.get?_push_size _ rfl,rfl,rfl⟩ ht1 (by (first|lia|omega)) fun h1 tk1 hit1 hl1 kk1=>?_))
 have hall:List.take items.size (List.drop 0 items.toList)=items.toList:=by
  rw [List.drop_zero]
  exact List.take_of_length_le (by simp)
 rw [hall,if_neg (by simp)]
 rw [Nat.zero_add] at hit1
 refine wpAny_bind (wpAny_holding ((Walks.list (A:=A) hh _ t hne items).done _ _ _ ⟨hit1,hl1⟩ fun h2 tk2 kk2=>?_))
 simp only [Option.isSome_none,Bool.false_eq_true,if_false]
 refine wpAny_pure (hQ h2 tk2 fun b o e=>kk2 b o (fun z=>Nat.ne_of_lt (Heap.lt_size e) (by simpa using z)) (kk1 b o (Nat.ne_of_lt (Heap.lt_size e)) (Heap.get?_push_of_some _ e)))
def gLst (K:PySem.W.Frag) (n:Nat) (t:TGs):TG:=fun v σ H Q=>∃ a xs,v=.ref a∧SqL K H a xs∧xs.length=n∧t xs σ H Q
theorem zuT {X:Cx} {pos:Pos} {es:List Expr} {k:Nat} {t:TGs} {n:Nat} (hc:X.calm=true) (h:PGs X es t)
  (hn:(assignEach es X.env).length=n:=by rfl) (hst:(assignEach es X.env).findIdx? (·.1)=none:=by rfl):PG X (.Tuple es k pos) (gLst X.K n t):=by
 intro pins s σ H v u Q I r hw
 obtain ⟨a,xs,e1,hq,hl,hw⟩:=hw
 subst e1
 cases r
 obtain ⟨its,rv,pl,hz⟩:=I.list hq
 rw [assign_Tuple]
 refine wpAny_bind (wpAny_standAt ?_)
 unfold unpack
 have e:(assignEach es X.env).length=its.toArray.size:=by rw [hn,List.size_toArray,← rv.length,hl]
 rw [e,hst]
 refine wpAny_bind (wpAny_holding (znG (I.ok.hd hc) pl.isList fun h' tk hk=>?_))
 exact h pins _ σ H xs _ Q (I.kept hk) (by simpa using rv) hw
end L2
namespace L2
open PySem PySem.Spec PyProof.Rows
def rEqE (K:PySem.W.Frag):R2:=fun x y H Q=>∃ a b xs,x=.ref a∧y=.ref b∧SqL K H a xs∧SqL K H b []∧Q (.bl xs.isEmpty) H
section
variable {X:Cx}
theorem zup (hu:X.A.units+64<cLine):OpR X (compareOp .Eq) (rEqE X.K):=by
 intro pins s σ H x y v u Q I rx ry h
 obtain ⟨a,b,xs,rfl,rfl,ha,hb,q⟩:=h
 cases rx
 cases ry
 obtain ⟨us,r1,p1,_⟩:=I.list ha
 obtain ⟨vs,r2,p2,_⟩:=I.list hb
 cases r2
 cases xs with
 | nil =>
  cases r1
  have z:=SeqAt.RcAt.lists (A:=X.A) p1.isList p2.isList rfl (by (first|lia|omega)) (e:=fun _=>true) (fun j h1 h2=>absurd h1 (Nat.not_lt_zero _))
  exact z X.prog X.w X.xe _ ⟨.bl true,H,I,rfl,q⟩
 | cons y ys =>
  have z:=SeqAt.RcAt.lists_lengths (A:=X.A) p1.isList p2.isList (by rw [List.size_toArray,List.size_toArray,← r1.length];rfl) (by (first|lia|omega))
  exact z X.prog X.w X.xe _ ⟨.bl false,H,I,rfl,q⟩
end
def zhn (J:It) (g:TG) (tt:TT) (te:TE) (D:Addr) (Q:VK) (σ:St) (H:Hp):Prop:=∃ W:Nat→Nat→St→Hp→Prop,(∃ m,W 0 m σ H)∧∀ i m σc Hc,W i m σc Hc →
 (J.stop i Hc∧Q (.ref D) Hc)∨(J.go i Hc∧∃ N:St→Hp→Prop,(∀ σ' H',N σ' H'→∃ m',m'<m∧W (i+1) m' σ' H')∧∀ x H',J.yld i Hc x H'→g x σc H' fun σ2 H2=>tt σ2 H2 fun b H3=>if b=true then te σ2 H3 fun y H4=>zaI (.ref D) [y] H4 fun _ H5=>N σ2 H5 else N σ2 H3)
theorem zqo {wi:TI} {g:TG} {tt:TT} {te:TE} {cap:List (Option Nat)} {σ:St} {H:Hp} {Q:VK}:zdm wi g tt te cap σ H Q=wi σ H fun J H1=>∀ D,H1 D=none→zhn J g tt te D Q (zt3 cap σ) (upd H1 D (.lst [])):=rfl
theorem zff {K:PySem.W.Frag} {a:Addr} {xs:List V} {g:TG} {tt:TT} {te:TE} {σ:St} {H:Hp} {D:Addr} {Q:VK} (Pv:Nat→List V→St→Hp→Prop) (h0:Pv 0 [] σ (upd H D (.lst []))) (hl:∀ i ys σ H,i≤xs.length→Pv i ys σ H→SqL K H a xs)
  (hs:∀ i x ys σ H,xs[i]?=some x→H D=some (.lst ys)→Pv i ys σ H→g x σ H fun σ2 H2=>tt σ2 H2 fun b H3=>if b=true then te σ2 H3 fun y H4=>zaI (.ref D) [y] H4 fun _ H5=>∃ ys,H5 D=some (.lst ys)∧Pv (i+1) ys σ2 H5 else ∃ ys,H3 D=some (.lst ys)∧Pv (i+1) ys σ2 H3)
  (hd:∀ ys σ H,H D=some (.lst ys)→Pv xs.length ys σ H→Q (.ref D) H):zhn (Itl K a) g tt te D Q σ (upd H D (.lst [])):=zpv Pv h0 hl hs hd
theorem zdV {lo:Int} {n:Nat} {g:TG} {tt:TT} {te:TE} {σ:St} {H:Hp} {D:Addr} {Q:VK} (Pv:Nat→List V→St→Hp→Prop) (h0:Pv 0 [] σ (upd H D (.lst [])))
  (hs:∀ i ys σ H,i<n→H D=some (.lst ys)→Pv i ys σ H→g (.int (lo+i)) σ H fun σ2 H2=>tt σ2 H2 fun b H3=>if b=true then te σ2 H3 fun y H4=>zaI (.ref D) [y] H4 fun _ H5=>∃ ys,H5 D=some (.lst ys)∧Pv (i+1) ys σ2 H5 else ∃ ys,H3 D=some (.lst ys)∧Pv (i+1) ys σ2 H3)
  (hd:∀ ys σ H,H D=some (.lst ys)→Pv n ys σ H→Q (.ref D) H):zhn (Itr lo n) g tt te D Q σ (upd H D (.lst [])):=zm5 Pv h0 hs hd
theorem zpE {K:PySem.W.Frag} {p q:Addr} {xs zs:List V} {g:TG} {tt:TT} {te:TE} {σ:St} {H:Hp} {D:Addr} {Q:VK} (Pv:Nat→List V→St→Hp→Prop) (h0:Pv 0 [] σ (upd H D (.lst [])))
  (hl:∀ i ys σ H,i≤min xs.length zs.length→Pv i ys σ H→SqL K H p xs∧SqL K H q zs)
  (hs:∀ i x z t ys σ H,xs[i]?=some x→zs[i]?=some z→H D=some (.lst ys)→Pv i ys σ H→H t=none→g (.ref t) σ (upd H t (.tup [x,z])) fun σ2 H2=>tt σ2 H2 fun b H3=>if b=true then te σ2 H3 fun y H4=>zaI (.ref D) [y] H4 fun _ H5=>∃ ys,H5 D=some (.lst ys)∧Pv (i+1) ys σ2 H5 else ∃ ys,H3 D=some (.lst ys)∧Pv (i+1) ys σ2 H3)
  (hd:∀ ys σ H,H D=some (.lst ys)→Pv (min xs.length zs.length) ys σ H→Q (.ref D) H):zhn (Itz K p q) g tt te D Q σ (upd H D (.lst [])):=zqp Pv h0 hl hs hd
theorem zrr {K:PySem.W.Frag} {p q:Addr} {xs ys:List V} {g:TG} {tb:TS} {D:zb5} {σ:St} {H:Hp} (Pv:Nat→St→Hp→Prop) (h0:Pv 0 σ H) (hl:∀ i σ H,i≤min xs.length ys.length→Pv i σ H→SqL K H p xs∧SqL K H q ys)
  (hs:∀ i x y t σ H,xs[i]?=some x→ys[i]?=some y→Pv i σ H→H t=none→g (.ref t) σ (upd H t (.tup [x,y])) fun σ2 H2=>tb { D with nx:=Pv (i+1),ct:=Pv (i+1),bk:=D.nx } σ2 H2) (hd:∀ σ H,Pv (min xs.length ys.length) σ H→D.nx σ H):zpi (Itz K p q) g tb D σ H:=ztl Pv h0 hl hs hd
end L2
namespace My3
open PySem
abbrev zcK (h:Heap) (T:Addr) (a b c:Value):Prop:=h.get? T=some { cls:=.type "tuple",data:=.seq #[a,b,c] }
structure zhf (z TI TO i1 i2 i3 l1 l2 l3:Addr):Prop where
 a1:TI≠z
 a2:TO≠z
 a3:i1≠z
 a4:i2≠z
 a5:i3≠z
 b0:TI≠TO
 b1:TI≠i1
 b2:TI≠i2
 b3:TI≠i3
 c1:TO≠i1
 c2:TO≠i2
 c3:TO≠i3
 d12:i1≠i2
 d13:i1≠i3
 d23:i2≠i3
 e1:∀ b∈[z,TO,i1,i2,i3],l1≠b
 e2:∀ b∈[z,TO,i1,i2,i3],l2≠b
 e3:∀ b∈[z,TO,i1,i2,i3],l3≠b
section
variable {P:Program} {w:World} {A:Around} {E:Value→Shared→Prop} {s:Shared}
theorem zjD {T:Addr} {a b c x:Value} {k:Nat} {R:Unit→Shared→Prop} (g:zcK s.heap T a b c)
  (h:∀ h',h'.get? T=some { cls:=.type "tuple",data:=.seq ((#[a,b,c]:Array Value).setIfInBounds k x) }→Heap.SameBut T s.heap h'→R () { s with heap:=h' }):wpAny (model P w) A (updateSeq T (·.setIfInBounds k x)) R E s:=by
 refine wpAny_updateSeq g rfl (h _ ?_ (Heap.SameBut.update ..))
 rw [Heap.get?_update_self _ g rfl];simp [Obj.mapSeq]
theorem zpW {z TI TO i1 i2 i3 l1 l2 l3:Addr} {k:Nat} {xs ys vs:Array Value} {x y v a b c:Value} {R:Value→Shared→Prop} (D:zhf z TI TO i1 i2 i3 l1 l2 l3)
  (gz:IsZip s.heap z TI TO .none) (gI:zcK s.heap TI (.ref i1) (.ref i2) (.ref i3)) (gO:zcK s.heap TO a b c)
  (n1:s.heap.IsListIter i1 l1 k) (n2:s.heap.IsListIter i2 l2 k) (n3:s.heap.IsListIter i3 l3 k) (m1:s.heap.IsList l1 xs) (m2:s.heap.IsList l2 ys) (m3:s.heap.IsList l3 vs) (ex:xs[k]?=some x) (ey:ys[k]?=some y) (ev:vs[k]?=some v)
  (q:∀ h',IsZip h' z TI TO (rawInt s.heap.objs.size)→zcK h' TO x y v→h'.IsListIter i1 l1 (k+1)→h'.IsListIter i2 l2 (k+1)→h'.IsListIter i3 l3 (k+1)→zcK h' s.heap.objs.size x y v→h'.objs.size=s.heap.objs.size+1 →
   (∀ t o,t∉[z,TO,i1,i2,i3]→s.heap.get? t=some o→h'.get? t=some o)→R (.ref s.heap.objs.size) { s with heap:=h' }) :
  wpAny (model P w) A (Builtin.«zip.__next__» ⟨[.ref z],[]⟩) (fun fin s'=>∃ v,fin=.done (.ret v)∧R v s') E s:=by
 have lz1:=D.e1 z (by simp);have lO1:=D.e1 TO (by simp);have li11:=D.e1 i1 (by simp)
 have lz2:=D.e2 z (by simp);have lO2:=D.e2 TO (by simp);have li21:=D.e2 i1 (by simp);have li22:=D.e2 i2 (by simp)
 have lz3:=D.e3 z (by simp);have lO3:=D.e3 TO (by simp);have li31:=D.e3 i1 (by simp);have li32:=D.e3 i2 (by simp);have li33:=D.e3 i3 (by simp)
 show wpAny _ _ (field (.ref z) 2 >>= _) _ _ _;refine wpAny_bind (wpAny_field gz rfl (x:=.bool false) rfl ?_);show wpAny _ _ (field (.ref z) 3 >>= _) _ _ _
 refine wpAny_bind (wpAny_field gz rfl (x:=.ref TI) rfl ?_)
 refine wpAny_bind (wpAny_seqItems gI rfl ?_);show wpAny _ _ (Builtin.SmallTypes.ownedTupleIsFree (.ref z) >>= _) _ _ _
 refine wpAny_bind ?_;unfold Builtin.SmallTypes.ownedTupleIsFree
 refine wpAny_bind (wpAny_field gz rfl (x:=.none) rfl (wpAny_pure ?_));simp only [if_true]
 refine wpAny_bind (wpAny_rule ?_);refine wpAny_bind (wpAny_field gz rfl (x:=.ref TO) rfl ?_)
 refine wpAny_bind (wpAny_setField_rec gz (by simp) fun h₁ gz₁ q₁=>?_)
 replace gz₁:IsZip h₁ z TI TO .ellipsis:=gz₁
 refine wpAny_bind ?_;simp only [List.zipIdx_cons,List.zipIdx_nil,List.forIn_cons,List.forIn_nil]
 refine wpAny_bind (wpAny_bind (wpAny_onRaise ?_));show wpAny _ _ (Builtin.SmallTypes.nextOf (.ref i1) >>= _) _ _ _
 refine wpAny_bind (wpAny_nextOf_list_item (n1.extBut q₁.extBut D.a3) (m1.extBut q₁.extBut lz1) ex fun h₂ n1₂ q₂=>wpAny_pure ?_)
 have gO₂:zcK h₂ TO a b c:=q₂.extBut _ _ D.c1 (q₁.extBut _ _ D.a2 gO)
 refine wpAny_bind (wpAny_seqItems gO₂ rfl ?_)
 refine wpAny_bind (zjD gO₂ fun h₃ gO₃ q₃=>?_)
 replace gO₃:zcK h₃ TO x b c:=gO₃
 refine wpAny_bind (wpAny_letGo (wpAny_pure ?_))
 refine wpAny_bind (wpAny_bind (wpAny_onRaise ?_));show wpAny _ _ (Builtin.SmallTypes.nextOf (.ref i2) >>= _) _ _ _
 refine wpAny_bind (wpAny_nextOf_list_item (((n2.extBut q₁.extBut D.a4).extBut q₂.extBut D.d12.symm).extBut q₃.extBut D.c2.symm)
  (((m2.extBut q₁.extBut lz2).extBut q₂.extBut li21).extBut q₃.extBut lO2) ey fun h₄ n2₄ q₄=>wpAny_pure ?_)
 have gO₄:zcK h₄ TO x b c:=q₄.extBut _ _ D.c2 gO₃
 refine wpAny_bind (wpAny_seqItems gO₄ rfl ?_)
 refine wpAny_bind (zjD gO₄ fun h₅ gO₅ q₅=>?_)
 replace gO₅:zcK h₅ TO x y c:=gO₅
 refine wpAny_bind (wpAny_letGo (wpAny_pure ?_))
 refine wpAny_bind (wpAny_bind (wpAny_onRaise ?_));show wpAny _ _ (Builtin.SmallTypes.nextOf (.ref i3) >>= _) _ _ _
 refine wpAny_bind (wpAny_nextOf_list_item (((((n3.extBut q₁.extBut D.a5).extBut q₂.extBut D.d13.symm).extBut q₃.extBut D.c3.symm).extBut q₄.extBut D.d23.symm).extBut q₅.extBut D.c3.symm)
  (((((m3.extBut q₁.extBut lz3).extBut q₂.extBut li31).extBut q₃.extBut lO3).extBut q₄.extBut li32).extBut q₅.extBut lO3) ev fun h₆ n3₆ q₆=>wpAny_pure ?_)
 have gO₆:zcK h₆ TO x y c:=q₆.extBut _ _ D.c3 gO₅
 refine wpAny_bind (wpAny_seqItems gO₆ rfl ?_)
 refine wpAny_bind (zjD gO₆ fun h₇ gO₇ q₇=>?_)
 replace gO₇:zcK h₇ TO x y v:=gO₇
 refine wpAny_bind (wpAny_letGo (wpAny_pure (wpAny_pure ?_)))
 refine wpAny_bind (wpAny_seqItems gO₇ rfl ?_)
 refine wpAny_bind (wpAny_newTuple ?_)
 have sz:h₇.objs.size=s.heap.objs.size:=by rw [q₇.1,q₆.1,q₅.1,q₄.1,q₃.1,q₂.1,q₁.1]
 have gz₇:IsZip h₇ z TI TO .ellipsis:=q₇.extBut _ _ D.a2.symm (q₆.extBut _ _ D.a5.symm (q₅.extBut _ _ D.a2.symm (q₄.extBut _ _ D.a4.symm (q₃.extBut _ _ D.a2.symm (q₂.extBut _ _ D.a3.symm gz₁)))))
 have kp:∀ t o,t∉[z,TO,i1,i2,i3]→s.heap.get? t=some o→h₇.get? t=some o:=fun t o ht e=>by
  simp only [List.mem_cons,List.not_mem_nil,or_false,not_or] at ht
  obtain ⟨t1,t2,t3,t4,t5⟩:=ht
  exact q₇.extBut _ _ t2 (q₆.extBut _ _ t5 (q₅.extBut _ _ t2 (q₄.extBut _ _ t4 (q₃.extBut _ _ t2 (q₂.extBut _ _ t3 (q₁.extBut _ _ t1 e))))))
 have n1₇:h₇.IsListIter i1 l1 (k+1):=((((n1₂.extBut q₃.extBut D.c1.symm).extBut q₄.extBut D.d12).extBut q₅.extBut D.c1.symm).extBut q₆.extBut D.d13).extBut q₇.extBut D.c1.symm
 have n2₇:h₇.IsListIter i2 l2 (k+1):=((n2₄.extBut q₅.extBut D.c2.symm).extBut q₆.extBut D.d23).extBut q₇.extBut D.c2.symm
 have n3₇:h₇.IsListIter i3 l3 (k+1):=n3₆.extBut q₇.extBut D.c3.symm
 have zlt:z<h₇.objs.size:=Heap.lt_size gz₇
 show wpAny _ _ (Builtin.SmallTypes.ownedTupleHandOut (.ref z) (.ref h₇.objs.size) >>= _) _ _ _;refine wpAny_bind ?_;unfold Builtin.SmallTypes.ownedTupleHandOut
 have gz₈:IsZip (h₇.push { cls:=.type "tuple",data:=.seq #[x,y,v] }) z TI TO .ellipsis:=Heap.get?_push_of_some _ gz₇
 refine wpAny_bind (wpAny_setField_rec gz₈ (by simp) fun h₉ gz₉ q₉=>?_)
 replace gz₉:IsZip h₉ z TI TO (rawInt h₇.objs.size):=gz₉
 refine wpAny_setField_rec gz₉ (by simp) fun hA gzA qA=>?_
 replace gzA:IsZip hA z TI TO (rawInt h₇.objs.size):=gzA
 have up:∀ t o,t≠z→h₇.get? t=some o→hA.get? t=some o:=fun t o t1 e=>qA.extBut _ _ t1 (q₉.extBut _ _ t1 (Heap.get?_push_of_some _ e))
 have gT:zcK hA h₇.objs.size x y v:=qA.extBut _ _ (Nat.ne_of_gt zlt) (q₉.extBut _ _ (Nat.ne_of_gt zlt) (Heap.get?_push_size _ rfl))
 have szA:hA.objs.size=h₇.objs.size+1:=by rw [qA.1,q₉.1,Heap.size_push]
 rw [sz] at gzA gT szA
 refine wpAny_pure ⟨_,rfl,?_⟩;show R (.ref h₇.objs.size) _;rw [sz]
 exact q hA gzA (up _ _ D.a2 gO₇) (n1₇.at fun o e=>up _ o D.a3 e) (n2₇.at fun o e=>up _ o D.a4 e) (n3₇.at fun o e=>up _ o D.a5 e) gT szA fun t o ht e=>up t o (fun h=>ht (by simp [h])) (kp t o ht e)
theorem zs0 {z TI TO i1 i2 i3 l1 l2 l3:Addr} {k:Nat} {xs:Array Value} {R:Fin→Shared→Prop} (hh:A.handled=none) (D:zhf z TI TO i1 i2 i3 l1 l2 l3)
  (gz:IsZip s.heap z TI TO .none) (gI:zcK s.heap TI (.ref i1) (.ref i2) (.ref i3)) (n1:s.heap.IsListIter i1 l1 k) (m1:s.heap.IsList l1 xs) (ex:xs[k]?=none)
  (q:∀ h' e,(∀ t o,t∉[z,TO,i1,i2,i3]→s.heap.get? t=some o→h'.get? t=some o)→(∃ o,h'.get? e=some o∧o.cls=.type "StopIteration")→E (.ref e) { s with heap:=h' }) :
  wpAny (model P w) A (Builtin.«zip.__next__» ⟨[.ref z],[]⟩) R E s:=by
 have lz1:=D.e1 z (by simp)
 show wpAny _ _ (field (.ref z) 2 >>= _) _ _ _;refine wpAny_bind (wpAny_field gz rfl (x:=.bool false) rfl ?_);show wpAny _ _ (field (.ref z) 3 >>= _) _ _ _
 refine wpAny_bind (wpAny_field gz rfl (x:=.ref TI) rfl ?_)
 refine wpAny_bind (wpAny_seqItems gI rfl ?_);show wpAny _ _ (Builtin.SmallTypes.ownedTupleIsFree (.ref z) >>= _) _ _ _
 refine wpAny_bind ?_;unfold Builtin.SmallTypes.ownedTupleIsFree
 refine wpAny_bind (wpAny_field gz rfl (x:=.none) rfl (wpAny_pure ?_));simp only [if_true]
 refine wpAny_bind (wpAny_rule ?_);refine wpAny_bind (wpAny_field gz rfl (x:=.ref TO) rfl ?_)
 refine wpAny_bind (wpAny_setField_rec gz (by simp) fun h₁ gz₁ q₁=>?_)
 replace gz₁:IsZip h₁ z TI TO .ellipsis:=gz₁
 refine wpAny_bind ?_;simp only [List.zipIdx_cons,List.zipIdx_nil,List.forIn_cons,List.forIn_nil]
 refine wpAny_bind (wpAny_bind (wpAny_onRaise ?_));show wpAny _ _ (Builtin.SmallTypes.nextOf (.ref i1) >>= _) _ _ _
 refine wpAny_bind (wpAny_nextOf_list_end hh (n1.extBut q₁.extBut D.a3) (m1.extBut q₁.extBut lz1) ex fun h₂ e q₂ he=>?_)
 obtain ⟨oe,g1,g2⟩:=he
 have gz₂:IsZip h₂ z TI TO .ellipsis:=q₂ _ _ D.a3.symm gz₁
 have nz:e≠z:=fun x=>by subst x;rw [gz₂] at g1;cases g1;simp at g2
 refine wpAny_setField_rec gz₂ (by simp) fun h₃ _ q₃=>q h₃ e (fun t o ht x=>?_) ⟨oe,q₃.extBut _ _ nz g1,g2⟩
 have t1:t≠z:=fun h=>ht (by simp [h])
 have t3:t≠i1:=fun h=>ht (by simp [h])
 exact q₃.extBut _ _ t1 (q₂ _ _ t3 (q₁.extBut _ _ t1 x))
theorem znI {z TI TO i1 i2 i3 l1 l2 l3:Addr} {k:Nat} {xs ys vs:Array Value} {x y v a b c:Value} {R:Option Value→Shared→Prop} (D:zhf z TI TO i1 i2 i3 l1 l2 l3)
  (gz:IsZip s.heap z TI TO .none) (gI:zcK s.heap TI (.ref i1) (.ref i2) (.ref i3)) (gO:zcK s.heap TO a b c)
  (n1:s.heap.IsListIter i1 l1 k) (n2:s.heap.IsListIter i2 l2 k) (n3:s.heap.IsListIter i3 l3 k) (m1:s.heap.IsList l1 xs) (m2:s.heap.IsList l2 ys) (m3:s.heap.IsList l3 vs) (ex:xs[k]?=some x) (ey:ys[k]?=some y) (ev:vs[k]?=some v)
  (q:∀ h',IsZip h' z TI TO (rawInt s.heap.objs.size)→zcK h' TO x y v→h'.IsListIter i1 l1 (k+1)→h'.IsListIter i2 l2 (k+1)→h'.IsListIter i3 l3 (k+1)→zcK h' s.heap.objs.size x y v→h'.objs.size=s.heap.objs.size+1 →
   (∀ t o,t∉[z,TO,i1,i2,i3]→s.heap.get? t=some o→h'.get? t=some o)→R (some (.ref s.heap.objs.size)) { s with heap:=h' }) :
  wpAny (model P w) A (pyNext (.ref z)) R E s:=by
 have ty:s.TypeIs (.ref z) "zip":=⟨_,gz,rfl⟩
 unfold pyNext
 exact wpAny_bind (wpAny_attempt (wpAny_callSpecial?_slot (name:=Str.ofString "__next__") ty F.slot_zip_next (wpAny_call_entry F.slot_zip_next ty F.entry_zip_next
  (zpW D gz gI gO n1 n2 n3 m1 m2 m3 ex ey ev fun h' a1 a2 a3 a4 a5 a6 a7 a8=>wpAny_pure (q h' a1 a2 a3 a4 a5 a6 a7 a8)) (F.args_zip_next_1 _))))
theorem zoe {z TI TO i1 i2 i3 l1 l2 l3:Addr} {k:Nat} {xs:Array Value} {R:Option Value→Shared→Prop} (hh:A.handled=none) (D:zhf z TI TO i1 i2 i3 l1 l2 l3)
  (gz:IsZip s.heap z TI TO .none) (gI:zcK s.heap TI (.ref i1) (.ref i2) (.ref i3)) (n1:s.heap.IsListIter i1 l1 k) (m1:s.heap.IsList l1 xs) (ex:xs[k]?=none)
  (q:∀ h',(∀ t o,t∉[z,TO,i1,i2,i3]→s.heap.get? t=some o→h'.get? t=some o)→R none { s with heap:=h' }):wpAny (model P w) A (pyNext (.ref z)) R E s:=by
 have ty:s.TypeIs (.ref z) "zip":=⟨_,gz,rfl⟩
 unfold pyNext
 refine wpAny_bind (wpAny_attempt (wpAny_callSpecial?_slot (name:=Str.ofString "__next__") ty F.slot_zip_next (wpAny_call_entry F.slot_zip_next ty F.entry_zip_next (zs0 hh D gz gI n1 m1 ex fun h' e hk he=>?_) (F.args_zip_next_1 _))))
 obtain ⟨o,h1,h2⟩:=he
 exact wpAny_bind (wpAny_isInstance (T:="StopIteration") (b:=true) ⟨o,h1,h2⟩ isSubtype_stop (wpAny_pure (q _ hk)))
theorem zoI (a b c:Value):checkTypeCall "zip" ⟨[a,b,c],[]⟩=pure ():=by kernel_rfl
theorem zqj (a b c:Value):checkBuiltinCall "zip.__new__" ⟨[.type "zip",a,b,c],[]⟩=pure ():=by kernel_rfl
theorem zon (a b c d:Value):argsOk "object.__init__" ⟨[a,b,c,d],[]⟩:=by
 unfold argsOk;rw [signature?_of (id:="object.__init__") (n:="__tini__".toList) (o:="tcejbo".toList) (by kernel_rfl) F.owner_object];kernel_rfl
abbrev it0 (l:Addr):Obj:={ cls:=.type "list_iterator",data:=.fields #[.ref l,.int 0 0] }
abbrev zh1 (h:Heap) (l1:Addr):Heap:=h.push (it0 l1)
abbrev zh2 (h:Heap) (l1 l2:Addr):Heap:=(zh1 h l1).push (it0 l2)
abbrev zh3 (h:Heap) (l1 l2 l3:Addr):Heap:=(zh2 h l1 l2).push (it0 l3)
abbrev zh4 (h:Heap) (l1 l2 l3:Addr):Heap:=(zh3 h l1 l2 l3).push { cls:=.type "tuple",data:=.seq #[.ref h.objs.size,.ref (zh1 h l1).objs.size,.ref (zh2 h l1 l2).objs.size] }
abbrev zh5 (h:Heap) (l1 l2 l3:Addr):Heap:=(zh4 h l1 l2 l3).push { cls:=.type "tuple",data:=.seq #[.none,.none,.none] }
abbrev zh6 (h:Heap) (l1 l2 l3:Addr):Heap:=(zh5 h l1 l2 l3).push { cls:=.type "zip",data:=.fields #[.none,.bool false,.bool false,.ref (zh3 h l1 l2 l3).objs.size,.ref (zh4 h l1 l2 l3).objs.size] }
theorem new3 (l1 l2 l3:Addr) (xs ys vs:Array Value) :
  Meets (Builtin.«zip.__new__» ⟨[.type "zip",.ref l1,.ref l2,.ref l3],[]⟩) (fun _ R s=>s.heap.IsList l1 xs∧s.heap.IsList l2 ys∧s.heap.IsList l3 vs ∧
   R (.ok (.ret (.ref (zh5 s.heap l1 l2 l3).objs.size))) { s with heap:=zh6 s.heap l1 l2 l3 }) :=
 .of_wp fun prog w A R s h=>by
  obtain ⟨hp,g,d,tk,os⟩:=s;obtain ⟨m1,m2,m3,h⟩:=h
  have hsub:=sub_zip
  have k1:Heap.IsList (Shared.heap ⟨hp,g,d,tk,os⟩) l1 xs:=m1
  have k2:Heap.IsList (Shared.heap ⟨hp.push { cls:=.type "list_iterator",data:=.fields #[.ref l1,.int 0 0] },g,d,tk,os⟩) l2 ys:=Heap.IsList.push m2 _
  have k3:Heap.IsList (Shared.heap ⟨(hp.push { cls:=.type "list_iterator",data:=.fields #[.ref l1,.int 0 0] }).push { cls:=.type "list_iterator",data:=.fields #[.ref l2,.int 0 0] },g,d,tk,os⟩) l3 vs:=Heap.IsList.push (Heap.IsList.push m3 _) _
  wp_walk using wpAny_pyIter_list k1,wpAny_pyIter_list k2,wpAny_pyIter_list k3
  exact ⟨_,rfl,h⟩
theorem call3 {l1 l2 l3:Addr} {xs ys vs:Array Value} {R:Value→Shared→Prop} (m1:s.heap.IsList l1 xs) (m2:s.heap.IsList l2 ys) (m3:s.heap.IsList l3 vs)
  (h:∀ (h':Heap) (n:Nat),n=s.heap.objs.size→IsZip h' (n+5) (n+3) (n+4) .none→zcK h' (n+3) (.ref n) (.ref (n+1)) (.ref (n+2))→zcK h' (n+4) .none .none .none→h'.IsListIter n l1 0→h'.IsListIter (n+1) l2 0→h'.IsListIter (n+2) l3 0 →
   (∀ c o,s.heap.get? c=some o→h'.get? c=some o)→R (.ref (n+5)) { s with heap:=h' }) :
  wpAny (model P w) A (call (.type "zip") [.ref l1,.ref l2,.ref l3]) R E s:=by
 refine callType_new F.called_zip (by decide) (zoI _ _ _) (zqj _ _ _) (fun obj=>zon obj _ _ _) F.entry_zip_new (new3 l1 l2 l3 xs ys vs) ⟨m1,m2,m3,?_⟩
 have z1:(zh1 s.heap l1).objs.size=s.heap.objs.size+1:=Heap.size_push ..
 have z2:(zh2 s.heap l1 l2).objs.size=s.heap.objs.size+2:=by rw [Heap.size_push,z1]
 have z3:(zh3 s.heap l1 l2 l3).objs.size=s.heap.objs.size+3:=by rw [Heap.size_push,z2]
 have z4:(zh4 s.heap l1 l2 l3).objs.size=s.heap.objs.size+4:=by rw [Heap.size_push,z3]
 have z5:(zh5 s.heap l1 l2 l3).objs.size=s.heap.objs.size+5:=by rw [Heap.size_push,z4]
 have on:∀ {hh:Heap} {a:Addr} {o o':Obj},hh.get? a=some o→(hh.push o').get? a=some o:=fun e=>Heap.get?_push_of_some _ e
 have y6:(zh6 s.heap l1 l2 l3).get? (zh5 s.heap l1 l2 l3).objs.size=some _:=Heap.get?_push_size _ rfl
 have y5:(zh6 s.heap l1 l2 l3).get? (zh4 s.heap l1 l2 l3).objs.size=some _:=on (Heap.get?_push_size _ rfl)
 have y4:(zh6 s.heap l1 l2 l3).get? (zh3 s.heap l1 l2 l3).objs.size=some _:=on (on (Heap.get?_push_size _ rfl))
 have y3:(zh6 s.heap l1 l2 l3).get? (zh2 s.heap l1 l2).objs.size=some _:=on (on (on (Heap.get?_push_size _ rfl)))
 have y2:(zh6 s.heap l1 l2 l3).get? (zh1 s.heap l1).objs.size=some _:=on (on (on (on (Heap.get?_push_size _ rfl))))
 have y1:(zh6 s.heap l1 l2 l3).get? s.heap.objs.size=some _:=on (on (on (on (on (Heap.get?_push_size _ rfl)))))
 show _∧_
 rw [z3,z4,z5] at y6
 rw [z4] at y5
 rw [z1,z2,z3] at y4
 rw [z2] at y3
 rw [z1] at y2
 rw [z5]
 exact ⟨⟨_,y6,rfl⟩,h _ _ rfl y6 y4 y5 ⟨_,y1,rfl,rfl⟩ ⟨_,y2,rfl,rfl⟩ ⟨_,y3,rfl,rfl⟩ fun c o x=>on (on (on (on (on (on x)))))⟩
end
end My3
namespace L2
open PySem PySem.Spec PyProof.Rows My3
def Itz3 (K:PySem.W.Frag) (p q r:Addr):It where
 go:=fun i H=>∃ xs ys zs a b c,SqL K H p xs∧SqL K H q ys∧SqL K H r zs∧xs[i]?=some a∧ys[i]?=some b∧zs[i]?=some c
 yld:=fun i H x H'=>∃ t a b c,x=.ref t∧H t=none∧H'=upd H t (.tup [a,b,c])∧(∀ xs,SqL K H p xs→xs[i]?=some a)∧(∀ ys,SqL K H q ys→ys[i]?=some b)∧∀ zs,SqL K H r zs→zs[i]?=some c
 stop:=fun i H=>∃ xs,SqL K H p xs∧i=xs.length
def tn3 (z TI TO i1 i2 i3 p q r:Addr) (i:Nat) (h:Heap):Prop:=IsZip h z TI TO .none∧zcK h TI (.ref i1) (.ref i2) (.ref i3)∧(∃ a b c,zcK h TO a b c)∧h.IsListIter i1 p i∧h.IsListIter i2 q i∧h.IsListIter i3 r i
theorem zp7 {z TI TO i1 i2 i3 p q r:Addr} {i:Nat} {h h':Heap} (st:tn3 z TI TO i1 i2 i3 p q r i h) (k:∀ b∈[z,TI,TO,i1,i2,i3],∀ o,h.get? b=some o→h'.get? b=some o):tn3 z TI TO i1 i2 i3 p q r i h':=by
 obtain ⟨a1,a2,⟨x,y,v,a3⟩,a4,a5,a6⟩:=st
 exact ⟨k z (by simp) _ a1,k TI (by simp) _ a2,⟨x,y,v,k TO (by simp) _ a3⟩,a4.at fun o e=>k i1 (by simp) o e,a5.at fun o e=>k i2 (by simp) o e,a6.at fun o e=>k i3 (by simp) o e⟩
theorem zlE {z TI TO i1 i2 i3 p q r:Addr} {i:Nat} {h:Heap} (st:tn3 z TI TO i1 i2 i3 p q r i h):∀ b∈[z,TI,TO,i1,i2,i3],∃ o,h.get? b=some o∧∀ v,o.data≠.cell v:=fun b hb=>by
 obtain ⟨a1,a2,⟨x,y,v,a3⟩,⟨o4,a4,_,d4⟩,⟨o5,a5,_,d5⟩,⟨o6,a6,_,d6⟩⟩:=st
 simp only [List.mem_cons,List.not_mem_nil,or_false] at hb
 rcases hb with rfl | rfl | rfl | rfl | rfl | rfl
 ·exact ⟨_,a1,zbO rfl⟩
 ·exact ⟨_,a2,fun v z=>nomatch (show Data.seq _ _=Data.cell v from z)⟩
 ·exact ⟨_,a3,fun v z=>nomatch (show Data.seq _ _=Data.cell v from z)⟩
 ·exact ⟨_,a4,zbO d4⟩
 ·exact ⟨_,a5,zbO d5⟩
 ·exact ⟨_,a6,zbO d6⟩
theorem zpm {P:Program} {w:World} {K:PySem.W.Frag} {elts:List Expr} {k:Nat} {pos:Pos} {z TI TO i1 i2 i3 p q r:Addr} (D:zhf z TI TO i1 i2 i3 p q r):zt2 P w K (.Tuple elts k pos) (Itz3 K p q r) [z,TI,TO,i1,i2,i3] z (tn3 z TI TO i1 i2 i3 p q r) where
 mem:=by simp
 obj:=fun i h st=>zlE st
 keep:=fun i h h' st kk=>zp7 st kk
 item:=by
  intro X hP hw hK hc i pins s σ H E I hf st hg
  subst hP hw hK
  obtain ⟨xs,ys,zs,a,b,c,hx,hy,hz,ea,eb,ec⟩:=hg
  obtain ⟨its1,r1,pl1,z1⟩:=I.list hx
  obtain ⟨its2,r2,pl2,z2⟩:=I.list hy
  obtain ⟨its3,r3,pl3,z3⟩:=I.list hz
  obtain ⟨ua,eua,rua⟩:=r1.get ea
  obtain ⟨ub,eub,rub⟩:=r2.get eb
  obtain ⟨uc,euc,ruc⟩:=r3.get ec
  have there:=zlE st
  obtain ⟨s1,s2,⟨x0,y0,v0,s3⟩,s4,s5,s6⟩:=st
  refine znI D s1 s2 s3 s4 s5 s6 pl1.isList pl2.isList pl3.isList (by simpa using eua) (by simpa using eub) (by simpa using euc) fun h' a1 a2 a3 a4 a5 aT asz kk=>⟨_,rfl,?_⟩
  refine wpAny_letOwnedTupleGo_zip a1 fun h2 gz2 q2=>?_
  have sub:∀ b∈[z,TO,i1,i2,i3],b∈[z,TI,TO,i1,i2,i3]:=fun b hb=>by
   simp only [List.mem_cons,List.not_mem_nil,or_false] at hb ⊢
   rcases hb with h | h | h | h | h <;> simp [h]
  have I1:Inv X pins σ H { s with heap:=h2 }:=I.turns (t':=s.toks) (ch:=[z,TO,i1,i2,i3]) (fun b o hb e=>q2.extBut _ _ (fun x=>hb (by simp [x])) (kk b o hb e)) fun b hb=>hf b (sub b hb)
  have hT:s.heap.objs.size≤s.heap.objs.size:=Nat.le_refl _
  have nT:H s.heap.objs.size=none:=I.hok.fresh hT
  have zT:s.heap.objs.size≠z:=Nat.ne_of_gt (Heap.lt_size s1)
  have I2:=I1.track (a:=s.heap.objs.size) (o:=.tup [a,b,c]) nT (Heap.get?_none_of_le (Nat.le_trans I.sz hT)) (Nat.ne_of_gt (Nat.lt_of_lt_of_le I.lt hT)) (fun x c e=>by
   obtain ⟨v,q⟩:=I.cell x c e
   exact Nat.ne_of_lt (Nat.lt_of_lt_of_le q.lt hT)) (fun p hp=>Nat.ne_of_lt (Nat.lt_of_lt_of_le (Heap.lt_size (I.pin p hp).1) hT)) (by
   refine ⟨by show 3≤sizeLine;decide,[ua,ub,uc],.cons rua (.cons rub (.cons ruc .nil)),?_⟩
   exact ⟨_,q2.extBut _ _ zT aT,rfl,_,rfl⟩)
  refine ⟨.ref s.heap.objs.size,_,I2,rfl,⟨s.heap.objs.size,a,b,c,rfl,nT,rfl,fun xs' h'=>?_,fun ys' h'=>?_,fun zs' h'=>?_⟩,?_,fun b hb=>?_⟩
  ·rw [I.list_inj h' hx];exact ea
  ·rw [I.list_inj h' hy];exact eb
  ·rw [I.list_inj h' hz];exact ec
  ·have nTI:TI∉[z,TO,i1,i2,i3]:=by
    simp only [List.mem_cons,List.not_mem_nil,or_false,not_or]
    exact ⟨D.a1,D.b0,D.b1,D.b2,D.b3⟩
   exact ⟨gz2,q2.extBut _ _ D.a1 (kk _ _ nTI s2),⟨_,_,_,q2.extBut _ _ D.a2 a2⟩,a3.extBut q2.extBut D.a3,a4.extBut q2.extBut D.a4,a5.extBut q2.extBut D.a5⟩
  ·obtain ⟨o,e,_⟩:=there b hb
   rw [zaC (Nat.ne_of_lt (Nat.lt_of_lt_of_le (Heap.lt_size e) hT))]
   exact (hf b hb).1
 done:=by
  intro X hP hw hK hc i pins s σ H E I hf st hg
  subst hP hw hK
  obtain ⟨xs,hx,rfl⟩:=hg
  obtain ⟨its1,r1,pl1,z1⟩:=I.list hx
  obtain ⟨s1,s2,s3,s4,s5,s6⟩:=st
  have sub:∀ b∈[z,TO,i1,i2,i3],b∈[z,TI,TO,i1,i2,i3]:=fun b hb=>by
   simp only [List.mem_cons,List.not_mem_nil,or_false] at hb ⊢
   rcases hb with h | h | h | h | h <;> simp [h]
  refine zoe (I.ok.hd hc) D s1 s2 s4 pl1.isList (by rw [r1.length];simp) fun h' kk=>⟨rfl,I.turns (t':=s.toks) (ch:=[z,TO,i1,i2,i3]) (fun b o hb e=>kk b o hb e) fun b hb=>hf b (sub b hb)⟩
 self:=fun A i s Q E st h=>wpAny_pyIter_zip st.1 h
def zte (K:PySem.W.Frag) (ta:TA):TI:=fun σ H R=>ta σ H fun vs H1=>∃ p q r,vs=[.ref p,.ref q,.ref r]∧(∃ xs,SqL K H1 p xs)∧(∃ ys,SqL K H1 q ys)∧(∃ zs,SqL K H1 r zs)∧R (Itz3 K p q r) H1
theorem vals3 {a b c:V} {us:List Value} (r:zcc [a,b,c] us):∃ u v w,us=[u,v,w]∧zc5 a u∧zc5 b v∧zc5 c w:=by
 cases r with
 | cons r1 r=>cases r with
  | cons r2 r=>cases r with
   | cons r3 r=>cases r;exact ⟨_,_,_,rfl,r1,r2,r3⟩
theorem zfr (n:Nat) {a b:Nat} (h:a≠b):n+a≠n+b:=by (first|lia|omega)
theorem zhh (n:Nat) {b:Nat} (h:0<b):n≠n+b:=by (first|lia|omega)
theorem zoP {n l:Nat} (h:l<n):∀ b∈[n+5,n+4,n,n+1,n+2],l≠b:=fun b hb=>by
 simp only [List.mem_cons,List.not_mem_nil,or_false] at hb
 (first|lia|omega)
theorem zm6 {n l1 l2 l3:Nat} (h1:l1<n) (h2:l2<n) (h3:l3<n):zhf (n+5) (n+3) (n+4) n (n+1) (n+2) l1 l2 l3 :=
 ⟨zfr n (by decide),zfr n (by decide),zhh n (by decide),zfr n (by decide),zfr n (by decide),zfr n (by decide),(zhh n (by decide)).symm,zfr n (by decide),zfr n (by decide),(zhh n (by decide)).symm,zfr n (by decide),zfr n (by decide),zhh n (by decide),zhh n (by decide),zfr n (by decide),zoP h1,zoP h2,zoP h3⟩
theorem zsH {X:Cx} {a b c:Expr} {elts:List Expr} {k:Nat} {tp p pos:Pos} {ta:TA} (hg:Gl X "zip") (hm:X.mg "zip"=none) (ha:PA X [a,b,c] ta) (hs:starEach [a,b,c] X.env=[(false,eval a X.env),(false,eval b X.env),(false,eval c X.env)]:=by rfl) (hs2:starEach [b,c] X.env=[(false,eval b X.env),(false,eval c X.env)]:=by rfl) :
  PI X (.Tuple elts k tp) (.Call (.Name "zip" p) [a,b,c] [] pos) (zte X.K ta):=by
 intro pins s σ H R I h
 refine Call_ (zgF I hg hm boot_zip (PyProof.Rows.callWith_type1 (thn (ha pos pins s σ H _ I h) fun us s1 hQ'=>?_) (by rw [hs,hs2]) (by rw [hs2];rfl)))
 obtain ⟨vs,H1,I1,r1,q1⟩:=hQ'
 obtain ⟨p1,p2,p3,rfl,⟨xs,hx⟩,⟨ys,hy⟩,⟨zs,hz⟩,q⟩:=q1
 obtain ⟨u,v,w,rfl,ru,rv,rw'⟩:=vals3 r1
 cases ru
 cases rv
 cases rw'
 obtain ⟨its1,_,pl1,_⟩:=I1.list hx
 obtain ⟨its2,_,pl2,_⟩:=I1.list hy
 obtain ⟨its3,_,pl3,_⟩:=I1.list hz
 have a1:p1<s1.heap.objs.size:=by obtain ⟨_,e,_⟩:=pl1.isList;exact Heap.lt_size e
 have a2:p2<s1.heap.objs.size:=by obtain ⟨_,e,_⟩:=pl2.isList;exact Heap.lt_size e
 have a3:p3<s1.heap.objs.size:=by obtain ⟨_,e,_⟩:=pl3.isList;exact Heap.lt_size e
 refine call3 pl1.isList pl2.isList pl3.isList fun h' n hn gz gI gO n1 n2 n3 hk=>?_
 refine wpAny_pyIter_zip gz ?_
 have D:zhf (n+5) (n+3) (n+4) n (n+1) (n+2) p1 p2 p3:=zm6 (by rw [hn];exact a1) (by rw [hn];exact a2) (by rw [hn];exact a3)
 refine ⟨_,_,_,_,H1,rfl,I1.kept (t':=s1.toks) hk,zpm D,⟨gz,gI,⟨_,_,_,gO⟩,n1,n2,n3⟩,fun b hb=>?_,q⟩
 have hb':s1.heap.objs.size≤b:=by
  rw [← hn]
  simp only [List.mem_cons,List.not_mem_nil,or_false] at hb
  rcases hb with h | h | h | h | h | h <;> rw [h] <;> first | exact Nat.le_refl _ | exact Nat.le_add_right _ _
 exact I1.fpOk hb' (I1.hok.fresh hb')
theorem zm9 {K:PySem.W.Frag} {p q r:Addr} {xs ws zs:List V} {g:TG} {tt:TT} {te:TE} {σ:St} {H:Hp} {D:Addr} {Q:VK} (Pv:Nat→List V→St→Hp→Prop) (h0:Pv 0 [] σ (upd H D (.lst []))) (l1:xs.length=ws.length) (l2:xs.length=zs.length)
  (hl:∀ i ys σ H,i≤xs.length→Pv i ys σ H→SqL K H p xs∧SqL K H q ws∧SqL K H r zs)
  (hs:∀ i x w z t ys σ H,xs[i]?=some x→ws[i]?=some w→zs[i]?=some z→H D=some (.lst ys)→Pv i ys σ H→H t=none→g (.ref t) σ (upd H t (.tup [x,w,z])) fun σ2 H2=>tt σ2 H2 fun b H3=>if b=true then te σ2 H3 fun y H4=>zaI (.ref D) [y] H4 fun _ H5=>∃ ys,H5 D=some (.lst ys)∧Pv (i+1) ys σ2 H5 else ∃ ys,H3 D=some (.lst ys)∧Pv (i+1) ys σ2 H3)
  (hd:∀ ys σ H,H D=some (.lst ys)→Pv xs.length ys σ H→Q (.ref D) H):zhn (Itz3 K p q r) g tt te D Q σ (upd H D (.lst [])):=by
 refine ⟨fun i m σ H=>m=xs.length - i∧i≤xs.length∧∃ ys,H D=some (.lst ys)∧Pv i ys σ H,⟨_,rfl,Nat.zero_le _,[],zai,h0⟩,?_⟩
 rintro i m σ H ⟨rfl,hi,ys,hD,pv⟩
 obtain ⟨hx,hw,hz⟩:=hl i ys σ H hi pv
 by_cases hlt:i<xs.length
 ·have k1:i<ws.length:=by (first|lia|omega)
  have k2:i<zs.length:=by (first|lia|omega)
  refine .inr ⟨⟨xs,ws,zs,xs[i],ws[i],zs[i],hx,hw,hz,by simp [hlt],by simp [k1],by simp [k2]⟩,fun σ H=>∃ ys,H D=some (.lst ys)∧Pv (i+1) ys σ H,fun σ' H' p'=>⟨_,by (first|lia|omega),rfl,hlt,p'⟩,fun x H' yl=>?_⟩
  obtain ⟨t,a,b,c,rfl,ht,rfl,e1,e2,e3⟩:=yl
  exact hs i a b c t ys σ H (e1 xs hx) (e2 ws hw) (e3 zs hz) hD pv ht
 ·have e:i=xs.length:=by (first|lia|omega)
  subst e
  exact .inl ⟨⟨xs,hx,rfl⟩,hd ys σ H hD pv⟩
end L2
namespace L2
open PySem PySem.Spec PyProof.Rows
section
variable {X:Cx}
def zjI:V→List V→Hp→VK→Prop:=fun x vs H Q=>∃ l xs k y,x=.ref l∧vs=[.int k,y]∧H l=some (.lst xs)∧0≤k∧k≤(xs.length:Int)∧xs.length<1000000∧Q .non (upd H l (.lst (xs.take k.toNat++y::xs.drop k.toNat)))
theorem zlb {xs:List V} {us:List Value} (r:zcc xs us):∀ n:Nat,zcc (xs.take n) (us.take n)∧zcc (xs.drop n) (us.drop n):=by
 induction r with
 | nil=>intro n;rw [List.take_nil,List.take_nil,List.drop_nil,List.drop_nil];exact ⟨.nil,.nil⟩
 | cons h t ih =>
  intro n
  cases n with
  | zero=>exact ⟨.nil,.cons h t⟩
  | succ n=>exact ⟨.cons h (ih n).1,(ih n).2⟩
theorem zoU:MtM X "list.insert" zjI:=by
 intro pins s σ H x vs v us Q I rx rv h
 obtain ⟨l,xs,k,y,rfl,rfl,hH,k0,k1,hz,q⟩:=h
 cases rx
 obtain ⟨u,w,rfl,ru,rw'⟩:=zm7 rv
 obtain ⟨tk,rfl⟩:=ru
 obtain ⟨z,its,n,r,hl,e⟩:=I.lstM hH
 have lr:=r.length
 have fit:¬(!Builtin.List.listFitsIndex k)=true:=by
  have:Builtin.List.listFitsIndex k=true:=by
   unfold Builtin.List.listFitsIndex
   simp only [Bool.and_eq_true,decide_eq_true_eq]
   (first|lia|omega)
  rw [this]
  decide
 refine call_meets F.slot_list_insert ⟨_,e,rfl⟩ F.entry_list_insert (F.args_list_insert_3 _ _ _) (AutoSeq1.list_insert_list_int_val_1 l its.toArray n k tk w fit (by rw [List.size_toArray];(first|lia|omega))) ⟨e,?_⟩
 refine ⟨.non,_,I.lset (its':=its.take k.toNat++w::its.drop k.toNat) hH e ?_ ((zlb r _).1.append (.cons rw' (zlb r _).2)) ?_,rfl,q⟩
 ·have e1:(if k<0 then (k+(its.toArray.size:Int)).toNat else min k.toNat its.toArray.size)=k.toNat:=by
   rw [if_neg (by (first|lia|omega)),List.size_toArray,← lr]
   (first|lia|omega)
  simp only [e1]
  apply Array.toList_inj.mp
  simp
  exact List.take_of_length_le (by rw [List.length_drop];exact Nat.le_refl _)
 ·rw [List.length_append,List.length_cons,List.length_take,List.length_drop]
  have:(1000000:Nat)≤sizeLine:=by decide
  (first|lia|omega)
def zrs (K:PySem.W.Frag):List V→Hp→VK→Prop:=fun xs H Q=>∃ (p:Addr) (ns:List Int),xs=[.ref p]∧SqL K H p (ns.map V.int)∧0<ns.length∧∀ m,m∈ns→(∀ a∈ns,a≤m)→Q (.int m) H
theorem zsZ {ns:List Int} {i:Nat} (h:i<ns.length):ns.getD i 0∈ns:=by
 rw [zof h]
 exact List.getElem_mem h
theorem ztN {ns:List Int} {a:Int} (h:a∈ns):∃ i,i<ns.length∧a=ns.getD i 0:=by
 obtain ⟨i,hi,e⟩:=List.getElem_of_mem h
 exact ⟨i,hi,by rw [zof hi,e]⟩
theorem zpb (hc:X.calm=true):zfP X (.builtin "max") (zrs X.K):=by
 intro pins s σ H xs us Q I r h
 obtain ⟨p,ns,rfl,hl,hn,q⟩:=h
 obtain ⟨u,rfl,ru⟩:=r.one
 cases ru
 obtain ⟨its,rv,pl,_⟩:=I.list hl
 have l:=rv.length
 rw [List.length_map] at l
 obtain ⟨o,n,e,_⟩:=id pl
 have hlt:=Heap.lt_size e
 have hne:p≠s.heap.objs.size:=Nat.ne_of_lt hlt
 refine call_max_walk (wpAny_pyIter_list pl.isList ?_)
 refine ⟨s.heap.objs.size,_,_,_,_,_,_,rfl,Walks.list (A:=X.A.in1) (I.ok.hd hc) _ p hne its.toArray,⟨⟨_,Heap.get?_push_size _ rfl,rfl,rfl⟩,?_⟩,fun b hb=>?_,by rw [List.size_toArray];(first|lia|omega),CmpOf.ints_gt (fun i=>ns.getD i 0) (fun i v hv=>zl4 rv hv),fun v h' tk hv hk=>?_⟩
 ·exact pl.isList.at fun o e=>Heap.get?_push_of_some _ e
 ·rw [Heap.size_push]
  rcases List.mem_cons.mp hb with z | z
  ·rw [z];exact Nat.lt_succ_self _
  ·have z':b=p:=by simpa using z
   rw [z'];exact Nat.lt_succ_of_lt hlt
 ·obtain ⟨t,rfl⟩:=zl4 rv hv
  obtain ⟨b1,b2⟩:=argBest_gt (fun i=>ns.getD i 0) (its.toArray.size - 1)
  rw [List.size_toArray] at b1 b2
  refine ⟨.int _,H,I.kept fun b u eb=>hk b u (fun z=>Nat.ne_of_lt (Heap.lt_size eb) (by simpa using z)) (Heap.get?_push_of_some _ eb),⟨t,rfl⟩,q _ (zsZ (by rw [List.size_toArray];(first|lia|omega))) fun a ha=>?_⟩
  obtain ⟨j,hj,rfl⟩:=ztN ha
  exact b2 j (by (first|lia|omega))
end
end L2
namespace L2
open PySem PySem.Spec PyProof.Rows
def zpZ:List V→Option (List Value)
 | []=>some []
 | v::vs=>(zvm v).bind fun c=>(zpZ vs).map fun cs=>c::cs
theorem zkC:∀ {vs:List V} {us cs:List Value},zcc vs us→zpZ vs=some cs→us=cs
 | [],_,cs,.nil,h=>by cases h;rfl
 | v::vs,_,cs,.cons r t,h=>by
  unfold zpZ at h
  obtain ⟨c,h1,h2⟩:=Option.bind_eq_some_iff.mp h
  obtain ⟨ds,h3,rfl⟩:=Option.map_eq_some_iff.mp h2
  rw [zjJ r h1,zkC t h3]
section
variable {X:Cx}
end
end L2
namespace L2
open PySem PySem.Spec PyProof.Rows
theorem zqB:bootBuiltins "enumerate"=some (.type "enumerate"):=by decide +kernel
def Ite (K:PySem.W.Frag) (p:Addr):It where
 go:=fun i H=>∃ xs a,SqL K H p xs∧xs[i]?=some a
 yld:=fun i H x H'=>∃ t a,x=.ref t∧H t=none∧H'=upd H t (.tup [.int (i:Int),a])∧∀ xs,SqL K H p xs→xs[i]?=some a
 stop:=fun i H=>∃ xs,SqL K H p xs∧i=xs.length
def tnE (e it p:Addr) (i:Nat) (h:Heap):Prop:=(∃ old,IsEnum h e it i old)∧h.IsListIter it p i
theorem zlc {e it p:Addr} {i:Nat} {h:Heap} (st:tnE e it p i h):∀ b∈[e,it],∃ o,h.get? b=some o∧∀ v,o.data≠.cell v:=fun b hb=>by
 obtain ⟨⟨old,a1⟩,⟨o2,a2,_,d2⟩⟩:=st
 simp only [List.mem_cons,List.not_mem_nil,or_false] at hb
 rcases hb with rfl | rfl
 ·exact ⟨_,a1,zbO rfl⟩
 ·exact ⟨_,a2,zbO d2⟩
theorem zoG {P:Program} {w:World} {K:PySem.W.Frag} {elts:List Expr} {k:Nat} {pos:Pos} {e it p:Addr} (d1:e≠it) (d2:p≠e) (d3:p≠it):zt2 P w K (.Tuple elts k pos) (Ite K p) [e,it] e (tnE e it p) where
 mem:=by simp
 obj:=fun i h st=>zlc st
 keep:=fun i h h' st kk=>by
  obtain ⟨⟨old,a1⟩,a2⟩:=st
  exact ⟨⟨old,kk e (by simp) _ a1⟩,a2.at fun o x=>kk it (by simp) o x⟩
 item:=by
  intro X hP hw hK hc i pins s σ H E I hf st hg
  subst hP hw hK
  obtain ⟨xs,a,hx,ea⟩:=hg
  obtain ⟨its,r1,pl1,z1⟩:=I.list hx
  obtain ⟨ua,eua,rua⟩:=r1.get ea
  have there:=zlc st
  obtain ⟨s1,s2⟩:=st
  have W:=WalksT.enumerate (prog:=X.prog) (w:=X.w) (A:=X.A) (I.ok.hd hc) e it p d1 d2 d3 its.toArray
  have hi:i<its.toArray.size:=by
   have h1:=(List.getElem?_eq_some_iff.mp eua).1
   rw [List.size_toArray]
   exact h1
  refine W.item i s _ _ hi ⟨s1,s2,pl1.isList⟩ fun T vals h' tk hp hT hTup mid kk=>⟨_,rfl,?_⟩
  obtain ⟨t,u,e1,rfl⟩:=hp
  have e1':u=ua:=by
   have:its[i]?=some u:=by simpa using e1
   rw [eua] at this;cases this;rfl
  subst e1'
  refine W.go elts k pos i T { s with heap:=h',toks:=tk } _ _ mid fun h2 st2 kk2=>?_
  obtain ⟨t1,t2,_⟩:=st2
  have I1:Inv X pins σ H { s with heap:=h2,toks:=tk }:=I.turns (ch:=[e,it]) (fun b o hb q=>kk2 b o hb (kk b o hb q)) fun b hb=>hf b hb
  have nT:H T=none:=I.hok.fresh hT
  have I2:=I1.track (a:=T) (o:=.tup [.int (i:Int),a]) nT (Heap.get?_none_of_le (Nat.le_trans I.sz hT)) (Nat.ne_of_gt (Nat.lt_of_lt_of_le I.lt hT)) (fun x c q=>by
   obtain ⟨v,z⟩:=I.cell x c q
   exact Nat.ne_of_lt (Nat.lt_of_lt_of_le z.lt hT)) (fun y hy=>Nat.ne_of_lt (Nat.lt_of_lt_of_le (Heap.lt_size (I.pin y hy).1) hT)) (by
   refine ⟨by show 2≤sizeLine;decide,[.int i t,u],.cons ⟨t,rfl⟩ (.cons rua .nil),?_⟩
   obtain ⟨o,ho,hcl,hd⟩:=hTup
   exact ⟨o,kk2 T o (W.apart i T h' mid) ho,hcl,hd⟩)
  refine ⟨.ref T,_,I2,rfl,⟨T,a,rfl,nT,rfl,fun xs' h'=>?_⟩,⟨t1,t2⟩,fun b hb=>?_⟩
  ·rw [I.list_inj h' hx];exact ea
  ·obtain ⟨o,q,_⟩:=there b hb
   rw [zaC (Nat.ne_of_lt (Nat.lt_of_lt_of_le (Heap.lt_size q) hT))]
   exact (hf b hb).1
 done:=by
  intro X hP hw hK hc i pins s σ H E I hf st hg
  subst hP hw hK
  obtain ⟨xs,hx,rfl⟩:=hg
  obtain ⟨its,r1,pl1,z1⟩:=I.list hx
  obtain ⟨s1,s2⟩:=st
  have W:=WalksT.enumerate (prog:=X.prog) (w:=X.w) (A:=X.A) (I.ok.hd hc) e it p d1 d2 d3 its.toArray
  refine W.done s _ _ ?_ fun h' tk kk=>⟨rfl,I.turns (ch:=[e,it]) (fun b o hb q=>kk b o hb q) fun b hb=>hf b hb⟩
  rw [List.size_toArray,← r1.length]
  exact ⟨s1,s2,pl1.isList⟩
 self:=fun A i s Q E st h=>by
  obtain ⟨⟨old,a1⟩,_⟩:=st
  exact wpAny_pyIter_enum a1 h
def zqd (K:PySem.W.Frag) (ta:TA):TI:=fun σ H R=>ta σ H fun vs H1=>∃ p,vs=[.ref p]∧(∃ xs,SqL K H1 p xs)∧R (Ite K p) H1
theorem ztC {X:Cx} {a:Expr} {elts:List Expr} {k:Nat} {tp p pos:Pos} {ta:TA} (hg:Gl X "enumerate") (hm:X.mg "enumerate"=none) (ha:PA X [a] ta) (hs:starEach [a] X.env=[(false,eval a X.env)]:=by rfl) :
  PI X (.Tuple elts k tp) (.Call (.Name "enumerate" p) [a] [] pos) (zqd X.K ta):=by
 intro pins s σ H R I h
 refine Call_ (zgF I hg hm zqB (PyProof.Rows.callWith_type1 (thn (ha pos pins s σ H _ I h) fun us s1 hQ'=>?_) (by rw [hs];rfl) rfl))
 obtain ⟨vs,H1,I1,r1,q1⟩:=hQ'
 obtain ⟨p1,rfl,⟨xs,hx⟩,q⟩:=q1
 obtain ⟨u,rfl,ru⟩:=r1.one
 cases ru
 obtain ⟨its,_,pl1,_⟩:=I1.list hx
 have a1:p1<s1.heap.objs.size:=by obtain ⟨_,e,_⟩:=pl1.isList;exact Heap.lt_size e
 refine call_enumerate_list pl1.isList fun h' he hi hsz hk=>?_
 refine wpAny_pyIter_enum he ?_
 refine ⟨_,_,_,_,H1,rfl,I1.kept (t':=s1.toks) hk,zoG (Nat.succ_ne_self _) (Nat.ne_of_lt (Nat.lt_succ_of_lt a1)) (Nat.ne_of_lt a1),⟨⟨_,he⟩,hi⟩,fun b hb=>?_,q⟩
 have hb':s1.heap.objs.size≤b:=by
  simp only [List.mem_cons,List.not_mem_nil,or_false] at hb
  rcases hb with h | h <;> rw [h] <;> first | exact Nat.le_refl _ | exact Nat.le_add_right _ _
 exact I1.fpOk hb' (I1.hok.fresh hb')
theorem zo3 {K:PySem.W.Frag} {p:Addr} {xs:List V} {g:TG} {tb:TS} {D:zb5} {σ:St} {H:Hp} (Pv:Nat→St→Hp→Prop) (h0:Pv 0 σ H) (hl:∀ i σ H,i≤xs.length→Pv i σ H→SqL K H p xs)
  (hs:∀ i x t σ H,xs[i]?=some x→Pv i σ H→H t=none→g (.ref t) σ (upd H t (.tup [.int (i:Int),x])) fun σ2 H2=>tb { D with nx:=Pv (i+1),ct:=Pv (i+1),bk:=D.nx } σ2 H2) (hd:∀ σ H,Pv xs.length σ H→D.nx σ H):zpi (Ite K p) g tb D σ H:=by
 refine ⟨fun i m σ H=>m=xs.length - i∧i≤xs.length∧Pv i σ H,⟨_,rfl,Nat.zero_le _,h0⟩,?_⟩
 rintro i m σ H ⟨rfl,hi,pv⟩
 have hx:=hl i σ H hi pv
 by_cases hlt:i<xs.length
 ·refine .inr ⟨⟨xs,xs[i],hx,by simp [hlt]⟩,Pv (i+1),fun σ' H' p'=>⟨_,by (first|lia|omega),rfl,hlt,p'⟩,fun x H' yl=>?_⟩
  obtain ⟨t,a,rfl,ht,rfl,e1⟩:=yl
  exact hs i a t σ H (e1 xs hx) pv ht
 ·have e:i=xs.length:=by (first|lia|omega)
  subst e
  exact .inl ⟨⟨xs,hx,rfl⟩,hd σ H pv⟩
end L2
namespace L2
open PySem PySem.Spec PyProof.Rows
theorem ziw (K:PySem.W.Frag):PySem.W.kitOne K (.type "list") (.type "tuple")=some false:=by first | rfl | kernel_rfl
theorem zks (K:PySem.W.Frag):PySem.W.kitOne K (.type "list") (.type "int")=some false:=by first | rfl | kernel_rfl
theorem ziE (K:PySem.W.Frag):PySem.W.kitOne K (.type "tuple") (.type "list")=some false:=by first | rfl | kernel_rfl
theorem zjP (K:PySem.W.Frag):PySem.W.kitOne K (.type "tuple") (.type "int")=some false:=by first | rfl | kernel_rfl
theorem zj4 (K:PySem.W.Frag):PySem.W.kitOne K (.type "int") (.type "tuple")=some false:=by first | rfl | kernel_rfl
theorem zkK (K:PySem.W.Frag):PySem.W.kitOne K (.type "int") (.type "list")=some false:=by first | rfl | kernel_rfl
theorem ziF (K:PySem.W.Frag):PySem.W.kitOne K (.type "bool") (.type "tuple")=some false:=by first | rfl | kernel_rfl
theorem zjN (K:PySem.W.Frag):PySem.W.kitOne K (.type "bool") (.type "list")=some false:=by first | rfl | kernel_rfl
theorem zkw (K:PySem.W.Frag):PySem.W.kitOne K (.type "bool") (.type "int")=some true:=by first | rfl | kernel_rfl
theorem zkd (K:PySem.W.Frag):PySem.W.kitOne K (.type "str") (.type "tuple")=some false:=by first | rfl | kernel_rfl
theorem zkI (K:PySem.W.Frag):PySem.W.kitOne K (.type "str") (.type "list")=some false:=by first | rfl | kernel_rfl
theorem zmw (K:PySem.W.Frag):PySem.W.kitOne K (.type "str") (.type "int")=some false:=by first | rfl | kernel_rfl
theorem zf1 (K:PySem.W.Frag):PySem.W.kitOne K (.type "NoneType") (.type "tuple")=some false:=by first | rfl | kernel_rfl
theorem zgs (K:PySem.W.Frag):PySem.W.kitOne K (.type "NoneType") (.type "list")=some false:=by first | rfl | kernel_rfl
theorem zgQ (K:PySem.W.Frag):PySem.W.kitOne K (.type "NoneType") (.type "int")=some false:=by first | rfl | kernel_rfl
theorem zdv {K:PySem.W.Frag} {H:Hp} {Q:VK} {x:V} {t c:String} {b:Bool} (h:zmW K H x (.type t)) (e:PySem.W.kitOne K (.type t) (.type c)=some b) (q:Q (.bl b) H):zit K [x,.ty c] H Q:=⟨_,_,_,_,b,rfl,rfl,.of h,e,q⟩
end L2
namespace L2
open PySem PySem.Spec PyProof.Rows
def zt4 (K:PySem.W.Frag):R2:=fun x y H Q=>∃ a b xs,x=.ref a∧y=.ref b∧SqL K H a xs∧SqL K H b []∧Q (.bl (!xs.isEmpty)) H
section
variable {X:Cx}
theorem zrT (hu:X.A.units+64<cLine):OpR X (compareOp .NotEq) (zt4 X.K):=by
 intro pins s σ H x y v u Q I rx ry h
 obtain ⟨a,b,xs,rfl,rfl,ha,hb,q⟩:=h
 cases rx
 cases ry
 obtain ⟨us,r1,p1,_⟩:=I.list ha
 obtain ⟨vs,r2,p2,_⟩:=I.list hb
 cases r2
 cases xs with
 | nil =>
  cases r1
  have z:=SeqAt.RcNeAt.lists (A:=X.A) p1.isList p2.isList rfl (by (first|lia|omega)) (e:=fun _=>true) (fun j h1 h2=>absurd h1 (Nat.not_lt_zero _))
  exact z X.prog X.w X.xe _ ⟨.bl false,H,I,rfl,q⟩
 | cons y ys =>
  have z:=SeqAt.RcNeAt.lists_lengths (A:=X.A) p1.isList p2.isList (by rw [List.size_toArray,List.size_toArray,← r1.length];rfl) (by (first|lia|omega))
  exact z X.prog X.w X.xe _ ⟨.bl true,H,I,rfl,q⟩
end
end L2
namespace L2
open PySem
abbrev SrP:=Addr×Int×Int
def srk (x:SrP):Int:=64*x.2.1+x.2.2
def zlk (prs':List SrP):Prop:=prs'.Pairwise fun a b=>srk b≤srk a
end L2
namespace L2.Srt
open PySem PyProof.Rows PySem.W
section
variable {cmp:Nat→Nat→(Bool→Shared→Prop)→Shared→Prop} {R:Nat→Int} {N:Nat} {s:Shared} {p:Array Nat}
def zpq (cmp:Nat→Nat→(Bool→Shared→Prop)→Shared→Prop) (R:Nat→Int) (N:Nat) (s:Shared):Prop:=∀ i j C,i<N→j<N→C (decide (R i<R j)) s→cmp i j C s
def kr (R:Nat→Int) (p:Array Nat) (i:Nat):Int:=R (p.getD i 0)
def So (R:Nat→Int) (p:Array Nat) (n:Nat):Prop:=∀ i j,i≤j→j<n→kr R p i≤kr R p j
def De (R:Nat→Int) (p:Array Nat) (n:Nat):Prop:=∀ i j,i≤j→j<n→kr R p j≤kr R p i
def Rg (N:Nat) (p:Array Nat):Prop:=p.Perm (List.toArray (List.range N))
theorem Rg.size (h:Rg N p):p.size=N:=by
 have:=h.size_eq
 rw [this,List.size_toArray,List.length_range]
theorem Rg.lt (h:Rg N p) {i:Nat} (hi:i<N):p.getD i 0<N:=by
 have hs:i<p.size:=by rw [h.size];exact hi
 have e:p.getD i 0=p[i]:=by simp [Array.getD,hs]
 rw [e]
 have hm:p[i]∈(List.toArray (List.range N)).toList:=(Array.perm_iff_toList_perm.mp h).mem_iff.mp (by simp)
 simpa using hm
theorem zpq.kr (hc:zpq cmp R N s) (h:Rg N p) {i j:Nat} (hi:i<N) (hj:j<N) {C:Bool→Shared→Prop} (q:C (decide (kr R p i<kr R p j)) s):cmp (p.getD i 0) (p.getD j 0) C s:=hc _ _ _ (h.lt hi) (h.lt hj) q
theorem zpe {p':Array Nat} {i j:Nat} (h:p'[i]?=p[j]?):kr R p' i=kr R p j:=by
 unfold kr
 rw [Array.getD_eq_getD_getElem?,Array.getD_eq_getD_getElem?,h]
theorem zod {i j:Nat} (hj:j≤p.size) (k:Nat):kr R (kas_rev p i j) k=if i≤k∧k<j then kr R p (i+j - 1 - k) else kr R p k:=by
 have h:=getElem?_mirror_all (xs:=p) (i:=i) hj k
 unfold kas_rev
 split
 ·next c=>rw [if_pos c] at h;exact zpe h
 ·next c=>rw [if_neg c] at h;exact zpe h
theorem zeR {i j:Nat} (hj:j≤p.size) (he:∀ k,i≤k→k<j→kr R p k=kr R p (j - 1)) (k:Nat):kr R (kas_rev p i j) k=kr R p k:=by
 rw [zod hj]
 split
 ·next c=>rw [he _ (by (first|lia|omega)) (by (first|lia|omega)),he k c.1 c.2]
 ·rfl
theorem zkS (h:Rg N p) (i j:Nat):Rg N (kas_rev p i j):=(mirror_perm p i j _).trans h
theorem zul (h:Rg N p) (i j:Nat):Rg N (bubble p i j):=(bubble_perm p i j).trans h
theorem zrV {k d:Nat} (hs:k<p.size) (hd:d≤k) (i:Nat):kr R (bubble p k d) i=if i=k - d then kr R p k else if k - d<i∧i≤k then kr R p (i - 1) else kr R p i:=by
 have h:=getElem?_bubble (xs:=p) hs d hd i
 split
 ·next c=>rw [if_pos c] at h;exact zpe h
 ·next c =>
  rw [if_neg c] at h
  split
  ·next c2=>rw [if_pos c2] at h;exact zpe h
  ·next c2=>rw [if_neg c2] at h;exact zpe h
theorem zfR {α:Type} {cmp:Nat→Nat→(Bool→Shared→Prop)→Shared→Prop} {T₁ T₂:KasT α} {Q:α→Shared→Prop} {s:Shared} (h:T₁.kasWp cmp Q s):(if true=true then T₁ else T₂).kasWp cmp Q s:=by rw [if_pos rfl];exact h
theorem zht {α:Type} {cmp:Nat→Nat→(Bool→Shared→Prop)→Shared→Prop} {T₁ T₂:KasT α} {Q:α→Shared→Prop} {s:Shared} (h:T₂.kasWp cmp Q s):(if false=true then T₁ else T₂).kasWp cmp Q s:=by rw [if_neg (by simp)];exact h
theorem ztb (hc:zpq cmp R N s) (hp:Rg N p) {G:Nat→Shared→Prop} {e:Nat}:∀ (f n:Nat),1≤n→n+f=e→e≤N→So R p n→(∀ m,n≤m→m≤e→So R p m→(m=e∨kr R p m<kr R p (m - 1))→G m s)→(kas_asc p f n).kasWp cmp G s
 | 0,n,h1,he,hN,hs,q=>q n (Nat.le_refl _) (by (first|lia|omega)) hs (.inl (by (first|lia|omega)))
 | f+1,n,h1,he,hN,hs,q=>by
  show cmp (p.getD n 0) (p.getD (n - 1) 0) _ s
  refine hc.kr hp (by (first|lia|omega)) (by (first|lia|omega)) ?_
  by_cases c:kr R p n<kr R p (n - 1)
  ·rw [decide_eq_true c];refine zfR ?_
   exact q n (Nat.le_refl _) (by (first|lia|omega)) hs (.inr c)
  ·rw [decide_eq_false c];refine zht ?_
   refine ztb hc hp f (n+1) (by (first|lia|omega)) (by (first|lia|omega)) hN (fun i j hij hj=>?_) fun m m1 m2=>q m (by (first|lia|omega)) m2
   by_cases hj':j<n
   ·exact hs i j hij hj'
   ·have:j=n:=by (first|lia|omega)
    subst this
    by_cases hi:i=j
    ·subst hi;exact Int.le_refl _
    ·have:=hs i (j - 1) (by (first|lia|omega)) (by (first|lia|omega))
     (first|lia|omega)
theorem zok (hc:zpq cmp R N s) (hp:Rg N p) {G:Nat×Array Nat→Shared→Prop} {n nrem:Nat} (h1:1≤n) (hn:n≤nrem) (hN:nrem≤N) (hd:De R p n) (q:∀ m p',1≤m→m≤nrem→Rg N p'→So R p' m→G (m,p') s):(kas_tail3 n nrem p).kasWp cmp G s:=by
 unfold kas_tail3
 rw [KasT.kasWp_bind]
 have hz:=hp.size
 refine ztb hc (zkS hp 0 n) (e:=nrem) (nrem - n) n h1 (by (first|lia|omega)) hN (fun i j hij hj=>?_) fun m m1 m2 hs _=>q m _ (by (first|lia|omega)) m2 (zkS hp 0 n) hs
 rw [zod (by (first|lia|omega)),zod (by (first|lia|omega)),if_pos (by (first|lia|omega)),if_pos (by (first|lia|omega))]
 exact hd _ _ (by (first|lia|omega)) (by (first|lia|omega))
theorem zmL (hc:zpq cmp R N s) {G:Array Nat×Nat×Nat→Shared→Prop} {e:Nat}:∀ (f:Nat) (p:Array Nat) (n q:Nat),Rg N p→1≤n→n+f=e→e≤N→De R p n→q+1≤n→(∀ i,n - (q+1)≤i→i<n→kr R p i=kr R p (n - 1)) →
  (∀ p' m q',Rg N p'→1≤m→m≤e→De R p' m→q'+1≤m→(∀ i,m - (q'+1)≤i→i<m→kr R p' i=kr R p' (m - 1))→G (p',m,q') s)→(kas_desc f p n q).kasWp cmp G s
 | 0,p,n,q,hp,h1,he,hN,hd,hq,hE,g=>g p n q hp h1 (by (first|lia|omega)) hd hq hE
 | f+1,p,n,q,hp,h1,he,hN,hd,hq,hE,g=>by
  show cmp (p.getD n 0) (p.getD (n - 1) 0) _ s
  have hz:=hp.size
  refine hc.kr hp (by (first|lia|omega)) (by (first|lia|omega)) ?_
  by_cases c:kr R p n<kr R p (n - 1)
  ·rw [decide_eq_true c];refine zfR ?_
   have st:∀ p':Array Nat,(∀ k,kr R p' k=kr R p k)→De R p' (n+1):=by
    intro p' hk i j hij hj
    rw [hk,hk]
    by_cases hj':j<n
    ·exact hd i j hij hj'
    ·have:j=n:=by (first|lia|omega)
     subst this
     by_cases hi:i=j
     ·subst hi;exact Int.le_refl _
     ·have:=hd i (j - 1) (by (first|lia|omega)) (by (first|lia|omega))
      (first|lia|omega)
   by_cases cq:q > 0
   ·rw [if_pos cq]
    exact zmL hc f _ (n+1) 0 (zkS hp _ _) (by (first|lia|omega)) (by (first|lia|omega)) hN (st _ (zeR (by (first|lia|omega)) hE)) (by (first|lia|omega)) (fun i i1 i2=>by congr 1;(first|lia|omega)) g
   ·rw [if_neg cq]
    exact zmL hc f _ (n+1) 0 hp (by (first|lia|omega)) (by (first|lia|omega)) hN (st _ fun _=>rfl) (by (first|lia|omega)) (fun i i1 i2=>by congr 1;(first|lia|omega)) g
  ·rw [decide_eq_false c];refine zht ?_
   show cmp (p.getD (n - 1) 0) (p.getD n 0) _ s
   refine hc.kr hp (by (first|lia|omega)) (by (first|lia|omega)) ?_
   by_cases c2:kr R p (n - 1)<kr R p n
   ·rw [decide_eq_true c2];refine zfR ?_
    exact g p n q hp h1 (by (first|lia|omega)) hd hq hE
   ·rw [decide_eq_false c2];refine zht ?_
    have eq:kr R p n=kr R p (n - 1):=by (first|lia|omega)
    refine zmL hc f p (n+1) (q+1) hp (by (first|lia|omega)) (by (first|lia|omega)) hN (fun i j hij hj=>?_) (by (first|lia|omega)) (fun i i1 i2=>?_) g
    ·by_cases hj':j<n
     ·exact hd i j hij hj'
     ·have:j=n:=by (first|lia|omega)
      subst this
      by_cases hi:i=j
      ·subst hi;exact Int.le_refl _
      ·rw [eq];exact hd i (j - 1) (by (first|lia|omega)) (by (first|lia|omega))
    ·rw [show n+1 - 1=n by (first|lia|omega)]
     by_cases hi:i=n
     ·subst hi;rfl
     ·rw [eq];exact hE i (by (first|lia|omega)) (by (first|lia|omega))
theorem ziU (hc:zpq cmp R N s) (hp:Rg N p) {G:Nat×Array Nat→Shared→Prop} {n nrem:Nat} (hn:n+1≤nrem) (hN:nrem≤N) (hd:De R p (n+1)) (q:∀ m p',1≤m→m≤nrem→Rg N p'→So R p' m→G (m,p') s):(kas_descPart n nrem p).kasWp cmp G s:=by
 unfold kas_descPart
 rw [KasT.kasWp_bind]
 refine zmL hc (e:=nrem) (nrem - (n+1)) p (n+1) 0 hp (by (first|lia|omega)) (by (first|lia|omega)) hN hd (by (first|lia|omega)) (fun i i1 i2=>by congr 1;(first|lia|omega)) fun p' m q' hp' m1 m2 hd' hq' hE=>?_
 have hz:=hp'.size
 by_cases cq:q' > 0
 ·rw [if_pos cq]
  refine zok hc (zkS hp' _ _) (by (first|lia|omega)) m2 hN (fun i j hij hj=>?_) q
  rw [zeR (by (first|lia|omega)) hE,zeR (by (first|lia|omega)) hE]
  exact hd' i j hij hj
 ·rw [if_neg cq]
  exact zok hc hp' (by (first|lia|omega)) m2 hN hd' q
theorem zs9 (hc:zpq cmp R N s) (hp:Rg N p) {G:Nat×Array Nat→Shared→Prop} {nrem:Nat} (h1:1≤nrem) (hN:nrem≤N) (q:∀ m p',1≤m→m≤nrem→Rg N p'→So R p' m→G (m,p') s):(kas_count nrem p).kasWp cmp G s:=by
 unfold kas_count
 rw [KasT.kasWp_bind]
 have hz:=hp.size
 refine ztb hc hp (e:=nrem) (nrem - 1) 1 (by (first|lia|omega)) (by (first|lia|omega)) hN (fun i j hij hj=>by have:i=j:=(by (first|lia|omega));subst this;exact Int.le_refl _) fun n n1 n2 hs ho=>?_
 by_cases e1:n=nrem
 ·rw [if_pos (by simpa using e1)]
  exact q n p n1 n2 hp hs
 ·rw [if_neg (by simpa using e1)]
  have lt:=ho.resolve_left e1
  by_cases e2:n > 1
  ·rw [if_pos e2]
   show cmp (p.getD 0 0) (p.getD (n - 1) 0) _ s
   refine hc.kr hp (by (first|lia|omega)) (by (first|lia|omega)) ?_
   by_cases c:kr R p 0<kr R p (n - 1)
   ·rw [decide_eq_true c];refine zfR ?_
    exact q n p n1 n2 hp hs
   ·rw [decide_eq_false c];refine zht ?_
    have he:∀ k,0≤k→k<n→kr R p k=kr R p (n - 1):=fun k _ hk=>by
     have a1:=hs 0 k (by (first|lia|omega)) hk
     have a2:=hs k (n - 1) (by (first|lia|omega)) (by (first|lia|omega))
     (first|lia|omega)
    refine ziU hc (zkS hp 0 n) (by (first|lia|omega)) hN (fun i j hij hj=>?_) q
    rw [zeR (by (first|lia|omega)) he,zeR (by (first|lia|omega)) he]
    by_cases hj':j<n
    ·rw [he i (by (first|lia|omega)) (by (first|lia|omega)),he j (by (first|lia|omega)) hj'];exact Int.le_refl _
    ·have:j=n:=by (first|lia|omega)
     subst this
     by_cases hi:i=j
     ·subst hi;exact Int.le_refl _
     ·rw [he i (by (first|lia|omega)) (by (first|lia|omega))];(first|lia|omega)
  ·rw [if_neg e2]
   have en:n=1:=by (first|lia|omega)
   subst en
   refine ziU hc hp (by (first|lia|omega)) hN (fun i j hij hj=>?_) q
   by_cases hi:i=j
   ·subst hi;exact Int.le_refl _
   ·have:i=0∧j=1:=by (first|lia|omega)
    obtain ⟨rfl,rfl⟩:=this
    exact Int.le_of_lt lt
theorem zmp (hc:zpq cmp R N s) (hp:Rg N p) {G:Nat→Shared→Prop} {k:Nat} (hk:k<N) (hs:So R p k) (g:∀ l,l≤k→(∀ i,i<l→kr R p i≤kr R p k)→(∀ i,l≤i→i<k→kr R p k<kr R p i)→G l s) :
  ∀ (f l r:Nat),l≤r→r≤k→r - l≤f→(∀ i,i<l→kr R p i≤kr R p k)→(∀ i,r≤i→i<k→kr R p k<kr R p i)→(kas_place p k f l r).kasWp cmp G s
 | 0,l,r,h1,h2,h3,h4,h5=>by
  have:l=r:=by (first|lia|omega)
  subst this
  exact g l h2 h4 h5
 | f+1,l,r,h1,h2,h3,h4,h5=>by
  unfold kas_place
  by_cases c:l≥r
  ·rw [if_pos c]
   have:l=r:=by (first|lia|omega)
   subst this
   exact g l h2 h4 h5
  ·rw [if_neg c]
   show cmp (p.getD k 0) (p.getD ((l+r) / 2) 0) _ s
   refine hc.kr hp (by (first|lia|omega)) (by (first|lia|omega)) ?_
   by_cases c2:kr R p k<kr R p ((l+r) / 2)
   ·rw [decide_eq_true c2];refine zfR ?_
    refine zmp hc hp hk hs g f l ((l+r) / 2) (by (first|lia|omega)) (by (first|lia|omega)) (by (first|lia|omega)) h4 fun i i1 i2=>?_
    have:=hs ((l+r) / 2) i i1 i2
    (first|lia|omega)
   ·rw [decide_eq_false c2];refine zht ?_
    refine zmp hc hp hk hs g f ((l+r) / 2+1) r (by (first|lia|omega)) (by (first|lia|omega)) (by (first|lia|omega)) (fun i i1=>?_) h5
    have:=hs i ((l+r) / 2) (by (first|lia|omega)) (by (first|lia|omega))
    (first|lia|omega)
theorem zu5 (hc:zpq cmp R N s) {G:Array Nat→Shared→Prop} (g:∀ p',Rg N p'→So R p' N→G p' s):∀ (f:Nat) (p:Array Nat) (k:Nat),Rg N p→k+f=N→So R p k→(kas_bin f p k).kasWp cmp G s
 | 0,p,k,hp,hk,hs=>g p hp (by rw [← hk];exact hs)
 | f+1,p,k,hp,hk,hs=>by
  unfold kas_bin
  rw [KasT.kasWp_bind]
  have hz:=hp.size
  refine zmp hc hp (by (first|lia|omega)) hs (fun l l1 l2 l3=>?_) k 0 k (by (first|lia|omega)) (by (first|lia|omega)) (by (first|lia|omega)) (fun i hi=>by (first|lia|omega)) (fun i i1 i2=>by (first|lia|omega))
  refine zu5 hc g f _ (k+1) (zul hp _ _) (by (first|lia|omega)) fun i j hij hj=>?_
  rw [zrV (by (first|lia|omega)) (by (first|lia|omega)),zrV (by (first|lia|omega)) (by (first|lia|omega))]
  rw [show k - (k - l)=l by (first|lia|omega)]
  have t1:=fun i j=>hs i j
  by_cases ci:i=l
  ·rw [if_pos ci]
   by_cases cj:j=l
   ·rw [if_pos cj];exact Int.le_refl _
   ·rw [if_neg cj,if_pos (by (first|lia|omega))]
    exact Int.le_of_lt (l3 _ (by (first|lia|omega)) (by (first|lia|omega)))
  ·rw [if_neg ci]
   by_cases cj:j=l
   ·rw [if_pos cj,if_neg (by (first|lia|omega))]
    exact l2 i (by (first|lia|omega))
   ·rw [if_neg cj]
    by_cases di:l<i∧i≤k
    ·rw [if_pos di,if_pos (by (first|lia|omega))]
     exact hs _ _ (by (first|lia|omega)) (by (first|lia|omega))
    ·rw [if_neg di]
     by_cases dj:l<j∧j≤k
     ·rw [if_pos dj]
      exact hs _ _ (by (first|lia|omega)) (by (first|lia|omega))
     ·rw [if_neg dj]
      exact hs _ _ hij (by (first|lia|omega))
theorem zvd (hc:zpq cmp R N s) (h2:2≤N) {G:Array Nat→Shared→Prop} (g:∀ p',Rg N p'→So R p' N→G p' s):(kas_sort N).kasWp cmp G s:=by
 unfold kas_sort
 rw [KasT.kasWp_bind]
 have r0:Rg N (List.toArray (List.range N)):=Array.Perm.refl _
 refine zs9 hc r0 (by (first|lia|omega)) (Nat.le_refl _) fun m p' m1 m2 hp hs=>?_
 show (if m<N then _ else _:KasT (Array Nat)).kasWp cmp G s
 by_cases c:m<N
 ·rw [if_pos c]
  rw [show max m 1=m by (first|lia|omega)]
  exact zu5 hc g (N - m) p' m hp (by (first|lia|omega)) hs
 ·rw [if_neg c]
  have:m=N:=by (first|lia|omega)
  subst this
  exact g p' hp hs
end
section
variable {prog:Program} {w:World} {A:Around} {E:Value→Shared→Prop} {s:Shared}
def PV (h:Heap) (x:SrP):Prop:=(∃ o t0 t1 n,h.get? x.1=some o∧o.cls=.type "tuple"∧o.data=.seq #[.int x.2.1 t0,.int x.2.2 t1] n)∧0≤x.2.2∧x.2.2<64
def refs (prs:List SrP):List Value:=prs.map fun x=>Value.ref x.1
theorem zoN {prs:List SrP} {i:Nat} (hi:i<prs.length):(refs prs).getD i Value.none=.ref prs[i].1:=by
 unfold refs
 rw [List.getD_eq_getElem?_getD,List.getElem?_map,List.getElem?_eq_getElem hi]
 rfl
theorem znE {prs:List SrP} (hh:∀ x∈prs,PV s.heap x):zpq (kas_ask prog w A (tuples' true) (refs prs)) (fun i=>srk (prs.getD i (0,0,0))) prs.length s:=by
 intro i j C hi hj q
 unfold kas_ask
 rw [zoN hi,zoN hj]
 obtain ⟨⟨ox,t0,t1,n,g1,g2,g3⟩,x0,x1⟩:=hh prs[i] (List.getElem_mem hi)
 obtain ⟨⟨oy,u0,u1,k,f1,f2,f3⟩,y0,y1⟩:=hh prs[j] (List.getElem_mem hj)
 have ei:prs.getD i (0,0,0)=prs[i]:=by rw [List.getD_eq_getElem?_getD,List.getElem?_eq_getElem hi];rfl
 have ej:prs.getD j (0,0,0)=prs[j]:=by rw [List.getD_eq_getElem?_getD,List.getElem?_eq_getElem hj];rfl
 simp only [ei,ej,srk] at q
 generalize prs[i]=x at *
 generalize prs[j]=y at *
 refine kat_lt g1 g3 f1 f3 ?_
 show KatLex prog w A true _ C [(Value.int x.2.1 t0,Value.int y.2.1 u0),(Value.int x.2.2 t1,Value.int y.2.2 u1)] 0 s
 refine kat_cons (wpAny_eqBool_int (kat_go (fun e=>kat_yes (kat_cons (wpAny_eqBool_int (kat_go (fun e2=>kat_yes (kat_nil ?_)) fun e2=>kat_no (kat_one _ _ (lt_int ?_)))))) fun e=>kat_no (oneLt_int ?_)))
 ·have e':x.2.1=y.2.1:=by simpa using e
  have e2':x.2.2=y.2.2:=by simpa using e2
  have h1:decide (64*x.2.1+x.2.2<64*y.2.1+y.2.2)=false:=decide_eq_false (by (first|lia|omega))
  rw [h1] at q
  exact q
 ·have e':x.2.1=y.2.1:=by simpa using e
  have h1:decide (64*x.2.1+x.2.2<64*y.2.1+y.2.2)=decide (x.2.2<y.2.2):=decide_eq_decide.mpr (by (first|lia|omega))
  rw [h1] at q
  exact q
 ·have e':x.2.1≠y.2.1:=by simpa using e
  have h1:decide (64*x.2.1+x.2.2<64*y.2.1+y.2.2)=decide (x.2.1<y.2.1):=decide_eq_decide.mpr (by (first|lia|omega))
  rw [h1] at q
  exact q
theorem zno {prs:List SrP} (hh:∀ x∈prs,PV s.heap x) (hne:0<prs.length) {Q:SortKind→Shared→Prop} (q:Q (tuples' true) s):wpAny (model prog w) A (keyKind' (refs prs).toArray) Q E s:=by
 have key:∀ (l:List SrP),(∀ x∈l,PV s.heap x)→∃ fs:List Value,fs.length=l.length∧KatTups s.heap (refs l) fs∧∀ v∈fs,∃ n t,v=.int n t:=by
  intro l
  induction l with
  | nil=>intro _;exact ⟨[],rfl,.nil,by simp⟩
  | cons x l ih =>
   intro h
   obtain ⟨fs,e1,e2,e3⟩:=ih fun y hy=>h y (List.mem_cons_of_mem _ hy)
   obtain ⟨⟨o,t0,t1,n,g1,g2,g3⟩,_⟩:=h x (List.mem_cons_self ..)
   refine ⟨.int x.2.1 t0::fs,by simp [e1],KatTups.cons g1 g2 g3 rfl e2,?_⟩
   intro v hv
   rcases List.mem_cons.mp hv with rfl | hv
   ·exact ⟨_,_,rfl⟩
   ·exact e3 v hv
 obtain ⟨fs,e1,e2,e3⟩:=key prs hh
 refine kat_kind (T:=.type "int") e2 (by (first|lia|omega)) (fun v hv=>?_) (by decide) ?_
 ·obtain ⟨n,t,rfl⟩:=e3 v hv
  exact Looks.of_pure rfl
 ·exact q
theorem zng {prs:List SrP} {p:Array Nat} (hp:Rg prs.length p) (hs:So (fun i=>srk (prs.reverse.getD i (0,0,0))) p prs.length) :
  ∃ prs',List.Perm prs' prs∧zlk prs'∧katRev true (p.toList.map fun i=>(katRev true (refs prs)).getD i Value.none)=refs prs':=by
 have hz:=hp.size
 have hin:∀ i∈p.toList,i<prs.length:=fun i hi=>by
  have:=(Array.perm_iff_toList_perm.mp hp).mem_iff.mp hi
  simpa using this
 refine ⟨(p.toList.map fun i=>prs.reverse.getD i (0,0,0)).reverse,?_,?_,?_⟩
 ·refine (List.reverse_perm _).trans ((List.Perm.map _ (Array.perm_iff_toList_perm.mp hp)).trans ?_)
  have:(List.toArray (List.range prs.length)).toList.map (fun i=>prs.reverse.getD i (0,0,0))=prs.reverse:=by
   apply List.ext_getElem?
   intro i
   rw [List.getElem?_map,List.toList_toArray]
   by_cases c:i<prs.length
   ·rw [List.getElem?_range c,Option.map_some,List.getD_eq_getElem?_getD]
    have:i<prs.reverse.length:=by rw [List.length_reverse];exact c
    rw [List.getElem?_eq_getElem this]
    rfl
   ·rw [List.getElem?_eq_none (by rw [List.length_range];(first|lia|omega)),List.getElem?_eq_none (by rw [List.length_reverse];(first|lia|omega))]
    rfl
  rw [this]
  exact List.reverse_perm _
 ·unfold zlk
  rw [List.pairwise_reverse,List.pairwise_iff_getElem]
  intro i j hi hj hij
  rw [List.length_map,Array.length_toList] at hi hj
  rw [List.getElem_map,List.getElem_map]
  have h:=hs i j (by (first|lia|omega)) (by (first|lia|omega))
  unfold kr at h
  rw [Array.getD_eq_getD_getElem?,Array.getD_eq_getD_getElem?,Array.getElem?_eq_getElem hi,Array.getElem?_eq_getElem hj] at h
  exact h
 ·show (List.map _ p.toList).reverse=_
  unfold refs
  rw [List.map_reverse,List.map_map]
  congr 1
  refine List.map_congr_left fun i hi=>?_
  have c:=hin i hi
  have c2:i<prs.reverse.length:=by rw [List.length_reverse];exact c
  show (prs.map fun x=>Value.ref x.1).reverse.getD i Value.none=Value.ref (prs.reverse.getD i (0,0,0)).1
  rw [← List.map_reverse,List.getD_eq_getElem?_getD,List.getD_eq_getElem?_getD,List.getElem?_map,List.getElem?_eq_getElem c2]
  rfl
theorem zhB {a:Addr} {prs:List SrP} {n:Nat} {P:PySem.Fin→Shared→Prop} (ho:s.heap.get? a=some (seqObj "list" (refs prs).toArray n)) (hh:∀ x∈prs,PV s.heap x∧x.1≠a) (h64:prs.length<64)
  (h:∀ prs',List.Perm prs' prs→zlk prs'→P (.done (.ret .none)) { s with heap:=sortedHeap s.heap a (refs prs) (refs prs').toArray }) :
  wpAny (model prog w) A (Builtin.«list.sort» ⟨[.ref a],[(Str.ofString "reverse",.bool true)]⟩) P E s:=by
 rw [list_sort_rev]
 have hlen:(refs prs).length=prs.length:=by unfold refs;rw [List.length_map]
 have ha:a<s.heap.objs.size:=Heap.lt_size ho
 refine wpAny_bind (listItems_at ho rfl ?_)
 refine wpAny_bind (listUpdate_at ho rfl ?_ (by rw [List.size_toArray,sizeLine_eq,hlen];(first|lia|omega)) (Nat.zero_le _))
 obtain ⟨e1,ho1⟩:∃ e1,(s.heap.update a (Obj.mapSeq fun _=>#[])).get? a=some (seqObj "list" #[] e1):=⟨_,get?_update_seq ho (fun _=>#[])⟩
 refine wpAny_bind (seqEpoch_at ho1 rfl ?_)
 refine wpAny_bind (wpAny_newTuple ?_ (by show (refs prs).length≤_;rw [hlen,sizeLine_eq];(first|lia|omega)))
 refine wpAny_bind (wpAny_newList ?_ (Nat.zero_le _))
 refine wpAny_holding ?_
 have ho6:(((s.heap.update a (Obj.mapSeq fun _=>#[])).push (seqObj "tuple" (refs prs).toArray 0)).push (seqObj "list" #[] 0)).get? a=some (seqObj "list" #[] e1):=by
  rw [Heap.get?_push_ne _ _ _ (by rw [size_push',Heap.size_update];exact Nat.ne_of_lt (Nat.lt_succ_of_lt ha)),Heap.get?_push_ne _ _ _ (by rw [Heap.size_update];exact Nat.ne_of_lt ha)]
  exact ho1
 have hh6:∀ x∈prs,PV (((s.heap.update a (Obj.mapSeq fun _=>#[])).push (seqObj "tuple" (refs prs).toArray 0)).push (seqObj "list" #[] 0)) x:=by
  intro x hx
  obtain ⟨⟨⟨o,t0,t1,m,g1,g2,g3⟩,b⟩,ne⟩:=hh x hx
  refine ⟨⟨o,t0,t1,m,?_,g2,g3⟩,b⟩
  have lt:=Heap.lt_size g1
  rw [Heap.get?_push_ne _ _ _ (by rw [size_push',Heap.size_update];exact Nat.ne_of_lt (Nat.lt_succ_of_lt lt)),Heap.get?_push_ne _ _ _ (by rw [Heap.size_update];exact Nat.ne_of_lt lt),Heap.get?_update_ne _ _ _ _ ne]
  exact g1
 show wpAny (model prog w) A _ P E { s with heap:=((s.heap.update a (Obj.mapSeq fun _=>#[])).push (seqObj "tuple" (refs prs).toArray 0)).push (seqObj "list" #[] 0) }
 dsimp only
 rw [if_pos rfl,if_pos rfl]
 refine wpAny_bind (wpAny_rule ?_)
 by_cases h2:(refs prs).toArray.size<2
 ·rw [if_pos h2,if_pos h2]
  refine wpAny_bind (wpAny_pure ?_)
  rw [StateT.run_pure]
  refine wpAny_bind (wpAny_pure ?_)
  dsimp only
  refine wpAny_bind (seqEpoch_at ho6 rfl ?_)
  have eo:(Array.map (fun x=>x.snd) (arrOf (SortSt.mk' general' ((refs prs).toArray.zip (refs prs).toArray).reverse #[] 7 none))).reverse=(refs prs).toArray:=by
   show (Array.map (fun x:Keyed=>x.snd) ((refs prs).toArray.zip (refs prs).toArray).reverse).reverse=_
   apply Array.toList_inj.mp
   rw [Array.toList_reverse,Array.toList_map,Array.toList_reverse,List.map_reverse,List.reverse_reverse,ksk_zip]
   exact List.map_snd_zip (Nat.le_refl _)
  rw [List.size_toArray,hlen] at h2
  refine wpAny_bind (listUpdate_at ho6 rfl ?_ (Nat.zero_le _) (by rw [if_pos rfl,eo,List.size_toArray,hlen,sizeLine_eq];(first|lia|omega)))
  simp only [bne_self_eq_false,Bool.false_eq_true,if_false]
  rw [if_pos trivial,eo]
  refine wpAny_pure (h prs (.refl _) ?_)
  match prs,h2 with
  | [],_=>exact .nil
  | [x],_=>exact List.pairwise_singleton _ _
  | _::_::_,h2=>simp at h2;(first|lia|omega)
 ·rw [if_neg h2,if_neg h2]
  rw [List.size_toArray,hlen] at h2
  refine wpAny_bind (zno (s:={ s with heap:=_ }) hh6 (by (first|lia|omega)) ?_)
  have hk:(kas_sort prs.length).kasWp (kas_ask prog w A (tuples' true) (refs prs.reverse)) (fun p s'=>s'={ s with heap:=((s.heap.update a (Obj.mapSeq fun _=>#[])).push (seqObj "tuple" (refs prs).toArray 0)).push (seqObj "list" #[] 0) }∧Rg prs.length p∧So (fun i=>srk (prs.reverse.getD i (0,0,0))) p prs.length) { s with heap:=((s.heap.update a (Obj.mapSeq fun _=>#[])).push (seqObj "tuple" (refs prs).toArray 0)).push (seqObj "list" #[] 0) }:=by
   refine zvd (R:=fun i=>srk (prs.reverse.getD i (0,0,0))) ?_ (by (first|lia|omega)) fun p' r1 r2=>⟨rfl,r1,r2⟩
   have:=znE (prog:=prog) (w:=w) (A:=A) (s:={ s with heap:=((s.heap.update a (Obj.mapSeq fun _=>#[])).push (seqObj "tuple" (refs prs).toArray 0)).push (seqObj "list" #[] 0) }) (prs:=prs.reverse) fun x hx=>hh6 x (List.mem_reverse.mp hx)
   rw [List.length_reverse] at this
   exact this
  have erev:refs prs.reverse=katRev true (refs prs):=by
   show _=(refs prs).reverse
   unfold refs
   rw [List.map_reverse]
  rw [erev] at hk
  have hl':(katRev true (refs prs)).length=prs.length:=by rw [kat_len,hlen]
  have epair:=kat_pairs (ks:=refs prs) (vs:=refs prs) true rfl
  rw [if_pos rfl] at epair
  rw [epair]
  refine wpAny_bind (wpAny_mono (kat_run (ks:=katRev true (refs prs)) (vs:=katRev true (refs prs)) (Q:=fun st' s'=>s'={ s with heap:=((s.heap.update a (Obj.mapSeq fun _=>#[])).push (seqObj "tuple" (refs prs).toArray 0)).push (seqObj "list" #[] 0) }∧failedOf st'=none∧∃ p:Array Nat,arrOf st'=p.map (kas_item ((List.toArray (katRev true (refs prs))).zip (List.toArray (katRev true (refs prs)))))∧Rg prs.length p∧So (fun i=>srk (prs.reverse.getD i (0,0,0))) p prs.length)
   rfl (by rw [hl'];(first|lia|omega)) (by rw [hl'];(first|lia|omega)) (G:=fun p s'=>s'={ s with heap:=((s.heap.update a (Obj.mapSeq fun _=>#[])).push (seqObj "tuple" (refs prs).toArray 0)).push (seqObj "list" #[] 0) }∧Rg prs.length p∧So (fun i=>srk (prs.reverse.getD i (0,0,0))) p prs.length) (fun p st' s' a1 a2 a3 a4=>⟨a4.1,a3,p,a2,a4.2⟩) (by rw [hl'];exact hk)) ?_ fun _ _ x=>x)
  rintro ⟨⟨⟩,st'⟩ s' ⟨rfl,hf,p,har,r1,r2⟩
  dsimp only
  have hout:=kat_snds rfl har
  obtain ⟨prs',q1,q2,q3⟩:=zng r1 r2
  have q4:=kat_outs true (p.toList.map fun i=>(katRev true (refs prs)).getD i Value.none)
  rw [if_pos rfl,q3] at q4
  refine wpAny_bind (seqEpoch_at ho6 rfl ?_)
  refine wpAny_bind (listUpdate_at ho6 rfl ?_ (Nat.zero_le _) (by rw [if_pos rfl,hout,q4,List.size_toArray];unfold refs;rw [List.length_map,q1.length_eq,sizeLine_eq];(first|lia|omega)))
  rw [hf]
  simp only [bne_self_eq_false,Bool.false_eq_true,if_false]
  rw [if_pos trivial,hout,q4]
  exact wpAny_pure (h prs' q1 q2)
theorem sorted_pairs {l:Addr} {prs:List SrP} {Q:Value→Shared→Prop} (hl:s.heap.IsList l (refs prs).toArray) (hh:∀ x∈prs,PV s.heap x) (h64:prs.length<64)
  (h:∀ prs',List.Perm prs' prs→zlk prs'→Q (.ref (s.heap.objs.size+1)) { s with heap:=sortedAll s.heap (refs prs) (refs prs').toArray }) :
  wpAny (model prog w) A (call (.builtin "sorted") [.ref l] [(Str.ofString "reverse",.bool true)]) Q E s:=by
 have hlen:(refs prs).length=prs.length:=by unfold refs;rw [List.length_map]
 refine call_function_entry_kw kind_sorted plain_sorted entry_sorted (args_sorted_rev _ _) ?_
 unfold Builtin.«sorted»
 refine wpAny_bind (m:=checkCount "sorted" 1 1 _) (wpAny_pure ?_)
 refine wpAny_bind (collect_list hl ?_ (by rw [hlen,sizeLine_eq];(first|lia|omega)))
 refine wpAny_bind (wpAny_newList ?_ (by rw [hlen,sizeLine_eq];(first|lia|omega)))
 have hsz:((s.heap.push (seqObj "list" #[] 0)).update s.heap.objs.size (Obj.mapSeq (·++(refs prs).toArray))).objs.size=s.heap.objs.size+1:=by
  rw [Heap.size_update,size_push']
 have hoL:(((s.heap.push (seqObj "list" #[] 0)).update s.heap.objs.size (Obj.mapSeq (·++(refs prs).toArray))).push (seqObj "list" (refs prs).toArray 0)).get? (s.heap.objs.size+1)=some (seqObj "list" (refs prs).toArray 0):=by
  rw [← hsz];exact Heap.get?_push_size _ rfl
 show wpAny _ _ _ _ _ { s with heap:=((s.heap.push (seqObj "list" #[] 0)).update s.heap.objs.size (Obj.mapSeq (·++(refs prs).toArray))).push (seqObj "list" (refs prs).toArray 0) }
 rw [hsz]
 refine wpAny_bind (wpAny_holding (wpAny_call_entry_kw slot_list_sort ⟨_,hoL,rfl⟩ entry_list_sort (zhB (s:={ s with heap:=((s.heap.push (seqObj "list" #[] 0)).update s.heap.objs.size (Obj.mapSeq (·++(refs prs).toArray))).push (seqObj "list" (refs prs).toArray 0) }) hoL (fun x hx=>?_) h64 fun prs' q1 q2=>⟨_,rfl,?_⟩) (args_list_sort_rev _ _)))
 ·obtain ⟨⟨o,t0,t1,m,g1,g2,g3⟩,b⟩:=hh x hx
  have lt:=Heap.lt_size g1
  refine ⟨⟨⟨o,t0,t1,m,?_,g2,g3⟩,b⟩,Nat.ne_of_lt (Nat.lt_succ_of_lt lt)⟩
  rw [Heap.get?_push_ne _ _ _ (by rw [hsz];exact Nat.ne_of_lt (Nat.lt_succ_of_lt lt)),Heap.get?_update_ne _ _ _ _ (Nat.ne_of_lt lt),Heap.get?_push_ne _ _ _ (Nat.ne_of_lt lt)]
  exact g1
 ·exact wpAny_pure ⟨_,rfl,h prs' q1 q2⟩
end
end L2.Srt
namespace L2
open PySem PySem.Spec PyProof.Rows
def zmS (K:PySem.W.Frag):List V→Hp→VK→Prop:=fun xs H Q=>∃ (p:Addr) (prs:List SrP),xs=[.ref p]∧SqL K H p (prs.map fun x=>V.ref x.1)∧(∀ x∈prs,H x.1=some (.tup [.int x.2.1,.int x.2.2])∧0≤x.2.2∧x.2.2<64)∧prs.length<64 ∧
 ∀ (l:Addr) (prs':List SrP),H l=none→prs'.Perm prs→zlk prs'→Q (.ref l) (upd H l (.lst (prs'.map fun x=>V.ref x.1)))
section
variable {X:Cx} {e ve:Expr} {t:TA} {pos p kp:Pos}
theorem zlv:∀ {prs:List SrP} {us:List Value},zcc (prs.map fun x=>V.ref x.1) us→us=Srt.refs prs
 | [],_,r=>by rw [List.map_nil] at r;cases r;rfl
 | x::prs,_,r=>by
  rw [List.map_cons] at r
  cases r with
  | cons h t =>
   have h':_=Value.ref x.1:=h
   rw [h',zlv t]
   rfl
theorem zle:∀ (prs:List SrP),zcc (prs.map fun x=>V.ref x.1) (Srt.refs prs)
 | []=>.nil
 | x::prs=>.cons rfl (zle prs)
theorem zqn (hg:Gl X "sorted") (hm:X.mg "sorted"=none) (ha:PA X [e] t) (hv:PE X ve (tC (.bl true)))
  (he:backTo pos (starEach [e] X.env)=(false,eval e X.env)::backTo pos (starEach [] X.env):=by rfl) (hpl:(backTo pos (starEach [e] X.env)).any (·.1)=false:=by rfl) :
  PE X (.Call (.Name "sorted" p) [e] [⟨some "reverse",ve,kp⟩] pos) (tCB (zmS X.K) t):=by
 intro pins s σ H Q I h
 refine wpAny_Call_Name_kw (zgF I hg hm PyProof.Rows.boot_sorted ?_ (by decide) (by decide))
 refine PyProof.Rows.callWith_kw (thn (ha pos pins s σ H _ I h) fun us s1 hQ'=>?_) he hpl
 obtain ⟨vs,H1,I1,r1,q1⟩:=hQ'
 refine PyProof.Rows.kws_cons (thn (hv pins s1 σ H1 (fun v H2=>H2=H1∧v=.bl true) I1 ⟨rfl,rfl⟩) fun b s2 hQ'=>?_)
 obtain ⟨bv,H2,I2,rb,hH,hb⟩:=hQ'
 subst hH hb
 obtain rfl:b=Value.bool true:=rb
 refine PyProof.Rows.kws_nil ?_
 obtain ⟨a,prs,rfl,hp,hh,h64,q⟩:=q1
 obtain ⟨u,rfl,rx⟩:=zlh r1
 cases rx
 obtain ⟨its,rv,pl,hz⟩:=I2.list hp
 have ei:=zlv rv
 subst ei
 refine Srt.sorted_pairs pl.isList (fun x hx=>?_) h64 fun prs' q1 q2=>?_
 ·obtain ⟨hx,b⟩:=hh x hx
  obtain ⟨its2,r2,⟨o,g1,g2,n,g3⟩,_⟩:=I2.tuple (SqT.of hx)
  cases r2 with
  | cons y1 r3 =>
   cases r3 with
   | cons y2 r4 =>
    cases r4
    obtain ⟨t1,rfl⟩:=y1
    obtain ⟨t2,rfl⟩:=y2
    exact ⟨⟨o,t1,t2,n,g1,g2,g3⟩,b⟩
 ·obtain ⟨ep,he2⟩:=sortedAll_at s2.heap (Srt.refs prs) (Srt.refs prs').toArray
  refine ⟨.ref _,_,I2.laid (t':=s2.toks) (fun b o hb=>sortedAll_old hb) (Nat.le_succ _) (show zcG X.prog X.w _ _ _ (.lst (prs'.map fun x=>V.ref x.1)) from ⟨?_,Srt.refs prs',ep,zle prs',he2⟩),rfl,q _ _ (I2.hok.fresh (Nat.le_succ _)) q1 q2⟩
  rw [List.length_map,q1.length_eq,sizeLine_eq]
  (first|lia|omega)
end
end L2
namespace L2
open PySem PySem.Spec PyProof.Rows
def rEqI (K:PySem.W.Frag):R2:=fun x y H Q=>∃ (a b:Addr) (ns ms:List Int),x=.ref a∧y=.ref b∧SqL K H a (ns.map V.int)∧SqL K H b (ms.map V.int)∧Q (.bl (decide (ns=ms))) H
section
variable {X:Cx}
theorem zhs:∀ {ns:List Int} {us:List Value},zcc (ns.map V.int) us→IntsAre us ns
 | [],_,r=>by rw [List.map_nil] at r;cases r;exact .nil
 | n::ns,_,r=>by
  rw [List.map_cons] at r
  cases r with
  | cons h t =>
   obtain ⟨t',rfl⟩:=h
   exact .cons _ _ (zhs t)
theorem zun (hu:X.A.units+64<cLine):OpR X (compareOp .Eq) (rEqI X.K):=by
 intro pins s σ H x y v u Q I rx ry h
 obtain ⟨a,b,ns,ms,rfl,rfl,ha,hb,q⟩:=h
 cases rx
 cases ry
 obtain ⟨us,r1,p1,_⟩:=I.list ha
 obtain ⟨vs,r2,p2,_⟩:=I.list hb
 exact PySem.W.ke_eq_ints p1.isList p2.isList (zhs r1) (zhs r2) hu ⟨.bl _,H,I,rfl,q⟩
end
end L2
namespace L2
open PySem
theorem zsU {v:V} {σ:List (Option V)} {H:Hp} {Q:VK}:zac 0 (some v::σ) H Q=Q v H:=by simp [zac]
theorem zsf {x0:Option V} {v:V} {σ:List (Option V)} {H:Hp} {Q:VK}:zac 1 (x0::some v::σ) H Q=Q v H:=by simp [zac]
theorem zsB {x0 x1:Option V} {v:V} {σ:List (Option V)} {H:Hp} {Q:VK}:zac 2 (x0::x1::some v::σ) H Q=Q v H:=by simp [zac]
theorem ztE {x0 x1 x2:Option V} {v:V} {σ:List (Option V)} {H:Hp} {Q:VK}:zac 3 (x0::x1::x2::some v::σ) H Q=Q v H:=by simp [zac]
theorem zsw {x0 x1 x2 x3:Option V} {v:V} {σ:List (Option V)} {H:Hp} {Q:VK}:zac 4 (x0::x1::x2::x3::some v::σ) H Q=Q v H:=by simp [zac]
theorem zs2 {x0 x1 x2 x3 x4:Option V} {v:V} {σ:List (Option V)} {H:Hp} {Q:VK}:zac 5 (x0::x1::x2::x3::x4::some v::σ) H Q=Q v H:=by simp [zac]
theorem zsg {x0 x1 x2 x3 x4 x5:Option V} {v:V} {σ:List (Option V)} {H:Hp} {Q:VK}:zac 6 (x0::x1::x2::x3::x4::x5::some v::σ) H Q=Q v H:=by simp [zac]
theorem ztP {x0 x1 x2 x3 x4 x5 x6:Option V} {v:V} {σ:List (Option V)} {H:Hp} {Q:VK}:zac 7 (x0::x1::x2::x3::x4::x5::x6::some v::σ) H Q=Q v H:=by simp [zac]
theorem zs8 {x0 x1 x2 x3 x4 x5 x6 x7:Option V} {v:V} {σ:List (Option V)} {H:Hp} {Q:VK}:zac 8 (x0::x1::x2::x3::x4::x5::x6::x7::some v::σ) H Q=Q v H:=by simp [zac]
theorem zsd {x0 x1 x2 x3 x4 x5 x6 x7 x8:Option V} {v:V} {σ:List (Option V)} {H:Hp} {Q:VK}:zac 9 (x0::x1::x2::x3::x4::x5::x6::x7::x8::some v::σ) H Q=Q v H:=by simp [zac]
theorem zrj {x0 x1 x2 x3 x4 x5 x6 x7 x8 x9 x10:Option V} {v:V} {σ:List (Option V)} {H:Hp} {Q:VK}:zac 11 (x0::x1::x2::x3::x4::x5::x6::x7::x8::x9::x10::some v::σ) H Q=Q v H:=by simp [zac]
theorem zq1 {x0 x1 x2 x3 x4 x5 x6 x7 x8 x9 x10 x11:Option V} {v:V} {σ:List (Option V)} {H:Hp} {Q:VK}:zac 12 (x0::x1::x2::x3::x4::x5::x6::x7::x8::x9::x10::x11::some v::σ) H Q=Q v H:=by simp [zac]
theorem zrm {x0 x1 x2 x3 x4 x5 x6 x7 x8 x9 x10 x11 x12:Option V} {v:V} {σ:List (Option V)} {H:Hp} {Q:VK}:zac 13 (x0::x1::x2::x3::x4::x5::x6::x7::x8::x9::x10::x11::x12::some v::σ) H Q=Q v H:=by simp [zac]
theorem zpU {x0 x1 x2 x3 x4 x5 x6 x7 x8 x9 x10 x11 x12 x13:Option V} {v:V} {σ:List (Option V)} {H:Hp} {Q:VK}:zac 14 (x0::x1::x2::x3::x4::x5::x6::x7::x8::x9::x10::x11::x12::x13::some v::σ) H Q=Q v H:=by simp [zac]
theorem zqG {x0:Option V} {v:V} {σ:List (Option V)} {H:Hp} {Q:St→Hp→Prop}:zak 0 v (x0::σ) H Q=Q (some v::σ) H:=rfl
theorem zro {x0 x1:Option V} {v:V} {σ:List (Option V)} {H:Hp} {Q:St→Hp→Prop}:zak 1 v (x0::x1::σ) H Q=Q (x0::some v::σ) H:=rfl
theorem zq0 {x0 x1 x2:Option V} {v:V} {σ:List (Option V)} {H:Hp} {Q:St→Hp→Prop}:zak 2 v (x0::x1::x2::σ) H Q=Q (x0::x1::some v::σ) H:=rfl
theorem zq7 {x0 x1 x2 x3:Option V} {v:V} {σ:List (Option V)} {H:Hp} {Q:St→Hp→Prop}:zak 3 v (x0::x1::x2::x3::σ) H Q=Q (x0::x1::x2::some v::σ) H:=rfl
theorem zqI {x0 x1 x2 x3 x4:Option V} {v:V} {σ:List (Option V)} {H:Hp} {Q:St→Hp→Prop}:zak 4 v (x0::x1::x2::x3::x4::σ) H Q=Q (x0::x1::x2::x3::some v::σ) H:=rfl
theorem zqY {x0 x1 x2 x3 x4 x5:Option V} {v:V} {σ:List (Option V)} {H:Hp} {Q:St→Hp→Prop}:zak 5 v (x0::x1::x2::x3::x4::x5::σ) H Q=Q (x0::x1::x2::x3::x4::some v::σ) H:=rfl
theorem zp6 {x0 x1 x2 x3 x4 x5 x6:Option V} {v:V} {σ:List (Option V)} {H:Hp} {Q:St→Hp→Prop}:zak 6 v (x0::x1::x2::x3::x4::x5::x6::σ) H Q=Q (x0::x1::x2::x3::x4::x5::some v::σ) H:=rfl
theorem zqZ {x0 x1 x2 x3 x4 x5 x6 x7:Option V} {v:V} {σ:List (Option V)} {H:Hp} {Q:St→Hp→Prop}:zak 7 v (x0::x1::x2::x3::x4::x5::x6::x7::σ) H Q=Q (x0::x1::x2::x3::x4::x5::x6::some v::σ) H:=rfl
theorem zpY {x0 x1 x2 x3 x4 x5 x6 x7 x8:Option V} {v:V} {σ:List (Option V)} {H:Hp} {Q:St→Hp→Prop}:zak 8 v (x0::x1::x2::x3::x4::x5::x6::x7::x8::σ) H Q=Q (x0::x1::x2::x3::x4::x5::x6::x7::some v::σ) H:=rfl
theorem zqF {x0 x1 x2 x3 x4 x5 x6 x7 x8 x9:Option V} {v:V} {σ:List (Option V)} {H:Hp} {Q:St→Hp→Prop}:zak 9 v (x0::x1::x2::x3::x4::x5::x6::x7::x8::x9::σ) H Q=Q (x0::x1::x2::x3::x4::x5::x6::x7::x8::some v::σ) H:=rfl
theorem znP {x0 x1 x2 x3 x4 x5 x6 x7 x8 x9 x10:Option V} {v:V} {σ:List (Option V)} {H:Hp} {Q:St→Hp→Prop}:zak 10 v (x0::x1::x2::x3::x4::x5::x6::x7::x8::x9::x10::σ) H Q=Q (x0::x1::x2::x3::x4::x5::x6::x7::x8::x9::some v::σ) H:=rfl
theorem zo4 {x0 x1 x2 x3 x4 x5 x6 x7 x8 x9 x10 x11:Option V} {v:V} {σ:List (Option V)} {H:Hp} {Q:St→Hp→Prop}:zak 11 v (x0::x1::x2::x3::x4::x5::x6::x7::x8::x9::x10::x11::σ) H Q=Q (x0::x1::x2::x3::x4::x5::x6::x7::x8::x9::x10::some v::σ) H:=rfl
theorem znR {x0 x1 x2 x3 x4 x5 x6 x7 x8 x9 x10 x11 x12:Option V} {v:V} {σ:List (Option V)} {H:Hp} {Q:St→Hp→Prop}:zak 12 v (x0::x1::x2::x3::x4::x5::x6::x7::x8::x9::x10::x11::x12::σ) H Q=Q (x0::x1::x2::x3::x4::x5::x6::x7::x8::x9::x10::x11::some v::σ) H:=rfl
theorem zpp {x0 x1 x2 x3 x4 x5 x6 x7 x8 x9 x10 x11 x12 x13:Option V} {v:V} {σ:List (Option V)} {H:Hp} {Q:St→Hp→Prop}:zak 13 v (x0::x1::x2::x3::x4::x5::x6::x7::x8::x9::x10::x11::x12::x13::σ) H Q=Q (x0::x1::x2::x3::x4::x5::x6::x7::x8::x9::x10::x11::x12::some v::σ) H:=rfl
theorem zoh {x0 x1 x2 x3 x4 x5 x6 x7 x8 x9 x10 x11 x12 x13 x14:Option V} {v:V} {σ:List (Option V)} {H:Hp} {Q:St→Hp→Prop}:zak 14 v (x0::x1::x2::x3::x4::x5::x6::x7::x8::x9::x10::x11::x12::x13::x14::σ) H Q=Q (x0::x1::x2::x3::x4::x5::x6::x7::x8::x9::x10::x11::x12::x13::some v::σ) H:=rfl
theorem rI_c {C:Int→Int→Prop} {g:Int→Int→V} {a b:Int} {H:Hp} {Q:VK}:rI C g (.int a) (.int b) H Q=(C a b∧Q (g a b) H):=by simp [rI]
theorem rI0_c {g:Int→Int→V} {a b:Int} {H:Hp} {Q:VK}:rI0 g (.int a) (.int b) H Q=Q (g a b) H:=by simp [rI0]
theorem zu2 {K:PySem.W.Frag} {p:Addr} {i:Int} {H:Hp} {Q:VK}:zcO K (.ref p) (.int i) H Q=∃ xs,SqL K H p xs∧∃ v,atI xs i=some v∧Q v H:=by simp [zcO]
theorem zuk {K:PySem.W.Frag} {p:Addr} {i:Int} {H:Hp} {Q:VK}:zil K (.ref p) (.int i) H Q=∃ xs,SqT K H p xs∧∃ v,atI xs i=some v∧Q v H:=by simp [zil]
theorem ex_bl {c:Bool} {Q:Bool→Prop}:(∃ k,V.bl c=V.bl k∧Q k)=Q c:=by simp
theorem zuV {c:Int} {Q:Int→Prop}:(∃ k,V.int c=V.int k∧Q k)=Q c:=by simp
theorem zui {c:Addr} {Q:Addr→Prop}:(∃ k,V.ref c=V.ref k∧Q k)=Q c:=by simp
theorem zuO {c:Int} {Q:Int→Prop}:(∃ k,[V.int c]=[V.int k]∧Q k)=Q c:=by simp
theorem zuE {c:Addr} {Q:Addr→Prop}:(∃ k,[V.ref c]=[V.ref k]∧Q k)=Q c:=by simp
end L2
namespace L2
open PySem PySem.Spec PyProof.Rows
section
variable {α β:Type}
def Kd:Sem α→Prop
 | .pure _=>True
 | .raise _=>True
 | .unsupported _=>True
 | .finish _=>True
 | .rule _ k=>Kd (k ())
 | .at _ k=>Kd (k ())
 | .load _ _ k=>∀ o,Kd (k o)
 | .update _ _ f k=>(∀ o:Obj,(f o).dict=o.dict∧(f o).isFreed=o.isFreed)∧Kd (k ())
 | .alloc _ k=>∀ a,Kd (k a)
 | .loadIfAlive _ k=>∀ o,Kd (k o)
 | .point _ k=>Kd (k ())
 | .fresh k=>∀ n,Kd (k n)
 | .ask k=>∀ n,Kd (k n)
 | .handled _ k=>∀ n,Kd (k n)
 | .stack k=>∀ l,Kd (k l)
 | .thread k=>∀ n,Kd (k n)
 | _=>False
theorem zaP {f:α→Sem β} (hf:∀ x,Kd (f x)):∀ {t:Sem α},Kd t→Kd (t >>= f)
 | .pure a,_=>hf a
 | .raise _,_=>trivial
 | .unsupported _,_=>trivial
 | .finish _,_=>trivial
 | .rule _ k,h=>zaP hf (t:=k ()) h
 | .at _ k,h=>zaP hf (t:=k ()) h
 | .load _ _ k,h=>fun o=>zaP hf (t:=k o) (h o)
 | .update _ _ _ k,h=>⟨h.1,zaP hf (t:=k ()) h.2⟩
 | .alloc _ k,h=>fun o=>zaP hf (t:=k o) (h o)
 | .loadIfAlive _ k,h=>fun o=>zaP hf (t:=k o) (h o)
 | .point _ k,h=>zaP hf (t:=k ()) h
 | .fresh k,h=>fun o=>zaP hf (t:=k o) (h o)
 | .ask k,h=>fun o=>zaP hf (t:=k o) (h o)
 | .handled _ k,h=>fun o=>zaP hf (t:=k o) (h o)
 | .stack k,h=>fun o=>zaP hf (t:=k o) (h o)
 | .thread k,h=>fun o=>zaP hf (t:=k o) (h o)
 | .register ..,h=>h.elim
 | .choose ..,h=>h.elim
 | .os ..,h=>h.elim
 | .call ..,h=>h.elim
 | .newGen ..,h=>h.elim
 | .genState ..,h=>h.elim
 | .resume ..,h=>h.elim
 | .yield ..,h=>h.elim
 | .fork ..,h=>h.elim
 | .await ..,h=>h.elim
def zkN (e:Addr) (od:Option Addr) (h:Heap):Prop:=∃ o,h.get? e=some o∧o.dict=od
theorem zgo {M:Model} {Γ:PySem.Ctx} {Q:α→Pos→Shared→Prop} {E:Value→Pos→Shared→Prop} {e:Addr} {od:Option Addr}:∀ {t:Sem α} {p:Pos} {s:Shared},Kd t→zkN e od s.heap→Sem.wp M Γ t Q E p s →
  Sem.wp M Γ t (fun a p s'=>Q a p s'∧zkN e od s'.heap) E p s
 | .pure _,_,_,_,d,h=>⟨h,d⟩
 | .raise _,_,_,_,_,h=>h
 | .unsupported _,_,_,_,_,h=>h
 | .finish _,_,_,_,_,h=>h
 | .rule _ k,_,_,c,d,h=>zgo (t:=k ()) c d h
 | .at _ k,_,_,c,d,h=>zgo (t:=k ()) c d h
 | .load _ _ k,_,_,c,d,⟨o,ho,h⟩=>⟨o,ho,zgo (t:=k o) (c o) d h⟩
 | .update a _ f k,p,s,c,d,⟨hi,h⟩=>by
  refine ⟨hi,zgo (t:=k ()) c.2 ?_ h⟩
  obtain ⟨o,ho,hd⟩:=d
  by_cases ea:a=e
  ·subst ea
   have nf:o.isFreed=false:=(Heap.get?_some_iff.mp ho).2
   exact ⟨f o,Heap.get?_update_self f ho (by rw [(c.1 o).2];exact nf),by rw [(c.1 o).1];exact hd⟩
  ·exact ⟨o,(Heap.get?_update_other _ f ea).trans ho,hd⟩
 | .alloc o k,p,s,c,⟨o',ho,hd⟩,h=>zgo (t:=k _) (c _) ⟨o',Heap.get?_push_of_some _ ho,hd⟩ h
 | .loadIfAlive _ k,_,_,c,d,h=>zgo (t:=k _) (c _) d h
 | .point _ k,_,_,c,d,h=>zgo (t:=k ()) c d h
 | .fresh k,_,_,c,d,h=>zgo (t:=k _) (c _) d h
 | .ask k,_,_,c,d,h=>zgo (t:=k _) (c _) d h
 | .handled _ k,_,_,c,d,h=>zgo (t:=k _) (c _) d h
 | .stack k,_,_,c,d,h=>zgo (t:=k _) (c _) d h
 | .thread k,_,_,c,d,h=>zgo (t:=k _) (c _) d h
 | .register ..,_,_,c,_,_=>c.elim
 | .choose ..,_,_,c,_,_=>c.elim
 | .os ..,_,_,c,_,_=>c.elim
 | .call ..,_,_,c,_,_=>c.elim
 | .newGen ..,_,_,c,_,_=>c.elim
 | .genState ..,_,_,c,_,_=>c.elim
 | .resume ..,_,_,c,_,_=>c.elim
 | .yield ..,_,_,c,_,_=>c.elim
 | .fork ..,_,_,c,_,_=>c.elim
 | .await ..,_,_,c,_,_=>c.elim
theorem ziX {M:Model} {A:Around} {t:Sem α} {Q:α→Shared→Prop} {E:Value→Shared→Prop} {s:Shared} {e:Addr} {od:Option Addr} (c:Kd t) (d:zkN e od s.heap) (h:wpAny M A t (fun a s'=>zkN e od s'.heap→Q a s') E s):wpAny M A t Q E s:=fun Γ p hΓ =>
 Sem.wp_mono M Γ t (fun _ _ _ z=>z.1 z.2) (fun _ _ _ z=>z) p s (zgo c d (h Γ p hΓ))
end
theorem zkJ (f:Array Value→Array Value) (o:Obj):(Obj.mapFields f o).dict=o.dict∧(Obj.mapFields f o).isFreed=o.isFreed:=by
 obtain ⟨c,d,dat,sl⟩:=o
 cases dat <;> exact ⟨rfl,rfl⟩
theorem zci {α:Type} (a:α):Kd (pure a:Sem α):=trivial
theorem zfn {α:Type} (w:String):Kd (unsupported w:Sem α):=trivial
theorem zmn (a:Addr):Kd (load a):=fun _=>trivial
theorem zjU:Kd stack:=fun _=>trivial
theorem zrf (o:Obj):Kd (alloc o):=fun _=>trivial
theorem zrM {a:Addr} {f:Obj→Obj} (h:∀ o:Obj,(f o).dict=o.dict∧(f o).isFreed=o.isFreed):Kd (update a f):=⟨h,trivial⟩
theorem zkz {α:Type} {c:Prop} [Decidable c] {a b:Sem α} (h1:Kd a) (h2:Kd b):Kd (if c then a else b):=by
 split
 ·exact h1
 ·exact h2
theorem zg7 (v:Value) (i:Nat):Kd (field v i):=by
 unfold field fieldsOf
 refine zaP (fun x=>?_) ?_
 ·split
  ·exact zci _
  ·exact zfn _
 ·split
  ·refine zaP (fun o=>?_) (zmn _)
   split
   ·exact zci _
   ·exact zfn _
  ·exact zfn _
theorem zfJ (v:Value) (i:Nat) (x:Value):Kd (setField v i x):=by
 unfold setField updateField
 split
 ·refine zaP (fun o=>?_) (zmn _)
  split
  ·exact zkz (zrM (zkJ _)) (zfn _)
  ·exact zfn _
 ·exact zfn _
theorem zlq (ty:String) (vs:List Value):Kd (newFields ty vs):=by
 unfold newFields newObj newObjAsIs
 simp only
 split
 ·exact zfn _
 ·exact zaP (fun _=>zci _) (zrf _)
theorem zft:∀ l:List Env,Kd (readyFrames l)
 | []=>trivial
 | env::outer=>by
  have ih:=zft outer
  unfold readyFrames
  split
  ·refine zaP (fun o=>?_) (zmn _)
   refine zkz (zci _) ?_
   refine zaP (fun im=>?_) ?_
   ·refine zaP (fun bk=>?_) ?_
    ·exact zaP (fun _=>ih) (zrM fun o=>⟨rfl,by obtain ⟨c,d,dat,sl⟩:=o;cases dat <;> rfl⟩)
    ·unfold keptBack underTheClaimsCaller
     split
     ·refine zkz (zci _) ?_
      exact zaP (fun _=>zci _) (zaP (fun _=>zci _) zjU)
     ·exact zci _
   ·unfold behindIsImport
    refine zkz (zci _) (zkz (zci _) ?_)
    exact zaP (fun _=>zci _) (zg7 _ _)
  ·exact zfn _
theorem znD (env:Env):Kd (PySem.frameOf env):=by
 unfold PySem.frameOf frameEnvs
 refine zaP (fun x=>?_) (zaP (fun _=>zci _) zjU)
 refine zaP (fun y=>?_) ?_
 ·split
  ·exact zci _
  ·exact zfn _
 ·unfold frameObject
  split
  ·exact zci _
  ·exact zaP (fun _=>zci _) (zft _)
theorem zhv (f:Addr) (b:Bool):Kd (entryPlaceOf f b):=by
 unfold entryPlaceOf
 refine zaP (fun x=>?_) zjU
 split
 ·exact zci _
 ·exact zci _
theorem zgN (e:Value) (env:Env):Kd (noteFrame e env):=by
 unfold noteFrame EntryCells.newEntry
 split
 ·refine zaP (fun head=>?_) (zg7 _ _)
  have rest:∀ f:Addr,Kd (do let a ← PySem.frameOf env;let pl ← entryPlaceOf f (head != .none);let b ← newFields "traceback" ([head,a,.none,rawInt f,.none]++(if pl.isEmpty then List.replicate 6 .none else pl));setField e 1 b):=fun f =>
   zaP (fun _=>zaP (fun _=>zaP (fun _=>zfJ _ _ _) (zlq _ _)) (zhv _ _)) (znD _)
  refine zkz ?_ (rest _)
  refine zaP (fun x=>zkz (zci _) ?_) (zg7 _ _)
  exact zaP (fun _=>rest _) (zfJ _ _ _)
 ·exact zfn _
theorem zeL (e:Value) (f:Option Addr):Kd (setFlight e f):=by
 unfold setFlight
 exact zaP (fun _=>zkz (zfJ _ _ _) (zci _)) (zg7 _ _)
theorem zgp (env:Env) (e:Value):Kd (leaving env e):=by
 unfold leaving
 exact zaP (fun _=>zeL _ _) (zgN _ _)
structure ExI (K:PySem.W.Frag) (C fI:Addr):Prop where
 lk:∃ nm q N bs bm sn sub ab col dd k0 k1 k2 k3 k5,K.lookup C=some (excClassObj nm q C N bs bm true sn sub ab col dd k0 k1 k2 k3 k5 "ValueError.__new__")∧PySem.W.tailIn K zes bm=true
 ini:PySem.W.findIn K (.ref C) "__init__"=some (some (.ref fI))
 fn:PySem.W.isFn K (.ref fI)=true
 kp:PySem.W.keepIn K (.ref C)=true
 mo:PySem.W.mroIn K C (.type "object")=some true
 sa:PySem.W.findIn K (.ref C) "__setattr__"=some (some (.builtin "object.__setattr__"))
section
variable {K:PySem.W.Frag} {prog:Program} {w:World} {A:Around} {E:Value→Shared→Prop} {h:Heap} {g:Array GenState} {d:Drawn} {t:Nat} {os:OsState} {C fI:Addr} {us:List Value}
theorem zsr {bm:List Value} {nm q:Str} {N:Addr} {bs:List Value} {hdct:Bool} {sn:List Str} {sub:List Value} {ab:Bool} {col:Option Bool} {dd:Option Addr} {k0 k1 k2 k3 k5:Option Value} {Q:Fin→Shared→Prop} (X:K.In h) (Z:ExI K C fI)
  (kC:h.get? C=some (excClassObj nm q C N bs bm hdct sn sub ab col dd k0 k1 k2 k3 k5 "ValueError.__new__")) (T:OwnTail h zes bm) (hl:us.length≤sizeLine)
  (hq:∀ h1 x,x=h.objs.size+1→Heap.MadeExcOf h h1 x (.ref C) us→wpAny (model prog w) A (call (.ref fI) (.ref x::us)) (fun r s'=>r=.none∧Q (.done (.ret (.ref x))) s') E ⟨h1,g,d,t,os⟩) :
  wpAny (model prog w) A (Builtin.«type.__call__» ⟨.ref C::us,[]⟩) Q E ⟨h,g,d,t,os⟩:=by
 have F:=PySem.F.excBase_ValueError
 repeat (first | (with_reducible refine wpAny_loadPart_at kC ?_) | (with_reducible refine wpAny_madeBy_exc kC ?_) | wp_step)
 refine codeAny_call_builtin_code (Code.quiet_builtin _ F.quiet) (wpAny_check_new_subT F T kC (codeAny_exc_new_subT F T kC ?_ hl))
 show wpAny _ _ _ _ _ _
 have st:∀ b o,h.get? b=some o→((h.push { cls:=.type "tuple",data:=.seq us.toArray }).push { cls:=.ref C,data:=.fields #[.ref h.objs.size,.none,.none,.none,.bool false,.none] }).get? b=some o :=
  fun b o e=>Heap.get?_push_of_some _ (Heap.get?_push_of_some _ e)
 have gx:((h.push { cls:=.type "tuple",data:=.seq us.toArray }).push { cls:=.ref C,data:=.fields #[.ref h.objs.size,.none,.none,.none,.bool false,.none] }).get? (h.objs.size+1) =
   some { cls:=.ref C,data:=.fields #[.ref h.objs.size,.none,.none,.none,.bool false,.none] }:=by heap_get
 have gt:((h.push { cls:=.type "tuple",data:=.seq us.toArray }).push { cls:=.ref C,data:=.fields #[.ref h.objs.size,.none,.none,.none,.bool false,.none] }).get? h.objs.size =
   some { cls:=.type "tuple",data:=.seq us.toArray }:=Heap.get?_push_of_some _ (Heap.get?_push_at rfl rfl)
 generalize ((h.push { cls:=.type "tuple",data:=.seq us.toArray }).push { cls:=.ref C,data:=.fields #[.ref h.objs.size,.none,.none,.none,.bool false,.none] })=h1 at st gx gt ⊢
 have X1:K.In h1:=fun a o e=>st a o (X a o e)
 have k1:=st _ _ kC
 have LI:=PySem.W.looks_findIn (M:=model prog w) X1 Z.ini
 have cC:(Value.ref C::bm).contains (.ref C)=true:=by simp
 unfold isInstance
 repeat (first | (with_reducible refine wpAny_loadPart_at gx ?_) | (with_reducible refine wpAny_isSubtype_exc k1 ?_;rw [cC]) | (with_reducible refine LI.at ?_) | wp_step)
 refine (PySem.W.bind_fn (M:=model prog w) X1 (.ref (h.objs.size+1)) (beq_iff_eq.mp Z.fn)).at ?_
 refine wpAny_bind (wpAny_mono (hq h1 (h.objs.size+1) rfl ⟨st,Heap.get?_none_of_le (Nat.le_succ _),h.objs.size,gx,Heap.get?_none_of_le (Nat.le_refl _),gt⟩) (fun r s' z=>?_) fun _ _ z=>z)
 obtain ⟨rfl,z⟩:=z
 refine wpAny_pure ?_
 wp_walk
 exact z
theorem ztM {Q:Value→Shared→Prop} (X:K.In h) (Z:ExI K C fI) (hl:us.length≤sizeLine)
  (hq:∀ h1 x,x=h.objs.size+1→Heap.MadeExcOf h h1 x (.ref C) us→wpAny (model prog w) (A.under (.builtin "type.__call__" ⟨.ref C::us,[]⟩)) (call (.ref fI) (.ref x::us)) (fun r s'=>r=.none∧Q (.ref x) s') E ⟨h1,g,d,t,os⟩) :
  wpAny (model prog w) A (call (.ref C) us) Q E ⟨h,g,d,t,os⟩:=by
 obtain ⟨nm,q,N,bs,bm,sn,sub,ab,col,dd,k0,k1,k2,k3,k5,lk,tl⟩:=Z.lk
 have kC:=X _ _ lk
 have l1:=tc_lookup
 have l2:=tc_bind (.ref C)
 have l3:(⟨h,g,d,t,os⟩:Shared).TypeIs (.ref C) "type":=⟨_,kC,rfl⟩
 refine wpAny_call (codeAny_of_tree ?_)
 show wpAny _ _ (callAny (.ref C) _) _ _ _
 repeat (any_goals (first | assumption | (with_reducible refine wpAny_loadPart_at kC ?_) | wp_step))
 refine ⟨rfl,codeAny_call_builtin_at (Code.quiet_builtin _ (by decide +kernel)) entry_typeCall (wpAny_check_type_call_sub kC ?_)⟩
 exact zsr X Z kC (PySem.W.tail_of_in X tl) hl hq
end
def zpO (x:Addr) (C:Addr):HO:=.ext fun h=>∃ o t0,h.get? x=some o∧o.cls=.ref C∧o.dict=none∧o.data=.fields #[.ref t0,.none,.none,.none,.bool false,.none]
def zqR (x:Addr) (C dx:Addr):HO:=.ext fun h=>∃ o t0,h.get? x=some o∧o.cls=.ref C∧o.dict=some dx∧o.data=.fields #[.ref t0,.none,.none,.none,.bool false,.none]
structure ExB (K:PySem.W.Frag) (D:Addr):Prop where
 sg:PySem.W.specialIn K (.ref D) "__getattribute__"=some (some (.builtin "type.__getattribute__"))
 rd:PySem.W.readsIn K D (.type "type")=true
 fc:PySem.W.findCls K (.ref D) (.type "type") "__init__"=some (.val (.builtin "ValueError.__init__"))
theorem zre {H:Hp} {x:Addr} {o:HO} (h:H x=some o):upd H x o=H:=by
 funext b
 unfold upd
 split
 ·rename_i e
  rw [e,h]
 ·rfl
section
variable {X:Cx} {pins:List (Addr×Obj)} {σ:St} {H:Hp} {s:Shared}
theorem zoB {A:Around} {E:Value→Shared→Prop} {Q:Value→Shared→Prop} {x C:Addr} {us:List Value} (I:Inv X pins σ H s) (hx:H x=some (zpO x C)) (Z:∃ fI,ExI X.K C fI) (hl:us.length≤sizeLine)
  (h:∀ s',Inv X pins σ H s'→Q .none s'):wpAny (model X.prog X.w) A (call (.builtin "ValueError.__init__") (.ref x::us)) Q E s:=by
 obtain ⟨fI,Z⟩:=Z
 obtain ⟨nm,q,N,bs,bm,sn,sub,ab,col,dd,k0,k1,k2,k3,k5,lk,tl⟩:=Z.lk
 have kC:=I.kIn _ _ lk
 have T:=PySem.W.tail_of_in I.kIn tl
 have F:=PySem.F.excBase_ValueError
 obtain ⟨⟨o,t0,ho,hc,hd,hdat⟩,_⟩:=(I.hok x _ hx:zcG X.prog X.w H s.heap x (zpO x C))
 obtain ⟨hh,g,d,t,os⟩:=s
 obtain ⟨oc,od,odt,osl⟩:=o
 dsimp only at hc hd hdat
 subst hc hd hdat
 refine wpAny_call (codeAny_call_builtin F.init.plain F.initEntry (wpAny_check_init_subT F T kC ho rfl ?_))
 wp_walk
 have I1:Inv X pins σ H { heap:=hh.push { cls:=.type "tuple",data:=.seq us.toArray },gens:=g,drawn:=d,toks:=t,os:=os }:=I.kept (t':=t) fun b u e=>Heap.get?_push_of_some _ e
 have gx:(hh.push { cls:=.type "tuple",data:=.seq us.toArray }).get? x=some ⟨.ref C,none,.fields #[.ref t0,.none,.none,.none,.bool false,.none],osl⟩:=Heap.get?_push_of_some _ ho
 have gy:=Heap.get?_update_self (Obj.mapFields fun z=>z.setIfInBounds 0 (Value.ref hh.objs.size)) gx rfl
 have I2:=I1.write (x:=x) (e:=x) (o:=zpO x C) (t':=t) (h':=(hh.push { cls:=.type "tuple",data:=.seq us.toArray }).update x (Obj.mapFields fun z=>z.setIfInBounds 0 (Value.ref hh.objs.size)))
  (by rw [hx];exact True.intro) (.inl rfl) (fun b u nb e=>(Heap.get?_update_other _ _ (Ne.symm nb)).trans e) ⟨_,gy⟩ ⟨⟨_,_,gy,rfl,rfl,rfl⟩,⟨_,gy⟩,fun _ _ ⟨o,t0,e,r⟩ k=>⟨o,t0,k o e,r⟩⟩
 rw [zre hx] at I2
 exact h _ I2
end
theorem zmj {h:Heap} {self:Value} {what:Str} {l:List Value} (T:OwnTail h zes l) (hb:refuseLoop self what zes=pure ()):refuseLoop self what l=pure ():=by
 induction T with
 | base=>exact hb
 | own _ _ _ _ ih=>rw [refuseLoop_ref,ih]
section
open Builtin Builtin.ObjectAttr
variable {K:PySem.W.Frag} {prog:Program} {w:World} {A:Around} {E:Value→Shared→Prop} {h:Heap} {g:Array GenState} {d:Drawn} {t:Nat} {os:OsState} {C fI x:Addr} {v:Value} {name:Str} {o:Obj}
theorem zsG {tk:Tok} {R:Result→Shared→Prop} (X:K.In h) (Z:ExI K C fI) (na:PySem.W.findIn K (.ref C) name=some none) (hx:h.get? x=some o) (hc:o.cls=.ref C) (hd:o.dict=none) {fs:Array Value} (hf:o.data=.fields fs)
  (hq:∀ h' tk',h'.get? x=some { o with dict:=some h.objs.size }→h'.Ns1 h.objs.size (fun y=>if y=name then some v else none)→(∀ b u,b≠x→h.get? b=some u→h'.get? b=some u)→R (.ok (.ret .none)) ⟨h',g,d,tk',os⟩) :
  codeAny (model prog w) A (.call (.builtin "object.__setattr__") ⟨[.ref x,.str name tk,v],[]⟩) R ⟨h,g,d,t,os⟩:=by
 obtain ⟨nm,q,N,bs,bm,sn,sub,ab,col,dd,k0,k1,k2,k3,k5,lk,tl⟩:=Z.lk
 have kC:=X _ _ lk
 have T:=PySem.W.tail_of_in X tl
 have S:=PySem.F.store_ValueError
 have LN:=PySem.W.looks_findIn (M:=model prog w) X na
 have pass:refuseLoop (.ref x) "__setattr__" (.ref C::bm)=pure ():=by
  rw [refuseLoop_ref]
  exact zmj T (S.passes _)
 have cO:(Value.ref C::bm).contains (.type "object")=true:=by rw [List.contains_cons,T.hasType S.hasOwner,Bool.or_true]
 have LT:PySem.W.Looks (model prog w) h (typeOf (.ref x)) (.ref C):=hc ▸ (PySem.W.Looks.ld hx).andThen .now
 have LS:PySem.W.Looks (model prog w) h (isInstance (.ref x) (.type "object")) true:=LT.andThen (PySem.W.looks_mroIn X Z.mo)
 refine codeAny_call_builtin S.slot.plain S.entry (@PySem.W.check_slot (model prog w) _ _ ⟨h,g,d,t,os⟩ "object.__setattr__" "object" "__setattr__" (.ref x) [.str name tk,v] [] _ S.kind S.split LS (S.args (.ref x) (.str name tk) v) ?_)
 unfold Builtin.«object.__setattr__»
 repeat (first | rw [refuse_eq] | rw [pass] | (with_reducible refine wpAny_loadPart_at hx ?_;rw [hc]) | (with_reducible refine wpAny_mroOf_exc kC ?_) | (with_reducible refine LN.at ?_) | wp_step)
 obtain ⟨oc,od,odt,osl⟩:=o
 dsimp only at hc hd hf
 subst hc hd hf
 dsimp only
 rw [if_neg (by simp [typeHasDict])]
 have gx:(h.push { cls:=.type "dict",data:=.dict #[] }).get? x=some ⟨.ref C,none,.fields fs,osl⟩:=Heap.get?_push_of_some _ hx
 have ns:x≠h.objs.size:=Nat.ne_of_lt (Heap.lt_size hx)
 refine wpAny_bind (wpAny_alloc' (wpAny_bind (wpAny_update' gx (wpAny_pure ?_))))
 have gy:=Heap.get?_update_self (fun o:Obj=>{ cls:=o.cls,dict:=some h.objs.size,data:=o.data,slots:=o.slots }) gx rfl
 have gd:((h.push { cls:=.type "dict",data:=.dict #[] }).update x fun o=>{ cls:=o.cls,dict:=some h.objs.size,data:=o.data,slots:=o.slots }).get? h.objs.size=some { cls:=.type "dict",data:=.dict #[] } :=
  (Heap.get?_update_other _ _ ns).trans (Heap.get?_push_at rfl rfl)
 have keep:∀ b u,b≠x→h.get? b=some u→((h.push { cls:=.type "dict",data:=.dict #[] }).update x fun o=>{ cls:=o.cls,dict:=some h.objs.size,data:=o.data,slots:=o.slots }).get? b=some u:=fun b u nb e =>
  (Heap.get?_update_other _ _ (Ne.symm nb)).trans (Heap.get?_push_of_some _ e)
 generalize ((h.push { cls:=.type "dict",data:=.dict #[] }).update x fun o=>{ cls:=o.cls,dict:=some h.objs.size,data:=o.data,slots:=o.slots })=h2 at gy gd keep ⊢
 have nn:h2.Ns h.objs.size (fun _=>none):=⟨_,#[],_,gd,rfl,fun e he=>absurd he (by simp),fun _=>rfl⟩
 show wpAny _ _ (storeInDict h.objs.size (.str name tk) name v) _ _ _
 unfold storeInDict newKeyGuard
 refine wpAny_bind (wpAny_pure (wpAny_bind (wpAny_nsSet1 (Heap.Ns1.of_empty nn) fun h3 n3 s3=>?_)))
 obtain ⟨oD,eD,pD,aD,bD,cD⟩:=n3.count (Within.cons name v Within.nil)
 refine wpAny_bind (wpAny_lookBehind aD (by rw [bD];exact pastItsLine_dict (Nat.le_trans cD (by rw [List.length_cons,List.length_nil,sizeLine_eq];(first|lia|omega)))) ?_)
 wp_walk
 exact hq h3 _ ((s3.2 x ns).trans gy) n3 fun b u nb e=>(s3.2 b (Nat.ne_of_lt (Heap.lt_size e))).trans (keep b u nb e)
end
def tBI (K:PySem.W.Frag) (t:TA):TE:=fun σ H Q=>t σ H fun vs H1=>∃ x v C,vs=[.ref x,v]∧H1 x=some (zpO x C)∧(∃ fI,ExI K C fI)∧Q .non H1
def zrZ (K:PySem.W.Frag) (to tv:TE) (f:Str):TS:=fun D σ H=>tv σ H fun v H1=>to σ H1 fun x H2=>∃ a C,x=.ref a∧H2 a=some (zpO a C)∧(∃ fI,ExI K C fI)∧PySem.W.findIn K (.ref C) f=some none ∧
 ∀ dx,H2 dx=none→dx≠a→D.nx σ (upd (upd H2 a (zqR a C dx)) dx (.xd [(f,v)]))
section
variable {X:Cx} {x:Str} {D:Addr} {np apos pos pos':Pos} {e o value:Expr} {es:List Expr} {t:TA} {to tv:TE} {f:Str}
theorem zmf {pl:Sem Bool} (hg:Gl X x) (hm:X.mg x=some (.ref D)) (B:ExB X.K D) (ha:PA X (e::es) t) (hdb:(x == ("__debug__":Str))=false:=by decide)
  (hst:starEach (e::es) X.env=(false,eval e X.env)::starEach es X.env:=by rfl) (hpl:(backTo pos (starEach es X.env)).any (·.1)=false:=by rfl)
  (ht:eval (.Call (.Attribute (.Name x np) "__init__" apos) (e::es) [] pos) X.env=(do
   let ov ← eval (.Name x np) X.env
   standAt apos.atName
   let (f,first) ← holding [ov] (getMethod ov "__init__" pl)
   callWith pos f first (backTo pos (starEach (e::es) X.env)) (backToKw pos (keywordEach [] X.env))):=by rfl) :
  PE X (.Call (.Attribute (.Name x np) "__init__" apos) (e::es) [] pos) (tBI X.K t):=by
 intro pins s σ H Q I h
 refine PySem.W.methodCall_KW (pl:=pl) (zfD I hg hm ?_ hdb) ht
 refine PySem.W.method_cls I.kIn B.sg (PySem.W.cls_value I.kIn B.rd B.fc rfl ?_)
 have I1:=I.tok (s.toks+1)
 have hA:=ha pos pins _ σ H _ I1 h
 rw [hst] at hA ⊢
 refine Calls.callWith_builtin (by show (false || (backTo pos (starEach es X.env)).any (·.1))=false;rw [hpl] <;> rfl) (Calls.evalArgs_plain ?_)
 refine thn hA fun us s2 hQ'=>?_
 obtain ⟨vs,H2,I2,r2,y,v,C,e1,e2,Z,q⟩:=hQ'
 subst e1
 obtain ⟨u1,u2,rfl,r3,r4⟩:=r2.two
 cases r3
 exact zoB (us:=[u2]) I2 e2 Z (by show 1≤sizeLine;decide) fun s' I'=>⟨.non,H2,I',rfl,q⟩
theorem zs6 (ho:PE X o to) (hv:PE X value tv) (hs:swapsWith value (some (.Attribute o f pos')) pos.line X.env=pure false):PS X (.Assign [.Attribute o f pos'] value pos) (zrZ X.K to tv f):=by
 intro pins s σ H D I h
 refine plainObj_wpAny_Assign_Attribute (thn (hv pins s σ H _ I h) fun u s1 ⟨y,H1,I1,ry,q⟩=>thn (ho pins s1 σ H1 _ I1 q) fun ov s2 hQ'=>?_) hs
 obtain ⟨z,H2,I2,rx,a,C,ex,ea,⟨fI,Z⟩,na,q2⟩:=hQ'
 subst ex
 obtain rfl:ov=Value.ref a:=rx
 obtain ⟨⟨ox,t0,hx,hc,hd,hf⟩,_⟩:=(I2.hok a _ ea:zcG X.prog X.w H2 s2.heap a (zpO a C))
 have J:PySem.W.InstAt s2.heap a ox C none:=⟨hx,hc,by unfold PySem.W.notCls;rw [hf],by rw [hd];exact True.intro⟩
 refine PySem.W.set_plain I2.kIn J Z.sa ?_
 obtain ⟨hh,g,d,tk,os⟩:=s2
 refine zsG I2.kIn Z na hx hc hd hf fun h3 tk3 gx n3 keep=>?_
 have fr:H2 hh.objs.size=none:=I2.hok.fresh (Nat.le_refl _)
 have ne:hh.objs.size≠a:=(Nat.ne_of_lt (Heap.lt_size hx)).symm
 have W:=I2.write (x:=a) (e:=a) (o:=zqR a C hh.objs.size) (t':=tk3) (h':=h3) (by rw [ea];exact True.intro) (.inl rfl) (fun b v nb e=>keep b v nb e) ⟨_,gx⟩ ⟨⟨_,t0,gx,hc,rfl,hf⟩,⟨_,gx⟩,fun _ _ ⟨o,t0,e,r⟩ k=>⟨o,t0,k o e,r⟩⟩
 have fr2:upd H2 a (zqR a C hh.objs.size) hh.objs.size=none:=by rw [zaC ne];exact fr
 have V:=W.track (a:=hh.objs.size) (o:=.xd [(f,y)]) fr2 (Heap.get?_none_of_le I2.sz) (fun z=>?_) (fun y c e z=>?_) (fun p hp z=>?_) ⟨_,n3,fun k=>?_⟩
 ·exact ⟨σ,_,V,q2 _ fr ne⟩
 ·obtain ⟨m,⟨o,_,_,e,_⟩,_⟩:=I2.loc
  exact absurd z.symm (Nat.ne_of_lt (Heap.lt_size e))
 ·obtain ⟨v,o,e1,_⟩:=I2.cell y c e
  exact absurd z (Nat.ne_of_lt (Heap.lt_size e1))
 ·exact absurd z (Nat.ne_of_lt (Heap.lt_size (I2.pin p hp).1))
 ·show ztI (List.lookup k [(f,y)]) (if k=f then some u else none)
  by_cases c:k=f
  ·subst c
   rw [if_pos rfl]
   simp only [List.lookup,beq_self_eq_true]
   exact ry
  ·rw [if_neg c]
   have:(k == f)=false:=beq_eq_false_iff_ne.mpr c
   simp only [List.lookup,this]
   exact trivial
end
section
variable {X:Cx} {CX:CXT} {k:Nat} {f C:Addr} {fd:FuncData} {ps:List Str} {sp:Sp} {E:XK} {x:Str} {p pos:Pos} {e:Expr} {es:List Expr} {t:TA}
theorem Inv.laidAt {pins:List (Addr×Obj)} {σ:St} {H:Hp} {s:Shared} {h':Heap} {a:Addr} {o:HO} (I:Inv X pins σ H s) (kp:∀ b u,s.heap.get? b=some u→h'.get? b=some u) (hp:s.heap.objs.size≤a) (new:zcG X.prog X.w (upd H a o) h' a o) :
  Inv X pins σ (upd H a o) { s with heap:=h' }:=I.laid (t':=s.toks) kp hp new
theorem zoi {pins:List (Addr×Obj)} {σ:St} {H:Hp} {s:Shared} {Q:VK} {us:List Value} {vs:List V} (Z:ExI X.K C f) (F:zdW X.prog X.w X.K X.mg X.base CX k f fd ps sp) (hr:zg3 (k+1) X.A) (hb:zb4 X.K fd ps []) (hx:zi0 CX X E)
  (I:Inv X pins σ H s) (r:zcc vs us) (hl:us.length≤sizeLine) (h:∀ y,H y=none→X.s₀.heap.get? y=none→sp (.ref y::vs) (upd H y (zpO y C)) (fun v H2=>v=.non∧Q (.ref y) H2) E) :
  wpAny (model X.prog X.w) X.A (call (.ref C) us) (EP X pins σ Q) X.xe s:=by
 obtain ⟨hh,g,d,tk,os⟩:=s
 refine ztM I.kIn Z hl fun h1 y ey M=>?_
 have hy:hh.objs.size≤y:=by rw [ey];exact Nat.le_succ _
 obtain ⟨t0,gy,_,_⟩:=M.there
 have I2:=I.laidAt (a:=y) (o:=zpO y C) M.keeps hy ⟨⟨_,t0,gy,rfl,rfl,rfl⟩,⟨_,gy⟩,fun _ _ ⟨o,t0,e,r⟩ k=>⟨o,t0,k o e,r⟩⟩
 have hq:=h y (I.hok.fresh hy) (Heap.get?_none_of_le (Nat.le_trans I.sz hy))
 have r2:zcc (V.ref y::vs) (Value.ref y::us):=.cons rfl r
 have hl2:(Value.ref y::us++[]).length=ps.length:=by
  rw [List.append_nil,← r2.length]
  exact F.len _ _ _ _ hq
 have B:=hb _ (Value.ref y::us) I2.kIn hl2
 rw [List.append_nil] at B
 refine wpAny_call (codeAny_mono (F.run _ X.stack _ _ ⟨Value.ref y::us,[]⟩ (Value.ref y::us) _ _ E (hr.make C us []) (I2.env0.make C us []) B r2 hq) fun res s' hq'=>?_)
 cases res with
 | error e=>exact hx pins σ _ _ e s' I2 hq'
 | ok fl =>
  cases fl with
  | ret u =>
   obtain ⟨v,H',I3,rv,ev,q3⟩:=I2.after hq'
   subst ev
   exact ⟨rv,⟨V.ref y,H',I3,rfl,q3⟩⟩
  | next=>exact False.elim hq'
  | brk=>exact False.elim hq'
  | cont=>exact False.elim hq'
end
def CXV (P:Program) (w:World):CXT:=fun outer H s E e s'=>∃ (ea:Addr) (B:Heap) (cls a0:Value) (H':Hp) (od:Option Addr),e=.ref ea∧zsu P w outer H s (fun c _ H'=>E c od H') ea s' B cls a0 H'∧zkN ea od s'.heap
def zot (H:Hp) (x:Addr):Hp:=fun b=>if b=x then none else H b
theorem zgl {H:Hp} {x b:Addr} (h:b≠x):zot H x b=H b:=if_neg h
theorem zpF {H:Hp} {x:Addr}:zot H x x=none:=if_pos rfl
theorem zo6 {H:Hp} {x b:Addr} {u:HO} (h:zot H x b=some u):b≠x∧H b=some u:=by
 unfold zot at h
 split at h
 ·cases h
 ·rename_i n
  exact ⟨n,h⟩
section
variable {P:Program} {w:World} {K:PySem.W.Frag} {mg:Str→Option Value} {base:Heap} {N:List Str} {qual:Str} {scope:Scope} {f:Addr} {cd:Value} {A:Around} {outer:List Env} {s₀:Shared} {H₀:Hp} {E:XK}
theorem zkm:zi0 (CXV P w) (zpM (CXV P w) P w K mg base N qual scope f cd A outer s₀ H₀ E) E:=by
 intro pins σ H s e s' I h
 obtain ⟨ea,B,cls,a0,H',od,rfl,x,dd⟩:=h
 have hfr:=I.ok.frames
 have ff:=x.fly.2.2.1
 refine ziX (zgp _ _) dd (wpAny_leaves_onW (base:=B) (L:=s₀.heap.objs.size) hfr rfl x.fly fun h' fl sm dd'=>?_)
 obtain ⟨un2,hok2⟩:=x.later fl.1 sm ff
 have neL:∀ b o,s₀.heap.get? b=some o→b≠s₀.heap.objs.size:=fun b o e=>Nat.ne_of_lt (Heap.lt_size e)
 have notin:∀ b o,s₀.heap.get? b=some o→b∉frs outer→b∉frs (envOfC qual scope s₀.heap.objs.size f cd::outer):=fun b o e hb z=>by
  rcases List.mem_cons.mp (I.stkSub b z) with q | q
  ·exact neL b o e q
  ·exact hb q
 have un:Un (frs outer) [] H₀ H' s₀.heap h':=by
  refine ⟨fun b o e n hb hx=>?_,fun b o e n hb hx=>?_,fun b o e n hx=>?_,fun b o e hx=>?_,fun b xs e=>x.un.tups b xs (I.base.tups b xs e),fun b o u e=>x.un.frzs b o u (I.base.frzs b o u e),fun b ps e=>?_⟩
  ·exact un2.keep b o (I.base.keep b o e n hb hx) (I.base.free b o e n hx) (notin b o e hb) (by simp)
  ·obtain ⟨sl,e1⟩:=I.base.slot b o e n hb hx
   obtain ⟨sl',e2⟩:=un2.any e1 (I.base.free b o e n hx) (by simp)
   exact ⟨sl',e2⟩
  ·obtain ⟨o',e1⟩:=I.base.there b o e hx
   exact x.un.free b o' e1 (I.base.free b o e n hx) (by simp)
  ·obtain ⟨o',e1⟩:=I.base.there b o e hx
   exact un2.there b o' e1 (by simp)
  ·obtain ⟨m1,e1⟩:=I.base.tbls b ps e
   obtain ⟨m2,e2⟩:=x.un.tbls b _ e1
   exact ⟨m1++m2,by rw [e2,Array.append_assoc]⟩
 refine ⟨ea,B,cls,a0,H',od,rfl,⟨x.os.trans I.os,x.bare,un,x.hokB,fl,fun b o e n hb=>?_,fun b o e hb=>?_,?_,x.free,x.want⟩,dd'⟩
 ·exact x.cov b o (I.base.keep b o e n hb (by intro z;cases z)) (I.base.free b o e n (by intro z;cases z)) (notin b o e hb)
 ·obtain ⟨o',e1⟩:=I.base.there b o e (by intro z;cases z)
  exact x.covT b o' e1 (notin b o e hb)
 ·cases q:s₀.heap.get? ea with
  | none=>rfl
  | some o =>
   obtain ⟨o',e1⟩:=I.base.there ea o q (by intro z;cases z)
   rw [x.new] at e1
   cases e1
end
def zo0 (X:Cx) (E:XK):Prop:=∀ (pins:List (Addr×Obj)) (σ:St) (H:Hp) (s:Shared) (y C dx:Addr),Inv X pins σ H s→H y=some (zqR y C dx)→X.s₀.heap.get? y=none→E (.ref C) (some dx) (zot H y)→X.xe (.ref y) s
section
variable {P:Program} {w:World} {K:PySem.W.Frag} {mg:Str→Option Value} {base:Heap} {N:List Str} {qual:Str} {scope:Scope} {f:Addr} {cd:Value} {A:Around} {outer:List Env} {s₀:Shared} {H₀:Hp} {E:XK}
theorem zty:zo0 (zpM (CXV P w) P w K mg base N qual scope f cd A outer s₀ H₀ E) E:=by
 intro pins σ H s y C dx I hy n0 q
 replace n0:s₀.heap.get? y=none:=n0
 obtain ⟨⟨oy,t0,gy,cy,dy,fy⟩,_⟩:=(I.hok y _ hy:zcG _ _ H s.heap y (zqR y C dx))
 have hfr:=I.ok.frames
 have hst:s.heap.FunFrames base (envOfC qual scope s₀.heap.objs.size f cd::outer):=I.stack
 have fresh:∀ b∈frs (envOfC qual scope s₀.heap.objs.size f cd::outer),H b=none:=I.stkFree
 have yf:y∉frs (envOfC qual scope s₀.heap.objs.size f cd::outer):=fun z=>by rw [fresh y z] at hy;cases hy
 have inB:∀ b o,s.heap.get? b=some o→b≠y→b∉frs (envOfC qual scope s₀.heap.objs.size f cd::outer)→(PySem.W.hideAll s.heap (y::frs (envOfC qual scope s₀.heap.objs.size f cd::outer))).get? b=some o:=fun b o e ny n =>
  PySem.W.hideAll_get _ e (fun z=>(List.mem_cons.mp z).elim ny n)
 have st0:(PySem.W.hideAll s.heap (y::frs (envOfC qual scope s₀.heap.objs.size f cd::outer))).StaysIn s.heap:=fun b o q=>PySem.W.of_hideAll _ q
 have hl:s.heap.FunFrames (PySem.W.hideAll s.heap (y::frs (envOfC qual scope s₀.heap.objs.size f cd::outer))) (envOfC qual scope s₀.heap.objs.size f cd::outer) :=
  PySem.W.funFrames_hide hst fun env he a ha=>List.mem_cons_of_mem _ (List.mem_filterMap.mpr ⟨env,he,ha⟩)
 have yB:(PySem.W.hideAll s.heap (y::frs (envOfC qual scope s₀.heap.objs.size f cd::outer))).get? y=none:=PySem.W.hideAll_none _ List.mem_cons_self
 generalize PySem.W.hideAll s.heap (y::frs (envOfC qual scope s₀.heap.objs.size f cd::outer))=B at inB st0 hl yB
 refine ziX (zgp _ _) ⟨oy,gy,dy⟩ (wpAny_leaving_firstW (base:=B) (L:=s₀.heap.objs.size) (a0:=.ref t0) hfr hl rfl gy st0 yB fy rfl rfl fun h2 lf d2=>?_)
 obtain ⟨x1,⟨_,_,x2⟩,x3,x4⟩:=lf
 have neL:∀ b o,s₀.heap.get? b=some o→b≠s₀.heap.objs.size:=fun b o e=>Nat.ne_of_lt (Heap.lt_size e)
 have ney:∀ b o,s₀.heap.get? b=some o→b≠y:=fun b o e z=>by rw [z,n0] at e;cases e
 have notin:∀ b o,s₀.heap.get? b=some o→b∉frs outer→b∉frs (envOfC qual scope s₀.heap.objs.size f cd::outer):=fun b o e hb z=>by
  rcases List.mem_cons.mp (I.stkSub b z) with q | q
  ·exact neL b o e q
  ·exact hb q
 have slot:∀ b o,s.heap.get? b=some o→b∈frs outer→∃ sl,h2.get? b=some { o with slots:=sl }:=fun b o e hb=>by
  obtain ⟨_,o',e',nf⟩:=hl.2.2.mem hb
  rw [e] at e'
  cases e'
  exact x4 b o e nf
 have hokB:HOk P w (zot H y) B:=fun b u e=>by
  obtain ⟨nb,e'⟩:=zo6 e
  refine (I.hok b u e').stay (fun c v hc q=>inB c v q (fun z=>?_) fun z=>?_) (fun c q=>?_) fun c xs q=>?_
  ·rcases hc with r | r
   ·exact nb (r.symm.trans z)
   ·rw [z,hy] at r
    cases r
  ·rcases hc with r | r
   ·rw [r] at z
    rw [fresh b z] at e'
    cases e'
   ·rw [fresh c z] at r
    cases r
  ·rw [zgl fun z=>by rw [z,hy] at q;cases q]
   exact q
  ·rw [zgl fun z=>by rw [z,hy] at q;cases q]
   exact q
 have un:Un (frs outer) [] H₀ (zot H y) s₀.heap h2:=by
  refine ⟨fun b o e n hb hx=>?_,fun b o e n hb hx=>?_,fun b o e n hx=>?_,fun b o e hx=>?_,fun b xs e=>?_,fun b o u e=>?_,fun b ps e=>?_⟩
  ·exact x1 b o (inB b o (I.base.keep b o e n hb hx) (ney b o e) (notin b o e hb))
  ·obtain ⟨sl,e1⟩:=I.base.slot b o e n hb hx
   obtain ⟨sl',e2⟩:=slot b _ e1 hb
   exact ⟨sl',e2⟩
  ·rw [zgl (ney b o e)]
   exact I.base.free b o e n hx
  ·obtain ⟨o',e1⟩:=I.base.there b o e hx
   by_cases hb:b∈frs outer
   ·obtain ⟨sl,e2⟩:=slot b o' e1 hb
    exact ⟨_,e2⟩
   ·exact ⟨o',x1 b o' (inB b o' e1 (ney b o e) (notin b o e hb))⟩
  ·have z:=I.base.tups b xs e
   rw [zgl fun q=>by rw [q,hy] at z;cases z]
   exact z
  ·have z:=I.base.frzs b o u e
   rw [zgl fun q=>by rw [q,hy] at z;cases z]
   exact z
  ·obtain ⟨m,z⟩:=I.base.tbls b ps e
   refine ⟨m,?_⟩
   rw [zgl fun q=>by rw [q,hy] at z;cases z]
   exact z
 rw [cy] at x3
 refine ⟨y,B,.ref C,.ref t0,zot H y,some dx,rfl,⟨I.os,I.bare,un,hokB,⟨x1,yB,x2,x3⟩,fun b o e n hb=>?_,fun b o e hb=>?_,n0,zpF,q⟩,d2⟩
 ·exact inB b o (I.base.keep b o e n hb (by intro z;cases z)) (ney b o e) (notin b o e hb)
 ·obtain ⟨o',e1⟩:=I.base.there b o e (by intro z;cases z)
  exact ⟨o',inB b o' e1 (ney b o e) (notin b o e hb)⟩
end
section
variable {P:Program} {w:World} {K:PySem.W.Frag} {mg:Str→Option Value} {base:Heap} {N:List Str} {qual:Str} {scope:Scope} {f:Addr} {cd:Value} {A:Around} {outer:List Env} {s₀:Shared} {H₀:Hp} {E:XK}
theorem zmv {C:Addr}:zrD (zpM (CXV P w) P w K mg base N qual scope f cd A outer s₀ H₀ E) C E:=by
 intro pins σ H s ea h' args I hx q
 have hfr:=I.ok.frames
 have hst:s.heap.FunFrames base (envOfC qual scope s₀.heap.objs.size f cd::outer):=I.stack
 have fresh:∀ b∈frs (envOfC qual scope s₀.heap.objs.size f cd::outer),H b=none:=I.stkFree
 have inB:∀ b o,s.heap.get? b=some o→b∉frs (envOfC qual scope s₀.heap.objs.size f cd::outer)→(PySem.W.hideAll s.heap (frs (envOfC qual scope s₀.heap.objs.size f cd::outer))).get? b=some o:=fun b o e n=>PySem.W.hideAll_get _ e n
 have st0:(PySem.W.hideAll s.heap (frs (envOfC qual scope s₀.heap.objs.size f cd::outer))).StaysIn s.heap:=fun b o q=>PySem.W.of_hideAll _ q
 have hl:s.heap.FunFrames (PySem.W.hideAll s.heap (frs (envOfC qual scope s₀.heap.objs.size f cd::outer))) (envOfC qual scope s₀.heap.objs.size f cd::outer) :=
  PySem.W.funFrames_hide hst fun env he a ha=>List.mem_filterMap.mpr ⟨env,he,ha⟩
 generalize PySem.W.hideAll s.heap (frs (envOfC qual scope s₀.heap.objs.size f cd::outer))=B at inB st0 hl
 obtain ⟨t9,g9,_,_⟩:=hx.there
 refine ziX (zgp _ _) ⟨_,g9,rfl⟩ (wpAny_leaves_madeW (base:=B) (h:=s.heap) (L:=s₀.heap.objs.size) hfr rfl st0 hl hx fun h2 t x1 x2 x3 x4 d2=>?_)
 have neL:∀ b o,s₀.heap.get? b=some o→b≠s₀.heap.objs.size:=fun b o e=>Nat.ne_of_lt (Heap.lt_size e)
 have notin:∀ b o,s₀.heap.get? b=some o→b∉frs outer→b∉frs (envOfC qual scope s₀.heap.objs.size f cd::outer):=fun b o e hb z=>by
  rcases List.mem_cons.mp (I.stkSub b z) with q | q
  ·exact neL b o e q
  ·exact hb q
 have slot:∀ b o,s.heap.get? b=some o→b∈frs outer→∃ sl,h2.get? b=some { o with slots:=sl }:=fun b o e hb=>by
  obtain ⟨_,o',e',nf⟩:=hl.2.2.mem hb
  rw [e] at e'
  cases e'
  exact x4 b o (hx.keeps b o e) nf
 have hokB:HOk P w H B:=fun b u e=>(I.hok b u e).stay (fun c v hc q=>inB c v q fun z=>by
  rcases hc with r | r
  ·rw [r] at z
   rw [fresh b z] at e
   cases e
  ·rw [fresh c z] at r
   cases r) (fun _ q=>q) fun _ _ q=>q
 have un:Un (frs outer) [] H₀ H s₀.heap h2:=by
  refine ⟨fun b o e n hb hx=>?_,fun b o e n hb hx=>?_,I.base.free,fun b o e hx=>?_,I.base.tups,I.base.frzs,I.base.tbls⟩
  ·exact x1.1 b o (inB b o (I.base.keep b o e n hb hx) (notin b o e hb))
  ·obtain ⟨sl,e1⟩:=I.base.slot b o e n hb hx
   obtain ⟨sl',e2⟩:=slot b _ e1 hb
   exact ⟨sl',e2⟩
  ·obtain ⟨o',e1⟩:=I.base.there b o e hx
   by_cases hb:b∈frs outer
   ·obtain ⟨sl,e2⟩:=slot b o' e1 hb
    exact ⟨_,e2⟩
   ·exact ⟨o',x1.1 b o' (inB b o' e1 (notin b o e hb))⟩
 refine ⟨ea,B,.ref C,.ref t,H,none,rfl,⟨I.os,I.bare,un,hokB,x1,fun b o e n hb=>?_,fun b o e hb=>?_,?_,?_,q⟩,d2⟩
 ·exact inB b o (I.base.keep b o e n hb (by intro z;cases z)) (notin b o e hb)
 ·obtain ⟨o',e1⟩:=I.base.there b o e (by intro z;cases z)
  exact ⟨o',inB b o' e1 (notin b o e hb)⟩
 ·cases q:s₀.heap.get? ea with
  | none=>rfl
  | some o =>
   obtain ⟨o',e1⟩:=I.base.there ea o q (by intro z;cases z)
   rw [hx.new] at e1
   cases e1
 ·cases q:H ea with
  | none=>rfl
  | some u =>
   obtain ⟨o',e1⟩:=(I.hok ea u q).there
   rw [hx.new] at e1
   cases e1
end
section
variable {K:PySem.W.Frag} {prog:Program} {w:World} {A:Around} {E:Value→Shared→Prop} {s:Shared} {env:Env} {C fI:Addr}
theorem zpw {xs:Sem Value} {Q:Flow→Shared→Prop} (Z:ExI K C fI) (hh:A.handled=none)
  (h:wpAny (model prog w) A xs (fun v s1=>∃ y o fs,v=.ref y∧K.In s1.heap∧s1.heap.get? y=some o∧o.cls=.ref C∧o.data=.fields fs∧fs[1]?=some .none∧E (.ref y) s1) E s):wpAny (model prog w) A (raiseStmt env (some xs) none) Q E s:=by
 obtain ⟨nm,q,N,bs,bm,sn,sub,ab,col,dd,k0,k1,k2,k3,k5,lk,tl⟩:=Z.lk
 unfold raiseStmt
 refine wpAny_bind (wpAny_mono h (fun v s1 z=>?_) fun _ _ z=>z)
 obtain ⟨y,o,fs,rfl,X,gy,cy,fy,f1,hE⟩:=z
 obtain ⟨hp,g,d,tk,os⟩:=s1
 have kC:=X _ _ lk
 have T:=PySem.W.tail_of_in X tl
 have cB:(Value.ref C::bm).contains (.type "BaseException")=true:=by rw [List.contains_cons,T.hasType PySem.F.excBase_ValueError.hasBase,Bool.or_true]
 obtain ⟨oc,od,odt,osl⟩:=o
 dsimp only at cy fy
 subst cy fy
 repeat (first | (with_reducible refine wpAny_loadPart_at gy ?_) | (with_reducible refine wpAny_loadPart_at kC ?_) | (with_reducible refine wpAny_isSubtype_exc kC ?_;rw [cB]) | wp_step)
 rw [f1]
 refine wpAny_pure ?_
 rw [if_neg (by decide)]
 exact wpAny_pure (wpAny_raiseNew_none hh hE)
end
def zrH (C:Addr) (nm:Str):Sp:=fun vs H Q _=>∃ y v,vs=[.ref y,v]∧H y=some (zpO y C)∧∀ dx,H dx=none→dx≠y→Q .non (upd (upd H y (zqR y C dx)) dx (.xd [(nm,v)]))
def zjx (C:Addr) (nm:Str) (E:XK) (t:TA):TS:=fun _ σ H=>t σ H fun vs H1=>∃ v,vs=[v]∧∀ dx,H1 dx=none→E (.ref C) (some dx) (upd H1 dx (.xd [(nm,v)]))
theorem zpI {H:Hp} {y dx:Addr} {o u:HO} (h:H y=none) (n:dx≠y):zot (upd (upd H y o) dx u) y=upd H dx u:=by
 funext b
 unfold zot upd
 by_cases e:b=y
 ·rw [if_pos e,if_neg (by rw [e];exact n.symm),e,h]
 ·rw [if_neg e]
  by_cases e2:b=dx
  ·rw [if_pos e2,if_pos e2]
  ·rw [if_neg e2,if_neg e,if_neg e2]
theorem zph {X:Cx} {CX:CXT} {k:Nat} {C f:Addr} {fd:FuncData} {ps:List Str} {nm x:Str} {E:XK} {np cpos pos:Pos} {e:Expr} {es:List Expr} {t:TA} (Z:ExI X.K C f) (F:zdW X.prog X.w X.K X.mg X.base CX k f fd ps (zrH C nm)) (hr:zg3 (k+1) X.A) (hg:Gl X x) (hm:X.mg x=some (.ref C))
  (hb:zb4 X.K fd ps []) (hx:zi0 CX X E0) (hc:X.calm=true) (hT:zo0 X E) (ha:PA X (e::es) t) (hdb:(x == ("__debug__":Str))=false:=by decide) (he:starEach (e::es) X.env=(false,eval e X.env)::starEach es X.env:=by rfl) (hpl:(backTo cpos (starEach es X.env)).any (·.1)=false:=by rfl) :
  PS X (.Raise (some (.Call (.Name x np) (e::es) [] cpos)) none pos) (zjx C nm E t):=by
 intro pins s σ H D I h
 rw [arm_exec_Raise]
 refine wpAny_bind (wpAny_standAt (zpw Z (I.ok.hd hc) (wpAny_bind (wpAny_mono (Q:=fun v s1=>∃ y o fs,v=.ref y∧X.K.In s1.heap∧s1.heap.get? y=some o∧o.cls=.ref C∧o.data=.fields fs∧fs[1]?=some .none∧X.xe (.ref y) s1) ?_ (fun v s3 h3=>wpAny_bind (wpAny_standAt (wpAny_pure h3))) fun _ _ z=>z))))
 refine wpAny_Call_Name_kw (zfD I hg hm ?_ hdb)
 refine PySem.W.callWith_K (h₀:=X.base) I.ok.mod.kin Z.kp (thn (ha cpos pins s σ H _ I h) fun us s1 ⟨vs,H1,I1,r,v,e1,q⟩=>⟨I1.kIn,?_⟩) he hpl
 subst e1
 obtain ⟨u,rfl,ru⟩:=zlh r
 refine thn (zoi (Q:=fun z H2=>∃ y dx,z=.ref y∧X.s₀.heap.get? y=none∧H2 y=some (zqR y C dx)∧E (.ref C) (some dx) (zot H2 y)) Z F hr hb hx I1 r (by show 1≤sizeLine;decide) fun y hy n0=>?_) fun z s2 ⟨v2,H2,I2,rz,y,dx,ev,n0,hy,hE⟩=>?_
 ·refine ⟨y,v,rfl,zai,fun dx hd nd=>⟨rfl,y,dx,rfl,n0,?_,?_⟩⟩
  ·rw [zaC nd.symm,zai]
  ·rw [zsD] 
   have hd1:H1 dx=none:=by rw [zaC nd] at hd;exact hd
   rw [zpI hy nd]
   exact q dx hd1
 ·subst ev
  obtain rfl:z=Value.ref y:=rz
  obtain ⟨⟨oy,t0,gy,cy,dy,fy⟩,_⟩:=(I2.hok y _ hy:zcG X.prog X.w H2 s2.heap y (zqR y C dx))
  exact ⟨y,oy,_,rfl,I2.kIn,gy,cy,fy,rfl,hT pins σ H2 s2 y C dx I2 hy n0 hE⟩
theorem Fun.okV {P:Program} {w:World} {K:PySem.W.Frag} {mg:Str→Option Value} {base:Heap} {x qual:Str} {st:Stmt} {f:Addr} {fd:FuncData} {N ps:List Str} {k:Nat} {sp:Sp} (F:Fun K x qual st f fd) (S:zaM N ps (zan st)) (len:∀ vs H Q E,sp vs H Q E→vs.length=ps.length)
  (hbody:∀ (cdv:Value) (A:Around) (outer:List Env) (s:Shared) (H:Hp) (vs:List V) (Q:VK) (E:XK),zg3 k (A.deeper (envOfC qual (zan st) s.heap.objs.size f cdv))→sp vs H Q E →
   ∃ t,PSs (zpM (CXV P w) P w K mg base N qual (zan st) f cdv A outer s H E) (ze1 st) t∧t { nx:=fun _ H'=>Q .non H',rt:=Q } (L2.zb1 N vs) H):zdW P w K mg base (CXV P w) (k+1) f fd ps sp:=by
 obtain ⟨oc,od,kV,doc,pm,an,cdv,ct,osl,rfl,lk,hcd⟩:=F.ex
 exact zuQ lk hcd S len fun A outer s H vs Q E hr hsp=>hbody cdv A outer s H vs Q E hr hsp
def zkv (a:Addr) (c:Value) (od:Option Addr) (h:Heap):Prop:=∃ oe vs,h.get? a=some oe∧oe.cls=c∧oe.data=.fields vs∧oe.dict=od
def zeI (a:Addr) (c:Value) (od:Option Addr):HO:=.ext (zkv a c od)
theorem zkv.is {a:Addr} {c:Value} {od:Option Addr} {h:Heap} (x:zkv a c od h):zsL a c h:=let ⟨oe,vs,e1,e2,e3,_⟩:=x;⟨oe,vs,e1,e2,e3⟩
def ztQ (K:PySem.W.Frag) (tb:(St→XK)→TS) (D:Value) (i:Nat) (th:TS):TS:=fun d σ H =>
 tb (fun σ' c od H'=>zdQ K c∧PySem.W.subIn K c D=some true∧∀ a,H' a=none→th { d with nx:=fun σ2 H2=>d.nx (σ2.set i none) H2,bk:=fun σ2 H2=>d.bk (σ2.set i none) H2,ct:=fun σ2 H2=>d.ct (σ2.set i none) H2 } (σ'.set i (some (.ref a))) (upd H' a (zeI a c od))) d σ H
def Cx.inTryV (X:Cx) (pins:List (Addr×Obj)) (E:St→XK):Cx:={ X with
 pn:=X.pn++pins
 xe:=fun e s'=>∃ pins' σ H s,Inv { X with pn:=X.pn++pins } pins' σ H s∧CXV X.prog X.w X.stack H s (E σ) e s' }
theorem Inv.toTryV {X:Cx} {pins:List (Addr×Obj)} {σ:St} {H:Hp} {s:Shared} (I:Inv X pins σ H s) (E:St→XK):Inv (X.inTryV pins E) [] σ H s :=
 ⟨I.ok.pinned _ _,I.os,I.bare,I.base,I.loc,I.cell,I.free,I.freeC,fun p hp=>I.pin p (by rw [List.append_nil] at hp;exact hp),I.hok,I.len⟩
theorem zvl {X:Cx} {pins:List (Addr×Obj)} {E:St→XK}:zoD (CXV X.prog X.w) (X.inTryV pins E) E:=fun pins' σ H s e s' I h =>
 ⟨pins',σ,H,s,⟨I.ok.pinned _ _,I.os,I.bare,I.base,I.loc,I.cell,I.free,I.freeC,I.pin,I.hok,I.len⟩,h⟩
theorem SP.ofTryV {X:Cx} {pins pins':List (Addr×Obj)} {E:St→XK} {D:zb5} {f:Flow} {s':Shared} (ok:X.Ok) (h:SP (X.inTryV pins E) pins' D f s'):SP X pins D f s':=by
 cases f with
 | next=>obtain ⟨σ',H',I,q⟩:=h;exact ⟨σ',H',I.ofTry ok,q⟩
 | brk=>obtain ⟨σ',H',I,q⟩:=h;exact ⟨σ',H',I.ofTry ok,q⟩
 | cont=>obtain ⟨σ',H',I,q⟩:=h;exact ⟨σ',H',I.ofTry ok,q⟩
 | ret u=>obtain ⟨v,σ',H',I,r,q⟩:=h;exact ⟨v,σ',H',I.ofTry ok,r,q⟩
theorem zts {X:Cx} {i:Nat} {D:Addr} {x n:Str} {np pos hpos:Pos} {body:List Stmt} {b₀:Stmt} {suite:List Stmt} {tb:(St→XK)→TS} {th:TS} (hm:X.mg x=some (.ref D)) (hq:PySem.W.excIn X.K D zes "ValueError.__new__"=true)
  (hg:Gl X x) (hN:X.N.Nodup) (hi:X.N[i]?=some n) (hl:X.env.scope.names.lookup n=some .local) (hxe:X.xe=fun _ _=>False) (hst:X.stack=X.env::X.outer) (hfr:X.env.frame=some X.env.locals) (hex:X.ex=[])
  (hb:∀ pins E,PSs (X.inTryV pins E) body (tb E)) (hh:∀ ea,PSs (X.inExc ea) (b₀::suite) th) (hd:(x == ("__debug__":Str))=false:=by decide) :
  PS X (.Try body [.ExceptHandler (some (.Name x np)) (some n) (b₀::suite) hpos] [] [] pos) (ztQ X.K tb (.ref D) i th):=by
 intro pins s σ H d I h
 refine wpAny_Try_except (wpAny_mono (hb pins _ [] s σ H d (I.toTryV _) h) (fun f s₁ q=>?_) fun e s₁ q=>?_)
 ·have q':=SP.ofTryV I.ok q
  cases f with
  | next=>exact wpAny_execs_nil q'
  | brk=>exact q'
  | cont=>exact q'
  | ret u=>exact q'
 obtain ⟨pins',σ',H1,s1,I1,ea,B,cls,a0,H',od,rfl,x,dd⟩:=q
 replace I1:Inv X pins σ' H1 s1:=Inv.ofTry (xe:=X.xe) I1 I.ok
 obtain ⟨hec,hsub,hth⟩:=x.want
 have fly:=x.fly
 rw [hst] at fly
 have ff:=x.fly.2.2.1
 have hfrm:X.A.frames=some (X.env::X.outer):=by rw [← hst];exact I.ok.frames
 refine ziX (zgN _ _) dd (wpAny_looks_onW (base:=B) (L:=X.env.locals) hfrm hfr fly fun h4 hd4 sm4 d4=>?_)
 refine ziX (zeL _ _) d4 (wpAny_landsW hd4 fun h5 fl5 sm5 d5=>?_)
 have invAt:∀ {h:Heap} {tk:Nat},B.StaysIn h→s₁.heap.UpToSlots h→Inv X pins σ' H' { s₁ with heap:=h,toks:=tk }:=fun {h tk} st sm=>by
  obtain ⟨un,hok⟩:=x.later st sm ff
  exact I1.call' (ch:=[]) x.os un hok x.bare fun b z=>nomatch z
 have I5:Inv X pins σ' H' { s₁ with heap:=h5 }:=invAt (tk:=s₁.toks) fl5.1 (sm4.trans sm5)
 have fmark:(X.A.mark (some (.ref ea))).frames=some X.stack:=I.ok.frames
 refine wpAny_handleBy_cons (codeAny_handlers_test ?_) (by intro q;cases q)
 refine zfD (X:=X.inExc ea) (I5.toExc fmark) hg hm ?_ hd
 have kin5:=I5.kIn
 obtain ⟨oe,hoe,hcls⟩:=fl5.there
 refine ziu (cls:=cls) hoe hcls (zfV kin5 hq) (PySem.W.looks_subIn kin5 hsub) ?_
 refine codeAny_handlers_suite_as ?_
 refine ziX (zeL _ _) d5 (lands_againW fl5 fun h6 fl6 sm6 d6=>?_)
 have I6:Inv X pins σ' H' { s₁ with heap:=h6 }:=invAt (tk:=s₁.toks) fl6.1 ((sm4.trans sm5).trans sm6)
 have noat:∀ b o,s1.heap.get? b=some o→b≠ea:=fun b o e z=>by rw [z,x.new] at e;cases e
 have n0:X.s₀.heap.get? ea=none:=by
  cases q:X.s₀.heap.get? ea with
  | none=>rfl
  | some o =>
   obtain ⟨o',e1⟩:=I1.base.there ea o q (by rw [hex];intro z;cases z)
   exact absurd rfl (noat ea o' e1)
 have nL:ea≠X.env.locals:=by
  obtain ⟨m,⟨o,_,_,e,_⟩,_⟩:=I1.loc
  exact (noat _ o e).symm
 have nC:∀ y c,X.env.cells.lookup y=some c→c≠ea:=fun y c e=>by
  obtain ⟨v,z⟩:=I1.cell y c e
  obtain ⟨o,e1,_⟩:=z
  exact noat c o e1
 have nP:∀ p∈X.pn++pins,p.1≠ea:=fun p hp=>noat _ _ (I1.pin p hp).1
 have isx:zkv ea cls od h6:=by
  obtain ⟨_,_,_,oe,vs,_,_,_,he,hc,hd,_⟩:=fl6
  obtain ⟨o',e',ed⟩:=d6
  rw [he] at e'
  cases e'
  exact ⟨oe,vs,he,hc.1,hd,ed⟩
 have I7:=I6.track (o:=zeI ea cls od) x.free n0 nL nC nP ⟨isx,by obtain ⟨oe,_,he,_⟩:=isx;exact ⟨oe,he⟩,fun h1 h2 ⟨oe,vs,he,r⟩ k=>⟨oe,vs,k oe he,r⟩⟩
 refine zje (X:=X.inExc ea) (v:=.ref ea) (I7.toExc fmark) hN hi (.inl hl) rfl (fun s8 I8=>?_) (.inr hl)
 refine wpAny_mono (hh ea pins s8 _ _ _ I8 (hth ea x.free)) (fun f s9 q=>?_) fun e s9 q=>?_
 ·cases f with
  | next =>
   obtain ⟨σ9,H9,I9,r⟩:=q
   exact zjr (I9.ofExc I.ok) hN hi hl fun s10 I10=>⟨_,_,I10,r⟩
  | brk =>
   obtain ⟨σ9,H9,I9,r⟩:=q
   exact zjr (I9.ofExc I.ok) hN hi hl fun s10 I10=>⟨_,_,I10,r⟩
  | cont =>
   obtain ⟨σ9,H9,I9,r⟩:=q
   exact zjr (I9.ofExc I.ok) hN hi hl fun s10 I10=>⟨_,_,I10,r⟩
  | ret u =>
   obtain ⟨v,σ9,H9,I9,rv,r⟩:=q
   exact zjr (I9.ofExc I.ok) hN hi hl fun s10 I10=>⟨v,_,_,I10,rv,r⟩
 ·rw [show (X.inExc ea).xe=X.xe from rfl,hxe] at q
  exact q.elim
section
open Builtin Builtin.ObjectAttr PySem.W
variable {K:PySem.W.Frag} {prog:Program} {w:World} {A:Around} {E:Value→Shared→Prop} {h:Heap} {g:Array GenState} {d:Drawn} {t:Nat} {os:OsState} {a C dx:Addr}
theorem zkp {f:Str} {tk:Tok} {v:Value} {o:Obj} {od:Option Obj} {Q:Fin→Shared→Prop} (X:K.In h) (J:PySem.W.InstAt h a o C od) (hf:PySem.W.findObj K C od f=some (.value v)) (hq:Q (.done (.ret v)) ⟨h,g,d,t,os⟩) :
  wpAny (model prog w) A (Builtin.«object.__getattribute__» ⟨[.ref a,.str f tk],[]⟩) Q E ⟨h,g,d,t,os⟩:=by
 have L0:=J.type (M:=model prog w)
 have L1:=PySem.W.looks_find (M:=model prog w) X J hf
 refine wpAny_bind (wpAny_pure (wpAny_bind (wpAny_pure (wpAny_bind (L0.at (wpAny_bind (L1.at ?_)))))))
 exact wpAny_pure hq
theorem zsQ {f:Str} {v:Value} {b:Bool} {o:Obj} {od:Option Obj} {Q:Value→Shared→Prop} (X:K.In h) (Z:zew K C) (J:PySem.W.InstAt h a o C od) (hf:PySem.W.findObj K C od f=some (.value v)) (hv:PySem.W.handedIn v=true) (hq:Q v ⟨h,g,d,t+1,os⟩) :
  wpAny (model prog w) A (getAttr (.ref a) f b) Q E ⟨h,g,d,t,os⟩:=by
 have FB:=PySem.F.attrBase_ValueError
 have LG:=PySem.W.looks_findIn (M:=model prog w) X Z.ga
 have LN:=PySem.W.looks_findIn (M:=model prog w) X Z.gn
 have hx:=J.at_
 have hc:=J.cls
 have f3:=FB.ga.bind (.ref a)
 have n2:(Value.builtin "BaseException.__getattribute__" == Value.builtin "object.__getattribute__")=false:=by decide +kernel
 have n1:(onTheHeap (Value.ref C)&&(Value.builtin "BaseException.__getattribute__" == Value.builtin "object.__getattribute__"))=false:=by rw [n2];rfl
 unfold getAttr
 repeat (any_goals (first | assumption | (with_reducible refine wpAny_loadPart_at hx ?_;rw [hc]) | with_reducible refine LG.at ?_ | with_reducible refine LN.at ?_ | wp_step))
 rw [show (b&&onTheHeap (Value.builtin "BaseException.__getattribute__"))=false from Bool.and_false _,if_neg Bool.false_ne_true]
 repeat (any_goals (first | assumption | wp_step))
 refine codeAny_call_builtin FB.ga.plain F.entry_bexc_ga (zgH X Z hx hc (zkp X J hf ?_))
 show wpAny _ _ (handedOut v) _ _ _
 rw [PySem.W.handedOut_of hv]
 exact wpAny_pure hq
end
structure zsW (K:PySem.W.Frag) (C:Addr) (f:Str):Prop where
 five:zew K C
 hd:PySem.W.hasDictIn K C=true
 na:PySem.W.findIn K (.ref C) f=some none
def znt (K:PySem.W.Frag) (ta:TE) (f:Str):TE:=fun σ H Q=>ta σ H fun x H1=>∃ a C dx fs v,x=.ref a∧H1 a=some (zeI a (.ref C) (some dx))∧H1 dx=some (.xd fs)∧zsW K C f∧fs.lookup f=some v∧Q v H1
def zfw (K:PySem.W.Frag):List V→Hp→VK→Prop:=fun xs H Q=>∃ a c cv od dv b,xs=[.ref a,c]∧zvm c=some dv∧H a=some (zeI a cv od)∧zdQ K cv∧PySem.W.kitOne K cv dv=some b∧Q (.bl b) H
section
variable {X:Cx} {e:Expr} {f:Str} {pos:Pos} {ta:TE}
theorem zoM (he:PE X e ta) (hb:attributeBase e f X.env (eval e X.env)=eval e X.env):PE X (.Attribute e f pos) (znt X.K ta f):=by
 intro pins s σ H Q I h
 refine ztT hb (thn (he pins s σ H _ I h) fun u s1 hQ'=>?_)
 obtain ⟨x,H1,I1,rx,a,C,dx,fs,v,ex,ea,ed,Z,l,q⟩:=hQ'
 subst ex
 obtain rfl:u=Value.ref a:=rx
 obtain ⟨⟨oe,vs,ge,ce,fe,de⟩,_⟩:=(I1.hok a _ ea:zcG X.prog X.w H1 s1.heap a (zeI a (.ref C) (some dx)))
 obtain ⟨mA,ns,r⟩:=(I1.hok dx _ ed:zcG X.prog X.w H1 s1.heap dx (.xd fs))
 obtain ⟨u,hu,ru⟩:=ztI.some_of (v:=v) (o:=mA f) (by rw [← l];exact r f)
 obtain ⟨oD,gD,lD⟩:=zkM ns
 have J:PySem.W.InstAt s1.heap a oe C (some oD):=⟨ge,ce,by unfold PySem.W.notCls;rw [fe],by rw [de];exact gD⟩
 have I2:=I1.tok (s1.toks+1)
 obtain ⟨hh,g,d,t,os⟩:=s1
 exact zsQ I1.kIn Z.five J (PySem.W.findObj_own Z.hd Z.na rfl (by rw [lD,hu])) (zoX ru) ⟨v,H1,I2,ru,q⟩
theorem zcX:zfP X (.builtin "isinstance") (zfw X.K):=by
 intro pins s σ H xs us Q I r h
 obtain ⟨a,c,cv,od,dv,b,rfl,hc,ha,k,e,q⟩:=h
 obtain ⟨u,w',rfl,rx,rw'⟩:=zm7 r
 obtain rfl:=zjJ rw' hc
 cases (show u=Value.ref a from rx)
 obtain ⟨p,_,_⟩:=(show zcG X.prog X.w H s.heap a (zeI a cv od) from I.hok a _ ha)
 exact PySem.W.kia_one (k.kit a) I.kIn p.is e (fun z=>nomatch z) fun tk=>⟨.bl b,H,I.tok tk,rfl,q⟩
end
theorem znf {K:PySem.W.Frag} {C fI:Addr} (Z:zew K C) (ZI:ExI K C fI):zdQ K (.ref C):=by
 obtain ⟨nm,q,N,bs,bm,sn,sub,ab,col,dd,k0,k1,k2,k3,k5,lk,tl⟩:=ZI.lk
 exact ⟨fun x=>{
  ty:=fun M h _ p=>by
   obtain ⟨oe,vs,e,c,_⟩:=p
   exact c ▸ (PySem.W.Looks.ld e).andThen .now
  it:=fun M h X _=>by
   have hC:=X _ _ lk
   intro A' Q' E' s' k q
   unfold isType loadHead
   exact wpAny_bind (wpAny_loadPart (k _ _ hC) (wpAny_pure q))
  ne:=fun h tp dd its n sl X htp=>by
   have hC:=X _ _ lk
   refine Bool.eq_false_iff.mpr fun q=>?_
   have e:C=tp:=Value.ref.inj (beq_iff_eq.mp q)
   subst e
   rw [hC] at htp
   have z:=congrArg Obj.data (Option.some.inj htp)
   exact nomatch z
  ca:=fun {prog w A E Q s} X p q=>by
   obtain ⟨h,g,d,t,os⟩:=s
   obtain ⟨oe,vs,e,c,_⟩:=p
   exact zhk X Z PySem.F.attrBase_ValueError e c q }⟩
theorem ztK {K:PySem.W.Frag} {C fI:Addr} {nm:Str} {H:Hp} {Q:VK} {y:Addr} {v:V} (Z:ExI K C fI) (na:PySem.W.findIn K (.ref C) nm=some none) (hy:H y=some (zpO y C)) (q:∀ dx,H dx=none→dx≠y→Q .non (upd (upd H y (zqR y C dx)) dx (.xd [(nm,v)]))) :
  (zaG (zbP (tBI K (zab (zac 0) (zab (zac 1) zah)))) (zrZ K (zac 0) (zac 1) nm)) { nx:=fun _ H'=>Q .non H',rt:=Q } [some (.ref y),some v] H:=by
 simp only [zaG,zbP,tBI,zab,zah,zac,zrZ,List.getElem?_cons_zero,List.getElem?_cons_succ,Option.some.injEq,exists_eq_left']
 exact ⟨y,v,C,rfl,hy,⟨_,Z⟩,y,C,rfl,hy,⟨_,Z⟩,na,q⟩
def zsm:Stmt→List Stmt
 | .ClassDef _ _ _ b _ _ _ _ _ _ _=>b
 | _=>[]
theorem vlst2 {us:List Value} (h:us.length=2):∃ x y,us=[x,y]:=match us,h with | [x,y],_=>⟨x,y,rfl⟩
end L2
namespace L2
open PySem PySem.Spec PyProof.Rows
section
variable {X:Cx} {CX:CXT} {k:Nat} {f:Addr} {fd:FuncData} {ps:List Str} {sp:Sp} {E:St→XK} {pos:Pos} {fe e:Expr} {es:List Expr} {tf:TE} {t:TA}
def zfm (K:PySem.W.Frag):List V→Hp→VK→Prop:=fun xs H Q=>∃ (a tp:Addr) (cs:List V) (c:Value) (od:Option Addr) (cvs:List Value) (b:Bool),xs=[.ref a,.ref tp]∧H a=some (zeI a c od)∧zdQ K c∧SqT K H tp cs∧zpZ cs=some cvs∧PySem.W.kitAny K c cvs=some b∧Q (.bl b) H
theorem zfc:zfP X (.builtin "isinstance") (zfm X.K):=by
 intro pins s σ H xs us Q I r h
 obtain ⟨a,tp,cs,c,od,cvs,b,rfl,ha,k,ht,hc,e,q⟩:=h
 obtain ⟨u,w',rfl,rx,rw'⟩:=zm7 r
 cases rx
 cases rw'
 obtain ⟨p',_,_⟩:=(show zcG X.prog X.w H s.heap a (zeI a c od) from I.hok a _ ha)
 have p:=zkv.is p'
 obtain ⟨ws,rv,⟨⟨cls,dd,data,sl⟩,e1,e2,n,e3⟩,_⟩:=I.tuple ht
 obtain rfl:=zkC rv hc
 simp only at e2 e3
 subst e2 e3
 exact PySem.W.kia_tup (k.kit a) I.kIn p e1 e (fun z=>nomatch z) fun tk=>⟨.bl b,H,I.tok tk,rfl,q⟩
end
end L2
namespace L2
open PySem PySem.Spec PyProof.Rows
def okS (x:Str):Prop:=PyData.strOk x=true
def rEqS (K:PySem.W.Frag):R2:=fun x y H Q=>∃ (a b:Addr) (ns ms:List Str),x=.ref a∧y=.ref b∧(∀ x∈ns,okS x)∧(∀ x∈ms,okS x)∧SqL K H a (ns.map V.str)∧SqL K H b (ms.map V.str)∧Q (.bl (decide (ns=ms))) H
theorem zf0:∀ ns:List Str,(∀ x∈ns,okS x)→PyData.canLayAll0 (ns.map PyData.str)=true
 | [],_=>rfl
 | x::r,h=>by
  have h0:PyData.strOk x=true:=h x List.mem_cons_self
  simp [PyData.canLayAll0,PyData.canLay0,zf0 r fun y hy=>h y (List.mem_cons_of_mem _ hy),h0]
theorem zhG:∀ ns:List Str,PyData.depthAll (ns.map PyData.str)=0
 | []=>rfl
 | _::r=>by simp [PyData.depthAll,PyData.depth,zhG r]
theorem zlr (ns:List Str) (h:∀ x∈ns,okS x):SeqAt.shaped (.list (ns.map PyData.str))=true:=by
 simp [SeqAt.shaped,PyData.canLay0,PyData.depth,zf0 ns h,zhG]
theorem zi9:∀ ns ms:List Str,PySem.Spec.sameAll (ns.map PyData.str) (ms.map PyData.str)=decide (ns=ms)
 | [],[]=>by simp [PySem.Spec.sameAll]
 | [],_::_=>by simp [PySem.Spec.sameAll]
 | _::_,[]=>by simp [PySem.Spec.sameAll]
 | a::r,b::t=>by
  simp only [List.map_cons,PySem.Spec.sameAll,PySem.Spec.same,zi9 r t]
  by_cases h:a=b <;> by_cases h':r=t <;> simp [h,h']
theorem zsX (ns ms:List Str):PySem.Spec.same (.list (ns.map PyData.str)) (.list (ms.map PyData.str))=decide (ns=ms):=by
 simp only [PySem.Spec.same]
 exact zi9 ns ms
theorem zgu:∀ {ns:List Str} {us:List Value},zcc (ns.map V.str) us→CarriedAll us (ns.map PyData.str)
 | [],_,r=>by rw [List.map_nil] at r;cases r;exact .nil
 | n::ns,_,r=>by
  rw [List.map_cons] at r
  cases r with
  | cons h t =>
   obtain ⟨t',rfl⟩:=h
   exact .cons (.str _ t') (zgu t)
section
variable {X:Cx}
theorem zuy (hu:X.A.units+64<cLine):OpR X (compareOp .Eq) (rEqS X.K):=by
 intro pins s σ H x y v u Q I rx ry h
 obtain ⟨a,b,ns,ms,rfl,rfl,o1,o2,ha,hb,q⟩:=h
 cases rx
 cases ry
 obtain ⟨us,r1,p1,_⟩:=I.list ha
 obtain ⟨vs,r2,p2,_⟩:=I.list hb
 exact eq_dataH_same (reads_newData p1.isList (zgu r1)) (reads_newData p2.isList (zgu r2)) (zlr _ o1) (zlr _ o2) hu (SeqAt.noMix_of_shape (.list .str) rfl _ _ (list_map_has fun _=>rfl) (list_map_has fun _=>rfl)) (by rw [zsX];exact ⟨.bl _,H,I,rfl,q⟩)
end
end L2
set_option maxHeartbeats 4000000
local macro_rules
 | `(tactic| simp_all only [$xs,*])=>do
  let ds ← ("zsU zsf zsB ztE zsw zs2 zsg ztP zs8 zrj zq1 zrm zpU rI_c rI0_c zu2 ex_bl zuV zui zuO zuE zqG zro zq0 zq7 zqI zqY zp6 zqZ zpY zqF znP zo4 znR zpp zoh rEqS zqo ztW rEqD rNeD zbM znV tSl zaZ zcP zfl zid zaI tBM zsO zeo zaG zaR za5 tCB zab zah tC tOp za8 zpP zcw zcu zbP zbX zat rEq zsd zfm znt zt4 zel tUn tB tOr zii zf8 zop zds rU zuk zmS zj8 zqd zrs zeV zlN zcs zlw zjI iZip zpL zu3 rNe zte zk8 ziY rEqE gLst zjx rEqI zmR ztQ zo8 tTru".splitOn " ").toArray.mapM fun s=>`(Lean.Parser.Tactic.simpLemma| ↓ $(Lean.mkIdent s.toName):ident)
  let ps ← ("zt3 Option.bind_some Option.bind_none Option.join_some Option.map_some List.getElem?_cons_zero List.getElem?_cons_succ V.str.injEq V.ty.injEq zac rI rI0 zcO L2.zb1 zqk ztz zrt ztG List.map_cons List.map_nil List.length_cons List.length_nil List.replicate List.cons_append List.nil_append List.append_nil Option.some.injEq exists_eq_left' exists_eq_left exists_and_left List.cons.injEq V.int.injEq V.ref.injEq V.bl.injEq and_true true_and List.set_cons_zero List.set_cons_succ Nat.reduceAdd Nat.reduceSub Int.reduceToNat Int.reducePow Int.reduceNeg Int.reduceMul Int.reduceAdd Int.reduceSub decide_eq_true_eq Bool.not_eq_true' decide_eq_false_iff_not exists_const and_assoc exists_eq exists_eq' if_true if_false Bool.false_eq_true Bool.true_eq_false reduceCtorEq not_true_eq_false not_false_eq_true zil".splitOn " ").toArray.mapM fun s=>`(Lean.Parser.Tactic.simpLemma| $(Lean.mkIdent s.toName):ident)
  `(tactic| simp only [$xs,*,$ds,*,$ps,*])
namespace My
local macro_rules | `(tactic| omega)=>`(tactic| lia)
open PySem L2
def top (i:Nat):Stmt:=PySem.Challenge.pw_hideworth_k27_orders_refused.main.body.getD i (.Pass ⟨0,0,0,0⟩)
abbrev zhi:Stmt:=top 21
abbrev zl5:Stmt:=top 22
abbrev zgm:Stmt:=top 24
abbrev zfy:Stmt:=top 25
abbrev zdK:Stmt:=top 26
abbrev zke:Stmt:=top 32
abbrev zd2:Stmt:=top 33
abbrev zfW:Stmt:=top 34
abbrev zmm:Stmt:=top 35
abbrev zjM:Stmt:=top 36
abbrev zfH:Stmt:=top 38
abbrev zem:Stmt:=top 39
abbrev zeO:Stmt:=top 40
abbrev zea:Stmt:=top 41
abbrev zey:Stmt:=top 42
abbrev zdH:Stmt:=top 43
abbrev zfb:Stmt:=top 44
abbrev zhL:Stmt:=top 45
abbrev zez:Stmt:=top 46
abbrev zdy:Stmt:=top 47
abbrev ze7:Stmt:=top 49
abbrev zfI:Stmt:=top 50
abbrev zeX:Stmt:=top 51
abbrev zd7:Stmt:=top 52
abbrev zev:Stmt:=top 53
abbrev zeM:Stmt:=top 54
abbrev zdS:Stmt:=top 55
abbrev zde:Stmt:=top 56
abbrev zeY:Stmt:=top 57
abbrev zdR:Stmt:=top 58
abbrev zeZ:Stmt:=top 59
abbrev zd6:Stmt:=top 60
abbrev zdo:Stmt:=top 61
abbrev zn4:Stmt:=top 62
abbrev zc2:Stmt:=(zsm (top 17)).getD 0 (.Pass ⟨0,0,0,0⟩)
set_option genInjectivity false in
set_option genSizeOf false in
structure Ad where
 f_divisor:Addr
 d_divisor:FuncData
 f_ratio:Addr
 d_ratio:FuncData
 f_is_whole:Addr
 d_is_whole:FuncData
 f_is_within:Addr
 d_is_within:FuncData
 f_are_weights:Addr
 d_are_weights:FuncData
 f_is_box:Addr
 d_is_box:FuncData
 f_look_boxes:Addr
 d_look_boxes:FuncData
 f_is_plan:Addr
 d_is_plan:FuncData
 f_power:Addr
 d_power:FuncData
 f_missed:Addr
 d_missed:FuncData
 f_look_plan:Addr
 d_look_plan:FuncData
 f_is_order:Addr
 d_is_order:FuncData
 f_look_order:Addr
 d_look_order:FuncData
 f_looks_bottom:Addr
 d_looks_bottom:FuncData
 f_chance_tops:Addr
 d_chance_tops:FuncData
 f_tops_by_box:Addr
 d_tops_by_box:FuncData
 f_looks_in:Addr
 d_looks_in:FuncData
 f_awaited:Addr
 d_awaited:FuncData
 f_is_sorted:Addr
 d_is_sorted:FuncData
 f_best_order:Addr
 d_best_order:FuncData
 f__law_purse:Addr
 d__law_purse:FuncData
 f__law_draw:Addr
 d__law_draw:FuncData
 f__law_boxes:Addr
 d__law_boxes:FuncData
 f__law_weights:Addr
 d__law_weights:FuncData
 f__law_plan:Addr
 d__law_plan:FuncData
 f__law_order:Addr
 d__law_order:FuncData
 f__law_no_boxes:Addr
 d__law_no_boxes:FuncData
 f__law_no_numbers:Addr
 d__law_no_numbers:FuncData
 f__law_marks:Addr
 d__law_marks:FuncData
 f__law_no_order:Addr
 d__law_no_order:FuncData
 f__law_asked:Addr
 d__law_asked:FuncData
 f__law_refused:Addr
 d__law_refused:FuncData
 f__law_choices:Addr
 d__law_choices:FuncData
 f_law:Addr
 d_law:FuncData
 c_HideError:Addr
 c_NoWeb:Addr
 c_NoPlan:Addr
 c_NoText:Addr
 c_NoKind:Addr
 c_TooGreat:Addr
 c_NoTree:Addr
 c_NoWeights:Addr
 c_NoTurns:Addr
 c_NoNumber:Addr
 c_NoBoxes:Addr
 c_NoBudget:Addr
 c_NoName:Addr
 c_NoOrder:Addr
 c_NoPlay:Addr
 c_NoRoad:Addr
 c_NoRow:Addr
 c_NoTable:Addr
 c_NoPaper:Addr
 i_NoPlan:Addr
 j_NoPlan:FuncData
 k_MOST_BOXES:Tok
 k_MOST_COST:Tok
 k_MOST_OF:Tok
 k_MOST_LOOKS:Tok
structure Isa (K:PySem.W.Frag) (a:Ad):Prop where
 k_NoWeb:PySem.W.kitOne K (.ref a.c_NoPlan) (.ref a.c_NoWeb)=some false
 k_NoPlan:PySem.W.kitOne K (.ref a.c_NoPlan) (.ref a.c_NoPlan)=some true
 k_NoText:PySem.W.kitOne K (.ref a.c_NoPlan) (.ref a.c_NoText)=some false
 k_NoKind:PySem.W.kitOne K (.ref a.c_NoPlan) (.ref a.c_NoKind)=some false
 k_TooGreat:PySem.W.kitOne K (.ref a.c_NoPlan) (.ref a.c_TooGreat)=some false
 k_NoTree:PySem.W.kitOne K (.ref a.c_NoPlan) (.ref a.c_NoTree)=some false
 k_NoWeights:PySem.W.kitOne K (.ref a.c_NoPlan) (.ref a.c_NoWeights)=some false
 k_NoTurns:PySem.W.kitOne K (.ref a.c_NoPlan) (.ref a.c_NoTurns)=some false
 k_NoNumber:PySem.W.kitOne K (.ref a.c_NoPlan) (.ref a.c_NoNumber)=some false
 k_NoBoxes:PySem.W.kitOne K (.ref a.c_NoPlan) (.ref a.c_NoBoxes)=some false
 k_NoBudget:PySem.W.kitOne K (.ref a.c_NoPlan) (.ref a.c_NoBudget)=some false
 k_NoName:PySem.W.kitOne K (.ref a.c_NoPlan) (.ref a.c_NoName)=some false
 k_NoOrder:PySem.W.kitOne K (.ref a.c_NoPlan) (.ref a.c_NoOrder)=some false
 k_NoPlay:PySem.W.kitOne K (.ref a.c_NoPlan) (.ref a.c_NoPlay)=some false
 k_NoRoad:PySem.W.kitOne K (.ref a.c_NoPlan) (.ref a.c_NoRoad)=some false
 k_NoRow:PySem.W.kitOne K (.ref a.c_NoPlan) (.ref a.c_NoRow)=some false
 k_NoTable:PySem.W.kitOne K (.ref a.c_NoPlan) (.ref a.c_NoTable)=some false
 k_NoPaper:PySem.W.kitOne K (.ref a.c_NoPlan) (.ref a.c_NoPaper)=some false
 k_ValueError:PySem.W.kitOne K (.ref a.c_NoPlan) (.type "ValueError")=some true
 sub:PySem.W.subIn K (.ref a.c_NoPlan) (.ref a.c_HideError)=some true
 ec:zdQ K (.ref a.c_NoPlan)
structure Isa2 (K:PySem.W.Frag) (a:Ad):Prop where
 k_NoWeb:PySem.W.kitOne K (.ref a.c_NoBoxes) (.ref a.c_NoWeb)=some false
 k_NoPlan:PySem.W.kitOne K (.ref a.c_NoBoxes) (.ref a.c_NoPlan)=some false
 k_NoText:PySem.W.kitOne K (.ref a.c_NoBoxes) (.ref a.c_NoText)=some false
 k_NoKind:PySem.W.kitOne K (.ref a.c_NoBoxes) (.ref a.c_NoKind)=some false
 k_TooGreat:PySem.W.kitOne K (.ref a.c_NoBoxes) (.ref a.c_TooGreat)=some false
 k_NoTree:PySem.W.kitOne K (.ref a.c_NoBoxes) (.ref a.c_NoTree)=some false
 k_NoWeights:PySem.W.kitOne K (.ref a.c_NoBoxes) (.ref a.c_NoWeights)=some false
 k_NoTurns:PySem.W.kitOne K (.ref a.c_NoBoxes) (.ref a.c_NoTurns)=some false
 k_NoNumber:PySem.W.kitOne K (.ref a.c_NoBoxes) (.ref a.c_NoNumber)=some false
 k_NoBoxes:PySem.W.kitOne K (.ref a.c_NoBoxes) (.ref a.c_NoBoxes)=some true
 k_NoBudget:PySem.W.kitOne K (.ref a.c_NoBoxes) (.ref a.c_NoBudget)=some false
 k_NoName:PySem.W.kitOne K (.ref a.c_NoBoxes) (.ref a.c_NoName)=some false
 k_NoOrder:PySem.W.kitOne K (.ref a.c_NoBoxes) (.ref a.c_NoOrder)=some false
 k_NoPlay:PySem.W.kitOne K (.ref a.c_NoBoxes) (.ref a.c_NoPlay)=some false
 k_NoRoad:PySem.W.kitOne K (.ref a.c_NoBoxes) (.ref a.c_NoRoad)=some false
 k_NoRow:PySem.W.kitOne K (.ref a.c_NoBoxes) (.ref a.c_NoRow)=some false
 k_NoTable:PySem.W.kitOne K (.ref a.c_NoBoxes) (.ref a.c_NoTable)=some false
 k_NoPaper:PySem.W.kitOne K (.ref a.c_NoBoxes) (.ref a.c_NoPaper)=some false
 k_ValueError:PySem.W.kitOne K (.ref a.c_NoBoxes) (.type "ValueError")=some true
 sub:PySem.W.subIn K (.ref a.c_NoBoxes) (.ref a.c_HideError)=some true
 ec:zdQ K (.ref a.c_NoBoxes)
structure Isa3 (K:PySem.W.Frag) (a:Ad):Prop where
 k_NoWeb:PySem.W.kitOne K (.ref a.c_NoWeights) (.ref a.c_NoWeb)=some false
 k_NoPlan:PySem.W.kitOne K (.ref a.c_NoWeights) (.ref a.c_NoPlan)=some false
 k_NoText:PySem.W.kitOne K (.ref a.c_NoWeights) (.ref a.c_NoText)=some false
 k_NoKind:PySem.W.kitOne K (.ref a.c_NoWeights) (.ref a.c_NoKind)=some false
 k_TooGreat:PySem.W.kitOne K (.ref a.c_NoWeights) (.ref a.c_TooGreat)=some false
 k_NoTree:PySem.W.kitOne K (.ref a.c_NoWeights) (.ref a.c_NoTree)=some false
 k_NoWeights:PySem.W.kitOne K (.ref a.c_NoWeights) (.ref a.c_NoWeights)=some true
 k_NoTurns:PySem.W.kitOne K (.ref a.c_NoWeights) (.ref a.c_NoTurns)=some false
 k_NoNumber:PySem.W.kitOne K (.ref a.c_NoWeights) (.ref a.c_NoNumber)=some false
 k_NoBoxes:PySem.W.kitOne K (.ref a.c_NoWeights) (.ref a.c_NoBoxes)=some false
 k_NoBudget:PySem.W.kitOne K (.ref a.c_NoWeights) (.ref a.c_NoBudget)=some false
 k_NoName:PySem.W.kitOne K (.ref a.c_NoWeights) (.ref a.c_NoName)=some false
 k_NoOrder:PySem.W.kitOne K (.ref a.c_NoWeights) (.ref a.c_NoOrder)=some false
 k_NoPlay:PySem.W.kitOne K (.ref a.c_NoWeights) (.ref a.c_NoPlay)=some false
 k_NoRoad:PySem.W.kitOne K (.ref a.c_NoWeights) (.ref a.c_NoRoad)=some false
 k_NoRow:PySem.W.kitOne K (.ref a.c_NoWeights) (.ref a.c_NoRow)=some false
 k_NoTable:PySem.W.kitOne K (.ref a.c_NoWeights) (.ref a.c_NoTable)=some false
 k_NoPaper:PySem.W.kitOne K (.ref a.c_NoWeights) (.ref a.c_NoPaper)=some false
 k_ValueError:PySem.W.kitOne K (.ref a.c_NoWeights) (.type "ValueError")=some true
 sub:PySem.W.subIn K (.ref a.c_NoWeights) (.ref a.c_HideError)=some true
 ec:zdQ K (.ref a.c_NoWeights)
structure Isa4 (K:PySem.W.Frag) (a:Ad):Prop where
 k_NoWeb:PySem.W.kitOne K (.ref a.c_NoOrder) (.ref a.c_NoWeb)=some false
 k_NoPlan:PySem.W.kitOne K (.ref a.c_NoOrder) (.ref a.c_NoPlan)=some false
 k_NoText:PySem.W.kitOne K (.ref a.c_NoOrder) (.ref a.c_NoText)=some false
 k_NoKind:PySem.W.kitOne K (.ref a.c_NoOrder) (.ref a.c_NoKind)=some false
 k_TooGreat:PySem.W.kitOne K (.ref a.c_NoOrder) (.ref a.c_TooGreat)=some false
 k_NoTree:PySem.W.kitOne K (.ref a.c_NoOrder) (.ref a.c_NoTree)=some false
 k_NoWeights:PySem.W.kitOne K (.ref a.c_NoOrder) (.ref a.c_NoWeights)=some false
 k_NoTurns:PySem.W.kitOne K (.ref a.c_NoOrder) (.ref a.c_NoTurns)=some false
 k_NoNumber:PySem.W.kitOne K (.ref a.c_NoOrder) (.ref a.c_NoNumber)=some false
 k_NoBoxes:PySem.W.kitOne K (.ref a.c_NoOrder) (.ref a.c_NoBoxes)=some false
 k_NoBudget:PySem.W.kitOne K (.ref a.c_NoOrder) (.ref a.c_NoBudget)=some false
 k_NoName:PySem.W.kitOne K (.ref a.c_NoOrder) (.ref a.c_NoName)=some false
 k_NoOrder:PySem.W.kitOne K (.ref a.c_NoOrder) (.ref a.c_NoOrder)=some true
 k_NoPlay:PySem.W.kitOne K (.ref a.c_NoOrder) (.ref a.c_NoPlay)=some false
 k_NoRoad:PySem.W.kitOne K (.ref a.c_NoOrder) (.ref a.c_NoRoad)=some false
 k_NoRow:PySem.W.kitOne K (.ref a.c_NoOrder) (.ref a.c_NoRow)=some false
 k_NoTable:PySem.W.kitOne K (.ref a.c_NoOrder) (.ref a.c_NoTable)=some false
 k_NoPaper:PySem.W.kitOne K (.ref a.c_NoOrder) (.ref a.c_NoPaper)=some false
 k_ValueError:PySem.W.kitOne K (.ref a.c_NoOrder) (.type "ValueError")=some true
 sub:PySem.W.subIn K (.ref a.c_NoOrder) (.ref a.c_HideError)=some true
 ec:zdQ K (.ref a.c_NoOrder)
structure Txt (K:PySem.W.Frag) (mg:Str→Option Value) (a:Ad):Prop where
 F_divisor:Fun K "divisor" "divisor" zhi a.f_divisor a.d_divisor
 b_divisor:zb4 K a.d_divisor ["one","other"] []
 m_divisor:mg "divisor"=some (.ref a.f_divisor)
 F_ratio:Fun K "ratio" "ratio" zl5 a.f_ratio a.d_ratio
 b_ratio:zb4 K a.d_ratio ["top","bottom"] []
 m_ratio:mg "ratio"=some (.ref a.f_ratio)
 F_is_whole:Fun K "is_whole" "is_whole" zgm a.f_is_whole a.d_is_whole
 b_is_whole:zb4 K a.d_is_whole ["thing"] []
 m_is_whole:mg "is_whole"=some (.ref a.f_is_whole)
 F_is_within:Fun K "is_within" "is_within" zfy a.f_is_within a.d_is_within
 b_is_within:zb4 K a.d_is_within ["thing","least","most"] []
 m_is_within:mg "is_within"=some (.ref a.f_is_within)
 F_are_weights:Fun K "are_weights" "are_weights" zdK a.f_are_weights a.d_are_weights
 b_are_weights:zb4 K a.d_are_weights ["thing","many"] []
 m_are_weights:mg "are_weights"=some (.ref a.f_are_weights)
 F_is_box:Fun K "is_box" "is_box" zke a.f_is_box a.d_is_box
 b_is_box:zb4 K a.d_is_box ["thing"] []
 m_is_box:mg "is_box"=some (.ref a.f_is_box)
 F_look_boxes:Fun K "look_boxes" "look_boxes" zd2 a.f_look_boxes a.d_look_boxes
 b_look_boxes:zb4 K a.d_look_boxes ["boxes"] []
 m_look_boxes:mg "look_boxes"=some (.ref a.f_look_boxes)
 F_is_plan:Fun K "is_plan" "is_plan" zfW a.f_is_plan a.d_is_plan
 b_is_plan:zb4 K a.d_is_plan ["thing","boxes"] []
 m_is_plan:mg "is_plan"=some (.ref a.f_is_plan)
 F_power:Fun K "power" "power" zmm a.f_power a.d_power
 b_power:zb4 K a.d_power ["base","count"] []
 m_power:mg "power"=some (.ref a.f_power)
 F_missed:Fun K "missed" "missed" zjM a.f_missed a.d_missed
 b_missed:zb4 K a.d_missed ["box","count"] []
 m_missed:mg "missed"=some (.ref a.f_missed)
 F_look_plan:Fun K "look_plan" "look_plan" zfH a.f_look_plan a.d_look_plan
 b_look_plan:zb4 K a.d_look_plan ["boxes","weights","plan"] []
 m_look_plan:mg "look_plan"=some (.ref a.f_look_plan)
 F_is_order:Fun K "is_order" "is_order" zem a.f_is_order a.d_is_order
 b_is_order:zb4 K a.d_is_order ["thing","plan"] []
 m_is_order:mg "is_order"=some (.ref a.f_is_order)
 F_look_order:Fun K "look_order" "look_order" zeO a.f_look_order a.d_look_order
 b_look_order:zb4 K a.d_look_order ["boxes","weights","plan","order"] []
 m_look_order:mg "look_order"=some (.ref a.f_look_order)
 F_looks_bottom:Fun K "looks_bottom" "looks_bottom" zea a.f_looks_bottom a.d_looks_bottom
 b_looks_bottom:zb4 K a.d_looks_bottom ["boxes","plan"] []
 m_looks_bottom:mg "looks_bottom"=some (.ref a.f_looks_bottom)
 F_chance_tops:Fun K "chance_tops" "chance_tops" zey a.f_chance_tops a.d_chance_tops
 b_chance_tops:zb4 K a.d_chance_tops ["box","weight","count","bottom"] []
 m_chance_tops:mg "chance_tops"=some (.ref a.f_chance_tops)
 F_tops_by_box:Fun K "tops_by_box" "tops_by_box" zdH a.f_tops_by_box a.d_tops_by_box
 b_tops_by_box:zb4 K a.d_tops_by_box ["boxes","weights","plan"] []
 m_tops_by_box:mg "tops_by_box"=some (.ref a.f_tops_by_box)
 F_looks_in:Fun K "looks_in" "looks_in" zfb a.f_looks_in a.d_looks_in
 b_looks_in:zb4 K a.d_looks_in ["boxes","weights","plan","order"] []
 m_looks_in:mg "looks_in"=some (.ref a.f_looks_in)
 F_awaited:Fun K "awaited" "awaited" zhL a.f_awaited a.d_awaited
 b_awaited:zb4 K a.d_awaited ["boxes","weights","plan","order"] []
 m_awaited:mg "awaited"=some (.ref a.f_awaited)
 F_is_sorted:Fun K "is_sorted" "is_sorted" zez a.f_is_sorted a.d_is_sorted
 b_is_sorted:zb4 K a.d_is_sorted ["boxes","weights","plan","order"] []
 m_is_sorted:mg "is_sorted"=some (.ref a.f_is_sorted)
 F_best_order:Fun K "best_order" "best_order" zdy a.f_best_order a.d_best_order
 b_best_order:zb4 K a.d_best_order ["boxes","weights","plan"] []
 m_best_order:mg "best_order"=some (.ref a.f_best_order)
 F__law_purse:Fun K "_law_purse" "_law_purse" ze7 a.f__law_purse a.d__law_purse
 b__law_purse:zb4 K a.d__law_purse ["_law_script"] []
 m__law_purse:mg "_law_purse"=some (.ref a.f__law_purse)
 F__law_draw:Fun K "_law_draw" "_law_draw" zfI a.f__law_draw a.d__law_draw
 b__law_draw:zb4 K a.d__law_draw ["_law_purse_here","_law_out_of"] []
 m__law_draw:mg "_law_draw"=some (.ref a.f__law_draw)
 F__law_boxes:Fun K "_law_boxes" "_law_boxes" zeX a.f__law_boxes a.d__law_boxes
 b__law_boxes:zb4 K a.d__law_boxes ["_law_purse_here","_law_most"] []
 m__law_boxes:mg "_law_boxes"=some (.ref a.f__law_boxes)
 F__law_weights:Fun K "_law_weights" "_law_weights" zd7 a.f__law_weights a.d__law_weights
 b__law_weights:zb4 K a.d__law_weights ["_law_purse_here","_law_many"] []
 m__law_weights:mg "_law_weights"=some (.ref a.f__law_weights)
 F__law_plan:Fun K "_law_plan" "_law_plan" zev a.f__law_plan a.d__law_plan
 b__law_plan:zb4 K a.d__law_plan ["_law_purse_here","_law_many"] []
 m__law_plan:mg "_law_plan"=some (.ref a.f__law_plan)
 F__law_order:Fun K "_law_order" "_law_order" zeM a.f__law_order a.d__law_order
 b__law_order:zb4 K a.d__law_order ["_law_purse_here","_law_plan_here"] []
 m__law_order:mg "_law_order"=some (.ref a.f__law_order)
 F__law_no_boxes:Fun K "_law_no_boxes" "_law_no_boxes" zdS a.f__law_no_boxes a.d__law_no_boxes
 b__law_no_boxes:zb4 K a.d__law_no_boxes ["_law_purse_here","_law_boxes_here"] []
 m__law_no_boxes:mg "_law_no_boxes"=some (.ref a.f__law_no_boxes)
 F__law_no_numbers:Fun K "_law_no_numbers" "_law_no_numbers" zde a.f__law_no_numbers a.d__law_no_numbers
 b__law_no_numbers:zb4 K a.d__law_no_numbers ["_law_purse_here","_law_numbers","_law_most"] []
 m__law_no_numbers:mg "_law_no_numbers"=some (.ref a.f__law_no_numbers)
 F__law_marks:Fun K "_law_marks" "_law_marks" zeY a.f__law_marks a.d__law_marks
 b__law_marks:zb4 K a.d__law_marks ["_law_caught"] []
 m__law_marks:mg "_law_marks"=some (.ref a.f__law_marks)
 F__law_no_order:Fun K "_law_no_order" "_law_no_order" zdR a.f__law_no_order a.d__law_no_order
 b__law_no_order:zb4 K a.d__law_no_order ["_law_purse_here","_law_order_here","_law_many"] []
 m__law_no_order:mg "_law_no_order"=some (.ref a.f__law_no_order)
 F__law_asked:Fun K "_law_asked" "_law_asked" zeZ a.f__law_asked a.d__law_asked
 b__law_asked:zb4 K a.d__law_asked ["_law_k","_law_boxes_here","_law_weights_here","_law_plan_here","_law_order_here"] []
 m__law_asked:mg "_law_asked"=some (.ref a.f__law_asked)
 F__law_refused:Fun K "_law_refused" "_law_refused" zd6 a.f__law_refused a.d__law_refused
 b__law_refused:zb4 K a.d__law_refused ["_law_k","_law_boxes_here","_law_weights_here","_law_plan_here","_law_order_here"] []
 m__law_refused:mg "_law_refused"=some (.ref a.f__law_refused)
 F__law_choices:Fun K "_law_choices" "_law_choices" zdo a.f__law_choices a.d__law_choices
 b__law_choices:zb4 K a.d__law_choices ["_law_purse_here"] []
 m__law_choices:mg "_law_choices"=some (.ref a.f__law_choices)
 F_law:Fun K "law" "law" zn4 a.f_law a.d_law
 b_law:zb4 K a.d_law ["_law_script"] []
 m_law:mg "law"=some (.ref a.f_law)
 z_zip:mg "zip"=none
 z_sum:mg "sum"=none
 z_list:mg "list"=none
 z_range:mg "range"=none
 z_len:mg "len"=none
 z_all:mg "all"=none
 z_max:mg "max"=none
 z_abs:mg "abs"=none
 z_isinstance:mg "isinstance"=none
 z_int:mg "int"=none
 z_bool:mg "bool"=none
 z_tuple:mg "tuple"=none
 z_str:mg "str"=none
 z_enumerate:mg "enumerate"=none
 z_sorted:mg "sorted"=none
 z_ValueError:mg "ValueError"=none
 m_HideError:mg "HideError"=some (.ref a.c_HideError)
 m_NoWeb:mg "NoWeb"=some (.ref a.c_NoWeb)
 m_NoPlan:mg "NoPlan"=some (.ref a.c_NoPlan)
 m_NoText:mg "NoText"=some (.ref a.c_NoText)
 m_NoKind:mg "NoKind"=some (.ref a.c_NoKind)
 m_TooGreat:mg "TooGreat"=some (.ref a.c_TooGreat)
 m_NoTree:mg "NoTree"=some (.ref a.c_NoTree)
 m_NoWeights:mg "NoWeights"=some (.ref a.c_NoWeights)
 m_NoTurns:mg "NoTurns"=some (.ref a.c_NoTurns)
 m_NoNumber:mg "NoNumber"=some (.ref a.c_NoNumber)
 m_NoBoxes:mg "NoBoxes"=some (.ref a.c_NoBoxes)
 m_NoBudget:mg "NoBudget"=some (.ref a.c_NoBudget)
 m_NoName:mg "NoName"=some (.ref a.c_NoName)
 m_NoOrder:mg "NoOrder"=some (.ref a.c_NoOrder)
 m_NoPlay:mg "NoPlay"=some (.ref a.c_NoPlay)
 m_NoRoad:mg "NoRoad"=some (.ref a.c_NoRoad)
 m_NoRow:mg "NoRow"=some (.ref a.c_NoRow)
 m_NoTable:mg "NoTable"=some (.ref a.c_NoTable)
 m_NoPaper:mg "NoPaper"=some (.ref a.c_NoPaper)
 m_MOST_BOXES:mg "MOST_BOXES"=some (.int 6 a.k_MOST_BOXES)
 m_MOST_COST:mg "MOST_COST"=some (.int 60 a.k_MOST_COST)
 m_MOST_OF:mg "MOST_OF"=some (.int 50 a.k_MOST_OF)
 m_MOST_LOOKS:mg "MOST_LOOKS"=some (.int 60 a.k_MOST_LOOKS)
 x_HideError:PySem.W.excIn K a.c_HideError zes "ValueError.__new__"=true
 x_NoBoxes:PySem.W.excIn K a.c_NoBoxes zes "ValueError.__new__"=true
 x_NoWeights:PySem.W.excIn K a.c_NoWeights zes "ValueError.__new__"=true
 x_NoOrder:PySem.W.excIn K a.c_NoOrder zes "ValueError.__new__"=true
 B:ExB K a.c_HideError
 I_NoPlan:Fun K "__init__" "NoPlan.__init__" zc2 a.i_NoPlan a.j_NoPlan
 bi_NoPlan:zb4 K a.j_NoPlan ["self","at"] []
 X_NoPlan:ExI K a.c_NoPlan a.i_NoPlan
 xa_NoPlan:zsW K a.c_NoPlan "at"
 I:Isa K a
 I2:Isa2 K a
 I3:Isa3 K a
 I4:Isa4 K a
def Bd (m:Nat) (x:Int):Prop:=x.natAbs<2 ^ m
theorem Bd.mono {m n:Nat} {x:Int} (h:Bd m x) (l:m≤n):Bd n x:=Nat.lt_of_lt_of_le h (Nat.pow_le_pow_right (by decide) l)
theorem Bd.mul {m n:Nat} {x y:Int} (hx:Bd m x) (hy:Bd n y):Bd (m+n) (x*y):=by
 unfold Bd at *
 rw [Int.natAbs_mul,Nat.pow_add]
 exact Nat.mul_lt_mul'' hx hy
theorem Bd.le {m:Nat} {x y:Int} (hy:Bd m y) (h:x.natAbs≤y.natAbs):Bd m x:=Nat.lt_of_le_of_lt h hy
def sg (t b:Int):Int:=if b<0 then -(Int.gcd t b:Int) else (Int.gcd t b:Int)
def zrL (t b:Int):Int:=t.fdiv (sg t b)
def zmO (t b:Int):Int:=b.fdiv (sg t b)
theorem zo5 {t b:Int} (h:b≠0):Int.gcd t b≠0:=fun e=>h (Int.gcd_eq_zero_iff.mp e).2
theorem zr6 {t b:Int} (h:b≠0):sg t b≠0:=by
 have:=zo5 (t:=t) h
 unfold sg
 split <;> omega
theorem zrC (t b:Int):(sg t b).natAbs=Int.gcd t b:=by
 unfold sg
 split <;> omega
theorem zsi (t b:Int):sg t b∣t:=by
 unfold sg
 split
 ·exact Int.neg_dvd.mpr (Int.gcd_dvd_left ..)
 ·exact Int.gcd_dvd_left ..
theorem zr1 (t b:Int):sg t b∣b:=by
 unfold sg
 split
 ·exact Int.neg_dvd.mpr (Int.gcd_dvd_right ..)
 ·exact Int.gcd_dvd_right ..
theorem ziZ {x g:Int} (h:g∣x):x.fdiv g*g=x:=by
 rw [Int.fdiv_eq_ediv_of_dvd h]
 exact Int.ediv_mul_cancel h
theorem zmY (t b:Int):zrL t b*sg t b=t:=ziZ (zsi t b)
theorem zkc (t b:Int):zmO t b*sg t b=b:=ziZ (zr1 t b)
theorem sg_le {t b:Int} (h:b≠0):(sg t b).natAbs≤b.natAbs:=by
 rw [zrC]
 exact Nat.le_of_dvd (by omega) (Int.natAbs_dvd_natAbs.mpr (Int.gcd_dvd_right t b))
theorem znx {q g x:Int} (h:q*g=x) (s:(0<x∧0<g)∨(x<0∧g<0)):0<q:=by
 rcases s with ⟨a,c⟩ | ⟨a,c⟩
 ·exact Int.pos_of_mul_pos_left (by rw [h];exact a) c
 ·by_cases z:0<q
  ·exact z
  ·have h1:0≤(-q)*(-g):=Int.mul_nonneg (by omega) (by omega)
   rw [Int.neg_mul_neg,h] at h1
   omega
theorem zqD {t b:Int} (h:b≠0):0<zmO t b:=by
 refine znx (zkc t b) ?_
 have g:=zo5 (t:=t) h
 unfold sg
 split <;> omega
theorem zso {t b:Int} (h:b≠0):Int.gcd (zrL t b) (zmO t b)=1:=by
 have e:Int.gcd (zrL t b*sg t b) (zmO t b*sg t b)=Int.gcd (zrL t b) (zmO t b)*(sg t b).natAbs:=Int.gcd_mul_right ..
 rw [zmY,zkc,zrC] at e
 exact Nat.eq_of_mul_eq_mul_right (Nat.pos_of_ne_zero (zo5 h)) (by rw [Nat.one_mul];exact e.symm)
theorem zrU {t b:Int} (h:b≠0):(Rat.divInt t b).num=zrL t b∧((Rat.divInt t b).den:Int)=zmO t b:=by
 have p:=zqD (t:=t) h
 have g:=zso (t:=t) h
 have e2:((zmO t b).toNat:Int)=zmO t b:=by omega
 have nz:(zmO t b).toNat≠0:=by omega
 have red:(zrL t b).natAbs.Coprime (zmO t b).toNat:=by
  have e:(zmO t b).toNat=(zmO t b).natAbs:=by omega
  rw [e]
  exact g
 have e:Rat.divInt t b=⟨zrL t b,(zmO t b).toNat,nz,red⟩:=by
  rw [Rat.mk_eq_divInt,e2,Rat.divInt_eq_divInt_iff h (by omega)]
  have h1:=zmY t b
  have h2:=zkc t b
  generalize zrL t b=x at h1 ⊢
  generalize zmO t b=y at h2 ⊢
  rw [← h1,← h2]
  grind
 rw [e]
 exact ⟨rfl,e2⟩
abbrev fr (q:Rat):List L2.V:=[.int q.num,.int (q.den:Int)]
abbrev nf (q:Rat):List Int:=[q.num,(q.den:Int)]
theorem zqQ {x y:Int} (hx:0≤x) (hy:0<y):Int.gcd y (x % y)=Int.gcd x y:=by
 obtain ⟨m,rfl⟩:=Int.eq_ofNat_of_zero_le hx
 obtain ⟨n,rfl⟩:=Int.eq_ofNat_of_zero_le (Int.le_of_lt hy)
 rw [← Int.natCast_emod]
 show Nat.gcd n (m % n)=Nat.gcd m n
 rw [Nat.gcd_comm n,← Nat.gcd_rec,Nat.gcd_comm]
theorem zog {x y:Int} (hx:0≤x) (hy:0<y):Int.gcd y (x.fmod y)=Int.gcd x y:=by
 rw [Int.fmod_eq_emod_of_nonneg x (Int.le_of_lt hy)]
 exact zqQ hx hy
theorem zrR (i:Int):(if i<0 then -i else i)=(i.natAbs:Int):=by
 split <;> omega
theorem zna (u:Int) (h:0≤u):((Int.gcd u 0:Nat):Int)=u:=by
 show ((Nat.gcd u.natAbs 0:Nat):Int)=u
 rw [Nat.gcd_zero_right]
 omega
theorem pow30:znN 10 30:=⟨by decide,by decide,by decide⟩
theorem pow18:znN 10 18:=⟨by decide,by decide,by decide⟩
def ztV:Sp:=fun vs H Q _=>∃ a b:Int,vs=[.int a,.int b]∧Q (.int (Int.gcd a b:Nat)) H
def zpV (K:PySem.W.Frag):Sp:=fun vs H Q _=>∃ (a:Addr) (ns:List Int),vs=[.ref a]∧SqL K H a (ns.map V.int)∧ns.length≤63∧∀ H',Q (.bl true) H'
abbrev Box:=Int×Int×Int
abbrev bx (b:Box):List V:=[.int b.1,.int b.2.1,.int b.2.2]
def GB (b:Box):Prop:=1≤b.1∧b.1≤60∧1≤b.2.1∧b.2.1≤b.2.2∧b.2.2≤50
theorem zcS {α β:Type} {f:α→β} {l:List α} {i:Nat} {y:β} (h:(l.map f)[i]?=some y):∃ x,l[i]?=some x∧y=f x:=by
 rw [List.getElem?_map] at h
 obtain ⟨x,h1,h2⟩:=Option.map_eq_some_iff.mp h
 exact ⟨x,h1,h2.symm⟩
def Tps {α:Type} (f:α→List V) (H:Hp) (ts:List Addr) (bs:List α):Prop:=ts.length=bs.length∧∀ (i:Nat) t b,ts[i]?=some t→bs[i]?=some b→H t=some (.tup (f b))
theorem Tps.same {α:Type} {f:α→List V} {H H':Hp} {ts:List Addr} {bs:List α} (h:Tps f H ts bs) (s:zaL H H'):Tps f H' ts bs:=⟨h.1,fun i t b e1 e2=>s _ _ (h.2 i t b e1 e2)⟩
theorem Tps.nil {α:Type} {f:α→List V} {H:Hp}:Tps f H [] ([]:List α):=⟨rfl,fun i t b e=>by simp at e⟩
theorem Tps.put {α:Type} {f:α→List V} {H H':Hp} {ts:List Addr} {bs:List α} {t:Addr} {b:α} (h:Tps f H ts bs) (s:∀ (x:Addr) (u:List V),H x=some (.tup u)→H' x=some (.tup u)) (e:H' t=some (.tup (f b))):Tps f H' (ts++[t]) (bs++[b]):=by
 refine ⟨by rw [List.length_append,List.length_append,h.1];rfl,fun i x y e1 e2=>?_⟩
 by_cases c:i<ts.length
 ·rw [List.getElem?_append_left c] at e1
  rw [List.getElem?_append_left (by rw [← h.1];exact c)] at e2
  exact s _ _ (h.2 i x y e1 e2)
 ·have c1:ts.length≤i:=by omega
  rw [List.getElem?_append_right c1] at e1
  rw [List.getElem?_append_right (by rw [← h.1];exact c1),← h.1] at e2
  have z:i - ts.length=0:=by
   have:=(List.getElem?_eq_some_iff.mp e1).1
   simp only [List.length_cons,List.length_nil] at this
   omega
  rw [z] at e1 e2
  simp only [List.getElem?_cons_zero,Option.some.injEq] at e1 e2
  rw [← e1,← e2]
  exact e
theorem Tps.at {α:Type} {f:α→List V} {H:Hp} {ts:List Addr} {bs:List α} (h:Tps f H ts bs) {i:Nat} {t:Addr} (e:ts[i]?=some t):∃ b,bs[i]?=some b∧H t=some (.tup (f b)):=by
 have hi:=(List.getElem?_eq_some_iff.mp e).1
 rw [h.1] at hi
 exact ⟨bs[i],List.getElem?_eq_getElem hi,h.2 i t _ e (List.getElem?_eq_getElem hi)⟩
theorem zbK {α:Type} {l:List α} {i:Nat} {x:α} (e:l[i]?=some x):x∈l:=List.mem_of_getElem? e
structure BP (H:Hp) (l pl:Addr) (ts:List Addr) (bs:List Box) (ns:List Int):Prop where
 hl:H l=some (.lst (ts.map V.ref))
 hb:Tps bx H ts bs
 hp:H pl=some (.lst (ns.map V.int))
 len:ns.length=bs.length
 gb:∀ b∈bs,GB b
 gn:∀ n∈ns,0≤n∧n≤60
 l1:1≤bs.length
 l6:bs.length≤6
theorem BP.same {H H':Hp} {l pl:Addr} {ts:List Addr} {bs:List Box} {ns:List Int} (h:BP H l pl ts bs ns) (s:zaL H H'):BP H' l pl ts bs ns :=
 ⟨s _ _ h.hl,h.hb.same s,s _ _ h.hp,h.len,h.gb,h.gn,h.l1,h.l6⟩
def costs (bs:List Box) (ns:List Int):List Int:=List.zipWith (fun b n=>b.1*n) bs ns
def Off (p c:Addr) (H:Hp):Hp:=fun b=>if b=p∨b=c then none else H b
theorem zaj (p c:Addr) (H:Hp):zaL (Off p c H) H:=fun b o h=>by
 unfold Off at h
 split at h
 ·cases h
 ·exact h
theorem zhx {p c b:Addr} {H:Hp} (h1:b≠p) (h2:b≠c):Off p c H b=H b:=if_neg (fun z=>z.elim h1 h2)
theorem zu9 {p c b:Addr} {H:Hp} {o:HO} (h:Off p c H b=some o):b≠p∧b≠c:=by
 unfold Off at h
 split at h
 ·cases h
 ·rename_i z
  exact ⟨fun e=>z (.inl e),fun e=>z (.inr e)⟩
theorem off_p {p c:Addr} {H:Hp} {o:HO}:Off p c (upd H p o)=Off p c H:=by
 funext b
 unfold Off upd
 split
 ·rfl
 ·rename_i z
  rw [if_neg fun e=>z (.inl e)]
theorem off_c {p c:Addr} {H:Hp} {o:HO}:Off p c (upd H c o)=Off p c H:=by
 funext b
 unfold Off upd
 split
 ·rfl
 ·rename_i z
  rw [if_neg fun e=>z (.inr e)]
theorem zaH {p c b:Addr} {H:Hp} {o:HO} (h1:b≠p) (h2:b≠c):Off p c (upd H b o)=upd (Off p c H) b o:=by
 funext x
 unfold Off upd
 by_cases e:x=b
 ·subst e
  rw [if_neg fun z=>z.elim h1 h2,if_pos rfl,if_pos rfl]
 ·rw [if_neg e,if_neg e]
structure Pur (H:Hp) (p c:Addr) (t:Int):Prop where
 ne:p≠c
 hp:H p=some (.lst [.ref c,.int t])
 hc:∃ ns:List Int,H c=some (.lst (ns.map V.int))∧0<ns.length∧ns.length≤63
 t0:0≤t
theorem Pur.new {H:Hp} {p c:Addr} {t:Int} (h:Pur H p c t) {b:Addr} (hb:H b=none):b≠p∧b≠c:=by
 obtain ⟨ns,hc,_⟩:=h.hc
 exact ⟨(zau h.hp hb).symm,(zau hc hb).symm⟩
theorem Pur.upd {H:Hp} {p c:Addr} {t:Int} (h:Pur H p c t) {b:Addr} {o:HO} (h1:b≠p) (h2:b≠c):Pur (L2.upd H b o) p c t:=by
 obtain ⟨ns,hc,e⟩:=h.hc
 exact ⟨h.ne,by rw [zaC h1.symm];exact h.hp,⟨ns,by rw [zaC h2.symm];exact hc,e⟩,h.t0⟩
theorem zbQ {H:Hp} {p c b:Addr} (hb:H b=none):Off p c H b=none:=by
 unfold Off
 split
 ·rfl
 ·exact hb
theorem Pur.same {H H':Hp} {p c:Addr} {t:Int} (h:Pur H p c t) (s:zaL H H'):Pur H' p c t:=by
 obtain ⟨ns,hc,e⟩:=h.hc
 exact ⟨h.ne,s _ _ h.hp,⟨ns,s _ _ hc,e⟩,h.t0⟩
theorem zqc {H H':Hp} (p c:Addr) (s:zaL H H'):zaL (Off p c H) (Off p c H'):=fun b o h=>by
 have n:=zu9 h
 rw [zhx n.1 n.2] at h ⊢
 exact s _ _ h
def zos:Sp:=fun vs H Q _=>∃ b n:Int,vs=[.int b,.int n]∧0≤n∧n≤60∧0≤b∧b≤50∧Q (.int (b ^ n.toNat)) H
def zjR:Sp:=fun vs H Q _=>∃ (p:Addr) (b:Box) (n:Int),vs=[.ref p,.int n]∧H p=some (.tup (bx b))∧GB b∧0≤n∧n≤60∧∀ (r:Addr) (H':Hp),zaL H H'→H' r=some (.tup [.int ((b.2.2 - b.2.1) ^ n.toNat),.int (b.2.2 ^ n.toNat)])→Q (.ref r) H'
def zoz (K:PySem.W.Frag):Sp:=fun vs H Q _=>∃ (s:Addr) (ns:List Int),vs=[.ref s]∧SqL K H s (ns.map V.int)∧∀ (p c:Addr) (H':Hp),zaL H H'→Pur H' p c 0→Q (.ref p) H'
def zaO:Sp:=fun vs H Q _=>∃ (p c:Addr) (t m:Int),vs=[.ref p,.int m]∧Pur H p c t∧t<100000∧0<m∧m≤1000000000000000000000000000000∧∀ (r:Int) (H':Hp),0≤r→r<m→Off p c H'=Off p c H→Pur H' p c (t+1)→Q (.int r) H'
def zpA:Sp:=fun vs H Q _=>∃ (p c:Addr) (t:Int),vs=[.ref p,.int 6]∧Pur H p c t∧t<10000∧∀ (l:Addr) (ts:List Addr) (bs:List Box) (t':Int) (H':Hp),zaL (Off p c H) (Off p c H')→Pur H' p c t'→t'≤t+50→Off p c H' l=some (.lst (ts.map V.ref))→Tps bx (Off p c H') ts bs→(∀ b∈bs,GB b)→1≤bs.length→bs.length≤6→Q (.ref l) H'
def zuS:Sp:=fun vs H Q _=>∃ t b:Int,vs=[.int t,.int b]∧b≠0∧Bd 6000 b∧∀ (r:Addr) (H':Hp),zaL H H'→H' r=some (.tup (fr (Rat.divInt t b)))→Q (.ref r) H'
theorem zry {t b:Int} (h:b≠0) (hb:Bd 6000 b):(sg t b).natAbs.log2<9000:=znQ 6000 (zr6 h) (hb.le (sg_le h))
inductive Tg (H:Hp):V→Prop where
 | non:Tg H .non
 | bl (b:Bool):Tg H (.bl b)
 | int (i:Int):Tg H (.int i)
 | str (x:Str):Tg H (.str x)
 | lst {a:Addr} {xs:List V} (h:H a=some (.lst xs)):Tg H (.ref a)
 | tup {a:Addr} {xs:List V} (h:H a=some (.tup xs)):Tg H (.ref a)
theorem Tg.same {H H':Hp} {v:V} (h:Tg H v) (s:zaL H H'):Tg H' v:=by
 cases h with
 | non=>exact .non
 | bl b=>exact .bl b
 | int i=>exact .int i
 | str x=>exact .str x
 | lst h=>exact .lst (s _ _ h)
 | tup h=>exact .tup (s _ _ h)
inductive NL (H:Hp):V→Prop where
 | non:NL H .non
 | bl (b:Bool):NL H (.bl b)
 | int (i:Int):NL H (.int i)
 | str (x:Str):NL H (.str x)
 | tup {a:Addr} {xs:List V} (h:H a=some (.tup xs)):NL H (.ref a)
theorem NL.same {H H':Hp} {v:V} (h:NL H v) (s:zaL H H'):NL H' v:=by
 cases h with
 | non=>exact .non
 | bl b=>exact .bl b
 | int i=>exact .int i
 | str x=>exact .str x
 | tup h=>exact .tup (s _ _ h)
def isI:V→Bool
 | .int _=>true
 | _=>false
def wi (l m:Int):V→Bool
 | .int i=>decide (l≤i∧i≤m)
 | _=>false
def nn:V→Bool
 | .int i=>decide (0≤i)
 | _=>false
def iv:V→Int
 | .int i=>i
 | _=>0
def gW (n:Int) (xs:List V):Bool:=decide ((xs.length:Int)=n)&&xs.all nn&&decide (0<(xs.map iv).sum)
def gB:List V→Bool
 | [c,h,o]=>wi 1 60 c&&wi 1 50 o&&wi 1 (iv o) h
 | _=>false
def BxR (H:Hp) (x:V) (c:Bool):Prop:=((∀ (a:Addr) (ys:List V),x=.ref a→H a≠some (.tup ys))∧Tg H x∧c=false)∨∃ (t:Addr) (ys:List V),x=.ref t∧H t=some (.tup ys)∧(∀ y∈ys,Tg H y)∧c=gB ys
def gP (n:Nat) (xs:List V):Bool:=decide (xs.length=n)&&xs.all (wi 0 60)
def gO (ns:List Int) (xs:List V):Bool:=xs.all (wi 0 ((ns.length:Int) - 1))&&decide (((List.range ns.length).map fun k:Nat=>((xs.countP fun z=>eqV z (V.int (k:Int)):Nat):Int))=ns)
theorem zfx {l m:Int}:∀ {xs:List V},xs.all (wi l m)=true→∃ is:List Int,xs=is.map V.int
 | [],_=>⟨[],rfl⟩
 | x::xs,h=>by
  rw [List.all_cons,Bool.and_eq_true] at h
  obtain ⟨is,rfl⟩:=zfx h.2
  cases x with
  | int i=>exact ⟨i::is,rfl⟩
  | _=>exact absurd h.1 (by simp [wi])
theorem zh0:∀ {xs:List V},xs.all nn=true→∃ is:List Int,xs=is.map V.int
 | [],_=>⟨[],rfl⟩
 | x::xs,h=>by
  rw [List.all_cons,Bool.and_eq_true] at h
  obtain ⟨is,rfl⟩:=zh0 h.2
  cases x with
  | int i=>exact ⟨i::is,rfl⟩
  | _=>exact absurd h.1 (by simp [nn])
def zg8:Sp:=fun vs H Q _=>∃ v:V,vs=[v]∧Tg H v∧Q (.bl (isI v)) H
def zcx:Sp:=fun vs H Q _=>∃ (v:V) (l m:Int),vs=[v,.int l,.int m]∧Tg H v∧Q (.bl (wi l m v)) H
def zl7:Sp:=fun vs H Q _=>∃ (v:V) (n:Int),vs=[v,.int n]∧((NL H v∧Q (.bl false) H)∨∃ (a:Addr) (xs:List V),v=.ref a∧H a=some (.lst xs)∧xs.length≤900∧(∀ x∈xs,Tg H x)∧∀ H',zaL H H'→Q (.bl (gW n xs)) H')
def zmZ:Sp:=fun vs H Q _=>∃ (v:V) (c:Bool),vs=[v]∧BxR H v c∧Q (.bl c) H
def zhz:Sp:=fun vs H Q _=>∃ (v:V) (l:Addr) (bs:List V),vs=[v,.ref l]∧H l=some (.lst bs)∧((NL H v∧Q (.bl false) H)∨∃ (a:Addr) (xs:List V),v=.ref a∧H a=some (.lst xs)∧xs.length≤900∧(∀ x∈xs,Tg H x)∧∀ H',zaL H H'→Q (.bl (gP bs.length xs)) H')
def zi5:Sp:=fun vs H Q _=>∃ (v:V) (pl:Addr) (ns:List Int),vs=[v,.ref pl]∧H pl=some (.lst (ns.map V.int))∧ns.length≤6∧((NL H v∧Q (.bl false) H)∨∃ (a:Addr) (xs:List V),v=.ref a∧H a=some (.lst xs)∧xs.length≤900∧(∀ x∈xs,Tg H x)∧∀ H',zaL H H'→Q (.bl (gO ns xs)) H')
def BxL (H:Hp) (xs:List V) (cs:List Bool):Prop:=xs.length=cs.length∧∀ (i:Nat) x c,xs[i]?=some x→cs[i]?=some c→BxR H x c
def gBs (cs:List Bool):Prop:=1≤cs.length∧cs.length≤6∧cs.all id=true
section
variable {P:Program} {w:World} {mg:Str→Option Value} {base:Heap}
variable {K:PySem.W.Frag} {H:Hp} {Q:VK} {a:Ad}
def zie:TS :=
 (zaG (za5 (tOp (rI (fun _ j=>j≠0) fun i j=>.int (i.fmod j)) (zac 0) (zac 1)) (zak 2))
 (zaG (za5 (zac 1) (zak 0))
 (za5 (zac 2) (zak 1))))
theorem zfj (D:zb5) (σ:St) (H:Hp):zie D σ H=(zaG (za5 (tOp (rI (fun _ j=>j≠0) fun i j=>.int (i.fmod j)) (zac 0) (zac 1)) (zak 2))
 (zaG (za5 (zac 1) (zak 0))
 (za5 (zac 2) (zak 1)))) D σ H:=rfl
def zhH (K:PySem.W.Frag):TS :=
 (zaG (za5 (tCB (fun xs H Q=>∃ i,xs=[.int i]∧Q (.int (if i<0 then -i else i)) H) (zab (zac 0) zah)) (zak 0))
 (zaG (za5 (tCB (fun xs H Q=>∃ i,xs=[.int i]∧Q (.int (if i<0 then -i else i)) H) (zab (zac 1) zah)) (zak 1))
 (zaG (zpo (tTru K (zac 1)) (zie))
 (zcu (zac 0)))))
theorem znp {x y:Int} (q:Q (.int (Int.gcd x y:Nat)) H):zhH K { nx:=fun _ H'=>Q .non H',rt:=Q } (L2.zb1 ["one","other","rest"] [.int x,.int y]) H:=by
 unfold zhH
 simp_all only [zfj,zac]
 refine zpR (fun σ H'=>H'=H∧∃ u v r,σ=[some (.int u),some (.int v),r]∧0≤u∧0≤v∧Int.gcd u v=Int.gcd x y) (fun σ _=>match σ with | [_,some (.int y),_]=>y.toNat | _=>0) ?_ ?_ ?_
 ·rw [zrR,zrR]
  exact ⟨rfl,_,_,_,rfl,by omega,by omega,rfl⟩
 ·rintro σ H' ⟨rfl,u,v,r,rfl,hu,hv,hg⟩
  simp_all only [zfj,zac]
  refine zdZ (fun c=>?_) (fun c=>?_)
  ·have c':v≠0:=by simpa using c
   have hv':0<v:=by omega
   refine ⟨c',hv,Int.fmod_nonneg_of_pos u hv',?_,?_⟩
   ·rw [zog hu hv',hg]
   ·have:=Int.fmod_lt_of_pos u hv'
    omega
  ·have c':v=0:=by simpa using c
   subst c'
   rw [← hg,zna u hu] at q
   exact q
 ·rintro σ H1 Q1 Q2 hQ ⟨v,hv,k,hk,h⟩
  exact ⟨v,hv,k,hk,hQ _ _ h⟩
theorem zdL:zaM ["one","other","rest"] ["one","other"] (zan zhi):=⟨rfl,rfl,rfl,by decide +kernel,rfl,by decide +kernel,by decide +kernel⟩
theorem zns (T:Txt K mg a):zdW P w K mg base CX0 1 a.f_divisor a.d_divisor ["one","other"] ztV:=by
 refine T.F_divisor.ok zdL (fun vs H Q E h=>?_) (fun cdv A outer s H vs Q E hr h=>?_)
 ·obtain ⟨x,y,rfl,q⟩:=h
  rfl
 obtain ⟨x,y,rfl,q⟩:=h
 exact ⟨zhH K,(zaf (zaB (i:=0) zdL.nd rfl (Or.inl rfl) (zao zmM rfl T.z_abs PyProof.Rows.boot_abs (zaa (pv 0) zad)))
 (zaf (zaB (i:=1) zdL.nd rfl (Or.inl rfl) (zao zmM rfl T.z_abs PyProof.Rows.boot_abs (zaa (pv 1) zad)))
 (zaf (zp0 PassesOwn.never (zp4 (pv 1) (fun _=>rfl)) (zaf (zaB (i:=2) zdL.nd rfl (Or.inl rfl) (zaA zgt (pv 0) (pv 1)))
 (zaf (zaB (i:=0) zdL.nd rfl (Or.inl rfl) (pv 1))
 (zam (zaB (i:=1) zdL.nd rfl (Or.inl rfl) (pv 2))))))
 (zam (zaY (pv 0)))))),
  znp q⟩
def zhb:TS :=
 (zcu (zds (zab (tOp (rI (fun _ j=>j≠0∧j.natAbs.log2<9000) fun i j=>.int (i.fdiv j)) (zac 0) (zac 2)) (zab (tOp (rI (fun _ j=>j≠0∧j.natAbs.log2<9000) fun i j=>.int (i.fdiv j)) (zac 1) (zac 2)) zah))))
theorem zdz (D:zb5) (σ:St) (H:Hp):zhb D σ H=(zcu (zds (zab (tOp (rI (fun _ j=>j≠0∧j.natAbs.log2<9000) fun i j=>.int (i.fdiv j)) (zac 0) (zac 2)) (zab (tOp (rI (fun _ j=>j≠0∧j.natAbs.log2<9000) fun i j=>.int (i.fdiv j)) (zac 1) (zac 2)) zah)))) D σ H:=rfl
def zkG:TS :=
 (zaG (za5 (zat ztV [] E0 (zab (zac 0) (zab (zac 1) zah))) (zak 2))
 (zaG (zc0 (zcw (za8 (tOp (rI0 fun i j=>.bl (decide (i<j))) (zac 1) (tC (.int 0)))) (za5 (tUn (rU fun i=>.int (-i)) (zac 2)) (zak 2)) zaR))
 (zhb)))
theorem zdw (D:zb5) (σ:St) (H:Hp):zkG D σ H=(zaG (za5 (zat ztV [] E0 (zab (zac 0) (zab (zac 1) zah))) (zak 2))
 (zaG (zc0 (zcw (za8 (tOp (rI0 fun i j=>.bl (decide (i<j))) (zac 1) (tC (.int 0)))) (za5 (tUn (rU fun i=>.int (-i)) (zac 2)) (zak 2)) zaR))
 (zhb))) D σ H:=rfl
def zme:TS :=
 (zaG (zc0 (zcw (za8 (tOp rEq (zac 1) (tC (.int 0)))) zrI zaR))
 (zkG))
theorem zqA {t b:Int} (h:b≠0) (hb:Bd 6000 b) (q:∀ (r:Addr) (H':Hp),zaL H H'→H' r=some (.tup (fr (Rat.divInt t b)))→Q (.ref r) H') :
  zme { nx:=fun _ H'=>Q .non H',rt:=Q } (L2.zb1 ["top","bottom","shared"] [.int t,.int b]) H:=by
 unfold zme
 simp_all only [zdz,zdw,zac]
 refine ⟨fun σ H'=>H'=H∧σ=[some (.int t),some (.int b),none],?_,?_⟩
 ·simp_all only [zdz,zdw,zac]
  exact zdZ (fun c=>absurd c h) (fun _=>trivial)
 ·rintro σ H' ⟨e,rfl⟩
  rw [e]
  simp_all only [zdz,zdw,zac]
  refine ⟨t,b,rfl,?_⟩
  refine ⟨fun σ H'=>H'=H∧σ=[some (.int t),some (.int b),some (.int (sg t b))],?_,?_⟩
  ·simp_all only [zdz,zdw,zac]
   unfold sg
   exact zdZ (fun c=>by rw [if_pos c]) (fun c=>by rw [if_neg c])
  ·rintro σ H' ⟨e,rfl⟩
   rw [e]
   simp_all only [zdz,zdw,zac]
   refine ⟨zr6 h,zry h hb,zr6 h,zry h hb,by decide,fun p hp=>q p _ (zaE hp _) ?_⟩
   rw [fr,(zrU h).1,(zrU h).2]
   exact zai
theorem zjk:zaM ["top","bottom","shared"] ["top","bottom"] (zan zl5):=⟨rfl,rfl,rfl,by decide +kernel,rfl,by decide +kernel,by decide +kernel⟩
theorem zqH (T:Txt K mg a):zdW P w K mg base CX0 2 a.f_ratio a.d_ratio ["top","bottom"] zuS:=by
 have G_divisor:=zns (P:=P) (w:=w) (base:=base) T
 refine T.F_ratio.ok zjk (fun vs H Q E h=>?_) (fun cdv A outer s H vs Q E hr h=>?_)
 ·obtain ⟨t,b,rfl,h,hb,q⟩:=h
  rfl
 obtain ⟨t,b,rfl,h,hb,q⟩:=h
 exact ⟨zme,(zaf (zbS (zcv (zbl zgn (pv 1) zag (zbH _)) (zam zqi) zaQ))
 (zaf (zaB (i:=2) zjk.nd rfl (Or.inl rfl) (zap G_divisor (hr.mono (by decide)) rfl T.m_divisor T.F_divisor.kp T.b_divisor .nil za0 (zaa (pv 0) (zaa (pv 1) zad))))
 (zaf (zbS (zcv (zbl zoT (pv 1) zag (zbH _)) (zam (zaB (i:=2) zjk.nd rfl (Or.inl rfl) (znr zi2 (pv 2)))) zaQ))
 (zam (zaY (zca (zaa (zaA zf7 (pv 0) (pv 2)) (zaa (zaA zf7 (pv 1) (pv 2)) zad)))))))),
  zqA h hb q⟩
theorem zrG {b:Int} (h0:0≤b) (h1:b≤50):∀ n:Nat,0≤b ^ n∧b ^ n≤50 ^ n
 | 0=>by simp
 | n+1=>by
  obtain ⟨z1,z2⟩:=zrG h0 h1 n
  rw [Int.pow_succ,Int.pow_succ]
  exact ⟨Int.mul_nonneg z1 h0,Int.mul_le_mul z2 h1 h0 (Int.le_trans z1 z2)⟩
theorem zh9 {b:Int} (h0:0≤b) (h1:b≤50) {n:Nat} (hn:n≤60):Bd 400 (b ^ n):=by
 obtain ⟨z1,z2⟩:=zrG h0 h1 n
 have z3:(50:Int) ^ n≤50 ^ 60:=by
  exact_mod_cast Nat.pow_le_pow_right (n:=50) (by decide) hn
 have z4:(50:Int) ^ 60<2 ^ 400:=by decide +kernel
 unfold Bd
 have:(b ^ n).natAbs<(2:Int) ^ 400:=by omega
 omega
theorem zf9 {b:Int} (h0:1≤b):∀ n:Nat,0<b ^ n
 | 0=>by simp
 | n+1=>by
  rw [Int.pow_succ]
  exact Int.mul_pos (zf9 h0 n) (by omega)
def zl9:TS :=
 (zaG (za5 (tC (.int 1)) (zak 2))
 (zaG (zk7 (zeo (zab (zac 1) zah)) (zak 3)
 (za5 (tOp (rI IntMulOk fun i j=>.int (i*j)) (zac 2) (zac 0)) (zak 2)))
 (zcu (zac 2))))
theorem zqM {b n:Int} (n0:0≤n) (n1:n≤60) (b0:0≤b) (b1:b≤50) (q:Q (.int (b ^ n.toNat)) H) :
  zl9 { nx:=fun _ H'=>Q .non H',rt:=Q } (L2.zb1 ["base","count","product","k"] [.int b,.int n]) H:=by
 unfold zl9
 simp_all only [zac]
 refine ⟨by omega,by omega,?_⟩
 refine zcY (fun i σ H'=>H'=H∧∃ k,σ=[some (.int b),some (.int n),some (.int (b ^ i)),k]) ⟨rfl,none,by rw [Int.pow_zero]⟩ ?_ ?_
 ·rintro i σ H' hi ⟨rfl,k,rfl⟩
  simp_all only [zac]
  exact ⟨ztX (by omega) (by omega),by rw [Int.pow_succ]⟩
 ·rintro σ H' ⟨rfl,k,rfl⟩
  simp_all only [zac]
  exact q
theorem zha:zaM ["base","count","product","k"] ["base","count"] (zan zmm):=⟨rfl,rfl,rfl,by decide +kernel,rfl,by decide +kernel,by decide +kernel⟩
theorem zmX (T:Txt K mg a):zdW P w K mg base CX0 1 a.f_power a.d_power ["base","count"] zos:=by
 refine T.F_power.ok zha (fun vs H Q E h=>?_) (fun cdv A outer s H vs Q E hr h=>?_)
 ·obtain ⟨b,n,rfl,n0,n1,b0,b1,q⟩:=h
  rfl
 obtain ⟨b,n,rfl,n0,n1,b0,b1,q⟩:=h
 exact ⟨zl9,(zaf (zaB (i:=2) zha.nd rfl (Or.inl rfl) zag)
 (zaf (zep PassesOwn.never rfl (zcb rfl T.z_range (zaa (pv 1) zad)) (zaF (i:=3) zha.nd rfl (Or.inl rfl))
 (zam (zaB (i:=2) zha.nd rfl (Or.inl rfl) (zaA zcB (pv 2) (pv 0)))))
 (zam (zaY (pv 2))))),
  zqM n0 n1 b0 b1 q⟩
open HT in
theorem cut63 (ns:List Int):∃ ms:List Int,zbW (ns.map V.int) none (some 63)=ms.map V.int∧ms.length≤63:=by
 refine ⟨ns.take 63,?_,by rw [List.length_take];omega⟩
 unfold zbW
 rw [zjW,Nat.sub_zero,List.drop_zero]
 have e:sIx (ns.map V.int).length (ns.map V.int).length (some 63)=min 63 (ns.map V.int).length:=zmt _ _ 63
 rw [e,List.map_take]
 by_cases c:63≤(ns.map V.int).length
 ·rw [Nat.min_eq_left c]
 ·have c':(ns.map V.int).length≤63:=by omega
  rw [Nat.min_eq_right c',List.take_of_length_le (Nat.le_refl _),List.take_of_length_le c']
def zfa (K:PySem.W.Frag):TS :=
 (zaG (za5 (tSl (zfl K) (zac 0) zaZ (zcP (tC (.int 63)))) (zak 1))
 (zaG (zc0 (zcw (za8 (tOp (rEqE K) (zac 1) (zbX zah))) (za5 (zbX (zab (tC (.int 0)) zah)) (zak 1)) zaR))
 (zcu (zbX (zab (zac 1) (zab (tC (.int 0)) zah))))))
theorem zjf {s:Addr} {ns:List Int} (hS:SqL K H s (ns.map V.int)) (q:∀ (p c:Addr) (H':Hp),zaL H H'→Pur H' p c 0→Q (.ref p) H') :
  zfa K { nx:=fun _ H'=>Q .non H',rt:=Q } (L2.zb1 ["_law_script","_law_cells"] [.ref s]) H:=by
 unfold zfa
 simp_all only [zac]
 refine ⟨_,hS,fun c hc=>?_⟩
 obtain ⟨ms,em,lm⟩:=cut63 ns
 rw [em]
 refine ⟨fun σ H'=>zaL H H'∧∃ (c:Addr) (ms:List Int),σ=[some (.ref s),some (.ref c)]∧H' c=some (.lst (ms.map V.int))∧0<ms.length∧ms.length≤63,?_,?_⟩
 ·simp_all only [zac]
  refine ⟨by decide,fun e he=>?_⟩
  have hce:c≠e:=zau zai he
  refine ⟨_,SqL.of (by rw [zaC hce];exact zai),SqL.of zai,?_⟩
  refine zdZ (fun z=>?_) (fun z=>?_)
  ·refine ⟨by decide,fun d hd=>⟨((zaE hc _).add he).add hd,[0],zai,by decide,by decide⟩⟩
  ·refine ⟨(zaE hc _).add he,ms,by rw [zaC hce];exact zai,?_,lm⟩
   cases ms with
   | nil=>exact absurd rfl z
   | cons x xs=>exact Nat.succ_pos _
 ·rintro σ H' ⟨s1,c,ms,rfl,h1,h2,h3⟩
  simp_all only [zac]
  refine ⟨by decide,fun p hp=>q p c _ (s1.add hp) ⟨(zau h1 hp).symm,zai,⟨ms,by rw [zaC (zau h1 hp)];exact h1,h2,h3⟩,by decide⟩⟩
theorem zeA:zaM ["_law_script","_law_cells"] ["_law_script"] (zan ze7):=⟨rfl,rfl,rfl,by decide +kernel,rfl,by decide +kernel,by decide +kernel⟩
theorem zj3 (T:Txt K mg a):zdW P w K mg base CX0 1 a.f__law_purse a.d__law_purse ["_law_script"] (zoz K):=by
 refine T.F__law_purse.ok zeA (fun vs H Q E h=>?_) (fun cdv A outer s H vs Q E hr h=>?_)
 ·obtain ⟨s,ns,rfl,hS,q⟩:=h
  rfl
 obtain ⟨s,ns,rfl,hS,q⟩:=h
 exact ⟨zfa K,(zaf (zaB (i:=1) zeA.nd rfl (Or.inl rfl) (zb6 zcL (pv 0) zcN (zcM zag)))
 (zaf (zbS (zcv (zbl (zup hr.units) (pv 1) (zaN zad) (zbH _)) (zam (zaB (i:=1) zeA.nd rfl (Or.inl rfl) (zaN (zaa zag zad)))) zaQ))
 (zam (zaY (zaN (zaa (pv 1) (zaa zag zad))))))),
  zjf hS q⟩
theorem logM {m:Int} (h0:0<m) (h1:m≤1000000000000000000000000000000):m.natAbs.log2<9000:=znQ 100 (by omega) (by omega)
theorem zpc {n j:Nat} (h:j<n):ixN n (j:Int)=some j:=by
 unfold ixN
 rw [if_pos (by omega),if_pos (by omega)]
 simp
def zgb:TS :=
 (zaG (za5 (tOp (rI (fun _ j=>0<j) fun i j=>.int (i % j)) (tOp (rI0 fun i j=>.int (i+j)) (tOp (rI0 fun i j=>.int (i+j)) (tOp (rI IntMulOk fun i j=>.int (i*j)) (zac 5) (tC (.int 48271))) (tOp (rI IntMulOk fun i j=>.int (i*j)) (tOp (rI IntMulOk fun i j=>.int (i*j)) (zac 3) (zac 3)) (tC (.int 69621)))) (tC (.int 7))) (tC (.int 2147483647))) (zak 6))
 (zaG (za5 (tOp (rI (fun _ j=>0<j) fun i j=>.int (i % j)) (tOp (rI IntMulOk fun i j=>.int (i*j)) (zac 6) (zac 6)) (tC (.int 2147483629))) (zak 6))
 (zcu (tOp (rI (fun _ j=>j≠0) fun i j=>.int (i.fmod j)) (tOp (rI (fun _ j=>0<j) fun i j=>.int (i % j)) (tOp (rI IntMulOk fun i j=>.int (i*j)) (zac 6) (zac 6)) (tC (.int 2147483587))) (zac 1)))))
theorem zcm (D:zb5) (σ:St) (H:Hp):zgb D σ H=(zaG (za5 (tOp (rI (fun _ j=>0<j) fun i j=>.int (i % j)) (tOp (rI0 fun i j=>.int (i+j)) (tOp (rI0 fun i j=>.int (i+j)) (tOp (rI IntMulOk fun i j=>.int (i*j)) (zac 5) (tC (.int 48271))) (tOp (rI IntMulOk fun i j=>.int (i*j)) (tOp (rI IntMulOk fun i j=>.int (i*j)) (zac 3) (zac 3)) (tC (.int 69621)))) (tC (.int 7))) (tC (.int 2147483647))) (zak 6))
 (zaG (za5 (tOp (rI (fun _ j=>0<j) fun i j=>.int (i % j)) (tOp (rI IntMulOk fun i j=>.int (i*j)) (zac 6) (zac 6)) (tC (.int 2147483629))) (zak 6))
 (zcu (tOp (rI (fun _ j=>j≠0) fun i j=>.int (i.fmod j)) (tOp (rI (fun _ j=>0<j) fun i j=>.int (i % j)) (tOp (rI IntMulOk fun i j=>.int (i*j)) (zac 6) (zac 6)) (tC (.int 2147483587))) (zac 1))))) D σ H:=rfl
def zf2:TS :=
 (zcw (za8 (tOp (rI0 fun i j=>.bl (decide (j≤i))) (zac 5) (tOp (rI znN fun i j=>.int (i ^ j.toNat)) (tC (.int 10)) (tC (.int 18))))) (zaG (za5 (tOp (rI (fun _ j=>j≠0∧j.natAbs.log2<9000) fun i j=>.int (i.fdiv j)) (zac 5) (zac 1)) (znV (zac 2) (zac 4) zid))
 (zcu (tOp (rI (fun _ j=>j≠0) fun i j=>.int (i.fmod j)) (zac 5) (zac 1)))) zaR)
theorem zck (D:zb5) (σ:St) (H:Hp):zf2 D σ H=(zcw (za8 (tOp (rI0 fun i j=>.bl (decide (j≤i))) (zac 5) (tOp (rI znN fun i j=>.int (i ^ j.toNat)) (tC (.int 10)) (tC (.int 18))))) (zaG (za5 (tOp (rI (fun _ j=>j≠0∧j.natAbs.log2<9000) fun i j=>.int (i.fdiv j)) (zac 5) (zac 1)) (znV (zac 2) (zac 4) zid))
 (zcu (tOp (rI (fun _ j=>j≠0) fun i j=>.int (i.fmod j)) (zac 5) (zac 1)))) zaR) D σ H:=rfl
def zfz (K:PySem.W.Frag):TS :=
 (zaG (za5 (zac 0) (gLst K 2 (zcs (zak 2) (zcs (zak 3) zlw))))
 (zaG (za5 (tOp (rI (fun _ j=>j≠0) fun i j=>.int (i.fmod j)) (zac 3) (tCB (fun xs H Q=>∃ p ys,xs=[.ref p]∧(SqL K H p ys∨SqT K H p ys)∧Q (.int ys.length) H) (zab (zac 2) zah))) (zak 4))
 (zaG (za5 (tOp (zcO K) (zac 2) (zac 4)) (zak 5))
 (zaG (za5 (tOp (rI0 fun i j=>.int (i+j)) (zac 3) (tC (.int 1))) (znV (zac 0) (tC (.int 1)) zid))
 (zaG (zc0 (zf2))
 (zgb))))))
theorem zk4 {p c:Addr} {t m:Int} (hP:Pur H p c t) (t1:t<100000) (m0:0<m) (m1:m≤1000000000000000000000000000000)
  (q:∀ (r:Int) (H':Hp),0≤r→r<m→Off p c H'=Off p c H→Pur H' p c (t+1)→Q (.int r) H') :
  zfz K { nx:=fun _ H'=>Q .non H',rt:=Q } (L2.zb1 ["_law_purse_here","_law_out_of","_law_cells","_law_turn","_law_at","_law_cell","_law_number"] [.ref p,.int m]) H:=by
 unfold zfz
 obtain ⟨ns,hc,l0,l1⟩:=hP.hc
 have t0:=hP.t0
 have el:((ns.map V.int).length:Int)=(ns.length:Int):=by rw [List.length_map]
 simp_all only [zcm,zck,zac]
 refine ⟨_,SqL.of hP.hp,rfl,_,_,rfl,_,_,rfl,rfl,?_⟩
 simp_all only [zcm,zck,zac]
 refine ⟨_,.inl (SqL.of hc),?_⟩
 rw [el]
 have lp:(0:Int)<(ns.length:Int):=by omega
 rw [Int.fmod_eq_emod_of_nonneg t (Int.le_of_lt lp)]
 have k0:=Int.emod_nonneg t (show (ns.length:Int)≠0 by omega)
 have k1:=Int.emod_lt_of_pos t lp
 obtain ⟨v,hv,_⟩:=zvg (ns:=ns) k0 k1
 generalize t % (ns.length:Int)=k at k0 k1 hv ⊢
 refine ⟨by omega,_,SqL.of hc,_,hv,?_⟩
 refine ⟨_,hP.hp,1,rfl,?_⟩
 simp_all only [zcm,zck,zac]
 have hp2:∀ G:Hp,(L2.upd G p (.lst [.ref c,.int (t+1)])) p=some (.lst [.ref c,.int (t+1)]):=fun G=>zai
 have hc2:(L2.upd H p (.lst [.ref c,.int (t+1)])) c=some (.lst (ns.map V.int)):=by rw [zaC hP.ne.symm];exact hc
 have o2:Off p c (L2.upd H p (.lst [.ref c,.int (t+1)]))=Off p c H:=off_p
 have hp3:=hp2 H
 generalize L2.upd H p (.lst [.ref c,.int (t+1)])=G at hp3 hc2 o2 ⊢
 refine ⟨fun σ H'=>H'=G∧σ=[some (.ref p),some (.int m),some (.ref c),some (.int t),some (.int k),some (.int v),none],?_,?_⟩
 ·simp_all only [zcm,zck,zac]
  refine ⟨pow18,zdZ (fun z=>?_) (fun z=>trivial)⟩
  obtain ⟨j,rfl⟩:=Int.eq_ofNat_of_zero_le k0
  refine ⟨by omega,logM m0 m1,_,hc2,j,zpc (by rw [List.length_map];omega),by omega,?_⟩
  rw [Int.fmod_eq_emod_of_nonneg v (Int.le_of_lt m0)]
  refine q _ _ (Int.emod_nonneg _ (by omega)) (Int.emod_lt_of_pos _ m0) (off_c.trans o2) ⟨hP.ne,by rw [zaC hP.ne];exact hp3,⟨ns.set j (v.fdiv m),?_,by rw [List.length_set];exact l0,by rw [List.length_set];exact l1⟩,by omega⟩
  rw [zai,List.map_set]
 ·rintro σ H' ⟨e,rfl⟩
  rw [e]
  simp_all only [zcm,zck,zac]
  have a1:IntMulOk t t:=ztX (by omega) (by omega)
  have a2:IntMulOk (t*t) 69621:=ztX (by decide) (by decide)
  generalize v*48271+t*t*69621+7=y
  have b3:=Int.emod_nonneg y (show (2147483647:Int)≠0 by decide)
  have b4:=Int.emod_lt_of_pos y (show (0:Int)<2147483647 by decide)
  generalize y % 2147483647=x at b3 b4 ⊢
  have b5:=Int.emod_nonneg (x*x) (show (2147483629:Int)≠0 by decide)
  have b6:=Int.emod_lt_of_pos (x*x) (show (0:Int)<2147483629 by decide)
  have a3:IntMulOk x x:=ztX (by omega) (by omega)
  generalize x*x % 2147483629=w at b5 b6 ⊢
  refine ⟨ztX (by decide) (by decide),a1,a2,by decide,a3,by decide,ztX (by omega) (by omega),by decide,by omega,?_⟩
  rw [Int.fmod_eq_emod_of_nonneg _ (Int.le_of_lt m0)]
  exact q _ _ (Int.emod_nonneg _ (by omega)) (Int.emod_lt_of_pos _ m0) o2 ⟨hP.ne,hp3,⟨ns,hc2,l0,l1⟩,by omega⟩
theorem zcy:zaM ["_law_purse_here","_law_out_of","_law_cells","_law_turn","_law_at","_law_cell","_law_number"] ["_law_purse_here","_law_out_of"] (zan zfI):=⟨rfl,rfl,rfl,by decide +kernel,rfl,by decide +kernel,by decide +kernel⟩
theorem zb2 (T:Txt K mg a):zdW P w K mg base CX0 1 a.f__law_draw a.d__law_draw ["_law_purse_here","_law_out_of"] zaO:=by
 refine T.F__law_draw.ok zcy (fun vs H Q E h=>?_) (fun cdv A outer s H vs Q E hr h=>?_)
 ·obtain ⟨p,c,t,m,rfl,hP,t1,m0,m1,q⟩:=h
  rfl
 obtain ⟨p,c,t,m,rfl,hP,t1,m0,m1,q⟩:=h
 exact ⟨zfz K,(zaf (zfZ (pv 0) (zuT rfl (za9 (zaF (i:=2) zcy.nd rfl (Or.inl rfl)) (za9 (zaF (i:=3) zcy.nd rfl (Or.inl rfl)) zeh))))
 (zaf (zaB (i:=4) zcy.nd rfl (Or.inl rfl) (zaA zgt (pv 3) (zao zaq rfl T.z_len PySem.boot_len (zaa (pv 2) zad))))
 (zaf (zaB (i:=5) zcy.nd rfl (Or.inl rfl) (zbZ za1 (pv 2) (pv 4) (fun _ _=>rfl)))
 (zaf (zfZ (zaA zb0 (pv 3) zag) (zkW (pv 0) zag zfO))
 (zaf (zbS (zcv (zbl zsq (pv 5) (zaA zkR zag zag) (zbH _)) (zaf (zfZ (zaA zf7 (pv 5) (pv 1)) (zkW (pv 2) (pv 4) zfO))
 (zam (zaY (zaA zgt (pv 5) (pv 1))))) zaQ))
 (zaf (zaB (i:=6) zcy.nd rfl (Or.inl rfl) (zaA zgK (zaA zb0 (zaA zb0 (zaA zcB (pv 5) zag) (zaA zcB (zaA zcB (pv 3) (pv 3)) zag)) zag) zag))
 (zaf (zaB (i:=6) zcy.nd rfl (Or.inl rfl) (zaA zgK (zaA zcB (pv 6) (pv 6)) zag))
 (zam (zaY (zaA zgt (zaA zgK (zaA zcB (pv 6) (pv 6)) zag) (pv 1))))))))))),
  zk4 hP t1 m0 m1 q⟩
def zgA (K:PySem.W.Frag):TS :=
 (zcu (zf8 (tCB (zit K) (zab (zac 0) (zab (tC (.ty "int")) zah))) (zop (tCB (zit K) (zab (zac 0) (zab (tC (.ty "bool")) zah))))))
theorem zlQ {v:V} (t:Tg H v) (q:Q (.bl (isI v)) H):zgA K { nx:=fun _ H'=>Q .non H',rt:=Q } (L2.zb1 ["thing"] [v]) H:=by
 unfold zgA
 simp_all only [zac]
 cases t with
 | non=>exact zdv .non (zgQ K) ⟨_,rfl,zt1 q⟩
 | bl b =>
  refine zdv (.bl b) (zkw K) ⟨_,rfl,iteT ?_⟩
  exact zdv (.bl b) rfl ⟨_,rfl,q⟩
 | int i =>
  refine zmr ⟨_,rfl,iteT ?_⟩
  exact zgM ⟨_,rfl,q⟩
 | str x=>exact zdv (.str x) (zmw K) ⟨_,rfl,zt1 q⟩
 | lst h=>exact zdv (.lst h) (zks K) ⟨_,rfl,zt1 q⟩
 | tup h=>exact zdv (.tup h) (zjP K) ⟨_,rfl,zt1 q⟩
theorem zl2:zaM ["thing"] ["thing"] (zan zgm):=⟨rfl,rfl,rfl,by decide +kernel,rfl,by decide +kernel,by decide +kernel⟩
theorem zhU (T:Txt K mg a):zdW P w K mg base CX0 1 a.f_is_whole a.d_is_whole ["thing"] zg8:=by
 refine T.F_is_whole.ok zl2 (fun vs H Q E h=>?_) (fun cdv A outer s H vs Q E hr h=>?_)
 ·obtain ⟨v,rfl,t,q⟩:=h
  rfl
 obtain ⟨v,rfl,t,q⟩:=h
 exact ⟨zgA K,(zam (zaY (zhF (zao zcz rfl T.z_isinstance PyProof.Rows.boot_isinstance (zaa (pv 0) (zaa (zex rfl T.z_int zjg rfl) zad))) (zi6 (zrJ (zao zcz rfl T.z_isinstance PyProof.Rows.boot_isinstance (zaa (pv 0) (zaa (zex rfl T.z_bool zku rfl) zad)))))))),
  zlQ t q⟩
def zfE:TS :=
 (zcu (zf8 (zat zg8 [] E0 (zab (zac 0) zah)) (zk8 (rI0 fun i j=>.bl (decide (i≤j))) (rI0 fun i j=>.bl (decide (i≤j))) (zac 1) (zac 0) (zac 2))))
theorem zky {v:V} {l m:Int} (t:Tg H v) (q:Q (.bl (wi l m v)) H):zfE { nx:=fun _ H'=>Q .non H',rt:=Q } (L2.zb1 ["thing","least","most"] [v,.int l,.int m]) H:=by
 unfold zfE
 simp_all only [zac]
 refine ⟨v,rfl,t,isI v,rfl,?_⟩
 cases v with
 | int i =>
  refine iteT ⟨_,rfl,zdZ (fun c=>?_) (fun c=>?_)⟩
  ·rw [show wi l m (.int i)=decide (i≤m) from by simp [wi,c]] at q
   exact ⟨_,rfl,q⟩
  ·rw [show wi l m (.int i)=false from by simp [wi,c]] at q
   exact q
 | _=>exact zt1 q
theorem zkx:zaM ["thing","least","most"] ["thing","least","most"] (zan zfy):=⟨rfl,rfl,rfl,by decide +kernel,rfl,by decide +kernel,by decide +kernel⟩
theorem ze2 (T:Txt K mg a):zdW P w K mg base CX0 2 a.f_is_within a.d_is_within ["thing","least","most"] zcx:=by
 have G_is_whole:=zhU (P:=P) (w:=w) (base:=base) T
 refine T.F_is_within.ok zkx (fun vs H Q E h=>?_) (fun cdv A outer s H vs Q E hr h=>?_)
 ·obtain ⟨v,l,m,rfl,t,q⟩:=h
  rfl
 obtain ⟨v,l,m,rfl,t,q⟩:=h
 exact ⟨zfE,(zam (zaY (zhF (zap G_is_whole (hr.mono (by decide)) rfl T.m_is_whole T.F_is_whole.kp T.b_is_whole .nil za0 (zaa (pv 0) zad)) (zi6 (zqb zp2 zp2 (pv 1) (pv 0) (pv 2)))))),
  zky t q⟩
theorem zmI {v:V} (h:NL H v) (q:Q (.bl false) H):zit K [v,.ty "list"] H Q:=by
 cases h with
 | non=>exact zdv .non (zgs K) q
 | bl b=>exact zdv (.bl b) (zjN K) q
 | int i=>exact zdv (.int i) (zkK K) q
 | str x=>exact zdv (.str x) (zkI K) q
 | tup h=>exact zdv (.tup h) (ziE K) q
theorem zuX {v:V} (t:Tg H v) (h:∀ (a:Addr) (ys:List V),v=.ref a→H a≠some (.tup ys)) (q:Q (.bl false) H):zit K [v,.ty "tuple"] H Q:=by
 cases t with
 | non=>exact zdv .non (zf1 K) q
 | bl b=>exact zdv (.bl b) (ziF K) q
 | int i=>exact zdv (.int i) (zj4 K) q
 | str x=>exact zdv (.str x) (zkd K) q
 | lst h'=>exact zdv (.lst h') (ziw K) q
 | tup h'=>exact absurd h' (h _ _ rfl)
theorem zeD {r:Addr} {xs:List V} (h:H r=some (.lst xs)) (q:Q (.bl true) H):zit K [.ref r,.ty "list"] H Q:=zdv (.lst h) rfl q
theorem zl1 {bs:List Bool} (h:∀ b∈bs,b=true):bs.all id=true:=List.all_eq_true.mpr h
theorem zhA {K:PySem.W.Frag} {a:Addr} {xs:List V} {cs:List Bool} {te:TE} {σ:St} {H:Hp} {D:Addr} {Q:VK} (lc:xs.length=cs.length) (hl:SqL K H a xs) (hD:H D=none) (hx:xs.length≤900)
  (hs:∀ (i:Nat) x c H' (R:VK),xs[i]?=some x→cs[i]?=some c→zaL H H'→(∀ H'',zaL H' H''→R (.bl c) H'')→te (σ.set 0 (some x)) H' R)
  (hd:∀ H',zaL H H'→H' D=some (.lst (cs.map V.bl))→Q (.ref D) H'):zhn (Itl K a) (zak 0) zbM te D Q σ (L2.upd H D (.lst [])):=by
 refine zff (xs:=xs) (fun i ys σ' H'=>zaL H H'∧(∀ x,σ'.set 0 x=σ.set 0 x)∧ys=(cs.take i).map V.bl) ⟨zaE hD _,fun _=>rfl,rfl⟩ ?_ ?_ ?_
 ·rintro i ys σ' H' _ ⟨s,_⟩
  exact s.seq hl
 ·rintro i x ys σ' H' e hD' ⟨s,es,rfl⟩
  have li:=(List.getElem?_eq_some_iff.mp e).1
  have ec:cs[i]?=some cs[i]:=List.getElem?_eq_getElem (by omega)
  show te (σ'.set 0 (some x)) H' _
  rw [es]
  refine hs i x _ H' _ e ec s fun H'' s2=>?_
  refine ⟨D,_,_,rfl,rfl,s2 _ _ hD',zbN (by rw [List.length_map,List.length_take];omega),_,zai,(s.trans s2).put hD,fun y=>by rw [List.set_set],?_⟩
  rw [List.take_add_one,ec,List.map_append]
  rfl
 ·rintro ys σ' H' hD' ⟨s,es,rfl⟩
  rw [List.take_of_length_le (by omega)] at hD'
  exact hd H' s hD'
theorem zgj {K:PySem.W.Frag} {a:Addr} {xs:List V} {te:TE} {σ:St} {H:Hp} {D:Addr} {Q:VK} (f:V→Bool) (hl:SqL K H a xs) (hD:H D=none) (hx:xs.length≤900)
  (hs:∀ (i:Nat) x H' (R:VK),xs[i]?=some x→zaL H H'→(∀ H'',zaL H' H''→R (.bl (f x)) H'')→te (σ.set 0 (some x)) H' R)
  (hd:∀ H',zaL H H'→H' D=some (.lst ((xs.map f).map V.bl))→Q (.ref D) H'):zhn (Itl K a) (zak 0) zbM te D Q σ (L2.upd H D (.lst [])):=by
 refine zhA (cs:=xs.map f) (by rw [List.length_map]) hl hD hx (fun i x c H' R ex ec s hR=>hs i x H' R ex s ?_) hd
 rw [List.getElem?_map,ex] at ec
 cases ec
 exact hR
def zeU (K:PySem.W.Frag):TS :=
 (zcu (zf8 (tCB (zpL K) (zab (zdm (zeV K (zac 0)) (zak 0) zbM (zf8 (zat zg8 [] E0 (zab (zac 0) zah)) (tOp (rI0 fun i j=>.bl (decide (j≤i))) (zac 0) (tC (.int 0)))) [none]) zah)) (tOp (rI0 fun i j=>.bl (decide (j<i))) (tCB (zu3 K) (zab (zac 0) zah)) (tC (.int 0)))))
theorem zbL (K:PySem.W.Frag) (D:zb5) (σ:St) (H:Hp):zeU K D σ H=(zcu (zf8 (tCB (zpL K) (zab (zdm (zeV K (zac 0)) (zak 0) zbM (zf8 (zat zg8 [] E0 (zab (zac 0) zah)) (tOp (rI0 fun i j=>.bl (decide (j≤i))) (zac 0) (tC (.int 0)))) [none]) zah)) (tOp (rI0 fun i j=>.bl (decide (j<i))) (tCB (zu3 K) (zab (zac 0) zah)) (tC (.int 0))))) D σ H:=rfl
def zeK (K:PySem.W.Frag):TS :=
 (zcw (tOr (zii (tB (tCB (zit K) (zab (zac 0) (zab (tC (.ty "list")) zah))))) (za8 (tOp rNe (tCB (fun xs H Q=>∃ p ys,xs=[.ref p]∧(SqL K H p ys∨SqT K H p ys)∧Q (.int ys.length) H) (zab (zac 0) zah)) (zac 1)))) (zcu (tC (.bl false))) zaR)
theorem zbJ (K:PySem.W.Frag) (D:zb5) (σ:St) (H:Hp):zeK K D σ H=(zcw (tOr (zii (tB (tCB (zit K) (zab (zac 0) (zab (tC (.ty "list")) zah))))) (za8 (tOp rNe (tCB (fun xs H Q=>∃ p ys,xs=[.ref p]∧(SqL K H p ys∨SqT K H p ys)∧Q (.int ys.length) H) (zab (zac 0) zah)) (zac 1)))) (zcu (tC (.bl false))) zaR) D σ H:=rfl
def zeB (K:PySem.W.Frag):TS :=
 (zaG (zc0 (zeK K))
 (zeU K))
theorem ziL {v:V} {n:Int} (h:(NL H v∧Q (.bl false) H)∨∃ (a:Addr) (xs:List V),v=.ref a∧H a=some (.lst xs)∧xs.length≤900∧(∀ x∈xs,Tg H x)∧∀ H',zaL H H'→Q (.bl (gW n xs)) H') :
  zeB K { nx:=fun _ H'=>Q .non H',rt:=Q } (L2.zb1 ["thing","many"] [v,.int n]) H:=by
 unfold zeB
 simp_all only [zbL,zbJ,zac]
 rcases h with ⟨hn,q⟩ | ⟨a,xs,rfl,ha,xl,ht,q⟩
 ·refine ⟨fun _ _=>False,?_,fun _ _ z=>z.elim⟩
  simp_all only [zbL,zbJ,zac]
  exact zmI hn ⟨false,rfl,zdZ (fun _=>q) (fun z=>absurd rfl z)⟩
 refine ⟨fun σ H'=>(xs.length:Int)=n∧H'=H∧σ=[some (.ref a),some (.int n)],?_,?_⟩
 ·simp_all only [zbL,zbJ,zac]
  refine zeD ha ⟨true,rfl,?_⟩
  refine zdZ (fun z=>absurd z (by decide)) (fun _=>?_)
  refine ⟨_,.inl (SqL.of ha),zdZ (fun z=>?_) (fun z=>⟨Classical.not_not.mp z,rfl⟩)⟩
  have:=q H (.refl _)
  rw [show gW n xs=false from by unfold gW;rw [decide_eq_false z];rfl] at this
  exact this
 ·rintro σ H' ⟨ln,e,rfl⟩
  rw [e]
  simp_all only [zbL,zbJ,zac]
  refine ⟨⟨_,SqL.of ha⟩,fun D hD=>?_⟩
  refine zgj nn (SqL.of ha) hD xl (fun i x H1 R ex s hR=>?_) fun H1 s hD1=>?_
  ·simp_all only [zbL,zbJ,zac]
   refine ⟨x,rfl,(ht x (zbK ex)).same s,isI x,rfl,?_⟩
   cases x with
   | int i=>exact iteT ⟨_,rfl,hR _ (.refl _)⟩
   | _=>exact zt1 (hR _ (.refl _))
  ·simp_all only [zbL,zbJ,zac]
   refine ⟨_,SqL.of hD1,?_⟩
   have hall:(xs.map nn).all id=xs.all nn:=by rw [List.all_map];rfl
   rw [hall]
   refine zdZ (fun c=>?_) (fun c=>?_)
   ·obtain ⟨is,rfl⟩:=zh0 c
    refine ⟨is,SqL.of (s _ _ ha),?_⟩
    have:=q H1 s
    rw [show gW n (is.map V.int)=decide (0<is.sum) from by
     unfold gW
     rw [decide_eq_true ln,c,List.map_map,show iv ∘ V.int=id from rfl,List.map_id]
     rfl] at this
    exact this
   ·have:=q H1 s
    rw [show gW n xs=false from by unfold gW;rw [show xs.all nn=false from by simpa using c];simp] at this
    exact this
theorem ziG:zaM ["thing","many"] ["thing","many"] (zan zdK):=⟨rfl,rfl,rfl,by decide +kernel,rfl,by decide +kernel,by decide +kernel⟩
theorem ziN (T:Txt K mg a):zdW P w K mg base CX0 2 a.f_are_weights a.d_are_weights ["thing","many"] zl7:=by
 have G_is_whole:=zhU (P:=P) (w:=w) (base:=base) T
 refine T.F_are_weights.ok ziG (fun vs H Q E h=>?_) (fun cdv A outer s H vs Q E hr h=>?_)
 ·obtain ⟨v,n,rfl,h⟩:=h
  rfl
 obtain ⟨v,n,rfl,h⟩:=h
 exact ⟨zeB K,(zaf (zbS (zcv (PW.pt (zkU (zeE (zcW (zao zcz rfl T.z_isinstance PyProof.Rows.boot_isinstance (zaa (pv 0) (zaa (zex rfl T.z_list zdx rfl) zad))))) (zig (zbl zsJ (zao zaq rfl T.z_len PySem.boot_len (zaa (pv 0) zad)) (pv 1) (zbH _))))) (zam (zaY zgZ)) zaQ))
 (zam (zaY (zhF (zao (zfY rfl) rfl T.z_all PyProof.Rows.boot_all (zaa (zdN (sc:=zan zdK) (N:=["thing","many"]) (Nc:=["weight"]) (cap:=[none]) rfl rfl rfl (.of (by decide +kernel)) (zd8 (pv 0)) (fun _ _ _ _=>(zaF (i:=0) (show List.Nodup (["weight"]:List Str) from by decide) rfl (Or.inl rfl))) (fun _ _ _ _=>zc7) (fun _ _ _ _=>(zhF (zap G_is_whole (hr.mono (by decide)) rfl T.m_is_whole T.F_is_whole.kp T.b_is_whole .nil za0 (zaa (pv 0) zad)) (zi6 (zfA zsq (pv 0) zag (zbH _)))))) zad)) (zi6 (zfA ztx (zao (zm0 rfl) rfl T.z_sum PyProof.Rows.boot_sum (zaa (pv 0) zad)) zag (zbH _))))))),
  ziL h⟩
def zi7 (K:PySem.W.Frag):TS :=
 (zaG (za5 (zac 0) (zlN K 3 (zcs (zak 1) (zcs (zak 2) (zcs (zak 3) zlw)))))
 (zcu (zf8 (zat zcx [] E0 (zab (zac 1) (zab (tC (.int 1)) (zab (tC (.int 60)) zah)))) (zf8 (zat zcx [] E0 (zab (zac 3) (zab (tC (.int 1)) (zab (tC (.int 50)) zah)))) (zat zcx [] E0 (zab (zac 2) (zab (tC (.int 1)) (zab (zac 3) zah))))))))
theorem zdJ (K:PySem.W.Frag) (D:zb5) (σ:St) (H:Hp):zi7 K D σ H=(zaG (za5 (zac 0) (zlN K 3 (zcs (zak 1) (zcs (zak 2) (zcs (zak 3) zlw)))))
 (zcu (zf8 (zat zcx [] E0 (zab (zac 1) (zab (tC (.int 1)) (zab (tC (.int 60)) zah)))) (zf8 (zat zcx [] E0 (zab (zac 3) (zab (tC (.int 1)) (zab (tC (.int 50)) zah)))) (zat zcx [] E0 (zab (zac 2) (zab (tC (.int 1)) (zab (zac 3) zah)))))))) D σ H:=rfl
def ziV (K:PySem.W.Frag):TS :=
 (zcw (tOr (zii (tB (tCB (zit K) (zab (zac 0) (zab (tC (.ty "tuple")) zah))))) (za8 (tOp rNe (tCB (fun xs H Q=>∃ p ys,xs=[.ref p]∧(SqL K H p ys∨SqT K H p ys)∧Q (.int ys.length) H) (zab (zac 0) zah)) (tC (.int 3))))) (zcu (tC (.bl false))) zaR)
theorem zdI (K:PySem.W.Frag) (D:zb5) (σ:St) (H:Hp):ziV K D σ H=(zcw (tOr (zii (tB (tCB (zit K) (zab (zac 0) (zab (tC (.ty "tuple")) zah))))) (za8 (tOp rNe (tCB (fun xs H Q=>∃ p ys,xs=[.ref p]∧(SqL K H p ys∨SqT K H p ys)∧Q (.int ys.length) H) (zab (zac 0) zah)) (tC (.int 3))))) (zcu (tC (.bl false))) zaR) D σ H:=rfl
def zjF (K:PySem.W.Frag):TS :=
 (zaG (zc0 (ziV K))
 (zi7 K))
theorem zo2 {v:V} {c:Bool} (h:BxR H v c) (q:Q (.bl c) H):zjF K { nx:=fun _ H'=>Q .non H',rt:=Q } (L2.zb1 ["thing","cost","hits","of"] [v]) H:=by
 unfold zjF
 simp_all only [zdJ,zdI,zac]
 rcases h with ⟨hn,t,rfl⟩ | ⟨t,ys,rfl,hy,ht,rfl⟩
 ·refine ⟨fun _ _=>False,?_,fun _ _ z=>z.elim⟩
  simp_all only [zdJ,zdI,zac]
  exact zuX t hn ⟨false,rfl,zdZ (fun _=>q) (fun z=>absurd rfl z)⟩
 refine ⟨fun σ H'=>ys.length=3∧H'=H∧σ=[some (.ref t),none,none,none],?_,?_⟩
 ·simp_all only [zdJ,zdI,zac]
  refine zmq hy ⟨true,rfl,?_⟩
  refine zdZ (fun z=>absurd z (by decide)) (fun _=>?_)
  refine ⟨_,.inr (SqT.of hy),zdZ (fun z=>?_) (fun z=>⟨by omega,rfl⟩)⟩
  rw [show gB ys=false from ?_] at q
  ·exact q
  ·match ys,z with
   | [],_=>rfl
   | [_],_=>rfl
   | [_,_],_=>rfl
   | [_,_,_],z=>exact absurd rfl z
   | _::_::_::_::_,_=>rfl
 ·rintro σ H' ⟨l3,e,rfl⟩
  rw [e]
  match ys,l3 with
  | [c,hh,o],_ =>
  simp_all only [zdJ,zdI,zac]
  refine ⟨_,SqT.of hy,rfl,_,_,rfl,_,_,rfl,_,_,rfl,rfl,?_⟩
  refine ⟨c,_,_,rfl,ht _ (by simp),_,rfl,zdZ (fun c1=>?_) (fun c1=>?_)⟩
  ·refine ⟨o,_,_,rfl,ht _ (by simp),_,rfl,zdZ (fun c2=>?_) (fun c2=>?_)⟩
   ·cases o with
    | int o =>
     refine ⟨hh,_,_,rfl,ht _ (by simp),?_⟩
     rw [show gB [c,hh,V.int o]=wi 1 o hh from by show (wi 1 60 c&&wi 1 50 (V.int o)&&wi 1 o hh)=_;rw [c1,c2];rfl] at q
     exact q
    | _=>exact absurd c2 (by simp [wi])
   ·rw [show gB [c,hh,o]=false from by show (wi 1 60 c&&wi 1 50 o&&wi 1 (iv o) hh)=_;rw [show wi 1 50 o=false from by simpa using c2];simp] at q
    exact q
  ·rw [show gB [c,hh,o]=false from by show (wi 1 60 c&&wi 1 50 o&&wi 1 (iv o) hh)=_;rw [show wi 1 60 c=false from by simpa using c1];rfl] at q
   exact q
theorem zfN:zaM ["thing","cost","hits","of"] ["thing"] (zan zke):=⟨rfl,rfl,rfl,by decide +kernel,rfl,by decide +kernel,by decide +kernel⟩
theorem zou (T:Txt K mg a):zdW P w K mg base CX0 3 a.f_is_box a.d_is_box ["thing"] zmZ:=by
 have G_is_within:=ze2 (P:=P) (w:=w) (base:=base) T
 refine T.F_is_box.ok zfN (fun vs H Q E h=>?_) (fun cdv A outer s H vs Q E hr h=>?_)
 ·obtain ⟨v,c,rfl,h,q⟩:=h
  rfl
 obtain ⟨v,c,rfl,h,q⟩:=h
 exact ⟨zjF K,(zaf (zbS (zcv (PW.pt (zkU (zeE (zcW (zao zcz rfl T.z_isinstance PyProof.Rows.boot_isinstance (zaa (pv 0) (zaa (zex rfl T.z_tuple zfh rfl) zad))))) (zig (zbl zsJ (zao zaq rfl T.z_len PySem.boot_len (zaa (pv 0) zad)) zag (zbH _))))) (zam (zaY zgZ)) zaQ))
 (zaf (zfZ (pv 0) (zgf rfl (za9 (zaF (i:=1) zfN.nd rfl (Or.inl rfl)) (za9 (zaF (i:=2) zfN.nd rfl (Or.inl rfl)) (za9 (zaF (i:=3) zfN.nd rfl (Or.inl rfl)) zeh)))))
 (zam (zaY (zhF (zap G_is_within (hr.mono (by decide)) rfl T.m_is_within T.F_is_within.kp T.b_is_within .nil za0 (zaa (pv 1) (zaa zag (zaa (zbY rfl T.m_MOST_COST ⟨_,rfl⟩) zad)))) (zhF (zap G_is_within (hr.mono (by decide)) rfl T.m_is_within T.F_is_within.kp T.b_is_within .nil za0 (zaa (pv 3) (zaa zag (zaa (zbY rfl T.m_MOST_OF ⟨_,rfl⟩) zad)))) (zi6 (zap G_is_within (hr.mono (by decide)) rfl T.m_is_within T.F_is_within.kp T.b_is_within .nil za0 (zaa (pv 2) (zaa zag (zaa (pv 3) zad))))))))))),
  zo2 h q⟩
theorem at2 {r x y:Int} (h0:0≤r) (h1:r<2):∃ v:Int,atI [V.int x,V.int y] r=some (.int v)∧(v=x∨v=y):=by
 have:r=0∨r=1:=by omega
 rcases this with rfl | rfl
 ·exact ⟨x,rfl,.inl rfl⟩
 ·exact ⟨y,rfl,.inr rfl⟩
def zd4 (K:PySem.W.Frag):TS :=
 (zbP (tBM K "list" zaI (zac 2) (zab (zds (zab (zac 4) (zab (zac 6) (zab (zac 5) zah)))) zah)))
theorem zdg (K:PySem.W.Frag) (D:zb5) (σ:St) (H:Hp):zd4 K D σ H=(zbP (tBM K "list" zaI (zac 2) (zab (zds (zab (zac 4) (zab (zac 6) (zab (zac 5) zah)))) zah))) D σ H:=rfl
def zd9 (K:PySem.W.Frag):TS :=
 (zaG (za5 (tOp (zcO K) (zbX (zab (tOp (rI0 fun i j=>.int (i+j)) (tC (.int 1)) (zat zaO [] E0 (zab (zac 0) (zab (zac 5) zah)))) (zab (zac 5) zah))) (tOp (rI (fun _ j=>0<j∧j.natAbs.log2<9000) fun i j=>.int (i / j)) (zat zaO [] E0 (zab (zac 0) (zab (tC (.int 4)) zah))) (tC (.int 3)))) (zak 6))
 (zd4 K))
theorem zdf (K:PySem.W.Frag) (D:zb5) (σ:St) (H:Hp):zd9 K D σ H=(zaG (za5 (tOp (zcO K) (zbX (zab (tOp (rI0 fun i j=>.int (i+j)) (tC (.int 1)) (zat zaO [] E0 (zab (zac 0) (zab (zac 5) zah)))) (zab (zac 5) zah))) (tOp (rI (fun _ j=>0<j∧j.natAbs.log2<9000) fun i j=>.int (i / j)) (zat zaO [] E0 (zab (zac 0) (zab (tC (.int 4)) zah))) (tC (.int 3)))) (zak 6))
 (zd4 K)) D σ H:=rfl
def zd3 (K:PySem.W.Frag):TS :=
 (zaG (za5 (tOp (rI0 fun i j=>.int (i+j)) (tC (.int 1)) (zat zaO [] E0 (zab (zac 0) (zab (tOp (zcO K) (zbX (zab (tC (.int 4)) (zab (tC (.int 50)) zah))) (zat zaO [] E0 (zab (zac 0) (zab (tC (.int 2)) zah)))) zah)))) (zak 5))
 (zd9 K))
theorem zdi (K:PySem.W.Frag) (D:zb5) (σ:St) (H:Hp):zd3 K D σ H=(zaG (za5 (tOp (rI0 fun i j=>.int (i+j)) (tC (.int 1)) (zat zaO [] E0 (zab (zac 0) (zab (tOp (zcO K) (zbX (zab (tC (.int 4)) (zab (tC (.int 50)) zah))) (zat zaO [] E0 (zab (zac 0) (zab (tC (.int 2)) zah)))) zah)))) (zak 5))
 (zd9 K)) D σ H:=rfl
def zfs (K:PySem.W.Frag):TS :=
 (zaG (za5 (tOp (rI0 fun i j=>.int (i+j)) (tC (.int 1)) (zat zaO [] E0 (zab (zac 0) (zab (tOp (zcO K) (zbX (zab (tC (.int 3)) (zab (tC (.int 60)) zah))) (zat zaO [] E0 (zab (zac 0) (zab (tC (.int 2)) zah)))) zah)))) (zak 4))
 (zd3 K))
theorem zaD (K:PySem.W.Frag) (D:zb5) (σ:St) (H:Hp):zfs K D σ H=(zaG (za5 (tOp (rI0 fun i j=>.int (i+j)) (tC (.int 1)) (zat zaO [] E0 (zab (zac 0) (zab (tOp (zcO K) (zbX (zab (tC (.int 3)) (zab (tC (.int 60)) zah))) (zat zaO [] E0 (zab (zac 0) (zab (tC (.int 2)) zah)))) zah)))) (zak 4))
 (zd3 K)) D σ H:=rfl
def ze4 (K:PySem.W.Frag):TS :=
 (zaG (za5 (zbX zah) (zak 2))
 (zaG (zk7 (zeo (zab (tOp (rI0 fun i j=>.int (i+j)) (tC (.int 1)) (zat zaO [] E0 (zab (zac 0) (zab (zac 1) zah)))) zah)) (zak 3)
 (zfs K))
 (zcu (zac 2))))
theorem zjz {p c:Addr} {t:Int} (hP:Pur H p c t) (t1:t<10000)
  (q:∀ (l:Addr) (ts:List Addr) (bs:List Box) (t':Int) (H':Hp),zaL (Off p c H) (Off p c H')→Pur H' p c t'→t'≤t+50→Off p c H' l=some (.lst (ts.map V.ref))→Tps bx (Off p c H') ts bs→(∀ b∈bs,GB b)→1≤bs.length→bs.length≤6→Q (.ref l) H') :
  ze4 K { nx:=fun _ H'=>Q .non H',rt:=Q } (L2.zb1 ["_law_purse_here","_law_most","_law_found","_law_k","_law_cost","_law_of","_law_hits"] [.ref p,.int 6]) H:=by
 unfold ze4
 simp_all only [zaD,zac]
 refine ⟨by decide,fun l hl=>?_⟩
 have nl:=hP.new hl
 have P1:=hP.upd (o:=.lst []) nl.1 nl.2
 have s1:zaL (Off p c H) (Off p c (L2.upd H l (.lst []))):=by
  rw [zaH nl.1 nl.2]
  exact zaE (zbQ hl) _
 have hl1:Off p c (L2.upd H l (.lst [])) l=some (.lst []):=by
  rw [zaH nl.1 nl.2]
  exact zai
 generalize L2.upd H l (.lst [])=H1 at P1 s1 hl1 ⊢
 refine ⟨p,c,t,6,rfl,P1,by omega,by decide,by decide,fun r H2 r0 r1 o2 P2=>?_⟩
 simp_all only [zaD,zac]
 refine ⟨by omega,by omega,?_⟩
 refine zcY (fun i σ H'=>∃ (ts:List Addr) (bs:List Box) (u:Int),zaL (Off p c H) (Off p c H')∧Pur H' p c u∧u≤t+1+7*i∧Off p c H' l=some (.lst (ts.map V.ref))∧Tps bx (Off p c H') ts bs∧(∀ b∈bs,GB b)∧bs.length=i∧∃ k x y z,σ=[some (.ref p),some (.int 6),some (.ref l),k,x,y,z]) ?_ ?_ ?_
 ·refine ⟨[],[],t+1,by rw [o2];exact s1,P2,by omega,by rw [o2];exact hl1,.nil,by simp,rfl,_,_,_,_,rfl⟩
 ·rintro i σ H3 hi ⟨ts,bs,u,s3,P3,hu,hl3,hb3,gb,lb,k,x,y,z,rfl⟩
  have u0:=P3.t0
  simp_all only [zaD,zac]
  refine ⟨by decide,fun d1 hd1=>?_⟩
  have n1:=P3.new hd1
  have P4:=P3.upd (o:=.lst [.int 3,.int 60]) n1.1 n1.2
  have hd1':(L2.upd H3 d1 (.lst [.int 3,.int 60])) d1=some (.lst [.int 3,.int 60]):=zai
  have s4:zaL (Off p c H3) (Off p c (L2.upd H3 d1 (.lst [.int 3,.int 60]))):=by
   rw [zaH n1.1 n1.2]
   exact zaE (zbQ hd1) _
  have e4:Off p c (L2.upd H3 d1 (.lst [.int 3,.int 60])) d1=some (.lst [.int 3,.int 60]):=by
   rw [zhx n1.1 n1.2]
   exact hd1'
  generalize L2.upd H3 d1 (.lst [.int 3,.int 60])=H4 at P4 s4 e4 ⊢
  refine ⟨p,c,u,2,rfl,P4,by omega,by decide,by decide,fun r1 H5 r10 r11 o5 P5=>?_⟩
  obtain ⟨m1,em1,hm1⟩:=at2 (x:=3) (y:=60) r10 r11
  rw [← o5] at e4 s4
  have e4':=zaj _ _ _ _ _ e4
  simp_all only [zaD,zac]
  refine ⟨_,SqL.of e4',_,em1,?_⟩
  refine ⟨p,c,u+1,m1,rfl,P5,by omega,by omega,by omega,fun cost H6 c0 c1 o6 P6=>?_⟩
  rw [← o6] at s4
  simp_all only [zaD,zac]
  ((try simp only);first | rw [zdg] | rw [zdf] | rw [zdi]);simp_all only [zaD,zac]
  refine ⟨by decide,fun d2 hd2=>?_⟩
  have n2:=P6.new hd2
  have P7:=P6.upd (o:=.lst [.int 4,.int 50]) n2.1 n2.2
  have s7:zaL (Off p c H6) (Off p c (L2.upd H6 d2 (.lst [.int 4,.int 50]))):=by
   rw [zaH n2.1 n2.2]
   exact zaE (zbQ hd2) _
  have e7:Off p c (L2.upd H6 d2 (.lst [.int 4,.int 50])) d2=some (.lst [.int 4,.int 50]):=by
   rw [zaH n2.1 n2.2]
   exact zai
  generalize L2.upd H6 d2 (.lst [.int 4,.int 50])=H7 at P7 s7 e7 ⊢
  refine ⟨p,c,u+1+1,2,rfl,P7,by omega,by decide,by decide,fun r2 H8 r20 r21 o8 P8=>?_⟩
  obtain ⟨m2,em2,hm2⟩:=at2 (x:=4) (y:=50) r20 r21
  rw [← o8] at e7 s7
  have e7':=zaj _ _ _ _ _ e7
  simp_all only [zaD,zac]
  refine ⟨_,SqL.of e7',_,em2,?_⟩
  refine ⟨p,c,_,m2,rfl,P8,by omega,by omega,by omega,fun of H9 of0 of1 o9 P9=>?_⟩
  rw [← o9] at s7
  simp_all only [zaD,zac]
  ((try simp only);first | rw [zdg] | rw [zdf] | rw [zdi]);simp_all only [zaD,zac]
  refine ⟨p,c,_,1+of,rfl,P9,by omega,by omega,by omega,fun h H10 h0 h1 o10 P10=>?_⟩
  simp_all only [zaD,zac]
  refine ⟨by decide,fun d3 hd3=>?_⟩
  have n3:=P10.new hd3
  have P11:=P10.upd (o:=.lst [.int (1+h),.int (1+of)]) n3.1 n3.2
  have s11:zaL (Off p c H10) (Off p c (L2.upd H10 d3 (.lst [.int (1+h),.int (1+of)]))):=by
   rw [zaH n3.1 n3.2]
   exact zaE (zbQ hd3) _
  have e11:Off p c (L2.upd H10 d3 (.lst [.int (1+h),.int (1+of)])) d3=some (.lst [.int (1+h),.int (1+of)]):=by
   rw [zaH n3.1 n3.2]
   exact zai
  rw [o10] at s11
  generalize L2.upd H10 d3 (.lst [.int (1+h),.int (1+of)])=H11 at P11 s11 e11 ⊢
  refine ⟨p,c,_,4,rfl,P11,by omega,by decide,by decide,fun r3 H12 r30 r31 o12 P12=>?_⟩
  simp_all only [zaD,zac]
  rw [← o12] at e11 s11
  have e11':=zaj _ _ _ _ _ e11
  obtain ⟨m3,em3,hm3⟩:=at2 (x:=1+h) (y:=1+of) (r:=r3 / 3) (by omega) (by omega)
  refine ⟨by decide,by decide +kernel,_,SqL.of e11',_,em3,?_⟩
  ((try simp only);first | rw [zdg] | rw [zdf] | rw [zdi]);simp_all only [zaD,zac]
  have sA:zaL (Off p c H3) (Off p c H12):=s4.trans (s7.trans s11)
  have hl12:=sA _ _ hl3
  have hl12':=zaj _ _ _ _ _ hl12
  refine ⟨.inl ⟨rfl,_,SqL.of hl12'⟩,by decide,fun b hb=>?_⟩
  have n4:=P12.new hb
  have ne:l≠b:=zau hl12' hb
  have hlt:=(List.getElem?_eq_none_iff (l:=ts) (i:=ts.length)).mpr (Nat.le_refl _)
  refine ⟨_,by rw [zaC ne];exact hl12',zbN (by rw [List.length_map,hb3.1];omega),?_⟩
  have P13:=(P12.upd (o:=.tup (bx (1+cost,m3,1+of))) n4.1 n4.2).upd (o:=.lst (ts.map V.ref++[.ref b])) nl.1 nl.2
  refine ⟨?_,ts++[b],bs++[(1+cost,m3,1+of)],_,P13,by omega,?_,?_,?_,by rw [List.length_append,lb];rfl⟩
  ·rw [zaH nl.1 nl.2,zaH n4.1 n4.2]
   exact ((s3.trans sA).add (zbQ hb)).put (zbQ hl)
  ·rw [zaH nl.1 nl.2,zai,List.map_append]
   rfl
  ·refine hb3.put (fun x v hx=>?_) ?_
   ·have hx':=sA _ _ hx
    rw [zaH nl.1 nl.2,zaH n4.1 n4.2,zaC (zr9 hx' hl12 (by simp)),zaC (zau hx' (zbQ hb))]
    exact hx'
   ·rw [zaH nl.1 nl.2,zaH n4.1 n4.2,zaC ne.symm,zai]
  ·intro x hx
   rcases List.mem_append.mp hx with hx | hx
   ·exact gb x hx
   ·have:x=(1+cost,m3,1+of):=by simpa using hx
    subst this
    refine ⟨?_,?_,?_,?_,?_⟩ <;> simp only <;> omega
 ·rintro σ H' ⟨ts,bs,u,s3,P3,hu,hl3,hb3,gb,lb,k,x,y,z,rfl⟩
  simp_all only [zaD,zac]
  exact q l ts bs u H' s3 P3 (by omega) hl3 hb3 gb (by omega) (by omega)
theorem zcD:zaM ["_law_purse_here","_law_most","_law_found","_law_k","_law_cost","_law_of","_law_hits"] ["_law_purse_here","_law_most"] (zan zeX):=⟨rfl,rfl,rfl,by decide +kernel,rfl,by decide +kernel,by decide +kernel⟩
theorem zkb (T:Txt K mg a):zdW P w K mg base CX0 2 a.f__law_boxes a.d__law_boxes ["_law_purse_here","_law_most"] zpA:=by
 have G__law_draw:=zb2 (P:=P) (w:=w) (base:=base) T
 refine T.F__law_boxes.ok zcD (fun vs H Q E h=>?_) (fun cdv A outer s H vs Q E hr h=>?_)
 ·obtain ⟨p,c,t,rfl,hP,t1,q⟩:=h
  rfl
 obtain ⟨p,c,t,rfl,hP,t1,q⟩:=h
 exact ⟨ze4 K,(zaf (zaB (i:=2) zcD.nd rfl (Or.inl rfl) (zaN zad))
 (zaf (zep PassesOwn.never rfl (zcb rfl T.z_range (zaa (zaA zb0 zag (zap G__law_draw (hr.mono (by decide)) rfl T.m__law_draw T.F__law_draw.kp T.b__law_draw .nil za0 (zaa (pv 0) (zaa (pv 1) zad)))) zad)) (zaF (i:=3) zcD.nd rfl (Or.inl rfl))
 (zaf (zaB (i:=4) zcD.nd rfl (Or.inl rfl) (zaA zb0 zag (zap G__law_draw (hr.mono (by decide)) rfl T.m__law_draw T.F__law_draw.kp T.b__law_draw .nil za0 (zaa (pv 0) (zaa (zbZ za1 (zaN (zaa zag (zaa zag zad))) (zap G__law_draw (hr.mono (by decide)) rfl T.m__law_draw T.F__law_draw.kp T.b__law_draw .nil za0 (zaa (pv 0) (zaa zag zad))) (fun _ _=>rfl)) zad)))))
 (zaf (zaB (i:=5) zcD.nd rfl (Or.inl rfl) (zaA zb0 zag (zap G__law_draw (hr.mono (by decide)) rfl T.m__law_draw T.F__law_draw.kp T.b__law_draw .nil za0 (zaa (pv 0) (zaa (zbZ za1 (zaN (zaa zag (zaa zag zad))) (zap G__law_draw (hr.mono (by decide)) rfl T.m__law_draw T.F__law_draw.kp T.b__law_draw .nil za0 (zaa (pv 0) (zaa zag zad))) (fun _ _=>rfl)) zad)))))
 (zaf (zaB (i:=6) zcD.nd rfl (Or.inl rfl) (zbZ za1 (zaN (zaa (zaA zb0 zag (zap G__law_draw (hr.mono (by decide)) rfl T.m__law_draw T.F__law_draw.kp T.b__law_draw .nil za0 (zaa (pv 0) (zaa (pv 5) zad)))) (zaa (pv 5) zad))) (zaA zg5 (zap G__law_draw (hr.mono (by decide)) rfl T.m__law_draw T.F__law_draw.kp T.b__law_draw .nil za0 (zaa (pv 0) (zaa zag zad))) zag) (fun _ _=>rfl)))
 (zam (zbF (ze8 PySem.F.plainAttrs_list PySem.F.slot_list_append PySem.F.type_list_append zbU (pv 2) (zaa (zca (zaa (pv 4) (zaa (pv 6) (zaa (pv 5) zad)))) zad))))))))
 (zam (zaY (pv 2))))),
  zjz hP t1 q⟩
def pr:List Int→Int
 | []=>1
 | x::l=>x*pr l
theorem zrz (l:List Int) (x:Int):pr (l++[x])=pr l*x:=by
 induction l with
 | nil=>show x*1=1*x;omega
 | cons y l ih=>show y*pr (l++[x])=y*pr l*x;rw [ih,Int.mul_assoc]
theorem zr8 (l:List Int) (h:∀ x∈l,Bd 400 x):Bd (400*l.length+1) (pr l):=by
 induction l with
 | nil=>unfold Bd pr;decide
 | cons y l ih =>
  have z:=(h y (by simp)).mul (ih fun x hx=>h x (by simp [hx]))
  exact z.mono (by rw [List.length_cons];omega)
theorem zrB (l:List Int) (h:∀ x∈l,0<x):0<pr l:=by
 induction l with
 | nil=>decide
 | cons y l ih=>exact Int.mul_pos (h y (by simp)) (ih fun x hx=>h x (by simp [hx]))
theorem zrK {l:List Int} {x:Int} (h:x∈l):x∣pr l:=by
 induction l with
 | nil=>simp at h
 | cons y l ih =>
  rcases List.mem_cons.mp h with rfl | h
  ·exact Int.dvd_mul_right _ _
  ·exact Int.dvd_trans (ih h) (Int.dvd_mul_left _ _)
def ofs (bs:List Box) (ns:List Int):List Int:=List.zipWith (fun b n=>b.2.2 ^ n.toNat) bs ns
def zgC (bs:List Box) (ns:List Int):Int:=pr (ofs bs ns)
def zt5 (b:Box) (w:Int) (j:Nat) (B:Int):Int:=w*b.2.1*(b.2.2 - b.2.1) ^ j*B.fdiv (b.2.2 ^ j*b.2.2)
theorem zoZ {bs:List Box} {ns:List Int} {x:Int} (h:x∈ofs bs ns):∃ b∈bs,∃ n∈ns,x=b.2.2 ^ n.toNat:=by
 obtain ⟨i,hi,rfl⟩:=List.getElem_of_mem h
 unfold ofs at hi ⊢
 rw [List.length_zipWith] at hi
 exact ⟨bs[i],List.getElem_mem _,ns[i],List.getElem_mem _,by rw [List.getElem_zipWith]⟩
theorem zqy {bs:List Box} {ns:List Int} (gb:∀ b∈bs,GB b):0<zgC bs ns:=zrB _ fun x hx=>by
 obtain ⟨b,hb,n,hn,rfl⟩:=zoZ hx
 obtain ⟨g1,g2,g3,g4,g5⟩:=gb b hb
 exact zf9 (by omega) _
theorem zjv {bs:List Box} {ns:List Int} (gb:∀ b∈bs,GB b) (gn:∀ n∈ns,0≤n∧n≤60) (l6:bs.length≤6):Bd 2401 (zgC bs ns):=by
 refine (zr8 _ fun x hx=>?_).mono ?_
 ·obtain ⟨b,hb,n,hn,rfl⟩:=zoZ hx
  obtain ⟨g1,g2,g3,g4,g5⟩:=gb b hb
  exact zh9 (by omega) g5 (by have:=gn n hn;omega)
 ·unfold ofs
  rw [List.length_zipWith]
  omega
theorem zlG {a:Int} {m n:Nat} (h:m≤n):a ^ m∣a ^ n:=by
 obtain ⟨k,rfl⟩:=Nat.exists_eq_add_of_le h
 rw [Int.pow_add]
 exact Int.dvd_mul_right _ _
theorem zqP {bs:List Box} {ns:List Int} {k j:Nat} {b:Box} {n:Int} (hb:bs[k]?=some b) (hn:ns[k]?=some n) (hj:(j:Int)<n):b.2.2 ^ j*b.2.2∣zgC bs ns:=by
 have e:(ofs bs ns)[k]?=some (b.2.2 ^ n.toNat):=by
  unfold ofs
  rw [List.getElem?_zipWith,hb,hn]
 rw [← Int.pow_succ]
 exact Int.dvd_trans (zlG (by omega)) (zrK (zbK e))
theorem zpS {a c:Int} (h:0<a):(a*c).fdiv a=c:=by
 rw [Int.fdiv_eq_ediv_of_nonneg _ (Int.le_of_lt h),Int.mul_ediv_cancel_left _ (by omega)]
def kat (os:List Nat) (i:Nat):Nat:=os.getD i 0
def jat (os:List Nat) (i:Nat):Nat:=(os.take i).count (kat os i)
def bat (bs:List Box) (k:Nat):Box:=bs.getD k (1,1,1)
def wat (ws:List Int) (k:Nat):Int:=ws.getD k 0
def tpI (bs:List Box) (ws:List Int) (os:List Nat) (B:Int) (i:Nat):Int:=zt5 (bat bs (kat os i)) (wat ws (kat os i)) (jat os i) B
def csI (bs:List Box) (os:List Nat) (i:Nat):Int:=(bat bs (kat os i)).1
def lfI (bs:List Box) (ws:List Int) (os:List Nat) (B W:Int):Nat→Int
 | 0=>B*W
 | i+1=>lfI bs ws os B W i - tpI bs ws os B i
def ttI (bs:List Box) (ws:List Int) (os:List Nat) (B W:Int):Nat→Int
 | 0=>0
 | i+1=>ttI bs ws os B W i+csI bs os i*lfI bs ws os B W i
def za7 (os:List Nat):List V:=os.map fun (k:Nat)=>V.int (k:Int)
structure zjm (os:List Nat) (ns:List Int):Prop where
 small:os.length≤400
 lt:∀ k∈os,k<ns.length
 cnt:∀ (k:Nat) n,ns[k]?=some n→(os.count k:Int)=n
structure BWP (H:Hp) (l wl pl:Addr) (ts:List Addr) (bs:List Box) (ws ns:List Int):Prop where
 bp:BP H l pl ts bs ns
 hw:H wl=some (.lst (ws.map V.int))
 lw:ws.length=bs.length
 gw:∀ w∈ws,0≤w∧w≤1000000000000000000000000000000
 sw:0<ws.sum
theorem BWP.same {H H':Hp} {l wl pl:Addr} {ts:List Addr} {bs:List Box} {ws ns:List Int} (h:BWP H l wl pl ts bs ws ns) (s:zaL H H'):BWP H' l wl pl ts bs ws ns:=⟨h.bp.same s,s _ _ h.hw,h.lw,h.gw,h.sw⟩
structure BWO (H:Hp) (l wl pl ol:Addr) (ts:List Addr) (bs:List Box) (ws ns:List Int) (os:List Nat):Prop where
 w:BWP H l wl pl ts bs ws ns
 ho:H ol=some (.lst (za7 os))
 od:zjm os ns
theorem BWO.same {H H':Hp} {l wl pl ol:Addr} {ts:List Addr} {bs:List Box} {ws ns:List Int} {os:List Nat} (h:BWO H l wl pl ol ts bs ws ns os) (s:zaL H H'):BWO H' l wl pl ol ts bs ws ns os:=⟨h.w.same s,s _ _ h.ho,h.od⟩
theorem zrS:∀ (ws:List Int),(∀ w∈ws,0≤w∧w≤1000000000000000000000000000000)→0≤ws.sum∧ws.sum≤ws.length*1000000000000000000000000000000
 | [],_=>by simp
 | w::ws,h=>by
  obtain ⟨z1,z2⟩:=zrS ws fun x hx=>h x (by simp [hx])
  obtain ⟨z3,z4⟩:=h w (by simp)
  rw [List.sum_cons,List.length_cons]
  omega
theorem BWP.sumB {H:Hp} {l wl pl:Addr} {ts:List Addr} {bs:List Box} {ws ns:List Int} (h:BWP H l wl pl ts bs ws ns):Bd 103 ws.sum:=by
 obtain ⟨z1,z2⟩:=zrS ws h.gw
 have l6:=h.bp.l6
 have lw:=h.lw
 unfold Bd
 omega
theorem wBd {w:Int} (h:0≤w∧w≤1000000000000000000000000000000):Bd 100 w:=by
 unfold Bd
 omega
theorem zeW {α:Type} {l:List α} {i:Nat} {x d:α} (h:l[i]?=some x):l.getD i d=x:=by
 rw [List.getD_eq_getElem?_getD,h]
 rfl
theorem zuY {os:List Nat} {i k:Nat} (h:os[i]?=some k):(os.take i).count k<os.count k:=by
 obtain ⟨hi,e⟩:=List.getElem?_eq_some_iff.mp h
 have z:os.count k=((os.take i)++(os.drop i)).count k:=by rw [List.take_append_drop]
 rw [z,List.count_append,List.drop_eq_getElem_cons hi,e,List.count_cons_self]
 omega
theorem BWO.look {H:Hp} {l wl pl ol:Addr} {ts:List Addr} {bs:List Box} {ws ns:List Int} {os:List Nat} (h:BWO H l wl pl ol ts bs ws ns os) {i k:Nat} (e:os[i]?=some k) :
  kat os i=k∧jat os i=(os.take i).count k∧∃ t b w n,ts[k]?=some t∧bs[k]?=some b∧ws[k]?=some w∧ns[k]?=some n∧H t=some (.tup (bx b))∧bat bs k=b∧wat ws k=w∧GB b∧(0≤w∧w≤1000000000000000000000000000000)∧0≤n∧n≤60∧((os.take i).count k:Int)<n∧b.2.2 ^ ((os.take i).count k)*b.2.2∣zgC bs ns:=by
 have k1:kat os i=k:=zeW e
 have lk:=h.od.lt k (zbK e)
 have ln:=h.w.bp.len
 have lw:=h.w.lw
 have lt:=h.w.bp.hb.1
 have en:ns[k]?=some ns[k]:=List.getElem?_eq_getElem lk
 have eb:bs[k]?=some bs[k]:=List.getElem?_eq_getElem (by omega)
 have ew:ws[k]?=some ws[k]:=List.getElem?_eq_getElem (by omega)
 have et:ts[k]?=some ts[k]:=List.getElem?_eq_getElem (by omega)
 have c1:=zuY e
 have c2:=h.od.cnt k _ en
 have c3:((os.take i).count k:Int)<ns[k]:=by omega
 refine ⟨k1,by unfold jat;rw [k1],ts[k],bs[k],ws[k],ns[k],et,eb,ew,en,h.w.bp.hb.2 k _ _ et eb,zeW eb,zeW ew,h.w.bp.gb _ (zbK eb),h.w.gw _ (zbK ew),(h.w.bp.gn _ (zbK en)).1,(h.w.bp.gn _ (zbK en)).2,c3,zqP eb en c3⟩
abbrev pf (p:Int×Int):List V:=[.int p.1,.int p.2]
def tops (b:Box) (w:Int) (n:Nat) (B:Int):List Int:=(List.range n).map fun j=>zt5 b w j B
def zfq (bs:List Box) (ws ns:List Int) (os:List Nat) (n:Nat):List (Int×Int):=(List.range n).map fun i=>(csI bs os i,tpI bs ws os (zgC bs ns) i)
theorem zhT {α:Type} (f:Nat→α) (n:Nat):(List.range (n+1)).map f=(List.range n).map f++[f n]:=by
 rw [List.range_succ,List.map_append]
 rfl
theorem zg4 {α:Type} (f:Nat→α) {n i:Nat} (h:i<n):((List.range n).map f)[i]?=some (f i):=by
 rw [List.getElem?_map,List.getElem?_range h]
 rfl
def ziD (os:List Nat) (n i:Nat):List V:=(List.range n).map fun k=>V.int ((os.take i).count k:Int)
theorem done0 (os:List Nat) (n:Nat):ziD os n 0=List.replicate n (V.int 0):=by
 unfold ziD
 rw [List.take_zero]
 apply List.ext_getElem
 ·simp
 ·intro i h1 h2
  simp
theorem doneS {os:List Nat} {n i k:Nat} (e:os[i]?=some k) (hk:k<n):(ziD os n i).set k (V.int (((os.take i).count k:Int)+1))=ziD os n (i+1):=by
 unfold ziD
 have et:os.take (i+1)=os.take i++[k]:=by rw [List.take_add_one,e];rfl
 apply List.ext_getElem
 ·simp
 ·intro j h1 h2
  simp only [List.length_map,List.length_range] at h2
  rw [List.getElem_set]
  simp only [List.getElem_map,List.getElem_range,et,List.count_append,List.count_singleton]
  by_cases c:k=j
  ·subst c
   simp
  ·rw [if_neg c,if_neg (by simpa using c)]
   simp
theorem zsK {os:List Nat} {n i k:Nat} (hk:k<n):atI (ziD os n i) (k:Int)=some (V.int ((os.take i).count k:Int)):=zcq (zg4 _ hk)
def zjh:Sp:=fun vs H Q _=>∃ (l pl:Addr) (ts:List Addr) (bs:List Box) (ns:List Int),vs=[.ref l,.ref pl]∧BP H l pl ts bs ns∧∀ H',zaL H H'→Q (.int (zgC bs ns)) H'
def zrQ:Sp:=fun vs H Q _=>∃ (t:Addr) (b:Box) (w n B:Int),vs=[.ref t,.int w,.int n,.int B]∧H t=some (.tup (bx b))∧GB b∧0≤n∧n≤60∧Bd 100 w∧Bd 2401 B∧∀ (r:Addr) (H':Hp),zaL H H'→H' r=some (.lst ((tops b w n.toNat B).map V.int))→H r=none→Q (.ref r) H'
def zmG (H:Hp) (rs:List Addr) (bs:List Box) (ws ns:List Int) (m:Nat):Prop:=rs.length=m∧∀ (k:Nat) t b w n,rs[k]?=some t→bs[k]?=some b→ws[k]?=some w→ns[k]?=some n→H t=some (.lst ((tops b w n.toNat (zgC bs ns)).map V.int))
def zg9:Sp:=fun vs H Q _=>∃ (l wl pl:Addr) (ts:List Addr) (bs:List Box) (ws ns:List Int),vs=[.ref l,.ref wl,.ref pl]∧BWP H l wl pl ts bs ws ns∧∀ (r:Addr) (rs:List Addr) (H':Hp),zaL H H'→H' r=some (.lst (rs.map V.ref))→(∀ t∈rs,H t=none)→zmG H' rs bs ws ns bs.length→Q (.ref r) H'
def zhe:Sp:=fun vs H Q _=>∃ (l wl pl ol:Addr) (ts:List Addr) (bs:List Box) (ws ns:List Int) (os:List Nat),vs=[.ref l,.ref wl,.ref pl,.ref ol]∧BWO H l wl pl ol ts bs ws ns os∧∀ (r:Addr) (rs:List Addr) (H':Hp),zaL H H'→H' r=some (.lst (rs.map V.ref))→Tps pf H' rs (zfq bs ws ns os os.length)→Q (.ref r) H'
def zkF:Sp:=fun vs H Q _=>∃ (p c:Addr) (t n:Int),vs=[.ref p,.int n]∧Pur H p c t∧t<10000∧1≤n∧n≤6∧∀ (l:Addr) (ws:List Int) (t':Int) (H':Hp),zaL (Off p c H) (Off p c H')→Pur H' p c t'→t'≤t+13→Off p c H' l=some (.lst (ws.map V.int))→(ws.length:Int)=n→(∀ w∈ws,0≤w∧w≤1000000000000000000000000000000)→0<ws.sum→Q (.ref l) H'
def zn8:Sp:=fun vs H Q _=>∃ (p c pl:Addr) (t:Int) (ns:List Int),vs=[.ref p,.ref pl]∧Pur H p c t∧t<10000∧Off p c H pl=some (.lst (ns.map V.int))∧ns.length≤6∧(∀ n∈ns,0≤n∧n≤60)∧∀ (l:Addr) (os:List Nat) (t':Int) (H':Hp),zaL (Off p c H) (Off p c H')→Pur H' p c t'→t'≤t+400→Off p c H' l=some (.lst (za7 os))→zjm os ns→H l=none→Q (.ref l) H'
def zlT (H:Hp) (v:V):Prop:=NL H v∨∃ (l:Addr) (xs:List V) (cs:List Bool),v=.ref l∧H l=some (.lst xs)∧xs.length≤900∧BxL H xs cs∧¬ gBs cs
def zmT (H:Hp) (v:V) (n:Int):Prop:=NL H v∨∃ (a:Addr) (xs:List V),v=.ref a∧H a=some (.lst xs)∧xs.length≤900∧(∀ x∈xs,Tg H x)∧gW n xs=false
def zmU (H:Hp) (v:V) (n:Nat):Prop:=NL H v∨∃ (a:Addr) (xs:List V),v=.ref a∧H a=some (.lst xs)∧xs.length≤900∧(∀ x∈xs,Tg H x)∧gP n xs=false
def zlu (H:Hp) (v:V) (ns:List Int):Prop:=NL H v∨∃ (a:Addr) (xs:List V),v=.ref a∧H a=some (.lst xs)∧xs.length≤900∧(∀ x∈xs,Tg H x)∧gO ns xs=false
theorem BxR.same {H H':Hp} {x:V} {c:Bool} (h:BxR H x c) (s:zaL H H'):BxR H' x c:=by
 rcases h with ⟨h1,h2,h3⟩ | ⟨t,ys,h1,h2,h3,h4⟩
 ·refine .inl ⟨fun a ys e z=>?_,h2.same s,h3⟩
  cases h2 with
  | lst h=>cases e;rw [s _ _ h] at z;cases z
  | tup h=>cases e;exact h1 _ _ rfl h
  | _=>cases e
 ·exact .inr ⟨t,ys,h1,s _ _ h2,fun y hy=>(h3 y hy).same s,h4⟩
theorem zlT.same {H H':Hp} {v:V} (h:zlT H v) (s:zaL H H'):zlT H' v:=by
 rcases h with h | ⟨l,xs,cs,h1,h2,h3,h4,h5⟩
 ·exact .inl (h.same s)
 ·exact .inr ⟨l,xs,cs,h1,s _ _ h2,h3,⟨h4.1,fun i x c e1 e2=>(h4.2 i x c e1 e2).same s⟩,h5⟩
theorem zmT.same {H H':Hp} {v:V} {n:Int} (h:zmT H v n) (s:zaL H H'):zmT H' v n:=by
 rcases h with h | ⟨a,xs,h1,h2,h3,h4,h5⟩
 ·exact .inl (h.same s)
 ·exact .inr ⟨a,xs,h1,s _ _ h2,h3,fun x hx=>(h4 x hx).same s,h5⟩
theorem zmU.same {H H':Hp} {v:V} {n:Nat} (h:zmU H v n) (s:zaL H H'):zmU H' v n:=by
 rcases h with h | ⟨a,xs,h1,h2,h3,h4,h5⟩
 ·exact .inl (h.same s)
 ·exact .inr ⟨a,xs,h1,s _ _ h2,h3,fun x hx=>(h4 x hx).same s,h5⟩
theorem zlu.same {H H':Hp} {v:V} {ns:List Int} (h:zlu H v ns) (s:zaL H H'):zlu H' v ns:=by
 rcases h with h | ⟨a,xs,h1,h2,h3,h4,h5⟩
 ·exact .inl (h.same s)
 ·exact .inr ⟨a,xs,h1,s _ _ h2,h3,fun x hx=>(h4 x hx).same s,h5⟩
structure GdB (H:Hp) (l:Addr) (ts:List Addr) (bs:List Box):Prop where
 hl:H l=some (.lst (ts.map V.ref))
 hb:Tps bx H ts bs
 gb:∀ b∈bs,GB b
 l1:1≤bs.length
 l6:bs.length≤6
theorem GdB.same {H H':Hp} {l:Addr} {ts:List Addr} {bs:List Box} (h:GdB H l ts bs) (s:zaL H H'):GdB H' l ts bs:=⟨s _ _ h.hl,h.hb.same s,h.gb,h.l1,h.l6⟩
theorem gB_bx {b:Box} (g:GB b):gB (bx b)=true:=by
 obtain ⟨g1,g2,g3,g4,g5⟩:=g
 show (wi 1 60 (V.int b.1)&&wi 1 50 (V.int b.2.2)&&wi 1 b.2.2 (V.int b.2.1))=true
 have h1:wi 1 60 (V.int b.1)=true:=decide_eq_true ⟨g1,g2⟩
 have h2:wi 1 50 (V.int b.2.2)=true:=decide_eq_true ⟨by omega,g5⟩
 have h3:wi 1 b.2.2 (V.int b.2.1)=true:=decide_eq_true ⟨g3,g4⟩
 rw [h1,h2,h3]
 rfl
theorem GdB.bxl {H:Hp} {l:Addr} {ts:List Addr} {bs:List Box} (h:GdB H l ts bs):BxL H (ts.map V.ref) (bs.map fun _=>true)∧gBs (bs.map fun _=>true):=by
 refine ⟨⟨by rw [List.length_map,List.length_map,h.hb.1],fun i x c e1 e2=>?_⟩,by rw [List.length_map];exact h.l1,by rw [List.length_map];exact h.l6,zl1 fun b hb=>by obtain ⟨_,_,e⟩:=List.mem_map.mp hb;exact e.symm⟩
 obtain ⟨t,et,rfl⟩:=zcS e1
 obtain ⟨b,eb,rfl⟩:=zcS e2
 exact .inr ⟨t,bx b,rfl,h.hb.2 i t b et eb,fun y hy=>by simp [bx] at hy;rcases hy with rfl | rfl | rfl <;> exact .int _,(gB_bx (h.gb b (zbK eb))).symm⟩
def zpk (a:Ad):Sp:=fun vs H Q E=>∃ v:V,vs=[v]∧((zlT H v∧∀ H',zaL H H'→E (.ref a.c_NoBoxes) none H')∨∃ (l:Addr) (ts:List Addr) (bs:List Box),v=.ref l∧GdB H l ts bs∧∀ H',zaL H H'→Q .non H')
def ze5 (K:PySem.W.Frag) (a:Ad) (E:XK):TS :=
 (zcw (tOr (zii (tB (tCB (zit K) (zab (zac 0) (zab (tC (.ty "list")) zah))))) (tOr (zii (za8 (zk8 (rI0 fun i j=>.bl (decide (i≤j))) (rI0 fun i j=>.bl (decide (i≤j))) (tC (.int 1)) (tCB (fun xs H Q=>∃ p ys,xs=[.ref p]∧(SqL K H p ys∨SqT K H p ys)∧Q (.int ys.length) H) (zab (zac 0) zah)) (tC (.int 6))))) (zii (tB (tCB (zpL K) (zab (zdm (zeV K (zac 0)) (zak 0) zbM (zat zmZ [] E0 (zab (zac 0) zah)) [none]) zah)))))) (ziY (.ref a.c_NoBoxes) E) zaR)
theorem zjC {E:XK} {v:V} (h:(zlT H v∧∀ H',zaL H H'→E (.ref a.c_NoBoxes) none H')∨∃ (l:Addr) (ts:List Addr) (bs:List Box),v=.ref l∧GdB H l ts bs∧∀ H',zaL H H'→Q .non H') :
  ze5 K a E { nx:=fun _ H'=>Q .non H',rt:=Q } (L2.zb1 ["boxes"] [v]) H:=by
 unfold ze5
 simp_all only [zac]
 have main:NL H v∧(∀ H',zaL H H'→E (.ref a.c_NoBoxes) none H')∨∃ (l:Addr) (xs:List V) (cs:List Bool),v=.ref l∧H l=some (.lst xs)∧xs.length≤900∧BxL H xs cs∧∀ H',zaL H H'→(gBs cs→Q .non H')∧(¬ gBs cs→E (.ref a.c_NoBoxes) none H'):=by
  rcases h with ⟨hn | ⟨l,xs,cs,rfl,hl,xl,hx,hg⟩,e⟩ | ⟨l,ts,bs,rfl,G,q⟩
  ·exact .inl ⟨hn,e⟩
  ·exact .inr ⟨l,xs,cs,rfl,hl,xl,hx,fun H' s=>⟨fun z=>absurd z hg,fun _=>e H' s⟩⟩
  ·have:=G.l6
   exact .inr ⟨l,_,_,rfl,G.hl,by rw [List.length_map,G.hb.1];omega,G.bxl.1,fun H' s=>⟨fun _=>q H' s,fun z=>absurd G.bxl.2 z⟩⟩
 clear h
 rcases main with ⟨hn,e⟩ | ⟨l,xs,cs,rfl,hl,xl,hx,out⟩
 ·exact zmI hn ⟨false,rfl,zdZ (fun _=>e H (.refl _)) (fun z=>absurd rfl z)⟩
 have lc:=hx.1
 refine zeD hl ⟨true,rfl,?_⟩
 refine zdZ (fun z=>absurd z (by decide)) (fun _=>?_)
 obtain ⟨og,ob⟩:=out H (.refl _)
 refine ⟨_,rfl,_,.inl (SqL.of hl),zdZ (fun c1=>zdZ (fun c2=>ob fun g=>absurd g.2.1 (by omega)) (fun c2=>?_)) (fun c1=>ob fun g=>absurd g.1 (by omega))⟩
 refine ⟨_,rfl,⟨_,SqL.of hl⟩,fun D hD=>?_⟩
 refine zhA lc (SqL.of hl) hD xl (fun i x c H1 R ex ec s hR=>?_) fun H1 s hD1=>?_
 ·simp_all only [zac]
  exact ⟨x,c,rfl,(hx.2 i x c ex ec).same s,hR _ (.refl _)⟩
 ·simp_all only [zac]
  obtain ⟨og,ob⟩:=out H1 s
  refine ⟨_,SqL.of hD1,zdZ (fun c3=>ob fun g=>absurd g.2.2 (by rw [c3];decide)) (fun c3=>og ⟨by omega,by omega,by simpa using c3⟩)⟩
theorem zjd:zaM ["boxes"] ["boxes"] (zan zd2):=⟨rfl,rfl,rfl,by decide +kernel,rfl,by decide +kernel,by decide +kernel⟩
theorem zjX (T:Txt K mg a):zdW P w K mg base (CXV P w) 4 a.f_look_boxes a.d_look_boxes ["boxes"] (zpk a):=by
 have G_is_box:=zou (P:=P) (w:=w) (base:=base) T
 refine T.F_look_boxes.okV zjd (fun vs H Q E h=>?_) (fun cdv A outer s H vs Q E hr h=>?_)
 ·obtain ⟨v,rfl,h⟩:=h
  rfl
 obtain ⟨v,rfl,h⟩:=h
 exact ⟨ze5 K a E,(zam (zcv (PW.pt (zkU (zeE (zcW (zao zcz rfl T.z_isinstance PyProof.Rows.boot_isinstance (zaa (pv 0) (zaa (zex rfl T.z_list zdx rfl) zad))))) (zkU (zeE (zq4 zp2 zp2 zag (zao zaq rfl T.z_len PySem.boot_len (zaa (pv 0) zad)) (zbY rfl T.m_MOST_BOXES ⟨_,rfl⟩))) (zig (zeE (zcW (zao (zfY rfl) rfl T.z_all PyProof.Rows.boot_all (zaa (zdN (sc:=zan zd2) (N:=["boxes"]) (Nc:=["box"]) (cap:=[none]) rfl rfl rfl (.of (by decide +kernel)) (zd8 (pv 0)) (fun _ _ _ _=>(zaF (i:=0) (show List.Nodup (["box"]:List Str) from by decide) rfl (Or.inl rfl))) (fun _ _ _ _=>zc7) (fun _ _ _ _=>(zap G_is_box (hr.mono (by decide)) rfl T.m_is_box T.F_is_box.kp T.b_is_box .nil za0 (zaa (pv 0) zad)))) zad)))))))) (zam (zjs T.m_NoBoxes T.x_NoBoxes rfl rfl zmv)) zaQ)),
  zjC h⟩
theorem ztR {ns:List Int} {n:Nat} (ln:ns.length=n) (g:∀ x∈ns,0≤x∧x≤60):gP n (ns.map V.int)=true:=by
 unfold gP
 rw [List.length_map,decide_eq_true ln,List.all_map]
 exact List.all_eq_true.mpr fun x hx=>decide_eq_true (g x hx)
theorem zth {ws:List Int} {n:Int} (ln:(ws.length:Int)=n) (g:∀ x∈ws,0≤x∧x≤1000000000000000000000000000000) (sw:0<ws.sum):gW n (ws.map V.int)=true:=by
 unfold gW
 have h1:(ws.map V.int).all nn=true:=by
  rw [List.all_map]
  exact List.all_eq_true.mpr fun x hx=>decide_eq_true (g x hx).1
 rw [List.length_map,decide_eq_true ln,h1,List.map_map,show iv ∘ V.int=id from rfl,List.map_id,decide_eq_true sw]
 rfl
theorem zkO (os:List Nat) (k:Nat):(za7 os).countP (fun z=>eqV z (V.int (k:Int)))=os.count k:=by
 unfold za7
 rw [List.countP_map,List.count]
 congr 1
 funext x
 show (eqV (V.int (x:Int)) (V.int (k:Int)))=(x == k)
 have e:((x:Int) == (k:Int))=(x == k):=by
  rw [Bool.eq_iff_iff]
  simp only [beq_iff_eq]
  omega
 simpa [eqV] using e
theorem zto {os:List Nat} {ns:List Int} (O:zjm os ns):gO ns (za7 os)=true:=by
 unfold gO
 have h1:(za7 os).all (wi 0 ((ns.length:Int) - 1))=true:=by
  unfold za7
  rw [List.all_map]
  exact List.all_eq_true.mpr fun k hk=>decide_eq_true ⟨by omega,by have:=O.lt k hk;omega⟩
 rw [h1]
 refine decide_eq_true (List.ext_getElem? fun i=>?_)
 rw [List.getElem?_map]
 cases e:ns[i]? with
 | none=>rw [List.getElem?_eq_none_iff.mpr (by rw [List.length_range];exact List.getElem?_eq_none_iff.mp e)];rfl
 | some n =>
  rw [List.getElem?_range (List.getElem?_eq_some_iff.mp e).1]
  show some (((za7 os).countP (fun z=>eqV z (V.int (i:Int))):Nat):Int)=some n
  rw [zkO,O.cnt i n e]
def zhE (K:PySem.W.Frag):TS :=
 (zcu (tCB (zpL K) (zab (zdm (zeV K (zac 0)) (zak 0) zbM (zat zcx [] E0 (zab (zac 0) (zab (tC (.int 0)) (zab (tC (.int 60)) zah)))) [none]) zah)))
theorem zco (K:PySem.W.Frag) (D:zb5) (σ:St) (H:Hp):zhE K D σ H=(zcu (tCB (zpL K) (zab (zdm (zeV K (zac 0)) (zak 0) zbM (zat zcx [] E0 (zab (zac 0) (zab (tC (.int 0)) (zab (tC (.int 60)) zah)))) [none]) zah))) D σ H:=rfl
def zhu (K:PySem.W.Frag):TS :=
 (zcw (tOr (zii (tB (tCB (zit K) (zab (zac 0) (zab (tC (.ty "list")) zah))))) (za8 (tOp rNe (tCB (fun xs H Q=>∃ p ys,xs=[.ref p]∧(SqL K H p ys∨SqT K H p ys)∧Q (.int ys.length) H) (zab (zac 0) zah)) (tCB (fun xs H Q=>∃ p ys,xs=[.ref p]∧(SqL K H p ys∨SqT K H p ys)∧Q (.int ys.length) H) (zab (zac 1) zah))))) (zcu (tC (.bl false))) zaR)
theorem zcp (K:PySem.W.Frag) (D:zb5) (σ:St) (H:Hp):zhu K D σ H=(zcw (tOr (zii (tB (tCB (zit K) (zab (zac 0) (zab (tC (.ty "list")) zah))))) (za8 (tOp rNe (tCB (fun xs H Q=>∃ p ys,xs=[.ref p]∧(SqL K H p ys∨SqT K H p ys)∧Q (.int ys.length) H) (zab (zac 0) zah)) (tCB (fun xs H Q=>∃ p ys,xs=[.ref p]∧(SqL K H p ys∨SqT K H p ys)∧Q (.int ys.length) H) (zab (zac 1) zah))))) (zcu (tC (.bl false))) zaR) D σ H:=rfl
def zic (K:PySem.W.Frag):TS :=
 (zaG (zc0 (zhu K))
 (zhE K))
theorem zne {v:V} {l:Addr} {bs:List V} (hl:H l=some (.lst bs)) (h:(NL H v∧Q (.bl false) H)∨∃ (a:Addr) (xs:List V),v=.ref a∧H a=some (.lst xs)∧xs.length≤900∧(∀ x∈xs,Tg H x)∧∀ H',zaL H H'→Q (.bl (gP bs.length xs)) H') :
  zic K { nx:=fun _ H'=>Q .non H',rt:=Q } (L2.zb1 ["thing","boxes"] [v,.ref l]) H:=by
 unfold zic
 simp_all only [zco,zcp,zac]
 rcases h with ⟨hn,q⟩ | ⟨a,xs,rfl,ha,xl,ht,q⟩
 ·refine ⟨fun _ _=>False,?_,fun _ _ z=>z.elim⟩
  simp_all only [zco,zcp,zac]
  exact zmI hn ⟨false,rfl,zdZ (fun _=>q) (fun z=>absurd rfl z)⟩
 refine ⟨fun σ H'=>xs.length=bs.length∧H'=H∧σ=[some (.ref a),some (.ref l)],?_,?_⟩
 ·simp_all only [zco,zcp,zac]
  refine zeD ha ⟨true,rfl,?_⟩
  refine zdZ (fun z=>absurd z (by decide)) (fun _=>?_)
  refine ⟨_,.inl (SqL.of ha),_,.inl (SqL.of hl),zdZ (fun z=>?_) (fun z=>⟨by omega,rfl⟩)⟩
  have:=q H (.refl _)
  rw [show gP bs.length xs=false from by unfold gP;rw [decide_eq_false (by omega)];rfl] at this
  exact this
 ·rintro σ H' ⟨ln,e,rfl⟩
  rw [e]
  simp_all only [zco,zcp,zac]
  refine ⟨⟨_,SqL.of ha⟩,fun D hD=>?_⟩
  refine zgj (wi 0 60) (SqL.of ha) hD xl (fun i x H1 R ex s hR=>?_) fun H1 s hD1=>?_
  ·simp_all only [zco,zcp,zac]
   exact ⟨x,0,60,rfl,(ht x (zbK ex)).same s,hR _ (.refl _)⟩
  ·simp_all only [zco,zcp,zac]
   refine ⟨_,SqL.of hD1,?_⟩
   have:=q H1 s
   rw [show gP bs.length xs=(xs.map (wi 0 60)).all id from by unfold gP;rw [decide_eq_true ln,List.all_map];rfl] at this
   exact this
theorem znd:zaM ["thing","boxes"] ["thing","boxes"] (zan zfW):=⟨rfl,rfl,rfl,by decide +kernel,rfl,by decide +kernel,by decide +kernel⟩
theorem znk (T:Txt K mg a):zdW P w K mg base CX0 3 a.f_is_plan a.d_is_plan ["thing","boxes"] zhz:=by
 have G_is_within:=ze2 (P:=P) (w:=w) (base:=base) T
 refine T.F_is_plan.ok znd (fun vs H Q E h=>?_) (fun cdv A outer s H vs Q E hr h=>?_)
 ·obtain ⟨v,l,bs,rfl,hl,h⟩:=h
  rfl
 obtain ⟨v,l,bs,rfl,hl,h⟩:=h
 exact ⟨zic K,(zaf (zbS (zcv (PW.pt (zkU (zeE (zcW (zao zcz rfl T.z_isinstance PyProof.Rows.boot_isinstance (zaa (pv 0) (zaa (zex rfl T.z_list zdx rfl) zad))))) (zig (zbl zsJ (zao zaq rfl T.z_len PySem.boot_len (zaa (pv 0) zad)) (zao zaq rfl T.z_len PySem.boot_len (zaa (pv 1) zad)) (zbH _))))) (zam (zaY zgZ)) zaQ))
 (zam (zaY (zao (zfY rfl) rfl T.z_all PyProof.Rows.boot_all (zaa (zdN (sc:=zan zfW) (N:=["thing","boxes"]) (Nc:=["count"]) (cap:=[none]) rfl rfl rfl (.of (by decide +kernel)) (zd8 (pv 0)) (fun _ _ _ _=>(zaF (i:=0) (show List.Nodup (["count"]:List Str) from by decide) rfl (Or.inl rfl))) (fun _ _ _ _=>zc7) (fun _ _ _ _=>(zap G_is_within (hr.mono (by decide)) rfl T.m_is_within T.F_is_within.kp T.b_is_within .nil za0 (zaa (pv 0) (zaa zag (zaa (zbY rfl T.m_MOST_LOOKS ⟨_,rfl⟩) zad)))))) zad))))),
  zne hl h⟩
def znM (a:Ad) (H:Hp) (E:XK) (vb vw vp:V) (G:Addr→Addr→Addr→List Addr→List Box→List Int→List Int→Prop):Prop :=
 (zlT H vb∧∀ H',zaL H H'→E (.ref a.c_NoBoxes) none H') ∨
 (∃ (l:Addr) (ts:List Addr) (bs:List Box),vb=.ref l∧GdB H l ts bs∧zmT H vw bs.length∧∀ H',zaL H H'→E (.ref a.c_NoWeights) none H') ∨
 (∃ (l wl:Addr) (ts:List Addr) (bs:List Box) (ws:List Int),vb=.ref l∧vw=.ref wl∧GdB H l ts bs∧H wl=some (.lst (ws.map V.int))∧ws.length=bs.length∧(∀ w∈ws,0≤w∧w≤1000000000000000000000000000000)∧0<ws.sum∧zmU H vp bs.length∧∀ (H':Hp) (dx:Addr),zaL H H'→H' dx=none→E (.ref a.c_NoPlan) (some dx) (L2.upd H' dx (.xd [("at",.int (-1))]))) ∨
 (∃ (l wl pl:Addr) (ts:List Addr) (bs:List Box) (ws ns:List Int),vb=.ref l∧vw=.ref wl∧vp=.ref pl∧BWP H l wl pl ts bs ws ns∧G l wl pl ts bs ws ns)
theorem BWP.gd {H:Hp} {l wl pl:Addr} {ts:List Addr} {bs:List Box} {ws ns:List Int} (B:BWP H l wl pl ts bs ws ns):GdB H l ts bs:=⟨B.bp.hl,B.bp.hb,B.bp.gb,B.bp.l1,B.bp.l6⟩
def zfC (a:Ad):Sp:=fun vs H Q E=>∃ vb vw vp:V,vs=[vb,vw,vp]∧znM a H E vb vw vp fun _ _ _ _ _ _ _=>∀ H',zaL H H'→Q .non H'
def zf4 (a:Ad) (E:XK):TS :=
 (zcw (zii (tB (zat zhz [] E0 (zab (zac 2) (zab (zac 0) zah))))) (zjx a.c_NoPlan "at" E (zab (tUn (rU fun i=>.int (-i)) (tC (.int 1))) zah)) zaR)
theorem zdA (a:Ad) (E:XK) (D:zb5) (σ:St) (H:Hp):zf4 a E D σ H=(zcw (zii (tB (zat zhz [] E0 (zab (zac 2) (zab (zac 0) zah))))) (zjx a.c_NoPlan "at" E (zab (tUn (rU fun i=>.int (-i)) (tC (.int 1))) zah)) zaR) D σ H:=rfl
def zf5 (K:PySem.W.Frag) (a:Ad) (E:XK):TS :=
 (zcw (zii (tB (zat zl7 [] E0 (zab (zac 1) (zab (tCB (fun xs H Q=>∃ p ys,xs=[.ref p]∧(SqL K H p ys∨SqT K H p ys)∧Q (.int ys.length) H) (zab (zac 0) zah)) zah))))) (ziY (.ref a.c_NoWeights) E) zaR)
theorem zdB (K:PySem.W.Frag) (a:Ad) (E:XK) (D:zb5) (σ:St) (H:Hp):zf5 K a E D σ H=(zcw (zii (tB (zat zl7 [] E0 (zab (zac 1) (zab (tCB (fun xs H Q=>∃ p ys,xs=[.ref p]∧(SqL K H p ys∨SqT K H p ys)∧Q (.int ys.length) H) (zab (zac 0) zah)) zah))))) (ziY (.ref a.c_NoWeights) E) zaR) D σ H:=rfl
def zfv (K:PySem.W.Frag) (a:Ad) (E:XK):TS :=
 (zaG (zbP (zat (zpk a) [] E (zab (zac 0) zah)))
 (zaG (zc0 (zf5 K a E))
 (zf4 a E)))
theorem zkr {E:XK} {vb vw vp:V} (h:znM a H E vb vw vp fun _ _ _ _ _ _ _=>∀ H',zaL H H'→Q .non H') :
  zfv K a E { nx:=fun _ H'=>Q .non H',rt:=Q } (L2.zb1 ["boxes","weights","plan"] [vb,vw,vp]) H:=by
 unfold zfv
 simp_all only [zdA,zdB,zac]
 rcases h with ⟨hb,e⟩ | h
 ·exact ⟨vb,rfl,.inl ⟨hb,e⟩⟩
 obtain ⟨l,ts,bs,rfl,G,h⟩:∃ (l:Addr) (ts:List Addr) (bs:List Box),vb=.ref l∧GdB H l ts bs∧((zmT H vw bs.length∧∀ H',zaL H H'→E (.ref a.c_NoWeights) none H')∨∃ (wl:Addr) (ws:List Int),vw=.ref wl∧H wl=some (.lst (ws.map V.int))∧ws.length=bs.length∧(∀ w∈ws,0≤w∧w≤1000000000000000000000000000000)∧0<ws.sum ∧
   ((zmU H vp bs.length∧∀ (H':Hp) (dx:Addr),zaL H H'→H' dx=none→E (.ref a.c_NoPlan) (some dx) (L2.upd H' dx (.xd [("at",.int (-1))])))∨∃ (pl:Addr) (ns:List Int),vp=.ref pl∧BWP H l wl pl ts bs ws ns∧∀ H',zaL H H'→Q .non H')):=by
  rcases h with ⟨l,ts,bs,h1,G,h2,h3⟩ | ⟨l,wl,ts,bs,ws,h1,h2,G,h3,h4,h5,h6,h7,h8⟩ | ⟨l,wl,pl,ts,bs,ws,ns,h1,h2,h3,B,q⟩
  ·exact ⟨l,ts,bs,h1,G,.inl ⟨h2,h3⟩⟩
  ·exact ⟨l,ts,bs,h1,G,.inr ⟨wl,ws,h2,h3,h4,h5,h6,.inl ⟨h7,h8⟩⟩⟩
  ·exact ⟨l,ts,bs,h1,B.gd,.inr ⟨wl,ws,h2,B.hw,B.lw,B.gw,B.sw,.inr ⟨pl,ns,h3,B,q⟩⟩⟩
 have l6:=G.l6
 refine ⟨_,rfl,.inr ⟨l,ts,bs,rfl,G,fun H1 s1=>?_⟩⟩
 have G1:=G.same s1
 have ll:((ts.map V.ref).length:Int)=(bs.length:Int):=by rw [List.length_map,G.hb.1]
 refine ⟨fun σ H'=>zaL H1 H'∧(∃ (wl:Addr) (ws:List Int),vw=.ref wl∧H wl=some (.lst (ws.map V.int))∧ws.length=bs.length∧(∀ w∈ws,0≤w∧w≤1000000000000000000000000000000)∧0<ws.sum ∧
   ((zmU H vp bs.length∧∀ (H':Hp) (dx:Addr),zaL H H'→H' dx=none→E (.ref a.c_NoPlan) (some dx) (L2.upd H' dx (.xd [("at",.int (-1))])))∨∃ (pl:Addr) (ns:List Int),vp=.ref pl∧BWP H l wl pl ts bs ws ns∧∀ H',zaL H H'→Q .non H'))∧σ=[some (.ref l),some vw,some vp],?_,?_⟩
 ·simp_all only [zdA,zdB,zac]
  refine ⟨_,.inl (SqL.of G1.hl),vw,_,rfl,?_⟩
  rw [ll]
  rcases h with ⟨hw,e⟩ | ⟨wl,ws,rfl,h1,h2,h3,h4,h5⟩
  ·rcases hw.same s1 with hn | ⟨a',xs,rfl,ha,xl,ht,hg⟩
   ·exact .inl ⟨hn,false,rfl,zdZ (fun _=>e _ s1) (fun z=>absurd rfl z)⟩
   ·exact .inr ⟨a',xs,rfl,ha,xl,ht,fun H2 s2=>⟨_,rfl,zdZ (fun _=>e _ (s1.trans s2)) (fun z=>absurd hg z)⟩⟩
  ·refine .inr ⟨wl,_,rfl,s1 _ _ h1,by rw [List.length_map];omega,fun x hx=>?_,fun H2 s2=>⟨_,rfl,zdZ (fun z=>?_) (fun _=>⟨s2,wl,rfl,ws,h1,h2,h3,h4,h5.imp id fun ⟨pl,ns,e,B,q⟩=>⟨pl,e,ns,B,q⟩⟩)⟩⟩
   ·obtain ⟨i,_,rfl⟩:=List.mem_map.mp hx
    exact .int i
   ·rw [zth (by omega) h3 h4] at z
    cases z
 rintro σ H2 ⟨s2,⟨wl,ws,rfl,h1,h2,h3,h4,h5⟩,rfl⟩
 simp_all only [zdA,zdB,zac]
 have s12:=s1.trans s2
 refine ⟨vp,l,_,rfl,(G1.same s2).hl,?_⟩
 rw [List.length_map,G.hb.1]
 rcases h5 with ⟨hp,e⟩ | ⟨pl,ns,rfl,B,q⟩
 ·rcases hp.same s12 with hn | ⟨a',xs,rfl,ha,xl,ht,hg⟩
  ·exact .inl ⟨hn,false,rfl,zdZ (fun _ dx ndx=>e _ dx s12 ndx) (fun z=>absurd rfl z)⟩
  ·exact .inr ⟨a',xs,rfl,ha,xl,ht,fun H3 s3=>⟨_,rfl,zdZ (fun _ dx ndx=>e _ dx (s12.trans s3) ndx) (fun z=>absurd hg z)⟩⟩
 ·have ln:=B.bp.len
  refine .inr ⟨pl,_,rfl,s12 _ _ B.bp.hp,by rw [List.length_map];omega,fun x hx=>?_,fun H3 s3=>⟨_,rfl,zdZ (fun z=>?_) (fun _=>q _ (s12.trans s3))⟩⟩
  ·obtain ⟨i,_,rfl⟩:=List.mem_map.mp hx
   exact .int i
  ·rw [ztR ln B.bp.gn] at z
   cases z
theorem znB:zaM ["self","at"] ["self","at"] (zan zc2):=⟨rfl,rfl,rfl,by decide +kernel,rfl,by decide +kernel,by decide +kernel⟩
theorem zir (T:Txt K mg a):zdW P w K mg base CX0 1 a.i_NoPlan a.j_NoPlan ["self","at"] (zrH a.c_NoPlan "at"):=by
 refine T.I_NoPlan.ok znB (fun vs H Q E h=>?_) (fun cdv A outer s H vs Q E hr h=>?_)
 ·obtain ⟨y,v,rfl,hy,q⟩:=h
  rfl
 obtain ⟨y,v,rfl,hy,q⟩:=h
 exact ⟨_,(zaf (zbF (zmf rfl T.m_HideError T.B (zaa (pv 0) (zaa (pv 1) zad)))) (zam (zs6 (pv 0) (pv 1) rfl))),ztK T.X_NoPlan T.xa_NoPlan.na hy q⟩
theorem zkL:zaM ["boxes","weights","plan"] ["boxes","weights","plan"] (zan zfH):=⟨rfl,rfl,rfl,by decide +kernel,rfl,by decide +kernel,by decide +kernel⟩
theorem zgE (T:Txt K mg a):zdW P w K mg base (CXV P w) 5 a.f_look_plan a.d_look_plan ["boxes","weights","plan"] (zfC a):=by
 have G_are_weights:=ziN (P:=P) (w:=w) (base:=base) T
 have G_is_plan:=znk (P:=P) (w:=w) (base:=base) T
 have G_look_boxes:=zjX (P:=P) (w:=w) (base:=base) T
 have G__NoPlan:=zir (P:=P) (w:=w) (base:=base) T
 refine T.F_look_plan.okV zkL (fun vs H Q E h=>?_) (fun cdv A outer s H vs Q E hr h=>?_)
 ·obtain ⟨vb,vw,vp,rfl,h⟩:=h
  rfl
 obtain ⟨vb,vw,vp,rfl,h⟩:=h
 exact ⟨zfv K a E,(zaf (zbF (zap G_look_boxes (hr.mono (by decide)) rfl T.m_look_boxes T.F_look_boxes.kp T.b_look_boxes .nil zkm (zaa (pv 0) zad)))
 (zaf (zbS (zcv (zeE (zcW (zap G_are_weights (hr.mono (by decide)) rfl T.m_are_weights T.F_are_weights.kp T.b_are_weights .nil za0 (zaa (pv 1) (zaa (zao zaq rfl T.z_len PySem.boot_len (zaa (pv 0) zad)) zad))))) (zam (zjs T.m_NoWeights T.x_NoWeights rfl rfl zmv)) zaQ))
 (zam (zcv (zeE (zcW (zap G_is_plan (hr.mono (by decide)) rfl T.m_is_plan T.F_is_plan.kp T.b_is_plan .nil za0 (zaa (pv 2) (zaa (pv 0) zad))))) (zam (zph T.X_NoPlan G__NoPlan (hr.mono (by decide)) rfl T.m_NoPlan T.bi_NoPlan za0 rfl zty (zaa (znr zi2 zag) zad))) zaQ)))),
  zkr h⟩
def zgI (K:PySem.W.Frag):TS :=
 (zcu (tOp (rEqI K) (zdm (zeo (zab (tCB (fun xs H Q=>∃ p ys,xs=[.ref p]∧(SqL K H p ys∨SqT K H p ys)∧Q (.int ys.length) H) (zab (zac 1) zah)) zah)) (zak 0) zbM (tBM K "list" (zmR K) (zac 1) (zab (zac 0) zah)) [none,some 0]) (zac 1)))
theorem zbD (K:PySem.W.Frag) (D:zb5) (σ:St) (H:Hp):zgI K D σ H=(zcu (tOp (rEqI K) (zdm (zeo (zab (tCB (fun xs H Q=>∃ p ys,xs=[.ref p]∧(SqL K H p ys∨SqT K H p ys)∧Q (.int ys.length) H) (zab (zac 1) zah)) zah)) (zak 0) zbM (tBM K "list" (zmR K) (zac 1) (zab (zac 0) zah)) [none,some 0]) (zac 1))) D σ H:=rfl
def zgJ (K:PySem.W.Frag):TS :=
 (zcw (tOr (zii (tB (tCB (zit K) (zab (zac 0) (zab (tC (.ty "list")) zah))))) (zii (tB (tCB (zpL K) (zab (zdm (zeV K (zac 0)) (zak 0) zbM (zat zcx [] E0 (zab (zac 0) (zab (tC (.int 0)) (zab (tOp (rI0 fun i j=>.int (i - j)) (tCB (fun xs H Q=>∃ p ys,xs=[.ref p]∧(SqL K H p ys∨SqT K H p ys)∧Q (.int ys.length) H) (zab (zac 1) zah)) (tC (.int 1))) zah)))) [none,some 1]) zah))))) (zcu (tC (.bl false))) zaR)
theorem zbE (K:PySem.W.Frag) (D:zb5) (σ:St) (H:Hp):zgJ K D σ H=(zcw (tOr (zii (tB (tCB (zit K) (zab (zac 0) (zab (tC (.ty "list")) zah))))) (zii (tB (tCB (zpL K) (zab (zdm (zeV K (zac 0)) (zak 0) zbM (zat zcx [] E0 (zab (zac 0) (zab (tC (.int 0)) (zab (tOp (rI0 fun i j=>.int (i - j)) (tCB (fun xs H Q=>∃ p ys,xs=[.ref p]∧(SqL K H p ys∨SqT K H p ys)∧Q (.int ys.length) H) (zab (zac 1) zah)) (tC (.int 1))) zah)))) [none,some 1]) zah))))) (zcu (tC (.bl false))) zaR) D σ H:=rfl
def zgk (K:PySem.W.Frag):TS :=
 (zaG (zc0 (zgJ K))
 (zgI K))
theorem zmy {v:V} {pl:Addr} {ns:List Int} (hp:H pl=some (.lst (ns.map V.int))) (l6:ns.length≤6) (h:(NL H v∧Q (.bl false) H)∨∃ (a:Addr) (xs:List V),v=.ref a∧H a=some (.lst xs)∧xs.length≤900∧(∀ x∈xs,Tg H x)∧∀ H',zaL H H'→Q (.bl (gO ns xs)) H') :
  zgk K { nx:=fun _ H'=>Q .non H',rt:=Q } (L2.zb1 ["thing","plan"] [v,.ref pl]) H:=by
 unfold zgk
 simp_all only [zbD,zbE,zac]
 rcases h with ⟨hn,q⟩ | ⟨a,xs,rfl,ha,xl,ht,q⟩
 ·refine ⟨fun _ _=>False,?_,fun _ _ z=>z.elim⟩
  simp_all only [zbD,zbE,zac]
  exact zmI hn ⟨false,rfl,zdZ (fun _=>q) (fun z=>absurd rfl z)⟩
 refine ⟨fun σ H'=>zaL H H'∧xs.all (wi 0 ((ns.length:Int) - 1))=true∧σ=[some (.ref a),some (.ref pl)],?_,?_⟩
 ·simp_all only [zbD,zbE,zac]
  refine zeD ha ⟨true,rfl,?_⟩
  refine zdZ (fun z=>absurd z (by decide)) (fun _=>?_)
  refine ⟨⟨_,SqL.of ha⟩,fun D hD=>?_⟩
  refine zgj (wi 0 ((ns.length:Int) - 1)) (SqL.of ha) hD xl (fun i x H1 R ex s hR=>?_) fun H1 s hD1=>?_
  ·simp_all only [zbD,zbE,zac]
   refine ⟨_,.inl (SqL.of (s _ _ hp)),?_⟩
   rw [List.length_map]
   exact ⟨x,0,_,rfl,(ht x (zbK ex)).same s,hR _ (.refl _)⟩
  ·simp_all only [zbD,zbE,zac]
   have hall:(xs.map (wi 0 ((ns.length:Int) - 1))).all id=xs.all (wi 0 ((ns.length:Int) - 1)):=by rw [List.all_map];rfl
   refine ⟨_,SqL.of hD1,?_⟩
   rw [hall]
   refine zdZ (fun c=>?_) (fun c=>⟨s,by simpa using c⟩)
   have:=q H1 s
   rw [show gO ns xs=false from by unfold gO;rw [c];rfl] at this
   exact this
 ·rintro σ H1 ⟨s1,hall,rfl⟩
  have hp1:=s1 _ _ hp
  have ha1:=s1 _ _ ha
  obtain ⟨is,rfl⟩:=zfx hall
  have fl:(is.map V.int).all zjK=true:=by
   rw [List.all_map]
   exact List.all_eq_true.mpr fun x _=>rfl
  simp_all only [zbD,zbE,zac]
  refine ⟨_,.inl (SqL.of hp1),?_⟩
  rw [List.length_map]
  refine ⟨by omega,by omega,fun D hD=>?_⟩
  rw [Int.toNat_natCast]
  refine zdV (fun i ys σ H'=>zaL H1 H'∧ys=((List.range i).map fun k:Nat=>(((is.map V.int).countP fun z=>eqV z (V.int (k:Int)):Nat):Int)).map V.int∧∃ k,σ=[k,some (.ref a)]) ⟨zaE hD _,rfl,_,rfl⟩ ?_ ?_
  ·rintro i ys σ H2 hi hD2 ⟨s2,rfl,k,rfl⟩
   simp_all only [zbD,zbE,zac]
   refine ⟨.inl ⟨rfl,_,SqL.of (s2 _ _ ha1)⟩,_,SqL.of (s2 _ _ ha1),rfl,fl,_,hD2,zbN (by rw [List.length_map,List.length_map,List.length_range];omega),_,zai,s2.put hD,?_⟩
   rw [List.range_succ,List.map_append,List.map_append,Int.zero_add]
   rfl
  ·rintro ys σ H2 hD2 ⟨s2,rfl,k,rfl⟩
   simp_all only [zbD,zbE,zac]
   refine ⟨_,SqL.of hD2,ns,SqL.of (s2 _ _ hp1),?_⟩
   have:=q H2 (s1.trans s2)
   rw [show gO ns (is.map V.int)=decide (((List.range ns.length).map fun k:Nat=>(((is.map V.int).countP fun z=>eqV z (V.int (k:Int)):Nat):Int))=ns) from by unfold gO;rw [hall];rfl] at this
   exact this
theorem zmg:zaM ["thing","plan"] ["thing","plan"] (zan zem):=⟨rfl,rfl,rfl,by decide +kernel,rfl,by decide +kernel,by decide +kernel⟩
theorem zmA (T:Txt K mg a):zdW P w K mg base CX0 3 a.f_is_order a.d_is_order ["thing","plan"] zi5:=by
 have G_is_within:=ze2 (P:=P) (w:=w) (base:=base) T
 refine T.F_is_order.ok zmg (fun vs H Q E h=>?_) (fun cdv A outer s H vs Q E hr h=>?_)
 ·obtain ⟨v,pl,ns,rfl,hp,l6,h⟩:=h
  rfl
 obtain ⟨v,pl,ns,rfl,hp,l6,h⟩:=h
 exact ⟨zgk K,(zaf (zbS (zcv (PW.pt (zkU (zeE (zcW (zao zcz rfl T.z_isinstance PyProof.Rows.boot_isinstance (zaa (pv 0) (zaa (zex rfl T.z_list zdx rfl) zad))))) (zig (zeE (zcW (zao (zfY rfl) rfl T.z_all PyProof.Rows.boot_all (zaa (zdN (sc:=zan zem) (N:=["thing","plan"]) (Nc:=["k","plan"]) (cap:=[none,some 1]) rfl rfl rfl (.of (by decide +kernel)) (zd8 (pv 0)) (fun _ _ _ _=>(zaF (i:=0) (show List.Nodup (["k","plan"]:List Str) from by decide) rfl (Or.inl rfl))) (fun _ _ _ _=>zc7) (fun _ _ _ _=>(zap G_is_within (hr.mono (by decide)) rfl T.m_is_within T.F_is_within.kp T.b_is_within .nil za0 (zaa (pv 0) (zaa zag (zaa (zaA zeq (zao zaq rfl T.z_len PySem.boot_len (zaa (pv 1) zad)) zag) zad)))))) zad))))))) (zam (zaY zgZ)) zaQ))
 (zam (zaY (zfA (zun hr.units) (zdN (sc:=zan zem) (N:=["thing","plan"]) (Nc:=["k","thing"]) (cap:=[none,some 0]) rfl rfl rfl (.of (by decide +kernel)) (zcb rfl T.z_range (zaa (zao zaq rfl T.z_len PySem.boot_len (zaa (pv 1) zad)) zad)) (fun _ _ _ _=>(zaF (i:=0) (show List.Nodup (["k","thing"]:List Str) from by decide) rfl (Or.inl rfl))) (fun _ _ _ _=>zc7) (fun _ _ _ _=>(ze8 PySem.F.plainAttrs_list PySem.F.slot_list_count PySem.F.type_list_count zqE (pv 1) (zaa (pv 0) zad)))) (pv 1) (zbH _))))),
  zmy hp l6 h⟩
def zpN (a:Ad) (H:Hp) (E:XK) (vb vw vp vo:V) (G:Addr→Addr→Addr→Addr→List Addr→List Box→List Int→List Int→List Nat→Prop):Prop :=
 znM a H E vb vw vp fun l wl pl ts bs ws ns=>(zlu H vo ns∧∀ H',zaL H H'→E (.ref a.c_NoOrder) none H')∨∃ (ol:Addr) (os:List Nat),vo=.ref ol∧BWO H l wl pl ol ts bs ws ns os∧G l wl pl ol ts bs ws ns os
def ze9 (a:Ad):Sp:=fun vs H Q E=>∃ vb vw vp vo:V,vs=[vb,vw,vp,vo]∧zpN a H E vb vw vp vo fun _ _ _ _ _ _ _ _ _=>∀ H',zaL H H'→Q .non H'
def zeQ (a:Ad) (E:XK):TS :=
 (zaG (zbP (zat (zfC a) [] E (zab (zac 0) (zab (zac 1) (zab (zac 2) zah)))))
 (zcw (zii (tB (zat zi5 [] E0 (zab (zac 3) (zab (zac 2) zah))))) (ziY (.ref a.c_NoOrder) E) zaR))
theorem zjV {E:XK} {vb vw vp vo:V} (h:zpN a H E vb vw vp vo fun _ _ _ _ _ _ _ _ _=>∀ H',zaL H H'→Q .non H') :
  zeQ a E { nx:=fun _ H'=>Q .non H',rt:=Q } (L2.zb1 ["boxes","weights","plan","order"] [vb,vw,vp,vo]) H:=by
 unfold zeQ
 simp_all only [zac]
 rcases h with h | h | h | ⟨l,wl,pl,ts,bs,ws,ns,rfl,rfl,rfl,B,h⟩
 ·exact ⟨_,_,_,rfl,.inl h⟩
 ·exact ⟨_,_,_,rfl,.inr (.inl h)⟩
 ·exact ⟨_,_,_,rfl,.inr (.inr (.inl h))⟩
 have l6:=B.bp.l6
 have ln:=B.bp.len
 refine ⟨_,_,_,rfl,.inr (.inr (.inr ⟨l,wl,pl,ts,bs,ws,ns,rfl,rfl,rfl,B,fun H1 s1=>?_⟩))⟩
 refine ⟨vo,pl,ns,rfl,s1 _ _ B.bp.hp,by omega,?_⟩
 rcases h with ⟨ho,e⟩ | ⟨ol,os,rfl,BO,q⟩
 ·rcases ho.same s1 with hn | ⟨a',xs,rfl,ha,xl,ht,hg⟩
  ·exact .inl ⟨hn,false,rfl,zdZ (fun _=>e _ s1) (fun z=>absurd rfl z)⟩
  ·exact .inr ⟨a',xs,rfl,ha,xl,ht,fun H2 s2=>⟨_,rfl,zdZ (fun _=>e _ (s1.trans s2)) (fun z=>absurd hg z)⟩⟩
 ·have sm:=BO.od.small
  refine .inr ⟨ol,_,rfl,s1 _ _ BO.ho,by unfold za7;rw [List.length_map];omega,fun x hx=>?_,fun H2 s2=>⟨_,rfl,zdZ (fun z=>?_) (fun _=>q _ (s1.trans s2))⟩⟩
  ·obtain ⟨i,_,rfl⟩:=List.mem_map.mp hx
   exact .int _
  ·rw [zto BO.od] at z
   cases z
theorem zj2:zaM ["boxes","weights","plan","order"] ["boxes","weights","plan","order"] (zan zeO):=⟨rfl,rfl,rfl,by decide +kernel,rfl,by decide +kernel,by decide +kernel⟩
theorem zge (T:Txt K mg a):zdW P w K mg base (CXV P w) 6 a.f_look_order a.d_look_order ["boxes","weights","plan","order"] (ze9 a):=by
 have G_is_order:=zmA (P:=P) (w:=w) (base:=base) T
 have G_look_plan:=zgE (P:=P) (w:=w) (base:=base) T
 refine T.F_look_order.okV zj2 (fun vs H Q E h=>?_) (fun cdv A outer s H vs Q E hr h=>?_)
 ·obtain ⟨vb,vw,vp,vo,rfl,h⟩:=h
  rfl
 obtain ⟨vb,vw,vp,vo,rfl,h⟩:=h
 exact ⟨zeQ a E,(zaf (zbF (zap G_look_plan (hr.mono (by decide)) rfl T.m_look_plan T.F_look_plan.kp T.b_look_plan .nil zkm (zaa (pv 0) (zaa (pv 1) (zaa (pv 2) zad)))))
 (zam (zcv (zeE (zcW (zap G_is_order (hr.mono (by decide)) rfl T.m_is_order T.F_is_order.kp T.b_is_order .nil za0 (zaa (pv 3) (zaa (pv 2) zad))))) (zam (zjs T.m_NoOrder T.x_NoOrder rfl rfl zmv)) zaQ))),
  zjV h⟩
def zjl (K:PySem.W.Frag):TS :=
 (zcu (zds (zab (zat zos [] E0 (zab (tOp (rI0 fun i j=>.int (i - j)) (tOp (zil K) (zac 0) (tC (.int 2))) (tOp (zil K) (zac 0) (tC (.int 1)))) (zab (zac 1) zah))) (zab (zat zos [] E0 (zab (tOp (zil K) (zac 0) (tC (.int 2))) (zab (zac 1) zah))) zah))))
theorem zn1 {p:Addr} {b:Box} {n:Int} (hp:H p=some (.tup (bx b))) (g:GB b) (n0:0≤n) (n1:n≤60) (q:∀ (r:Addr) (H':Hp),zaL H H'→H' r=some (.tup [.int ((b.2.2 - b.2.1) ^ n.toNat),.int (b.2.2 ^ n.toNat)])→Q (.ref r) H') :
  zjl K { nx:=fun _ H'=>Q .non H',rt:=Q } (L2.zb1 ["box","count"] [.ref p,.int n]) H:=by
 unfold zjl
 obtain ⟨g1,g2,g3,g4,g5⟩:=g
 simp_all only [zac]
 refine ⟨_,SqT.of hp,_,rfl,_,SqT.of hp,_,rfl,_,rfl,_,rfl,_,_,rfl,n0,n1,by omega,by omega,_,SqT.of hp,_,rfl,_,_,rfl,n0,n1,by omega,by omega,by decide,fun r hr=>q r _ (zaE hr _) zai⟩
theorem zpf:zaM ["box","count"] ["box","count"] (zan zjM):=⟨rfl,rfl,rfl,by decide +kernel,rfl,by decide +kernel,by decide +kernel⟩
theorem zoa (T:Txt K mg a):zdW P w K mg base CX0 2 a.f_missed a.d_missed ["box","count"] zjR:=by
 have G_power:=zmX (P:=P) (w:=w) (base:=base) T
 refine T.F_missed.ok zpf (fun vs H Q E h=>?_) (fun cdv A outer s H vs Q E hr h=>?_)
 ·obtain ⟨p,b,n,rfl,hp,g,n0,n1,q⟩:=h
  rfl
 obtain ⟨p,b,n,rfl,hp,g,n0,n1,q⟩:=h
 exact ⟨zjl K,(zam (zaY (zca (zaa (zap G_power (hr.mono (by decide)) rfl T.m_power T.F_power.kp T.b_power .nil za0 (zaa (zaA zeq (zbZ zer (pv 0) zag (fun _ _=>rfl)) (zbZ zer (pv 0) zag (fun _ _=>rfl))) (zaa (pv 1) zad))) (zaa (zap G_power (hr.mono (by decide)) rfl T.m_power T.F_power.kp T.b_power .nil za0 (zaa (zbZ zer (pv 0) zag (fun _ _=>rfl)) (zaa (pv 1) zad))) zad))))),
  zn1 hp g n0 n1 q⟩
theorem of_bd {b:Box} (g:GB b) {n:Int} (n1:n≤60):Bd 400 (b.2.2 ^ n.toNat):=zh9 (by obtain ⟨g1,g2,g3,g4,g5⟩:=g;omega) g.2.2.2.2 (by omega)
theorem zqq {α β γ:Type} (f:α→β→γ) (as:List α) (bs:List β) {i:Nat} {x:α} {y:β} (h1:as[i]?=some x) (h2:bs[i]?=some y) :
  (List.zipWith f as bs).take (i+1)=(List.zipWith f as bs).take i++[f x y]:=by
 rw [List.take_add_one,List.getElem?_zipWith,h1,h2]
 rfl
theorem ztt {α β γ:Type} (f:α→β→γ) (as:List α) (bs:List β):(List.zipWith f as bs).take (min as.length bs.length)=List.zipWith f as bs :=
 List.take_of_length_le (by rw [List.length_zipWith];exact Nat.le_refl _)
def zeH (K:PySem.W.Frag):TS :=
 (za5 (tOp (rI IntMulOk fun i j=>.int (i*j)) (zac 2) (zat zos [] E0 (zab (tOp (zil K) (zac 3) (tC (.int 2))) (zab (zac 4) zah)))) (zak 2))
theorem zbV (K:PySem.W.Frag) (D:zb5) (σ:St) (H:Hp):zeH K D σ H=(za5 (tOp (rI IntMulOk fun i j=>.int (i*j)) (zac 2) (zat zos [] E0 (zab (tOp (zil K) (zac 3) (tC (.int 2))) (zab (zac 4) zah)))) (zak 2)) D σ H:=rfl
def zd5 (K:PySem.W.Frag):TS :=
 (zaG (za5 (tC (.int 1)) (zak 2))
 (zaG (zk7 (iZip K (zab (zac 0) (zab (zac 1) zah))) (zlN K 2 (zcs (zak 3) (zcs (zak 4) zlw)))
 (zeH K))
 (zcu (zac 2))))
theorem zhl {l pl:Addr} {ts:List Addr} {bs:List Box} {ns:List Int} (B:BP H l pl ts bs ns) (q:∀ H',zaL H H'→Q (.int (zgC bs ns)) H') :
  zd5 K { nx:=fun _ H'=>Q .non H',rt:=Q } (L2.zb1 ["boxes","plan","bottom","box","count"] [.ref l,.ref pl]) H:=by
 unfold zd5
 simp_all only [zbV,zac]
 refine ⟨⟨_,SqL.of B.hl⟩,⟨_,SqL.of B.hp⟩,?_⟩
 refine zrr (K:=K) (xs:=ts.map V.ref) (ys:=ns.map V.int) (fun i σ H'=>zaL H H'∧∃ x y,σ=[some (.ref l),some (.ref pl),some (.int (pr ((ofs bs ns).take i))),x,y]) ⟨.refl _,_,_,rfl⟩ ?_ ?_ ?_
 ·rintro i σ H' _ ⟨s,_⟩
  exact ⟨SqL.of (s _ _ B.hl),SqL.of (s _ _ B.hp)⟩
 ·rintro i x y t σ H1 hx hy ⟨s,u,v,rfl⟩ ht
  obtain ⟨a,ha,rfl⟩:=zcS hx
  obtain ⟨n,hn,rfl⟩:=zcS hy
  obtain ⟨b,hb1,hb2⟩:=B.hb.at ha
  obtain ⟨n0,n1⟩:=B.gn n (zbK hn)
  have g:=B.gb b (zbK hb1)
  obtain ⟨g1,g2,g3,g4,g5⟩:=id g
  have hb3:=s _ _ hb2
  have bd:Bd 2401 (pr ((ofs bs ns).take i)):=by
   refine (zr8 _ fun x hx=>?_).mono ?_
   ·obtain ⟨b,hb,n,hn,rfl⟩:=zoZ (List.mem_of_mem_take hx)
    obtain ⟨g1,g2,g3,g4,g5⟩:=B.gb b hb
    exact zh9 (by omega) g5 (by have:=B.gn n hn;omega)
   ·have l6:=B.l6
    unfold ofs
    rw [List.length_take,List.length_zipWith]
    omega
  simp_all only [zbV,zac]
  refine ⟨_,SqT.of zai,rfl,_,_,rfl,_,_,rfl,rfl,?_⟩
  simp_all only [zbV,zac]
  refine ⟨_,SqT.of (by rw [zaC (zau hb3 ht)];exact hb3),_,rfl,?_⟩
  refine ⟨_,_,rfl,n0,n1,by omega,by omega,?_⟩
  simp_all only [zbV,zac]
  refine ⟨zpK 2401 400 bd (of_bd g n1),s.add ht,?_⟩
  rw [show (ofs bs ns).take (i+1)=(ofs bs ns).take i++[b.2.2 ^ n.toNat] from zqq _ _ _ hb1 hn,zrz]
 ·rintro σ H1 ⟨s,u,v,rfl⟩
  simp_all only [zbV,zac]
  rw [List.length_map,List.length_map,B.hb.1,show (ofs bs ns).take (min bs.length ns.length)=ofs bs ns from ztt _ _ _]
  exact q _ s
theorem zcA:zaM ["boxes","plan","bottom","box","count"] ["boxes","plan"] (zan zea):=⟨rfl,rfl,rfl,by decide +kernel,rfl,by decide +kernel,by decide +kernel⟩
theorem zeN (T:Txt K mg a):zdW P w K mg base CX0 2 a.f_looks_bottom a.d_looks_bottom ["boxes","plan"] zjh:=by
 have G_power:=zmX (P:=P) (w:=w) (base:=base) T
 refine T.F_looks_bottom.ok zcA (fun vs H Q E h=>?_) (fun cdv A outer s H vs Q E hr h=>?_)
 ·obtain ⟨l,pl,ts,bs,ns,rfl,B,q⟩:=h
  rfl
 obtain ⟨l,pl,ts,bs,ns,rfl,B,q⟩:=h
 exact ⟨zd5 K,(zaf (zaB (i:=2) zcA.nd rfl (Or.inl rfl) zag)
 (zaf (zep PassesOwn.never rfl (zrN rfl T.z_zip (zaa (pv 0) (zaa (pv 1) zad))) (zgf rfl (za9 (zaF (i:=3) zcA.nd rfl (Or.inl rfl)) (za9 (zaF (i:=4) zcA.nd rfl (Or.inl rfl)) zeh)))
 (zam (zaB (i:=2) zcA.nd rfl (Or.inl rfl) (zaA zcB (pv 2) (zap G_power (hr.mono (by decide)) rfl T.m_power T.F_power.kp T.b_power .nil za0 (zaa (zbZ zer (pv 3) zag (fun _ _=>rfl)) (zaa (pv 4) zad)))))))
 (zam (zaY (pv 2))))),
  zhl B q⟩
def ze6 (K:PySem.W.Frag):TS :=
 (zaG (za5 (zat zjR [] E0 (zab (zac 0) (zab (zac 5) zah))) (zlN K 2 (zcs (zak 6) (zcs (zak 7) zlw))))
 (zbP (tBM K "list" zaI (zac 4) (zab (tOp (rI IntMulOk fun i j=>.int (i*j)) (tOp (rI IntMulOk fun i j=>.int (i*j)) (tOp (rI IntMulOk fun i j=>.int (i*j)) (zac 1) (tOp (zil K) (zac 0) (tC (.int 1)))) (zac 6)) (tOp (rI (fun _ j=>j≠0∧j.natAbs.log2<9000) fun i j=>.int (i.fdiv j)) (zac 3) (tOp (rI IntMulOk fun i j=>.int (i*j)) (zac 7) (tOp (zil K) (zac 0) (tC (.int 2)))))) zah))))
theorem zct (K:PySem.W.Frag) (D:zb5) (σ:St) (H:Hp):ze6 K D σ H=(zaG (za5 (zat zjR [] E0 (zab (zac 0) (zab (zac 5) zah))) (zlN K 2 (zcs (zak 6) (zcs (zak 7) zlw))))
 (zbP (tBM K "list" zaI (zac 4) (zab (tOp (rI IntMulOk fun i j=>.int (i*j)) (tOp (rI IntMulOk fun i j=>.int (i*j)) (tOp (rI IntMulOk fun i j=>.int (i*j)) (zac 1) (tOp (zil K) (zac 0) (tC (.int 1)))) (zac 6)) (tOp (rI (fun _ j=>j≠0∧j.natAbs.log2<9000) fun i j=>.int (i.fdiv j)) (zac 3) (tOp (rI IntMulOk fun i j=>.int (i*j)) (zac 7) (tOp (zil K) (zac 0) (tC (.int 2)))))) zah)))) D σ H:=rfl
def zeC (K:PySem.W.Frag):TS :=
 (zaG (za5 (zbX zah) (zak 4))
 (zaG (zk7 (zeo (zab (zac 2) zah)) (zak 5)
 (ze6 K))
 (zcu (zac 4))))
theorem ziQ {t:Addr} {b:Box} {w n B:Int} (ht:H t=some (.tup (bx b))) (g:GB b) (n0:0≤n) (n1:n≤60) (bw:Bd 100 w) (bB:Bd 2401 B) (q:∀ (r:Addr) (H':Hp),zaL H H'→H' r=some (.lst ((tops b w n.toNat B).map V.int))→H r=none→Q (.ref r) H') :
  zeC K { nx:=fun _ H'=>Q .non H',rt:=Q } (L2.zb1 ["box","weight","count","bottom","tops","k","top","part"] [.ref t,.int w,.int n,.int B]) H:=by
 unfold zeC
 simp_all only [zct,zac]
 refine ⟨by decide,fun d hd=>⟨by omega,by omega,?_⟩⟩
 refine zcY (fun i σ H'=>zaL H H'∧H' d=some (.lst ((tops b w i B).map V.int))∧∃ x y z,σ=[some (.ref t),some (.int w),some (.int n),some (.int B),some (.ref d),x,y,z]) ⟨zaE hd _,zai,_,_,_,rfl⟩ ?_ ?_
 ·rintro i σ H1 hi ⟨s,hd1,x,y,z,rfl⟩
  have ht1:=s _ _ ht
  obtain ⟨g1,g2,g3,g4,g5⟩:=id g
  simp_all only [zct,zac]
  refine ⟨t,b,_,rfl,ht1,g,by omega,by omega,fun r H2 s2 hr=>?_⟩
  rw [Int.zero_add,Int.toNat_natCast] at hr
  have ht2:=s2 _ _ ht1
  have hd2:=s2 _ _ hd1
  simp_all only [zct,zac]
  refine ⟨_,SqT.of hr,rfl,_,_,rfl,_,_,rfl,rfl,?_⟩
  have bh:Bd 6 b.2.1:=by unfold Bd;omega
  have bo:Bd 6 b.2.2:=by unfold Bd;omega
  have p1:Bd 400 ((b.2.2 - b.2.1) ^ i):=zh9 (by omega) (by omega) (by omega)
  have p2:Bd 400 (b.2.2 ^ i):=zh9 (by omega) (by omega) (by omega)
  have p3:0<b.2.2 ^ i*b.2.2:=Int.mul_pos (zf9 (by omega) _) (by omega)
  have p4:Bd 406 (b.2.2 ^ i*b.2.2):=p2.mul bo
  have p5:Bd 2401 (B.fdiv (b.2.2 ^ i*b.2.2)):=by
   refine bB.le ?_
   rw [Int.fdiv_eq_ediv_of_nonneg _ (Int.le_of_lt p3)]
   exact Int.natAbs_ediv_le_natAbs _ _
  refine ⟨.inl ⟨rfl,_,SqL.of hd2⟩,_,SqT.of ht2,_,rfl,_,rfl,zpK 100 6 bw bh,_,rfl,zpK 106 400 (bw.mul bh) p1,?_⟩
  refine ⟨_,SqT.of ht2,_,rfl,_,rfl,_,rfl,zpK 400 6 p2 bo,by omega,znQ 406 (by omega) p4,zpK 506 2401 ((bw.mul bh).mul p1) p5,_,hd2,zbN (by rw [List.length_map,tops,List.length_map,List.length_range];omega),?_⟩
  refine ⟨(s.trans s2).put hd,?_⟩
  rw [zai,tops,tops,zhT,List.map_append]
  rfl
 ·rintro σ H1 ⟨s,hd1,x,y,z,rfl⟩
  simp_all only [zct,zac]
  exact q _ _ s hd1 hd
theorem zcR:zaM ["box","weight","count","bottom","tops","k","top","part"] ["box","weight","count","bottom"] (zan zey):=⟨rfl,rfl,rfl,by decide +kernel,rfl,by decide +kernel,by decide +kernel⟩
theorem ziC (T:Txt K mg a):zdW P w K mg base CX0 3 a.f_chance_tops a.d_chance_tops ["box","weight","count","bottom"] zrQ:=by
 have G_missed:=zoa (P:=P) (w:=w) (base:=base) T
 refine T.F_chance_tops.ok zcR (fun vs H Q E h=>?_) (fun cdv A outer s H vs Q E hr h=>?_)
 ·obtain ⟨t,b,w',n,B,rfl,ht,g,n0,n1,bw,bB,q⟩:=h
  rfl
 obtain ⟨t,b,w',n,B,rfl,ht,g,n0,n1,bw,bB,q⟩:=h
 exact ⟨zeC K,(zaf (zaB (i:=4) zcR.nd rfl (Or.inl rfl) (zaN zad))
 (zaf (zep PassesOwn.never rfl (zcb rfl T.z_range (zaa (pv 2) zad)) (zaF (i:=5) zcR.nd rfl (Or.inl rfl))
 (zaf (zfZ (zap G_missed (hr.mono (by decide)) rfl T.m_missed T.F_missed.kp T.b_missed .nil za0 (zaa (pv 0) (zaa (pv 5) zad))) (zgf rfl (za9 (zaF (i:=6) zcR.nd rfl (Or.inl rfl)) (za9 (zaF (i:=7) zcR.nd rfl (Or.inl rfl)) zeh))))
 (zam (zbF (ze8 PySem.F.plainAttrs_list PySem.F.slot_list_append PySem.F.type_list_append zbU (pv 4) (zaa (zaA zcB (zaA zcB (zaA zcB (pv 1) (zbZ zer (pv 0) zag (fun _ _=>rfl))) (pv 6)) (zaA zf7 (pv 3) (zaA zcB (pv 7) (zbZ zer (pv 0) zag (fun _ _=>rfl))))) zad))))))
 (zam (zaY (pv 4))))),
  ziQ ht g n0 n1 bw bB q⟩
theorem zdX {H:Hp} {a b:Addr} {xs ys:List V} (h1:H a=some (.lst xs)) (h2:H b=some (.tup ys)):a≠b:=zr9 h1 h2 (by simp)
def zet (K:PySem.W.Frag):TS :=
 (zaG (za5 (zat zjh [] E0 (zab (zac 0) (zab (zac 2) zah))) (zak 3))
 (zcu (zdm (zte K (zab (zac 0) (zab (zac 1) (zab (zac 2) zah)))) (zlN K 3 (zcs (zak 0) (zcs (zak 1) (zcs (zak 2) zlw)))) zbM (zat zrQ [] E0 (zab (zac 0) (zab (zac 1) (zab (zac 2) (zab (zac 3) zah))))) [none,none,none,some 3])))
theorem ziH {l wl pl:Addr} {ts:List Addr} {bs:List Box} {ws ns:List Int} (B0:BWP H l wl pl ts bs ws ns) (q:∀ (r:Addr) (rs:List Addr) (H':Hp),zaL H H'→H' r=some (.lst (rs.map V.ref))→(∀ t∈rs,H t=none)→zmG H' rs bs ws ns bs.length→Q (.ref r) H') :
  zet K { nx:=fun _ H'=>Q .non H',rt:=Q } (L2.zb1 ["boxes","weights","plan","bottom"] [.ref l,.ref wl,.ref pl]) H:=by
 unfold zet
 simp_all only [zac]
 refine ⟨l,pl,ts,bs,ns,rfl,B0.bp,fun H1 s1=>?_⟩
 have B:=B0.same s1
 simp_all only [zac]
 have l6:=B.bp.l6
 have ln:=B.bp.len
 have lw:=B.lw
 have lt:=B.bp.hb.1
 refine ⟨⟨_,SqL.of B.bp.hl⟩,⟨_,SqL.of B.hw⟩,⟨_,SqL.of B.bp.hp⟩,fun D hD=>?_⟩
 refine zm9 (K:=K) (xs:=ts.map V.ref) (ws:=ws.map V.int) (zs:=ns.map V.int) (fun i ys σ H'=>zaL H1 H'∧(∃ rs,ys=rs.map V.ref∧zmG H' rs bs ws ns i∧∀ t∈rs,t≠D∧H t=none)∧∃ x y z,σ=[x,y,z,some (.int (zgC bs ns))]) ⟨zaE hD _,⟨[],rfl,⟨rfl,fun k t b w n e=>by simp at e⟩,by simp⟩,_,_,_,rfl⟩ (by rw [List.length_map,List.length_map];omega) (by rw [List.length_map,List.length_map];omega) ?_ ?_ ?_
 ·rintro i ys σ H' _ ⟨s,_⟩
  exact ⟨SqL.of (s _ _ B.bp.hl),SqL.of (s _ _ B.hw),SqL.of (s _ _ B.bp.hp)⟩
 ·rintro i x w z t ys σ H2 hx hw hz hD2 ⟨s2,⟨rs,rfl,hR,hrD⟩,u1,u2,u3,rfl⟩ ht
  obtain ⟨a,ha,rfl⟩:=zcS hx
  obtain ⟨w,ew,rfl⟩:=zcS hw
  obtain ⟨n,en,rfl⟩:=zcS hz
  obtain ⟨b,hb1,hb2⟩:=B.bp.hb.at ha
  obtain ⟨n0,n1⟩:=B.bp.gn n (zbK en)
  have li:=(List.getElem?_eq_some_iff.mp hb1).1
  have hb3:=s2 _ _ hb2
  have s3:=zaE ht (.tup [V.ref a,V.int w,V.int n])
  simp_all only [zac]
  refine ⟨_,SqT.of zai,rfl,_,_,rfl,_,_,rfl,_,_,rfl,rfl,?_⟩
  generalize L2.upd H2 t (.tup [V.ref a,V.int w,V.int n])=H3 at s3 ⊢
  refine ⟨a,b,w,n,_,rfl,s3 _ _ hb3,B.bp.gb b (zbK hb1),n0,n1,wBd (B.gw w (zbK ew)),zjv B.bp.gb B.bp.gn B.bp.l6,fun r H4 s4 hr fr0=>?_⟩
  have s34:=s3.trans s4
  have hD4:=s34 _ _ hD2
  simp_all only [zac]
  have lr:=hR.1
  have nr:r≠D:=(zau (s3 _ _ hD2) fr0).symm
  refine ⟨_,hD4,zbN (by rw [List.length_map];omega),_,zai,(s2.trans s34).put hD,rs++[r],?_,⟨?_,?_⟩,?_⟩
  ·rw [List.map_append]
   rfl
  ·rw [List.length_append,lr]
   rfl
  ·intro k t' b' w' n' e1 e2 e3 e4
   by_cases c:k<rs.length
   ·rw [List.getElem?_append_left c] at e1
    rw [zaC (hrD _ (zbK e1)).1]
    exact s34 _ _ (hR.2 k t' b' w' n' e1 e2 e3 e4)
   ·rw [List.getElem?_append_right (by omega)] at e1
    have zk:k - rs.length=0:=by
     have:=(List.getElem?_eq_some_iff.mp e1).1
     simp only [List.length_cons,List.length_nil] at this
     omega
    rw [zk] at e1
    simp only [List.getElem?_cons_zero,Option.some.injEq] at e1
    have ki:k=i:=by omega
    subst ki
    rw [hb1] at e2
    rw [ew] at e3
    rw [en] at e4
    cases e2
    cases e3
    cases e4
    subst e1
    rw [zaC nr]
    exact hr
  ·intro t' ht'
   rcases List.mem_append.mp ht' with h | h
   ·exact hrD t' h
   ·have:t'=r:=by simpa using h
    rw [this]
    exact ⟨nr,(s1.trans (s2.trans s3)).free fr0⟩
 ·rintro ys σ H2 hD2 ⟨s2,⟨rs,rfl,hR,hF⟩,u1,u2,u3,rfl⟩
  rw [List.length_map,lt] at hR
  exact q D rs H2 (s1.trans s2) hD2 (fun t ht=>(hF t ht).2) hR
theorem zfp:zaM ["boxes","weights","plan","bottom"] ["boxes","weights","plan"] (zan zdH):=⟨rfl,rfl,rfl,by decide +kernel,rfl,by decide +kernel,by decide +kernel⟩
theorem zfo (T:Txt K mg a):zdW P w K mg base CX0 4 a.f_tops_by_box a.d_tops_by_box ["boxes","weights","plan"] zg9:=by
 have G_chance_tops:=ziC (P:=P) (w:=w) (base:=base) T
 have G_looks_bottom:=zeN (P:=P) (w:=w) (base:=base) T
 refine T.F_tops_by_box.ok zfp (fun vs H Q E h=>?_) (fun cdv A outer s H vs Q E hr h=>?_)
 ·obtain ⟨l,wl,pl,ts,bs,ws,ns,rfl,B,q⟩:=h
  rfl
 obtain ⟨l,wl,pl,ts,bs,ws,ns,rfl,B,q⟩:=h
 exact ⟨zet K,(zaf (zaB (i:=3) zfp.nd rfl (Or.inr rfl) (zap G_looks_bottom (hr.mono (by decide)) rfl T.m_looks_bottom T.F_looks_bottom.kp T.b_looks_bottom .nil za0 (zaa (pv 0) (zaa (pv 2) zad))))
 (zam (zaY (zdN (sc:=zan zdH) (N:=["boxes","weights","plan","bottom"]) (Nc:=["box","weight","count","bottom"]) (cap:=[none,none,none,some 3]) rfl rfl rfl (.of (by decide +kernel)) (zsH rfl T.z_zip (zaa (pv 0) (zaa (pv 1) (zaa (pv 2) zad)))) (fun _ _ _ _=>(zgf rfl (za9 (zaF (i:=0) (show List.Nodup (["box","weight","count","bottom"]:List Str) from by decide) rfl (Or.inl rfl)) (za9 (zaF (i:=1) (show List.Nodup (["box","weight","count","bottom"]:List Str) from by decide) rfl (Or.inl rfl)) (za9 (zaF (i:=2) (show List.Nodup (["box","weight","count","bottom"]:List Str) from by decide) rfl (Or.inl rfl)) zeh))))) (fun _ _ _ _=>zc7) (fun _ _ _ _=>(zap G_chance_tops (hr.mono (by decide)) rfl T.m_chance_tops T.F_chance_tops.kp T.b_chance_tops .nil za0 (zaa (pv 0) (zaa (pv 1) (zaa (pv 2) (zaa (pv 3) zad)))))))))),
  ziH B q⟩
def ze0 (K:PySem.W.Frag):TS :=
 (za5 (tOp (rI0 fun i j=>.int (i+j)) (tOp (zcO K) (zac 5) (zac 7)) (tC (.int 1))) (znV (zac 5) (zac 7) zid))
theorem zhS (K:PySem.W.Frag) (D:zb5) (σ:St) (H:Hp):ze0 K D σ H=(za5 (tOp (rI0 fun i j=>.int (i+j)) (tOp (zcO K) (zac 5) (zac 7)) (tC (.int 1))) (znV (zac 5) (zac 7) zid)) D σ H:=rfl
def zgL (K:PySem.W.Frag):TS :=
 (zaG (zbP (tBM K "list" zaI (zac 6) (zab (zds (zab (tOp (zil K) (tOp (zcO K) (zac 0) (zac 7)) (tC (.int 0))) (zab (tOp (zcO K) (tOp (zcO K) (zac 4) (zac 7)) (tOp (zcO K) (zac 5) (zac 7))) zah))) zah)))
 (ze0 K))
theorem zb9 (K:PySem.W.Frag) (D:zb5) (σ:St) (H:Hp):zgL K D σ H=(zaG (zbP (tBM K "list" zaI (zac 6) (zab (zds (zab (tOp (zil K) (tOp (zcO K) (zac 0) (zac 7)) (tC (.int 0))) (zab (tOp (zcO K) (tOp (zcO K) (zac 4) (zac 7)) (tOp (zcO K) (zac 5) (zac 7))) zah))) zah)))
 (ze0 K)) D σ H:=rfl
def zgz (K:PySem.W.Frag):TS :=
 (zaG (za5 (zat zg9 [] E0 (zab (zac 0) (zab (zac 1) (zab (zac 2) zah)))) (zak 4))
 (zaG (za5 (zdm (zeV K (zac 0)) (zak 0) zbM (tC (.int 0)) [none]) (zak 5))
 (zaG (za5 (zbX zah) (zak 6))
 (zaG (zk7 (zeV K (zac 3)) (zak 7)
 (zgL K))
 (zcu (zac 6))))))
theorem zmx {l wl pl ol:Addr} {ts:List Addr} {bs:List Box} {ws ns:List Int} {os:List Nat} (B0:BWO H l wl pl ol ts bs ws ns os) (q:∀ (r:Addr) (rs:List Addr) (H':Hp),zaL H H'→H' r=some (.lst (rs.map V.ref))→Tps pf H' rs (zfq bs ws ns os os.length)→Q (.ref r) H') :
  zgz K { nx:=fun _ H'=>Q .non H',rt:=Q } (L2.zb1 ["boxes","weights","plan","order","tops","done","looks","k"] [.ref l,.ref wl,.ref pl,.ref ol]) H:=by
 unfold zgz
 simp_all only [zb9,zac]
 refine ⟨l,wl,pl,ts,bs,ws,ns,rfl,B0.w,fun tl tr H1 s1 htl _ hT=>?_⟩
 have B1:=B0.same s1
 have l6:=B1.w.bp.l6
 have lt:=B1.w.bp.hb.1
 have ln:=B1.w.bp.len
 have lo:=B1.od.small
 simp_all only [zb9,zac]
 refine ⟨⟨_,SqL.of B1.w.bp.hl⟩,fun D hD=>?_⟩
 refine zff (K:=K) (xs:=ts.map V.ref) (fun i ys σ H'=>zaL H1 H'∧ys=List.replicate i (V.int 0)∧∃ x,σ=[x]) ⟨zaE hD _,rfl,_,rfl⟩ ?_ ?_ ?_
 ·rintro i ys σ H' _ ⟨s,_⟩
  exact SqL.of (s _ _ B1.w.bp.hl)
 ·rintro i x ys σ H2 hx hD2 ⟨s2,rfl,u,rfl⟩
  have li:=(List.getElem?_eq_some_iff.mp hx).1
  rw [List.length_map] at li
  simp_all only [zb9,zac]
  refine ⟨_,hD2,zbN (by rw [List.length_replicate];omega),_,zai,s2.put hD,?_⟩
  rw [← List.replicate_succ,List.replicate_succ']
 ·rintro ys σ H2 hD2 ⟨s2,rfl,u,rfl⟩
  rw [List.length_map,lt,← done0 os] at hD2
  refine ⟨by decide,fun d hd=>?_⟩
  have B2:=B1.same (s2.add hd (o:=.lst []))
  have s3:=s2.add hd (o:=.lst [])
  have ndD:d≠D:=(zau hD2 hd).symm
  have hD3:(L2.upd H2 d (.lst [])) D=some (.lst (ziD os bs.length 0)):=by rw [zaC ndD.symm];exact hD2
  have hd3:(L2.upd H2 d (.lst [])) d=some (.lst []):=zai
  have fd:H1 d=none:=s2.free hd
  generalize L2.upd H2 d (.lst [])=H3 at B2 s3 hD3 hd3 ⊢
  refine ⟨⟨_,SqL.of B2.ho⟩,?_⟩
  refine zhN (K:=K) (xs:=za7 os) (fun i σ H'=>zaL H1 H'∧H' D=some (.lst (ziD os bs.length i))∧(∃ rs,H' d=some (.lst (rs.map V.ref))∧Tps pf H' rs (zfq bs ws ns os i))∧∃ x,σ=[some (.ref l),some (.ref wl),some (.ref pl),some (.ref ol),some (.ref tl),some (.ref D),some (.ref d),x]) ⟨s3,hD3,⟨[],hd3,.nil⟩,_,rfl⟩ ?_ ?_ ?_
  ·rintro i σ H' _ ⟨s,_⟩
   exact SqL.of (s _ _ B1.ho)
  ·rintro i x σ H4 hx ⟨s4,hD4,⟨rs,hd4,hR⟩,u,rfl⟩
   obtain ⟨k,ek,rfl⟩:=zcS hx
   have B4:=B1.same s4
   obtain ⟨e1,e2,t,b,w,n,et,eb,ew,en,ht,hb,hw,g,gw,n0,n1,cn,dv⟩:=B4.look ek
   have hk:=(List.getElem?_eq_some_iff.mp eb).1
   have a1:atI (ts.map V.ref) (k:Int)=some (.ref t):=zcq (by rw [List.getElem?_map,et];rfl)
   have tk:k<tr.length:=by rw [hT.1];exact hk
   have et2:tr[k]?=some tr[k]:=List.getElem?_eq_getElem tk
   have hTk:=s4 _ _ (hT.2 k _ b w n et2 eb ew en)
   have a2:atI (tr.map V.ref) (k:Int)=some (.ref tr[k]):=zcq (by rw [List.getElem?_map,et2];rfl)
   have a3:=zsK (os:=os) (i:=i) hk
   have a4:atI ((tops b w n.toNat (zgC bs ns)).map V.int) (((os.take i).count k:Nat):Int)=some (.int (zt5 b w ((os.take i).count k) (zgC bs ns))):=zcq (by rw [List.getElem?_map,tops,zg4 _ (by omega)];rfl)
   simp_all only [zb9,zac]
   refine ⟨.inl ⟨rfl,_,SqL.of hd4⟩,_,SqL.of B4.w.bp.hl,_,a1,_,rfl,_,SqT.of ht,_,rfl,?_⟩
   refine ⟨_,SqL.of (s4 _ _ htl),_,a2,_,SqL.of hD4,_,a3,?_⟩
   refine ⟨_,rfl,_,_,rfl,SqL.of hTk,_,a4,by decide,fun r hr=>?_⟩
   have ndr:d≠r:=zau hd4 hr
   have nDr:D≠r:=zau hD4 hr
   have lr:rs.length=i:=by
    have:=hR.1
    rw [zfq,List.length_map,List.length_range] at this
    exact this
   have li:=(List.getElem?_eq_some_iff.mp ek).1
   have hD5:(L2.upd (L2.upd H4 r (.tup [V.int b.1,V.int (zt5 b w ((os.take i).count k) (zgC bs ns))])) d (.lst (rs.map V.ref++[V.ref r]))) D=some (.lst (ziD os bs.length i)):=by
    rw [zaC ndD.symm,zaC nDr]
    exact hD4
   refine ⟨_,by rw [zaC ndr];exact hd4,zbN (by rw [List.length_map];omega),?_⟩
   ((try simp only);first | rw [zhS]);simp_all only [zb9,zac]
   refine ⟨_,SqL.of hD5,_,a3,_,rfl,_,hD5,k,zpc (by rw [ziD,List.length_map,List.length_range];exact hk),?_,?_,rs++[r],?_,?_⟩
   ·exact ((s4.add hr).put fd).put hD
   ·rw [zai,doneS ek hk]
   ·rw [zaC ndD,zai,List.map_append]
    rfl
   ·rw [zfq,zhT]
    refine hR.put (fun x u hx=>?_) ?_
    ·rw [zaC (zdX hD4 hx).symm,zaC (zdX hd4 hx).symm,zaC (zau hx hr)]
     exact hx
    ·rw [zaC nDr.symm,zaC ndr.symm,zai]
     show _=some (HO.tup [V.int (csI bs os i),V.int (tpI bs ws os (zgC bs ns) i)])
     rw [csI,tpI,e1,e2,hb,hw]
  ·rintro σ H4 ⟨s4,hD4,⟨rs,hd4,hR⟩,u,rfl⟩
   simp_all only [zb9,zac]
   have e:(za7 os).length=os.length:=List.length_map ..
   rw [e] at hR
   exact q d rs H4 (s1.trans s4) hd4 hR
theorem zdO:zaM ["boxes","weights","plan","order","tops","done","looks","k"] ["boxes","weights","plan","order"] (zan zfb):=⟨rfl,rfl,rfl,by decide +kernel,rfl,by decide +kernel,by decide +kernel⟩
theorem zhr (T:Txt K mg a):zdW P w K mg base CX0 5 a.f_looks_in a.d_looks_in ["boxes","weights","plan","order"] zhe:=by
 have G_tops_by_box:=zfo (P:=P) (w:=w) (base:=base) T
 refine T.F_looks_in.ok zdO (fun vs H Q E h=>?_) (fun cdv A outer s H vs Q E hr h=>?_)
 ·obtain ⟨l,wl,pl,ol,ts,bs,ws,ns,os,rfl,B,q⟩:=h
  rfl
 obtain ⟨l,wl,pl,ol,ts,bs,ws,ns,os,rfl,B,q⟩:=h
 exact ⟨zgz K,(zaf (zaB (i:=4) zdO.nd rfl (Or.inl rfl) (zap G_tops_by_box (hr.mono (by decide)) rfl T.m_tops_by_box T.F_tops_by_box.kp T.b_tops_by_box .nil za0 (zaa (pv 0) (zaa (pv 1) (zaa (pv 2) zad)))))
 (zaf (zgh (i:=5) zdO.nd rfl rfl (sc:=zan zfb) (N:=["boxes","weights","plan","order","tops","done","looks","k"]) (Nc:=["box"]) (cap:=[none]) rfl rfl rfl (.of (by decide +kernel)) (zd8 (pv 0)) (fun _ _ _ _=>(zaF (i:=0) (show List.Nodup (["box"]:List Str) from by decide) rfl (Or.inl rfl))) (fun _ _ _ _=>zc7) (fun _ _ _ _=>zag))
 (zaf (zaB (i:=6) zdO.nd rfl (Or.inl rfl) (zaN zad))
 (zaf (zep PassesOwn.never rfl (zd8 (pv 3)) (zaF (i:=7) zdO.nd rfl (Or.inl rfl))
 (zaf (zbF (ze8 PySem.F.plainAttrs_list PySem.F.slot_list_append PySem.F.type_list_append zbU (pv 6) (zaa (zca (zaa (zbZ zer (zbZ za1 (pv 0) (pv 7) (fun _ _=>rfl)) zag (fun _ _=>rfl)) (zaa (zbZ za1 (zbZ za1 (pv 4) (pv 7) (fun _ _=>rfl)) (zbZ za1 (pv 5) (pv 7) (fun _ _=>rfl)) (fun _ _=>rfl)) zad))) zad)))
 (zam (zfZ (zaA zb0 (zbZ za1 (pv 5) (pv 7) (fun _ _=>rfl)) zag) (zkW (pv 5) (pv 7) zfO)))))
 (zam (zaY (pv 6))))))),
  zmx B q⟩
def zdM (a:Ad):Sp:=fun vs H Q E=>∃ vb vw vp vo:V,vs=[vb,vw,vp,vo]∧zpN a H E vb vw vp vo fun _ _ _ _ _ _ _ _ _=>∀ (v:V) (H':Hp),zaL H H'→Q v H'
def zhq:TS :=
 (zaG (za5 (tOp (rI0 fun i j=>.int (i+j)) (zac 5) (tOp (rI IntMulOk fun i j=>.int (i*j)) (zac 7) (zac 6))) (zak 5))
 (za5 (tOp (rI0 fun i j=>.int (i - j)) (zac 6) (zac 8)) (zak 6)))
theorem zb3 (D:zb5) (σ:St) (H:Hp):zhq D σ H=(zaG (za5 (tOp (rI0 fun i j=>.int (i+j)) (zac 5) (tOp (rI IntMulOk fun i j=>.int (i*j)) (zac 7) (zac 6))) (zak 5))
 (za5 (tOp (rI0 fun i j=>.int (i - j)) (zac 6) (zac 8)) (zak 6))) D σ H:=rfl
def zhd (K:PySem.W.Frag) (a:Ad) (E:XK):TS :=
 (zaG (zbP (zat (ze9 a) [] E (zab (zac 0) (zab (zac 1) (zab (zac 2) (zab (zac 3) zah))))))
 (zaG (za5 (tOp (rI IntMulOk fun i j=>.int (i*j)) (zat zjh [] E0 (zab (zac 0) (zab (zac 2) zah))) (tCB (zu3 K) (zab (zac 1) zah))) (zak 4))
 (zaG (za5 (tC (.int 0)) (zak 5))
 (zaG (za5 (zac 4) (zak 6))
 (zaG (zk7 (zeV K (zat zhe [] E0 (zab (zac 0) (zab (zac 1) (zab (zac 2) (zab (zac 3) zah)))))) (zlN K 2 (zcs (zak 7) (zcs (zak 8) zlw)))
 (zhq))
 (zcu (zat zuS [] E0 (zab (zac 5) (zab (zac 4) zah)))))))))
theorem znm {E:XK} {vb vw vp vo:V} (h:zpN a H E vb vw vp vo fun _ _ _ _ _ _ _ _ _=>∀ (v:V) (H':Hp),zaL H H'→Q v H') :
  zhd K a E { nx:=fun _ H'=>Q .non H',rt:=Q } (L2.zb1 ["boxes","weights","plan","order","bottom","paid","left","cost","top"] [vb,vw,vp,vo]) H:=by
 unfold zhd
 simp_all only [zb3,zac]
 rcases h with h | h | h | ⟨l,wl,pl,ts,bs,ws,ns,rfl,rfl,rfl,B,⟨hO,e⟩ | ⟨ol,os,rfl,B0,q⟩⟩
 ·exact ⟨_,_,_,_,rfl,.inl h⟩
 ·exact ⟨_,_,_,_,rfl,.inr (.inl h)⟩
 ·exact ⟨_,_,_,_,rfl,.inr (.inr (.inl h))⟩
 ·exact ⟨_,_,_,_,rfl,.inr (.inr (.inr ⟨l,wl,pl,ts,bs,ws,ns,rfl,rfl,rfl,B,.inl ⟨hO,e⟩⟩))⟩
 refine ⟨_,_,_,_,rfl,.inr (.inr (.inr ⟨l,wl,pl,ts,bs,ws,ns,rfl,rfl,rfl,B,.inr ⟨ol,os,rfl,B0,fun H1 s1=>?_⟩⟩))⟩
 have B1:=B0.same s1
 simp_all only [zb3,zac]
 refine ⟨l,pl,ts,bs,ns,rfl,B1.w.bp,fun H2 s2=>?_⟩
 have B2:=B1.same s2
 have bB:=zjv B2.w.bp.gb B2.w.bp.gn B2.w.bp.l6
 have pB:0<zgC bs ns:=zqy B2.w.bp.gb
 have bW:=B2.w.sumB
 have pW:=B2.w.sw
 simp_all only [zb3,zac]
 refine ⟨_,SqL.of B2.w.hw,zpK 2401 103 bB bW,?_⟩
 refine ⟨l,wl,pl,ol,ts,bs,ws,ns,os,rfl,B2,fun r rs H3 s3 hr hR=>?_⟩
 simp_all only [zb3,zac]
 refine ⟨⟨_,SqL.of hr⟩,?_⟩
 refine zhN (K:=K) (xs:=rs.map V.ref) (fun i σ H'=>H'=H3∧∃ x y,σ=[some (.ref l),some (.ref wl),some (.ref pl),some (.ref ol),some (.int (zgC bs ns*ws.sum)),some (.int (ttI bs ws os (zgC bs ns) ws.sum i)),some (.int (lfI bs ws os (zgC bs ns) ws.sum i)),x,y]) ⟨rfl,_,_,rfl⟩ ?_ ?_ ?_
 ·rintro i σ H' _ ⟨rfl,_⟩
  exact SqL.of hr
 ·rintro i x σ H4 hx ⟨rfl,u,v,rfl⟩
  obtain ⟨t,et,rfl⟩:=zcS hx
  obtain ⟨p,ep,ht⟩:=hR.at et
  have li:=(List.getElem?_eq_some_iff.mp et).1
  have ll:rs.length=os.length:=by
   have:=hR.1
   rw [zfq,List.length_map,List.length_range] at this
   exact this
  rw [zfq,zg4 _ (by omega)] at ep
  cases ep
  have ek:os[i]?=some os[i]:=List.getElem?_eq_getElem (by omega)
  obtain ⟨e1,e2,t',b,w,n,et,eb,ew,en,ht',hb,hw,g,gw,n0,n1,cn,dv⟩:=B2.look ek
  obtain ⟨g1,g2,g3,g4,g5⟩:=id g
  simp_all only [zb3,zac]
  refine ⟨_,SqT.of ht,rfl,_,_,rfl,_,_,rfl,rfl,?_⟩
  simp_all only [zb3,zac]
  refine ⟨mulL ?_ ?_,rfl,rfl⟩
  ·rw [csI,e1,hb]
   omega
  ·rw [csI,e1,hb]
   omega
 ·rintro σ H4 ⟨rfl,u,v,rfl⟩
  have ll:(rs.map V.ref).length=os.length:=by
   have:=hR.1
   rw [zfq,List.length_map,List.length_range] at this
   rw [List.length_map]
   exact this
  rw [ll]
  simp_all only [zb3,zac]
  have n0:zgC bs ns*ws.sum≠0:=Int.ne_of_gt (Int.mul_pos pB pW)
  exact ⟨_,_,rfl,n0,(bB.mul bW).mono (by decide),fun r H5 s5 hr5=>q _ H5 (s1.trans (s2.trans (s3.trans s5)))⟩
theorem zcZ:zaM ["boxes","weights","plan","order","bottom","paid","left","cost","top"] ["boxes","weights","plan","order"] (zan zhL):=⟨rfl,rfl,rfl,by decide +kernel,rfl,by decide +kernel,by decide +kernel⟩
theorem znq (T:Txt K mg a):zdW P w K mg base (CXV P w) 7 a.f_awaited a.d_awaited ["boxes","weights","plan","order"] (zdM a):=by
 have G_look_order:=zge (P:=P) (w:=w) (base:=base) T
 have G_looks_bottom:=zeN (P:=P) (w:=w) (base:=base) T
 have G_looks_in:=zhr (P:=P) (w:=w) (base:=base) T
 have G_ratio:=zqH (P:=P) (w:=w) (base:=base) T
 refine T.F_awaited.okV zcZ (fun vs H Q E h=>?_) (fun cdv A outer s H vs Q E hr h=>?_)
 ·obtain ⟨vb,vw,vp,vo,rfl,h⟩:=h
  rfl
 obtain ⟨vb,vw,vp,vo,rfl,h⟩:=h
 exact ⟨zhd K a E,(zaf (zbF (zap G_look_order (hr.mono (by decide)) rfl T.m_look_order T.F_look_order.kp T.b_look_order .nil zkm (zaa (pv 0) (zaa (pv 1) (zaa (pv 2) (zaa (pv 3) zad))))))
 (zaf (zaB (i:=4) zcZ.nd rfl (Or.inl rfl) (zaA zcB (zap G_looks_bottom (hr.mono (by decide)) rfl T.m_looks_bottom T.F_looks_bottom.kp T.b_looks_bottom .nil za0 (zaa (pv 0) (zaa (pv 2) zad))) (zao (zm0 rfl) rfl T.z_sum PyProof.Rows.boot_sum (zaa (pv 1) zad))))
 (zaf (zaB (i:=5) zcZ.nd rfl (Or.inl rfl) zag)
 (zaf (zaB (i:=6) zcZ.nd rfl (Or.inl rfl) (pv 4))
 (zaf (zep PassesOwn.leaving rfl (zd8 (zap G_looks_in (hr.mono (by decide)) rfl T.m_looks_in T.F_looks_in.kp T.b_looks_in .nil za0 (zaa (pv 0) (zaa (pv 1) (zaa (pv 2) (zaa (pv 3) zad)))))) (zgf rfl (za9 (zaF (i:=7) zcZ.nd rfl (Or.inl rfl)) (za9 (zaF (i:=8) zcZ.nd rfl (Or.inl rfl)) zeh)))
 (zaf (zaB (i:=5) zcZ.nd rfl (Or.inl rfl) (zaA zb0 (pv 5) (zaA zcB (pv 7) (pv 6))))
 (zam (zaB (i:=6) zcZ.nd rfl (Or.inl rfl) (zaA zeq (pv 6) (pv 8))))))
 (zam (zaY (zap G_ratio (hr.mono (by decide)) rfl T.m_ratio T.F_ratio.kp T.b_ratio .nil za0 (zaa (pv 5) (zaa (pv 4) zad)))))))))),
  znm h⟩
theorem BWO.tpB {H:Hp} {l wl pl ol:Addr} {ts:List Addr} {bs:List Box} {ws ns:List Int} {os:List Nat} (h:BWO H l wl pl ol ts bs ws ns os) {i:Nat} (hi:i<os.length):Bd 2907 (tpI bs ws os (zgC bs ns) i)∧Bd 6 (csI bs os i):=by
 obtain ⟨e1,e2,t,b,w,n,et,eb,ew,en,ht,hb,hw,g,gw,n0,n1,cn,dv⟩:=h.look (List.getElem?_eq_getElem hi)
 obtain ⟨g1,g2,g3,g4,g5⟩:=id g
 rw [tpI,csI,e1,e2,hb,hw,zt5]
 have bh:Bd 6 b.2.1:=by unfold Bd;omega
 have p1:Bd 400 ((b.2.2 - b.2.1) ^ (os.take i).count os[i]):=zh9 (by omega) (by omega) (by omega)
 have p3:0<b.2.2 ^ (os.take i).count os[i]*b.2.2:=Int.mul_pos (zf9 (by omega) _) (by omega)
 refine ⟨(((wBd gw).mul bh).mul p1).mul ((zjv h.w.bp.gb h.w.bp.gn h.w.bp.l6).le ?_),by unfold Bd;omega⟩
 rw [Int.fdiv_eq_ediv_of_nonneg _ (Int.le_of_lt p3)]
 exact Int.natAbs_ediv_le_natAbs _ _
def okI (bs:List Box) (ws ns:List Int) (os:List Nat) (i:Nat):Bool:=decide (tpI bs ws os (zgC bs ns) (i+1)*csI bs os i≤tpI bs ws os (zgC bs ns) i*csI bs os (i+1))
open HT in
theorem zf6 (xs:List V) (k:Nat):zbW xs (some (k:Int)) none=xs.drop k:=by
 unfold zbW
 rw [zmt,zjW]
 by_cases c:k≤xs.length
 ·rw [Nat.min_eq_left c]
  exact List.take_of_length_le (by rw [List.length_drop];exact Nat.le_refl _)
 ·rw [Nat.min_eq_right (by omega),List.drop_length,List.drop_eq_nil_of_le (by omega),List.take_nil]
def zfB (K:PySem.W.Frag) (a:Ad) (E:XK):TS :=
 (zaG (zbP (zat (ze9 a) [] E (zab (zac 0) (zab (zac 1) (zab (zac 2) (zab (zac 3) zah))))))
 (zaG (za5 (zat zhe [] E0 (zab (zac 0) (zab (zac 1) (zab (zac 2) (zab (zac 3) zah))))) (zak 4))
 (zcu (tCB (zpL K) (zab (zdm (iZip K (zab (zac 4) (zab (tSl (zfl K) (zac 4) (zcP (tC (.int 1))) zaZ) zah))) (zlN K 2 (zcs (zak 0) (zcs (zak 1) zlw))) zbM (tOp (rI0 fun i j=>.bl (decide (j≤i))) (tOp (rI IntMulOk fun i j=>.int (i*j)) (tOp (zil K) (zac 0) (tC (.int 1))) (tOp (zil K) (zac 1) (tC (.int 0)))) (tOp (rI IntMulOk fun i j=>.int (i*j)) (tOp (zil K) (zac 1) (tC (.int 1))) (tOp (zil K) (zac 0) (tC (.int 0))))) [none,none]) zah)))))
theorem zkT {E:XK} {vb vw vp vo:V} (h:zpN a H E vb vw vp vo fun _ _ _ _ _ _ _ _ _=>∀ (v:V) (H':Hp),zaL H H'→Q v H') :
  zfB K a E { nx:=fun _ H'=>Q .non H',rt:=Q } (L2.zb1 ["boxes","weights","plan","order","looks"] [vb,vw,vp,vo]) H:=by
 unfold zfB
 simp_all only [zac]
 rcases h with h | h | h | ⟨l,wl,pl,ts,bs,ws,ns,rfl,rfl,rfl,B,⟨hO,e⟩ | ⟨ol,os,rfl,B0,q⟩⟩
 ·exact ⟨_,_,_,_,rfl,.inl h⟩
 ·exact ⟨_,_,_,_,rfl,.inr (.inl h)⟩
 ·exact ⟨_,_,_,_,rfl,.inr (.inr (.inl h))⟩
 ·exact ⟨_,_,_,_,rfl,.inr (.inr (.inr ⟨l,wl,pl,ts,bs,ws,ns,rfl,rfl,rfl,B,.inl ⟨hO,e⟩⟩))⟩
 refine ⟨_,_,_,_,rfl,.inr (.inr (.inr ⟨l,wl,pl,ts,bs,ws,ns,rfl,rfl,rfl,B,.inr ⟨ol,os,rfl,B0,fun H1 s1=>?_⟩⟩))⟩
 have B1:=B0.same s1
 refine ⟨l,wl,pl,ol,ts,bs,ws,ns,os,rfl,B1,fun r rs H2 s2 hr hR=>?_⟩
 have B2:=B1.same s2
 have lo:=B2.od.small
 have ll:rs.length=os.length:=by
  have:=hR.1
  rw [zfq,List.length_map,List.length_range] at this
  exact this
 simp_all only [zac]
 refine ⟨_,SqL.of hr,fun c hc=>?_⟩
 have e1:zbW (rs.map V.ref) (some 1) none=(rs.drop 1).map V.ref:=by rw [List.map_drop];exact zf6 _ 1
 rw [e1]
 have s3:=zaE hc (.lst ((rs.drop 1).map V.ref))
 have hc3:(L2.upd H2 c (.lst ((rs.drop 1).map V.ref))) c=some (.lst ((rs.drop 1).map V.ref)):=zai
 generalize L2.upd H2 c (.lst ((rs.drop 1).map V.ref))=H3 at s3 hc3 ⊢
 have hr3:=s3 _ _ hr
 refine ⟨⟨_,SqL.of hr3⟩,⟨_,SqL.of hc3⟩,fun D hD=>?_⟩
 refine zpE (K:=K) (xs:=rs.map V.ref) (zs:=(rs.drop 1).map V.ref) (fun i ys σ H'=>zaL H3 H'∧ys=((List.range i).map (okI bs ws ns os)).map V.bl∧∃ x y,σ=[x,y]) ⟨zaE hD _,rfl,_,_,rfl⟩ ?_ ?_ ?_
 ·rintro i ys σ H' _ ⟨s,_⟩
  exact ⟨SqL.of (s _ _ hr3),SqL.of (s _ _ hc3)⟩
 ·rintro i x z t ys σ H4 hx hz hD4 ⟨s4,rfl,u,v,rfl⟩ ht
  obtain ⟨a,ea,rfl⟩:=zcS hx
  obtain ⟨b,eb,rfl⟩:=zcS hz
  rw [List.getElem?_drop,Nat.add_comm] at eb
  obtain ⟨p,ep,ha⟩:=hR.at ea
  obtain ⟨p',ep',hb⟩:=hR.at eb
  have li:=(List.getElem?_eq_some_iff.mp eb).1
  rw [zfq,zg4 _ (by omega)] at ep ep'
  cases ep
  cases ep'
  have ha4:=s4 _ _ (s3 _ _ ha)
  have hb4:=s4 _ _ (s3 _ _ hb)
  have s5:=zaE ht (.tup [V.ref a,V.ref b])
  simp_all only [zac]
  refine ⟨_,SqT.of zai,rfl,_,_,rfl,_,_,rfl,rfl,?_⟩
  generalize L2.upd H4 t (.tup [V.ref a,V.ref b])=H5 at s5 ⊢
  have ha5:=s5 _ _ ha4
  have hb5:=s5 _ _ hb4
  obtain ⟨t1,c1⟩:=B2.tpB (i:=i) (by omega)
  obtain ⟨t2,c2⟩:=B2.tpB (i:=i+1) (by omega)
  simp_all only [zac]
  refine ⟨_,SqT.of ha5,_,rfl,_,SqT.of hb5,_,rfl,_,rfl,_,rfl,zpK 2907 6 t1 c2,_,SqT.of hb5,_,rfl,_,SqT.of ha5,_,rfl,_,rfl,_,rfl,zpK 2907 6 t2 c1,?_⟩
  refine ⟨_,s5 _ _ hD4,zbN (by rw [List.length_map,List.length_map,List.length_range];omega),_,zai,(s4.trans s5).put hD,?_⟩
  rw [zhT,List.map_append]
  rfl
 ·rintro ys σ H4 hD4 ⟨s4,rfl,u,v,rfl⟩
  simp_all only [zac]
  have e:min (rs.map V.ref).length ((rs.drop 1).map V.ref).length=os.length - 1:=by
   rw [List.length_map,List.length_map,List.length_drop]
   omega
  rw [e] at hD4
  exact ⟨_,SqL.of hD4,q _ _ (s1.trans (s2.trans (s3.trans s4)))⟩
theorem zgD:zaM ["boxes","weights","plan","order","looks"] ["boxes","weights","plan","order"] (zan zez):=⟨rfl,rfl,rfl,by decide +kernel,rfl,by decide +kernel,by decide +kernel⟩
theorem zlg (T:Txt K mg a):zdW P w K mg base (CXV P w) 7 a.f_is_sorted a.d_is_sorted ["boxes","weights","plan","order"] (zdM a):=by
 have G_look_order:=zge (P:=P) (w:=w) (base:=base) T
 have G_looks_in:=zhr (P:=P) (w:=w) (base:=base) T
 refine T.F_is_sorted.okV zgD (fun vs H Q E h=>?_) (fun cdv A outer s H vs Q E hr h=>?_)
 ·obtain ⟨vb,vw,vp,vo,rfl,h⟩:=h
  rfl
 obtain ⟨vb,vw,vp,vo,rfl,h⟩:=h
 exact ⟨zfB K a E,(zaf (zbF (zap G_look_order (hr.mono (by decide)) rfl T.m_look_order T.F_look_order.kp T.b_look_order .nil zkm (zaa (pv 0) (zaa (pv 1) (zaa (pv 2) (zaa (pv 3) zad))))))
 (zaf (zaB (i:=4) zgD.nd rfl (Or.inl rfl) (zap G_looks_in (hr.mono (by decide)) rfl T.m_looks_in T.F_looks_in.kp T.b_looks_in .nil za0 (zaa (pv 0) (zaa (pv 1) (zaa (pv 2) (zaa (pv 3) zad))))))
 (zam (zaY (zao (zfY rfl) rfl T.z_all PyProof.Rows.boot_all (zaa (zdN (sc:=zan zez) (N:=["boxes","weights","plan","order","looks"]) (Nc:=["one","other"]) (cap:=[none,none]) rfl rfl rfl (.of (by decide +kernel)) (zrN rfl T.z_zip (zaa (pv 4) (zaa (zb6 zcL (pv 4) (zcM zag) zcN) zad))) (fun _ _ _ _=>(zgf rfl (za9 (zaF (i:=0) (show List.Nodup (["one","other"]:List Str) from by decide) rfl (Or.inl rfl)) (za9 (zaF (i:=1) (show List.Nodup (["one","other"]:List Str) from by decide) rfl (Or.inl rfl)) zeh)))) (fun _ _ _ _=>zc7) (fun _ _ _ _=>(zfA zsq (zaA zcB (zbZ zer (pv 0) zag (fun _ _=>rfl)) (zbZ zer (pv 1) zag (fun _ _=>rfl))) (zaA zcB (zbZ zer (pv 1) zag (fun _ _=>rfl)) (zbZ zer (pv 0) zag (fun _ _=>rfl))) (zbH _)))) zad)))))),
  zkT h⟩
def zhc (T:Nat→List Int):Nat→List (Int×Nat)
 | 0=>[]
 | m+1=>zhc T m++(T m).map fun x=>(x,m)
section
variable {T:Nat→List Int} {m:Nat} {S:List (Int×Nat)}
end
def csP (bs:List Box):Int:=pr (bs.map (·.1))
def rtT (bs:List Box) (ws ns:List Int) (k:Nat):List Int:=(tops (bat bs k) (wat ws k) (ns.getD k 0).toNat (zgC bs ns)).map fun x=>x*(csP bs).fdiv (bat bs k).1
theorem zu1 {bs:List Box} {k:Nat} {b:Box} (gb:∀ b∈bs,GB b) (e:bs[k]?=some b):0<csP bs∧∃ q,0<q∧csP bs=b.1*q∧(csP bs).fdiv b.1=q:=by
 have pos:0<csP bs:=zrB _ fun x hx=>by
  obtain ⟨y,hy,rfl⟩:=List.mem_map.mp hx
  have:=(gb y hy).1
  omega
 refine ⟨pos,?_⟩
 have b1:0<b.1:=by have:=(gb b (zbK e)).1;omega
 obtain ⟨q,hq⟩:=zrK (List.mem_map.mpr ⟨b,zbK e,rfl⟩:b.1∈bs.map (·.1))
 have eq:csP bs=b.1*q:=hq
 refine ⟨q,?_,eq,by rw [eq,zpS b1]⟩
 by_cases z:0<q
 ·exact z
 ·have:=Int.mul_nonpos_of_nonneg_of_nonpos (Int.le_of_lt b1) (show q≤0 by omega)
  omega
structure zsE (H:Hp) (rl:Addr) (prs:List SrP) (T:Nat→List Int) (i m:Nat):Prop where
 hr:H rl=some (.lst (prs.map fun x=>V.ref x.1))
 tp:∀ x∈prs,H x.1=some (.tup [.int x.2.1,.int x.2.2])∧0≤x.2.2∧x.2.2<64
 is:prs.map (fun x=>(x.2.1,x.2.2.toNat))=zhc T i
theorem zrP {bs:List Box} (gb:∀ b∈bs,GB b) (l6:bs.length≤6):∀ i,Bd 2401 (pr ((bs.map (·.1)).take i)):=fun i=>by
 refine (zr8 _ fun x hx=>?_).mono ?_
 ·obtain ⟨b,hb,rfl⟩:=List.mem_map.mp (List.mem_of_mem_take hx)
  obtain ⟨g1,g2,g3,g4,g5⟩:=gb b hb
  unfold Bd
  omega
 ·rw [List.length_take,List.length_map]
  omega
theorem zpj {T:Nat→List Int} {c m:Nat} (h:∀ k,k<m→(T k).length≤c):∀ i,i≤m→(zhc T i).length≤c*i
 | 0,_=>Nat.zero_le _
 | i+1,hi=>by
  have:=zpj h i (by omega)
  have:=h i (by omega)
  show (zhc T i++_).length≤_
  rw [List.length_append,List.length_map,Nat.mul_succ]
  omega
theorem ztA {H:Hp} {l wl pl:Addr} {ts:List Addr} {bs:List Box} {ws ns:List Int} (B:BWP H l wl pl ts bs ws ns) {k:Nat} (hk:k<bs.length):(rtT bs ws ns k).length≤60:=by
 have ln:=B.bp.len
 have en:ns[k]?=some ns[k]:=List.getElem?_eq_getElem (by omega)
 have:=B.bp.gn _ (zbK en)
 unfold rtT tops
 rw [List.length_map,List.length_map,List.length_range,zeW en]
 omega
theorem zs1 {H:Hp} {l wl pl:Addr} {ts:List Addr} {bs:List Box} {ws ns:List Int} (B:BWP H l wl pl ts bs ws ns) (s64:ns.sum<64):(zhc (rtT bs ws ns) bs.length).length<64:=by
 have ln:=B.bp.len
 have key:∀ i,i≤ns.length→((zhc (rtT bs ws ns) i).length:Int)=(ns.take i).sum:=by
  intro i
  induction i with
  | zero=>intro _;rfl
  | succ i ih =>
   intro hi
   have en:ns[i]?=some ns[i]:=List.getElem?_eq_getElem (by omega)
   have:=B.bp.gn _ (zbK en)
   have:=ih (by omega)
   show ((zhc (rtT bs ws ns) i++_).length:Int)=_
   have e:(rtT bs ws ns i).length=ns[i].toNat:=by
    unfold rtT tops
    rw [List.length_map,List.length_map,List.length_range,zeW en]
   rw [List.length_append,List.length_map,List.take_add_one,en,Option.toList_some,List.sum_append,List.sum_singleton,e]
   omega
 have:=key ns.length (Nat.le_refl _)
 rw [List.take_length,ln] at this
 omega
theorem topB {b:Box} {w n B:Int} {j:Nat} (g:GB b) (gw:0≤w∧w≤1000000000000000000000000000000) (n1:n≤60) (hj:(j:Int)<n) (bB:Bd 2401 B):Bd 2907 (zt5 b w j B):=by
 obtain ⟨g1,g2,g3,g4,g5⟩:=id g
 have bh:Bd 6 b.2.1:=by unfold Bd;omega
 have p1:Bd 400 ((b.2.2 - b.2.1) ^ j):=zh9 (by omega) (by omega) (by omega)
 have p3:0<b.2.2 ^ j*b.2.2:=Int.mul_pos (zf9 (by omega) _) (by omega)
 refine (((wBd gw).mul bh).mul p1).mul (bB.le ?_)
 rw [Int.fdiv_eq_ediv_of_nonneg _ (Int.le_of_lt p3)]
 exact Int.natAbs_ediv_le_natAbs _ _
def boL (bs:List Box) (ws ns:List Int):List (Int×Nat):=(zhc (rtT bs ws ns) bs.length).mergeSort fun a b=>decide (64*b.1+(b.2:Int)≤64*a.1+(a.2:Int))
def bo (bs:List Box) (ws ns:List Int):List Nat:=(boL bs ws ns).map (·.2)
def zjZ (a:Ad):Sp:=fun vs H Q E=>∃ vb vw vp:V,vs=[vb,vw,vp]∧znM a H E vb vw vp fun _ _ _ _ _ _ ns=>ns.sum<64∧∀ (v:V) (H':Hp),zaL H H'→Q v H'
def zej (K:PySem.W.Frag):TS :=
 (zbP (tBM K "list" zj8 (zac 5) (zab (zdm (zeV K (zac 7)) (zak 0) zbM (zds (zab (tOp (rI IntMulOk fun i j=>.int (i*j)) (zac 0) (tOp (rI (fun _ j=>j≠0∧j.natAbs.log2<9000) fun i j=>.int (i.fdiv j)) (zac 2) (tOp (zil K) (tOp (zcO K) (zac 3) (zac 1)) (tC (.int 0))))) (zab (zac 1) zah))) [none,some 6,some 3,some 0]) zah)))
theorem zaX (K:PySem.W.Frag) (D:zb5) (σ:St) (H:Hp):zej K D σ H=(zbP (tBM K "list" zj8 (zac 5) (zab (zdm (zeV K (zac 7)) (zak 0) zbM (zds (zab (tOp (rI IntMulOk fun i j=>.int (i*j)) (zac 0) (tOp (rI (fun _ j=>j≠0∧j.natAbs.log2<9000) fun i j=>.int (i.fdiv j)) (zac 2) (tOp (zil K) (tOp (zcO K) (zac 3) (zac 1)) (tC (.int 0))))) (zab (zac 1) zah))) [none,some 6,some 3,some 0]) zah))) D σ H:=rfl
def zfi (K:PySem.W.Frag):TS :=
 (zaG (za5 (zbX zah) (zak 5))
 (zaG (zk7 (zqd K (zab (zat zg9 [] E0 (zab (zac 0) (zab (zac 1) (zab (zac 2) zah)))) zah)) (zlN K 2 (zcs (zak 6) (zcs (zak 7) zlw)))
 (zej K))
 (zcu (zdm (zeV K (tCB (zmS K) (zab (zac 5) zah))) (zlN K 2 (zcs (zak 0) (zcs (zak 1) zlw))) zbM (zac 1) [none,none]))))
theorem zaT (K:PySem.W.Frag) (D:zb5) (σ:St) (H:Hp):zfi K D σ H=(zaG (za5 (zbX zah) (zak 5))
 (zaG (zk7 (zqd K (zab (zat zg9 [] E0 (zab (zac 0) (zab (zac 1) (zab (zac 2) zah)))) zah)) (zlN K 2 (zcs (zak 6) (zcs (zak 7) zlw)))
 (zej K))
 (zcu (zdm (zeV K (tCB (zmS K) (zab (zac 5) zah))) (zlN K 2 (zcs (zak 0) (zcs (zak 1) zlw))) zbM (zac 1) [none,none])))) D σ H:=rfl
def ze3 (K:PySem.W.Frag) (a:Ad) (E:XK):TS :=
 (zaG (zbP (zat (zfC a) [] E (zab (zac 0) (zab (zac 1) (zab (zac 2) zah)))))
 (zaG (za5 (tC (.int 1)) (zak 3))
 (zaG (zk7 (zeV K (zac 0)) (zak 4)
 (za5 (tOp (rI IntMulOk fun i j=>.int (i*j)) (zac 3) (tOp (zil K) (zac 4) (tC (.int 0)))) (zak 3)))
 (zfi K))))
theorem zjj {E:XK} {vb vw vp:V} (h:znM a H E vb vw vp fun _ _ _ _ _ _ ns=>ns.sum<64∧∀ (v:V) (H':Hp),zaL H H'→Q v H') :
  ze3 K a E { nx:=fun _ H'=>Q .non H',rt:=Q } (L2.zb1 ["boxes","weights","plan","costs","box","rates","k","tops"] [vb,vw,vp]) H:=by
 unfold ze3
 simp_all only [zaX,zaT,zac]
 rcases h with h | h | h | ⟨l,wl,pl,ts,bs,ws,ns,rfl,rfl,rfl,B0,s64,q⟩
 ·exact ⟨_,_,_,rfl,.inl h⟩
 ·exact ⟨_,_,_,rfl,.inr (.inl h)⟩
 ·exact ⟨_,_,_,rfl,.inr (.inr (.inl h))⟩
 refine ⟨_,_,_,rfl,.inr (.inr (.inr ⟨l,wl,pl,ts,bs,ws,ns,rfl,rfl,rfl,B0,fun H1 s1=>?_⟩))⟩
 have B1:=B0.same s1
 have l6:=B1.bp.l6
 have lt:=B1.bp.hb.1
 have ln:=B1.bp.len
 have lw:=B1.lw
 simp_all only [zaX,zaT,zac]
 refine ⟨⟨_,SqL.of B1.bp.hl⟩,?_⟩
 refine zhN (K:=K) (xs:=ts.map V.ref) (fun i σ H'=>H'=H1∧∃ x,σ=[some (.ref l),some (.ref wl),some (.ref pl),some (.int (pr ((bs.map (·.1)).take i))),x,none,none,none]) ⟨rfl,_,rfl⟩ ?_ ?_ ?_
 ·rintro i σ H' _ ⟨rfl,_⟩
  exact SqL.of B1.bp.hl
 ·rintro i x σ H' hx ⟨rfl,y,rfl⟩
  obtain ⟨t,ht,rfl⟩:=zcS hx
  obtain ⟨b,hb1,hb2⟩:=B1.bp.hb.at ht
  obtain ⟨g1,g2,g3,g4,g5⟩:=B1.bp.gb b (zbK hb1)
  simp_all only [zaX,zaT,zac]
  refine ⟨_,SqT.of hb2,_,rfl,_,rfl,zpK 2401 6 (zrP B1.bp.gb l6 i) (by omega),?_⟩
  rw [List.take_add_one,List.getElem?_map,hb1,Option.map_some,Option.toList_some,zrz]
 ·rintro σ H' ⟨rfl,y,rfl⟩
  have eC:pr ((bs.map (·.1)).take (ts.map V.ref).length)=csP bs:=by
   rw [List.take_of_length_le (by rw [List.length_map,List.length_map];omega)]
   rfl
  rw [eC]
  simp_all only [zaX,zaT,zac]
  refine ⟨by decide,fun rl hrl=>?_⟩
  have s2:=zaE hrl (.lst [])
  have h2:(L2.upd H' rl (.lst [])) rl=some (.lst []):=zai
  generalize L2.upd H' rl (.lst [])=H2 at s2 h2 ⊢
  refine ⟨l,wl,pl,ts,bs,ws,ns,rfl,B1.same s2,fun tl tr H3 s3 htl hF hT=>?_⟩
  refine ⟨tl,rfl,⟨_,SqL.of htl⟩,?_⟩
  have s03:zaL H' (Off rl rl H3):=fun b o h=>by
   have nb:b≠rl:=zau h hrl
   rw [zhx nb nb]
   exact (s2.trans s3) _ _ h
  have hrl3:=s3 _ _ h2
  have l1:=B1.bp.l1
  have lr:=hT.1
  have ntl:tl≠rl:=zr9 htl hrl3 (by
   intro e
   injection e with e
   have:=congrArg List.length e
   rw [List.length_map] at this
   simp at this
   rw [this] at lr
   simp at lr
   omega)
  have B3:=B1.same s03
  have htl3:Off rl rl H3 tl=some (.lst (tr.map V.ref)):=by rw [zhx ntl ntl];exact htl
  have hT3:zmG (Off rl rl H3) tr bs ws ns bs.length:=⟨lr,fun k t b w n e1 e2 e3 e4=>by
   have nt:t≠rl:=(zau h2 (hF t (zbK e1))).symm
   rw [zhx nt nt]
   exact hT.2 k t b w n e1 e2 e3 e4⟩
  have zrl:Off rl rl H3 rl=none:=if_pos (.inl rfl)
  clear htl hT hF
  have bC:=zrP B3.bp.gb l6 bs.length
  rw [List.take_of_length_le (by rw [List.length_map];exact Nat.le_refl _)] at bC
  have bC':Bd 2401 (csP bs):=bC
  have s3':=zaj rl rl H3
  generalize Off rl rl H3=HB at s03 B3 htl3 hT3 zrl s3'
  refine zo3 (K:=K) (xs:=tr.map V.ref) (fun i σ H'=>zaL HB H'∧(∃ prs,zsE H' rl prs (rtT bs ws ns) i bs.length)∧∃ x z,σ=[some (.ref l),some (.ref wl),some (.ref pl),some (.int (csP bs)),y,some (.ref rl),x,z]) ⟨s3',⟨[],hrl3,by simp,rfl⟩,_,_,rfl⟩ ?_ ?_ ?_
  ·rintro i σ H' _ ⟨s,_⟩
   exact SqL.of (s _ _ htl3)
  ·rintro i x t σ H4 hx ⟨s4,⟨prs,R⟩,x6,x7,rfl⟩ ht
   obtain ⟨tk,et,rfl⟩:=zcS hx
   have hi:i<bs.length:=by rw [← lr];exact (List.getElem?_eq_some_iff.mp et).1
   have eb:bs[i]?=some bs[i]:=List.getElem?_eq_getElem hi
   have ew:ws[i]?=some ws[i]:=List.getElem?_eq_getElem (by omega)
   have en:ns[i]?=some ns[i]:=List.getElem?_eq_getElem (by omega)
   have eT:ts[i]?=some ts[i]:=List.getElem?_eq_getElem (by omega)
   have hTi:=s4 _ _ (hT3.2 i tk _ _ _ et eb ew en)
   have B4:=B3.same s4
   have hbx:=B4.bp.hb.2 i _ _ eT eb
   have g:=B4.bp.gb _ (zbK eb)
   have gn:=B4.bp.gn _ (zbK en)
   have gw:=B4.gw _ (zbK ew)
   have erT:rtT bs ws ns i=(tops bs[i] ws[i] ns[i].toNat (zgC bs ns)).map fun x=>x*(csP bs).fdiv bs[i].1:=by
    unfold rtT
    rw [zeW en,show bat bs i=bs[i] from zeW eb,show wat ws i=ws[i] from zeW ew]
   have bdT:∀ x∈tops bs[i] ws[i] ns[i].toNat (zgC bs ns),Bd 2907 x:=fun x hx=>by
    obtain ⟨j,hj,rfl⟩:=List.mem_map.mp hx
    have hj':=List.mem_range.mp hj
    exact topB g gw gn.2 (by omega) (zjv B4.bp.gb B4.bp.gn B4.bp.l6)
   have ltp:(tops bs[i] ws[i] ns[i].toNat (zgC bs ns)).length≤60:=by
    unfold tops
    rw [List.length_map,List.length_range]
    omega
   generalize tops bs[i] ws[i] ns[i].toNat (zgC bs ns)=tp at hTi erT bdT ltp
   generalize bs[i]=b at eb hbx g erT
   generalize ws[i]=w at ew gw
   generalize ns[i]=n at en gn
   generalize ts[i]=tb at eT hbx
   obtain ⟨_,qq,qq0,eqC,eq⟩:=zu1 B4.bp.gb eb
   rw [eq] at erT
   have bq:Bd 2401 qq:=by
    rw [← eq]
    exact bC'.le (by rw [Int.fdiv_eq_ediv_of_nonneg _ (by have:=g.1;omega)];exact Int.natAbs_ediv_le_natAbs _ _)
   obtain ⟨g1,g2,g3,g4,g5⟩:=id g
   have s5:=zaE ht (.tup [V.int (i:Int),V.ref tk])
   have h5:(L2.upd H4 t (.tup [V.int (i:Int),V.ref tk])) t=some (.tup [V.int (i:Int),V.ref tk]):=zai
   generalize L2.upd H4 t (.tup [V.int (i:Int),V.ref tk])=H5 at s5 h5 ⊢
   have sm:prs.length≤60*i:=by
    have:=congrArg List.length R.is
    rw [List.length_map] at this
    rw [this]
    exact zpj (m:=bs.length) (fun k hk=>ztA B4 hk) i (by omega)
   have hTi5:=s5 _ _ hTi
   have B5:=B4.same s5
   have hbx5:=s5 _ _ hbx
   have s35:=s4.trans s5
   have hr5:=s5 _ _ R.hr
   have aI:atI (ts.map V.ref) (i:Int)=some (.ref tb):=zcq (by rw [List.getElem?_map,eT];rfl)
   simp_all only [zaX,zaT,zac]
   refine ⟨_,SqT.of h5,rfl,_,_,rfl,_,_,rfl,rfl,?_⟩
   simp_all only [zaX,zaT,zac]
   refine ⟨.inl ⟨rfl,_,SqL.of hr5⟩,⟨_,SqL.of hTi5⟩,fun D hD=>?_⟩
   refine zff (K:=K) (xs:=tp.map V.int) (fun j ys σ H'=>zaL H5 H'∧(∃ us:List SrP,ys=us.map (fun x=>V.ref x.1)∧us.map (·.2)=(tp.take j).map (fun x=>(x*qq,(i:Int)))∧∀ x∈us,H' x.1=some (.tup [.int x.2.1,.int x.2.2]))∧∃ x,σ=[x,some (V.int (i:Int)),some (V.int (csP bs)),some (V.ref l)]) ⟨zaE hD _,⟨[],rfl,rfl,by simp⟩,_,rfl⟩ ?_ ?_ ?_
   ·rintro j ys σ H' _ ⟨s,_⟩
    exact SqL.of (s _ _ hTi5)
   ·rintro j v ys σ H6 hv hD6 ⟨s6,⟨us,rfl,hu,hus⟩,x0,rfl⟩
    obtain ⟨x,ex,rfl⟩:=zcS hv
    have lj:=(List.getElem?_eq_some_iff.mp ex).1
    have lu:us.length=j:=by
     have:=congrArg List.length hu
     rw [List.length_map,List.length_map,List.length_take] at this
     omega
    simp_all only [zaX,zaT,zac]
    refine ⟨_,SqL.of (s6 _ _ B5.bp.hl),_,aI,_,rfl,_,SqT.of (s6 _ _ hbx5),_,rfl,?_⟩
    have lg:b.1.natAbs.log2<6:=(Nat.log2_lt (by omega)).mpr (by omega)
    refine ⟨b.1,rfl,by omega,by omega,?_⟩
    rw [eq]
    refine ⟨zpK 2907 2401 (bdT x (zbK ex)) bq,by decide,fun r hr=>?_⟩
    have nDr:D≠r:=zau hD6 hr
    refine ⟨_,by rw [zaC nDr];exact hD6,zbN (by rw [List.length_map];omega),_,zai,(s6.add hr).put hD,us++[(r,x*qq,(i:Int))],?_,?_,fun z hz=>?_⟩
    ·rw [List.map_append]
     rfl
    ·rw [List.map_append,hu,List.take_add_one,ex,List.map_append]
     rfl
    ·rcases List.mem_append.mp hz with h | h
     ·have hz6:=hus z h
      rw [zaC (zdX hD6 hz6).symm,zaC (zau hz6 hr)]
      exact hz6
     ·have:z=(r,x*qq,(i:Int)):=by simpa using h
      subst this
      rw [zaC nDr.symm,zai]
   ·rintro ys σ H6 hD6 ⟨s6,⟨us,rfl,hu,hus⟩,x0,rfl⟩
    rw [List.length_map,List.take_length] at hu
    have hr6:=s6 _ _ hr5
    have lu:us.length=tp.length:=by
     have:=congrArg List.length hu
     rw [List.length_map,List.length_map] at this
     exact this
    have big:(1000:Nat)≤sizeLine:=by decide
    refine ⟨D,rfl,_,hr6,_,hD6,by rw [List.length_map,List.length_map];omega,(s35.trans s6).put zrl,prs++us,?_,fun z hz=>?_,?_⟩
    ·rw [zai,List.map_append]
    ·rcases List.mem_append.mp hz with h | h
     ·obtain ⟨z1,z2⟩:=R.tp z h
      have z6:=(s5.trans s6) _ _ z1
      rw [zaC (zdX hr6 z6).symm]
      exact ⟨z6,z2⟩
     ·have z6:=hus z h
      rw [zaC (zdX hr6 z6).symm]
      have:z.2∈us.map (·.2):=List.mem_map.mpr ⟨z,h,rfl⟩
      rw [hu] at this
      obtain ⟨y,_,ey⟩:=List.mem_map.mp this
      have e2:z.2.2=(i:Int):=by rw [← ey]
      exact ⟨z6,by omega,by omega⟩
    ·rw [List.map_append,R.is]
     show _=zhc (rtT bs ws ns) i++_
     congr 1
     rw [erT,List.map_map]
     have e3:us.map (fun x=>(x.2.1,x.2.2.toNat))=(us.map (·.2)).map fun y=>(y.1,y.2.toNat):=by rw [List.map_map];rfl
     rw [e3,hu,List.map_map]
     refine List.map_congr_left fun y _=>?_
     simp
  ·rintro σ H4 ⟨s4,⟨prs,R⟩,x6,x7,rfl⟩
   rw [List.length_map,lr] at R
   have lp:prs.length=(zhc (rtT bs ws ns) bs.length).length:=by rw [← R.is,List.length_map]
   have l64:prs.length<64:=by rw [lp];exact zs1 B3 s64
   simp_all only [zaX,zaT,zac]
   refine ⟨prs,SqL.of R.hr,R.tp,l64,fun l2 prs' hl2 pe fa=>?_⟩
   have s5:=zaE hl2 (.lst (prs'.map fun x=>V.ref x.1))
   have h5:(L2.upd H4 l2 (.lst (prs'.map fun x=>V.ref x.1))) l2=some (.lst (prs'.map fun x=>V.ref x.1)):=zai
   generalize L2.upd H4 l2 (.lst (prs'.map fun x=>V.ref x.1))=H5 at s5 h5 ⊢
   refine ⟨⟨_,SqL.of h5⟩,fun D hD=>?_⟩
   have tp5:∀ x∈prs',H5 x.1=some (.tup [.int x.2.1,.int x.2.2])∧0≤x.2.2∧x.2.2<64:=fun x hx=>by
    obtain ⟨z1,z2⟩:=R.tp x (pe.mem_iff.mp hx)
    exact ⟨s5 _ _ z1,z2⟩
   refine zff (K:=K) (xs:=prs'.map fun x=>V.ref x.1) (fun j ys σ H'=>zaL H5 H'∧ys=(prs'.take j).map (fun x=>V.int x.2.2)∧∃ x y,σ=[x,y]) ⟨zaE hD _,rfl,_,_,rfl⟩ ?_ ?_ ?_
   ·rintro j ys σ H' _ ⟨s,_⟩
    exact SqL.of (s _ _ h5)
   ·rintro j v ys σ H6 hv hD6 ⟨s6,rfl,x0,x1,rfl⟩
    obtain ⟨x,ex,rfl⟩:=zcS hv
    have lj:=(List.getElem?_eq_some_iff.mp ex).1
    have ll:=pe.length_eq
    simp_all only [zaX,zaT,zac]
    refine ⟨_,SqT.of (s6 _ _ (tp5 x (zbK ex)).1),rfl,_,_,rfl,_,_,rfl,rfl,?_⟩
    refine ⟨_,hD6,zbN (by rw [List.length_map,List.length_take];omega),_,zai,s6.put hD,?_⟩
    rw [List.take_add_one,ex,List.map_append]
    rfl
   ·rintro ys σ H6 hD6 ⟨s6,rfl,x0,x1,rfl⟩
    rw [List.length_map,List.take_length] at hD6
    have hS:(prs'.map (fun x=>(x.2.1,x.2.2.toNat))).Perm (zhc (rtT bs ws ns) bs.length):=by
     rw [← R.is]
     exact pe.map _
    have hf:(prs'.map (fun x=>(x.2.1,x.2.2.toNat))).Pairwise fun a b=>64*b.1+(b.2:Int)≤64*a.1+(a.2:Int):=by
     rw [List.pairwise_map]
     refine List.Pairwise.imp_of_mem (fun {a b} ha hb hab=>?_) fa
     unfold srk at hab
     have z1:=(tp5 a ha).2
     have z2:=(tp5 b hb).2
     show 64*b.2.1+((b.2.2.toNat:Nat):Int)≤64*a.2.1+((a.2.2.toNat:Nat):Int)
     omega
    exact q _ H6 (s1.trans (s03.trans (s4.trans (s5.trans s6))))
theorem zce:zaM ["boxes","weights","plan","costs","box","rates","k","tops"] ["boxes","weights","plan"] (zan zdy):=⟨rfl,rfl,rfl,by decide +kernel,rfl,by decide +kernel,by decide +kernel⟩
theorem zjo (T:Txt K mg a):zdW P w K mg base (CXV P w) 7 a.f_best_order a.d_best_order ["boxes","weights","plan"] (zjZ a):=by
 have G_look_plan:=zgE (P:=P) (w:=w) (base:=base) T
 have G_tops_by_box:=zfo (P:=P) (w:=w) (base:=base) T
 refine T.F_best_order.okV zce (fun vs H Q E h=>?_) (fun cdv A outer s H vs Q E hr h=>?_)
 ·obtain ⟨vb,vw,vp,rfl,h⟩:=h
  rfl
 obtain ⟨vb,vw,vp,rfl,h⟩:=h
 exact ⟨ze3 K a E,(zaf (zbF (zap G_look_plan (hr.mono (by decide)) rfl T.m_look_plan T.F_look_plan.kp T.b_look_plan .nil zkm (zaa (pv 0) (zaa (pv 1) (zaa (pv 2) zad)))))
 (zaf (zaB (i:=3) zce.nd rfl (Or.inr rfl) zag)
 (zaf (zep PassesOwn.leaving rfl (zd8 (pv 0)) (zaF (i:=4) zce.nd rfl (Or.inl rfl))
 (zam (zaB (i:=3) zce.nd rfl (Or.inr rfl) (zaA zcB (pv 3) (zbZ zer (pv 4) zag (fun _ _=>rfl))))))
 (zaf (zaB (i:=5) zce.nd rfl (Or.inl rfl) (zaN zad))
 (zaf (zep PassesOwn.leaving rfl (ztC rfl T.z_enumerate (zaa (zap G_tops_by_box (hr.mono (by decide)) rfl T.m_tops_by_box T.F_tops_by_box.kp T.b_tops_by_box .nil za0 (zaa (pv 0) (zaa (pv 1) (zaa (pv 2) zad)))) zad)) (zgf rfl (za9 (zaF (i:=6) zce.nd rfl (Or.inr rfl)) (za9 (zaF (i:=7) zce.nd rfl (Or.inl rfl)) zeh)))
 (zam (zbF (ze8 PySem.F.plainAttrs_list PySem.F.slot_list_extend PySem.F.type_list_extend zn3 (pv 5) (zaa (zdN (sc:=zan zdy) (N:=["boxes","weights","plan","costs","box","rates","k","tops"]) (Nc:=["top","k","costs","boxes"]) (cap:=[none,some 6,some 3,some 0]) rfl rfl rfl (.of (by decide +kernel)) (zd8 (pv 7)) (fun _ _ _ _=>(zaF (i:=0) (show List.Nodup (["top","k","costs","boxes"]:List Str) from by decide) rfl (Or.inl rfl))) (fun _ _ _ _=>zc7) (fun _ _ _ _=>(zca (zaa (zaA zcB (pv 0) (zaA zf7 (pv 2) (zbZ zer (zbZ za1 (pv 3) (pv 1) (fun _ _=>rfl)) zag (fun _ _=>rfl)))) (zaa (pv 1) zad))))) zad)))))
 (zam (zaY (zdN (sc:=zan zdy) (N:=["boxes","weights","plan","costs","box","rates","k","tops"]) (Nc:=["rate","k"]) (cap:=[none,none]) rfl rfl rfl (.of (by decide +kernel)) (zd8 (zqn rfl T.z_sorted (zaa (pv 5) zad) zgZ)) (fun _ _ _ _=>(zgf rfl (za9 (zaF (i:=0) (show List.Nodup (["rate","k"]:List Str) from by decide) rfl (Or.inl rfl)) (za9 (zaF (i:=1) (show List.Nodup (["rate","k"]:List Str) from by decide) rfl (Or.inl rfl)) zeh)))) (fun _ _ _ _=>zc7) (fun _ _ _ _=>(pv 1)))))))))),
  zjj h⟩
theorem at3 {r:Int} (h0:0≤r) (h1:r<3):∃ v:Int,atI [V.int 3,V.int 3,V.int 1000000000000000000000000000000] r=some (.int v)∧0<v∧v≤1000000000000000000000000000000:=by
 have:r=0∨r=1∨r=2:=by omega
 rcases this with rfl | rfl | rfl
 ·exact ⟨3,rfl,by decide,by decide⟩
 ·exact ⟨3,rfl,by decide,by decide⟩
 ·exact ⟨1000000000000000000000000000000,rfl,by decide,by decide⟩
theorem znY:∀ (ws:List Int),(∀ w∈ws,0≤w)→∀ m∈ws,m≤ws.sum
 | [],_,m,h=>by simp at h
 | w::ws,h,m,hm=>by
  have z0:=h w (by simp)
  have zs:0≤ws.sum:=by
   clear hm m
   have h':∀ x∈ws,0≤x:=fun x hx=>h x (by simp [hx])
   clear h z0
   induction ws with
   | nil=>simp
   | cons y ys ih =>
    rw [List.sum_cons]
    have:=h' y (by simp)
    have:=ih fun x hx=>h' x (by simp [hx])
    omega
  rw [List.sum_cons]
  rcases List.mem_cons.mp hm with rfl | hm
  ·omega
  ·have:=znY ws (fun x hx=>h x (by simp [hx])) m hm
   omega
def zeG (K:PySem.W.Frag):TS :=
 (zcw (za8 (tOp rEq (tCB (zrs K) (zab (zac 2) zah)) (tC (.int 0)))) (za5 (tC (.int 1)) (znV (zac 2) (zat zaO [] E0 (zab (zac 0) (zab (zac 1) zah))) zid)) zaR)
theorem za3 (K:PySem.W.Frag) (D:zb5) (σ:St) (H:Hp):zeG K D σ H=(zcw (za8 (tOp rEq (tCB (zrs K) (zab (zac 2) zah)) (tC (.int 0)))) (za5 (tC (.int 1)) (znV (zac 2) (zat zaO [] E0 (zab (zac 0) (zab (zac 1) zah))) zid)) zaR) D σ H:=rfl
def zeF (K:PySem.W.Frag):TS :=
 (zbP (tBM K "list" zaI (zac 2) (zab (zat zaO [] E0 (zab (zac 0) (zab (tOp (zcO K) (zbX (zab (tC (.int 3)) (zab (tC (.int 3)) (zab (tOp (rI znN fun i j=>.int (i ^ j.toNat)) (tC (.int 10)) (tC (.int 30))) zah)))) (zat zaO [] E0 (zab (zac 0) (zab (tC (.int 3)) zah)))) zah))) zah)))
theorem za4 (K:PySem.W.Frag) (D:zb5) (σ:St) (H:Hp):zeF K D σ H=(zbP (tBM K "list" zaI (zac 2) (zab (zat zaO [] E0 (zab (zac 0) (zab (tOp (zcO K) (zbX (zab (tC (.int 3)) (zab (tC (.int 3)) (zab (tOp (rI znN fun i j=>.int (i ^ j.toNat)) (tC (.int 10)) (tC (.int 30))) zah)))) (zat zaO [] E0 (zab (zac 0) (zab (tC (.int 3)) zah)))) zah))) zah))) D σ H:=rfl
def zef (K:PySem.W.Frag):TS :=
 (zaG (za5 (zbX zah) (zak 2))
 (zaG (zk7 (zeo (zab (zac 1) zah)) (zak 3)
 (zeF K))
 (zaG (zc0 (zeG K))
 (zcu (zac 2)))))
theorem zhZ {p c:Addr} {t n:Int} (hP:Pur H p c t) (t1:t<10000) (n1:1≤n) (n6:n≤6)
  (q:∀ (l:Addr) (ws:List Int) (t':Int) (H':Hp),zaL (Off p c H) (Off p c H')→Pur H' p c t'→t'≤t+13→Off p c H' l=some (.lst (ws.map V.int))→(ws.length:Int)=n→(∀ w∈ws,0≤w∧w≤1000000000000000000000000000000)→0<ws.sum→Q (.ref l) H') :
  zef K { nx:=fun _ H'=>Q .non H',rt:=Q } (L2.zb1 ["_law_purse_here","_law_many","_law_found","_law_k"] [.ref p,.int n]) H:=by
 unfold zef
 simp_all only [za3,za4,zac]
 refine ⟨by decide,fun l hl=>⟨by omega,by omega,?_⟩⟩
 have nl:=hP.new hl
 have P1:=hP.upd (o:=.lst []) nl.1 nl.2
 have s1:zaL (Off p c H) (Off p c (L2.upd H l (.lst []))):=by
  rw [zaH nl.1 nl.2]
  exact zaE (zbQ hl) _
 have hl1:Off p c (L2.upd H l (.lst [])) l=some (.lst []):=by
  rw [zaH nl.1 nl.2]
  exact zai
 generalize L2.upd H l (.lst [])=H1 at P1 s1 hl1 ⊢
 refine zcY (fun i σ H'=>zaL (Off p c H) (Off p c H')∧∃ (ws:List Int) (u:Int),Pur H' p c u∧u≤t+2*i∧Off p c H' l=some (.lst (ws.map V.int))∧(∀ w∈ws,0≤w∧w≤1000000000000000000000000000000)∧ws.length=i∧∃ k,σ=[some (.ref p),some (.int n),some (.ref l),k]) ⟨s1,[],t,P1,by omega,hl1,by simp,rfl,_,rfl⟩ ?_ ?_
 ·rintro i σ H3 hi ⟨s3,ws,u,P3,hu,hl3,gw,lb,k,rfl⟩
  have u0:=P3.t0
  have hl3':=zaj _ _ _ _ _ hl3
  simp_all only [za3,za4,zac]
  refine ⟨.inl ⟨rfl,_,SqL.of hl3'⟩,pow30,by decide,fun d hd=>?_⟩
  have n1:=P3.new hd
  have P4:=P3.upd (o:=.lst [.int 3,.int 3,.int 1000000000000000000000000000000]) n1.1 n1.2
  have s4:zaL (Off p c H3) (Off p c (L2.upd H3 d (.lst [.int 3,.int 3,.int 1000000000000000000000000000000]))):=by
   rw [zaH n1.1 n1.2]
   exact zaE (zbQ hd) _
  have e4:Off p c (L2.upd H3 d (.lst [.int 3,.int 3,.int 1000000000000000000000000000000])) d=some (.lst [.int 3,.int 3,.int 1000000000000000000000000000000]):=by
   rw [zaH n1.1 n1.2]
   exact zai
  generalize L2.upd H3 d (.lst [.int 3,.int 3,.int 1000000000000000000000000000000])=H4 at P4 s4 e4 ⊢
  refine ⟨p,c,u,3,rfl,P4,by omega,by decide,by decide,fun r H5 r0 r1 o5 P5=>?_⟩
  obtain ⟨m,em,m0,m1⟩:=at3 r0 r1
  rw [← o5] at e4 s4
  simp_all only [za3,za4,zac]
  refine ⟨_,SqL.of (zaj _ _ _ _ _ e4),_,em,?_⟩
  refine ⟨p,c,u+1,m,rfl,P5,by omega,m0,m1,fun w H6 w0 w1 o6 P6=>?_⟩
  rw [← o6] at s4
  have hl6:=zaj _ _ _ _ _ (s4 _ _ hl3)
  refine ⟨_,hl6,zbN (by rw [List.length_map];omega),?_,ws++[w],u+1+1,P6.upd nl.1 nl.2,by omega,?_,?_,by rw [List.length_append,lb];rfl⟩
  ·rw [zaH nl.1 nl.2]
   exact (s3.trans s4).put (zbQ hl)
  ·rw [zaH nl.1 nl.2,zai,List.map_append]
   rfl
  ·intro x hx
   rcases List.mem_append.mp hx with hx | hx
   ·exact gw x hx
   ·have:x=w:=by simpa using hx
    omega
 ·rintro σ H3 ⟨s3,ws,u,P3,hu,hl3,gw,lb,k,rfl⟩
  have u0:=P3.t0
  have hl3':=zaj _ _ _ _ _ hl3
  have hn:(n.toNat:Int)=n:=by omega
  simp_all only [za3,za4,zac]
  refine ⟨fun σ H'=>zaL (Off p c H) (Off p c H')∧∃ (ws:List Int) (u:Int),Pur H' p c u∧u≤t+13∧Off p c H' l=some (.lst (ws.map V.int))∧(∀ w∈ws,0≤w∧w≤1000000000000000000000000000000)∧(ws.length:Int)=n∧0<ws.sum∧σ=[some (.ref p),some (.int n),some (.ref l),k],?_,?_⟩
  ·simp_all only [za3,za4,zac]
   refine ⟨_,SqL.of hl3',by omega,fun m hm hmx=>?_⟩
   refine zdZ (fun z=>?_) (fun z=>?_)
   ·refine ⟨p,c,u,n,rfl,P3,by omega,by omega,by omega,fun r H4 r0 r1 o4 P4=>?_⟩
    rw [← o4] at hl3 s3
    obtain ⟨j,rfl⟩:=Int.eq_ofNat_of_zero_le r0
    have jl:j<ws.length:=by omega
    simp_all only [za3,za4,zac]
    refine ⟨_,zaj _ _ _ _ _ hl3,j,zpc (by rw [List.length_map];exact jl),?_,ws.set j 1,u+1,P4.upd nl.1 nl.2,by omega,?_,?_,by rw [List.length_set];omega,?_⟩
    ·rw [zaH nl.1 nl.2]
     exact s3.put (zbQ hl)
    ·rw [zaH nl.1 nl.2,zai,List.map_set]
    ·intro x hx
     rcases List.mem_or_eq_of_mem_set hx with h | h
     ·exact gw x h
     ·omega
    ·have h1:∀ x∈ws.set j 1,0≤x:=fun x hx=>by
      rcases List.mem_or_eq_of_mem_set hx with h | h
      ·exact (gw x h).1
      ·omega
     have:=znY _ h1 1 (List.mem_set jl 1)
     omega
   ·refine ⟨s3,ws,u,P3,by omega,hl3,gw,by omega,?_⟩
    have:=znY ws (fun x hx=>(gw x hx).1) m hm
    have:=(gw m hm).1
    omega
  ·rintro σ H4 ⟨s4,ws,u,P4,hu,hl4,gw,ln,sw,rfl⟩
   simp_all only [za3,za4,zac]
   exact q l ws u H4 s4 P4 hu hl4 ln gw sw
theorem zdU:zaM ["_law_purse_here","_law_many","_law_found","_law_k"] ["_law_purse_here","_law_many"] (zan zd7):=⟨rfl,rfl,rfl,by decide +kernel,rfl,by decide +kernel,by decide +kernel⟩
theorem zhw (T:Txt K mg a):zdW P w K mg base CX0 2 a.f__law_weights a.d__law_weights ["_law_purse_here","_law_many"] zkF:=by
 have G__law_draw:=zb2 (P:=P) (w:=w) (base:=base) T
 refine T.F__law_weights.ok zdU (fun vs H Q E h=>?_) (fun cdv A outer s H vs Q E hr h=>?_)
 ·obtain ⟨p,c,t,n,rfl,hP,t1,n1,n6,q⟩:=h
  rfl
 obtain ⟨p,c,t,n,rfl,hP,t1,n1,n6,q⟩:=h
 exact ⟨zef K,(zaf (zaB (i:=2) zdU.nd rfl (Or.inl rfl) (zaN zad))
 (zaf (zep PassesOwn.never rfl (zcb rfl T.z_range (zaa (pv 1) zad)) (zaF (i:=3) zdU.nd rfl (Or.inl rfl))
 (zam (zbF (ze8 PySem.F.plainAttrs_list PySem.F.slot_list_append PySem.F.type_list_append zbU (pv 2) (zaa (zap G__law_draw (hr.mono (by decide)) rfl T.m__law_draw T.F__law_draw.kp T.b__law_draw .nil za0 (zaa (pv 0) (zaa (zbZ za1 (zaN (zaa zag (zaa zag (zaa (zaA zkR zag zag) zad)))) (zap G__law_draw (hr.mono (by decide)) rfl T.m__law_draw T.F__law_draw.kp T.b__law_draw .nil za0 (zaa (pv 0) (zaa zag zad))) (fun _ _=>rfl)) zad))) zad)))))
 (zaf (zbS (zcv (zbl zgn (zao (zpb rfl) rfl T.z_max PyProof.Rows.boot_max (zaa (pv 2) zad)) zag (zbH _)) (zam (zfZ zag (zkW (pv 2) (zap G__law_draw (hr.mono (by decide)) rfl T.m__law_draw T.F__law_draw.kp T.b__law_draw .nil za0 (zaa (pv 0) (zaa (pv 1) zad))) zfO))) zaQ))
 (zam (zaY (pv 2)))))),
  zhZ hP t1 n1 n6 q⟩
def zpa:Sp:=fun vs H Q _=>∃ (p c:Addr) (t n:Int),vs=[.ref p,.int n]∧Pur H p c t∧t<10000∧1≤n∧n≤6∧∀ (l:Addr) (ns:List Int) (t':Int) (H':Hp),zaL (Off p c H) (Off p c H')→Pur H' p c t'→t'≤t+12→Off p c H' l=some (.lst (ns.map V.int))→(ns.length:Int)=n→(∀ n∈ns,0≤n∧n≤60)→ns.sum<64→Q (.ref l) H'
theorem zpg:∀ (ns:List Int),(∀ n∈ns,0≤n∧n≤3)→ns.sum≤3*ns.length
 | [],_=>by simp
 | n::ns,h=>by
  have:=zpg ns fun x hx=>h x (by simp [hx])
  have:=h n (by simp)
  rw [List.sum_cons,List.length_cons]
  omega
def zga (K:PySem.W.Frag):TS :=
 (zcw (za8 (tOp rEq (zac 1) (tC (.int 1)))) (zcu (zbX (zab (zat zaO [] E0 (zab (zac 0) (zab (tOp (zcO K) (zbX (zab (tC (.int 7)) (zab (tC (.int 61)) zah))) (zat zaO [] E0 (zab (zac 0) (zab (tC (.int 2)) zah)))) zah))) zah))) zaR)
theorem zcl (K:PySem.W.Frag) (D:zb5) (σ:St) (H:Hp):zga K D σ H=(zcw (za8 (tOp rEq (zac 1) (tC (.int 1)))) (zcu (zbX (zab (zat zaO [] E0 (zab (zac 0) (zab (tOp (zcO K) (zbX (zab (tC (.int 7)) (zab (tC (.int 61)) zah))) (zat zaO [] E0 (zab (zac 0) (zab (tC (.int 2)) zah)))) zah))) zah))) zaR) D σ H:=rfl
def zfG (K:PySem.W.Frag):TS :=
 (zaG (zc0 (zga K))
 (zcu (zdm (zeo (zab (zac 1) zah)) (zak 0) zbM (zat zaO [] E0 (zab (zac 1) (zab (tC (.int 4)) zah))) [none,some 0])))
theorem zls {p c:Addr} {t n:Int} (hP:Pur H p c t) (t1:t<10000) (n0:1≤n) (n6:n≤6)
  (q:∀ (l:Addr) (ns:List Int) (t':Int) (H':Hp),zaL (Off p c H) (Off p c H')→Pur H' p c t'→t'≤t+12→Off p c H' l=some (.lst (ns.map V.int))→(ns.length:Int)=n→(∀ n∈ns,0≤n∧n≤60)→ns.sum<64→Q (.ref l) H') :
  zfG K { nx:=fun _ H'=>Q .non H',rt:=Q } (L2.zb1 ["_law_purse_here","_law_many"] [.ref p,.int n]) H:=by
 unfold zfG
 simp_all only [zcl,zac]
 refine ⟨fun σ H'=>H'=H∧σ=[some (.ref p),some (.int n)],?_,?_⟩
 ·simp_all only [zcl,zac]
  refine zdZ (fun e=>?_) (fun _=>trivial)
  refine ⟨by decide,fun d hd=>?_⟩
  have n1:=hP.new hd
  have P2:=hP.upd (o:=.lst [.int 7,.int 61]) n1.1 n1.2
  have s2:zaL (Off p c H) (Off p c (L2.upd H d (.lst [.int 7,.int 61]))):=by
   rw [zaH n1.1 n1.2]
   exact zaE (zbQ hd) _
  have e2:Off p c (L2.upd H d (.lst [.int 7,.int 61])) d=some (.lst [.int 7,.int 61]):=by
   rw [zaH n1.1 n1.2]
   exact zai
  generalize L2.upd H d (.lst [.int 7,.int 61])=H2 at P2 s2 e2 ⊢
  have t0:=hP.t0
  refine ⟨p,c,t,2,rfl,P2,by omega,by decide,by decide,fun r H3 r0 r1 o3 P3=>?_⟩
  obtain ⟨m,em,hm⟩:=at2 (x:=7) (y:=61) r0 r1
  rw [← o3] at s2 e2
  simp_all only [zcl,zac]
  refine ⟨_,SqL.of (zaj _ _ _ _ _ e2),_,em,?_⟩
  refine ⟨p,c,t+1,m,rfl,P3,by omega,by omega,by omega,fun v H4 v0 v1 o4 P4=>?_⟩
  rw [← o4] at s2
  refine ⟨by decide,fun l hl=>?_⟩
  have nl:=P4.new hl
  refine q l [v] (t+1+1) _ ?_ (P4.upd nl.1 nl.2) (by omega) ?_ (by rw [e];rfl) ?_ (by simp;omega)
  ·rw [zaH nl.1 nl.2]
   exact s2.add (zbQ hl)
  ·rw [zaH nl.1 nl.2]
   exact zai
  ·intro x hx
   have:x=v:=by simpa using hx
   omega
 ·rintro σ H' ⟨e,rfl⟩
  rw [e]
  simp_all only [zcl,zac]
  refine ⟨by omega,by omega,fun D hD=>?_⟩
  have nD:=hP.new hD
  refine zdV (fun i ys σ H'=>∃ (ns:List Int) (u:Int),ys=ns.map V.int∧ns.length=i∧(∀ n∈ns,0≤n∧n≤3)∧zaL (Off p c H) (Off p c H')∧Pur H' p c u∧u≤t+i∧∃ k,σ=[k,some (.ref p)]) ?_ ?_ ?_
  ·refine ⟨[],t,rfl,rfl,by simp,?_,hP.upd nD.1 nD.2,by omega,_,rfl⟩
   rw [zaH nD.1 nD.2]
   exact zaE (zbQ hD) _
  ·rintro i ys σ H' hi hD' ⟨ns,u,rfl,ln,gn,s,P1,hu,k,rfl⟩
   simp_all only [zcl,zac]
   have u0:=P1.t0
   refine ⟨p,c,u,4,rfl,P1,by omega,by decide,by decide,fun v H4 v0 v1 o4 P4=>?_⟩
   have oD:Off p c H4 D=some (.lst (ns.map V.int)):=by rw [o4,zhx nD.1 nD.2];exact hD'
   refine ⟨_,zaj _ _ _ _ _ oD,zbN (by rw [List.length_map];omega),_,zai,ns++[v],?_,by rw [List.length_append,ln];rfl,?_,?_,_,P4.upd nD.1 nD.2,by omega⟩
   ·rw [List.map_append]
    rfl
   ·intro x hx
    rcases List.mem_append.mp hx with hx | hx
    ·exact gn x hx
    ·have:x=v:=by simpa using hx
     omega
   ·rw [zaH nD.1 nD.2,o4]
    exact s.put (zbQ hD)
  ·rintro ys σ H' hD' ⟨ns,u,rfl,ln,gn,s,P1,hu,k,rfl⟩
   exact q D ns u H' s P1 (by omega) (by rw [zhx nD.1 nD.2];exact hD') (by omega) (fun n hn=>by have:=gn n hn;omega) (by have:=zpg ns gn;omega)
theorem zlC:zaM ["_law_purse_here","_law_many"] ["_law_purse_here","_law_many"] (zan zev):=⟨rfl,rfl,rfl,by decide +kernel,rfl,by decide +kernel,by decide +kernel⟩
theorem zll (T:Txt K mg a):zdW P w K mg base CX0 2 a.f__law_plan a.d__law_plan ["_law_purse_here","_law_many"] zpa:=by
 have G__law_draw:=zb2 (P:=P) (w:=w) (base:=base) T
 refine T.F__law_plan.ok zlC (fun vs H Q E h=>?_) (fun cdv A outer s H vs Q E hr h=>?_)
 ·obtain ⟨p,c,t,n,rfl,hP,t1,n0,n6,q⟩:=h
  rfl
 obtain ⟨p,c,t,n,rfl,hP,t1,n0,n6,q⟩:=h
 exact ⟨zfG K,(zaf (zbS (zcv (zbl zgn (pv 1) zag (zbH _)) (zam (zaY (zaN (zaa (zap G__law_draw (hr.mono (by decide)) rfl T.m__law_draw T.F__law_draw.kp T.b__law_draw .nil za0 (zaa (pv 0) (zaa (zbZ za1 (zaN (zaa zag (zaa zag zad))) (zap G__law_draw (hr.mono (by decide)) rfl T.m__law_draw T.F__law_draw.kp T.b__law_draw .nil za0 (zaa (pv 0) (zaa zag zad))) (fun _ _=>rfl)) zad))) zad)))) zaQ))
 (zam (zaY (zdN (sc:=zan zev) (N:=["_law_purse_here","_law_many"]) (Nc:=["_law_k","_law_purse_here"]) (cap:=[none,some 0]) rfl rfl rfl (.of (by decide +kernel)) (zcb rfl T.z_range (zaa (pv 1) zad)) (fun _ _ _ _=>(zaF (i:=0) (show List.Nodup (["_law_k","_law_purse_here"]:List Str) from by decide) rfl (Or.inl rfl))) (fun _ _ _ _=>zc7) (fun _ _ _ _=>(zap G__law_draw (hr.mono (by decide)) rfl T.m__law_draw T.F__law_draw.kp T.b__law_draw .nil za0 (zaa (pv 1) (zaa zag zad)))))))),
  zls hP t1 n0 n6 q⟩
theorem zst (os:List Nat) (k i:Nat):(za7 os).take i++V.int (k:Int)::(za7 os).drop i=za7 (os.take i++k::os.drop i):=by
 unfold za7
 rw [List.map_append,List.map_cons,List.map_take,List.map_drop]
theorem zox (os:List Nat) (k i x:Nat):(os.take i++k::os.drop i).count x=os.count x+if k=x then 1 else 0:=by
 rw [List.count_append,List.count_cons]
 have z:os.count x=(os.take i).count x+(os.drop i).count x:=by rw [← List.count_append,List.take_append_drop]
 rw [z]
 by_cases c:k=x
 ·simp [c]
  omega
 ·simp [c]
theorem zob (os:List Nat) (k i:Nat):(os.take i++k::os.drop i).length=os.length+1:=by
 rw [List.length_append,List.length_cons,List.length_take,List.length_drop]
 omega
theorem zr4 {os:List Nat} {k i x:Nat} (h:x∈os.take i++k::os.drop i):x∈os∨x=k:=by
 rcases List.mem_append.mp h with h | h
 ·exact .inl (List.mem_of_mem_take h)
 ·rcases List.mem_cons.mp h with h | h
  ·exact .inr h
  ·exact .inl (List.mem_of_mem_drop h)
def zfk (K:PySem.W.Frag):TS :=
 (zbP (tBM K "list" zjI (zac 2) (zab (zat zaO [] E0 (zab (zac 0) (zab (tOp (rI0 fun i j=>.int (i+j)) (tCB (fun xs H Q=>∃ p ys,xs=[.ref p]∧(SqL K H p ys∨SqT K H p ys)∧Q (.int ys.length) H) (zab (zac 2) zah)) (tC (.int 1))) zah))) (zab (zac 3) zah))))
theorem zb7 (K:PySem.W.Frag) (D:zb5) (σ:St) (H:Hp):zfk K D σ H=(zbP (tBM K "list" zjI (zac 2) (zab (zat zaO [] E0 (zab (zac 0) (zab (tOp (rI0 fun i j=>.int (i+j)) (tCB (fun xs H Q=>∃ p ys,xs=[.ref p]∧(SqL K H p ys∨SqT K H p ys)∧Q (.int ys.length) H) (zab (zac 2) zah)) (tC (.int 1))) zah))) (zab (zac 3) zah)))) D σ H:=rfl
def zeP (K:PySem.W.Frag):TS :=
 (zaG (za5 (zbX zah) (zak 2))
 (zaG (zk7 (zeo (zab (tCB (fun xs H Q=>∃ p ys,xs=[.ref p]∧(SqL K H p ys∨SqT K H p ys)∧Q (.int ys.length) H) (zab (zac 1) zah)) zah)) (zak 3)
 (zk7 (zeo (zab (tOp (zcO K) (zac 1) (zac 3)) zah)) (zak 4)
 (zfk K)))
 (zcu (zac 2))))
theorem zj1 {p c pl:Addr} {t:Int} {ns:List Int} (hP:Pur H p c t) (t1:t<10000) (hp:Off p c H pl=some (.lst (ns.map V.int))) (l6:ns.length≤6) (gn:∀ n∈ns,0≤n∧n≤60)
  (q:∀ (l:Addr) (os:List Nat) (t':Int) (H':Hp),zaL (Off p c H) (Off p c H')→Pur H' p c t'→t'≤t+400→Off p c H' l=some (.lst (za7 os))→zjm os ns→H l=none→Q (.ref l) H') :
  zeP K { nx:=fun _ H'=>Q .non H',rt:=Q } (L2.zb1 ["_law_purse_here","_law_plan_here","_law_found","_law_k","_law_turn"] [.ref p,.ref pl]) H:=by
 unfold zeP
 simp_all only [zb7,zac]
 refine ⟨by decide,fun l hl=>?_⟩
 have nl:=hP.new hl
 have P1:=hP.upd (o:=.lst []) nl.1 nl.2
 have s1:zaL (Off p c H) (Off p c (L2.upd H l (.lst []))):=by
  rw [zaH nl.1 nl.2]
  exact zaE (zbQ hl) _
 have hl1:Off p c (L2.upd H l (.lst [])) l=some (.lst []):=by
  rw [zaH nl.1 nl.2]
  exact zai
 generalize L2.upd H l (.lst [])=H1 at P1 s1 hl1 ⊢
 have hp1:=s1 _ _ hp
 refine ⟨_,.inl (SqL.of (zaj _ _ _ _ _ hp1)),?_⟩
 rw [List.length_map]
 refine ⟨by omega,by omega,?_⟩
 refine zcY (fun i σ H'=>zaL (Off p c H) (Off p c H')∧∃ (os:List Nat) (u:Int),Pur H' p c u∧u≤t+os.length∧os.length≤60*i∧Off p c H' l=some (.lst (za7 os))∧(∀ k∈os,k<i)∧(∀ (k:Nat) n,k<i→ns[k]?=some n→(os.count k:Int)=n)∧∃ x y,σ=[some (.ref p),some (.ref pl),some (.ref l),x,y]) ⟨s1,[],t,P1,by simp,by simp,hl1,by simp,fun k n h=>by omega,_,_,rfl⟩ ?_ ?_
 ·rintro i σ H3 hi ⟨s3,os,u,P3,hu,lo,hl3,ho,hc,x,y,rfl⟩
  rw [Int.toNat_natCast] at hi
  have en:ns[i]?=some ns[i]:=List.getElem?_eq_getElem hi
  obtain ⟨n0,n1⟩:=gn _ (zbK en)
  generalize ns[i]=n at en n0 n1
  have a1:atI (ns.map V.int) (i:Int)=some (.int n):=zcq (by rw [List.getElem?_map,en];rfl)
  have hp3:=s3 _ _ hp
  simp_all only [zb7,zac]
  rw [Int.zero_add]
  refine ⟨_,SqL.of (zaj _ _ _ _ _ hp3),_,a1,n,rfl,by omega,by omega,?_⟩
  have ci:os.count i=0:=by
   apply List.count_eq_zero.mpr
   intro h
   have:=ho i h
   omega
  refine zcY (fun j σ H'=>zaL (Off p c H) (Off p c H')∧∃ (os:List Nat) (u:Int),Pur H' p c u∧u≤t+os.length∧os.length≤60*i+j∧Off p c H' l=some (.lst (za7 os))∧(∀ k∈os,k<i+1)∧(∀ (k:Nat) n,k<i→ns[k]?=some n→(os.count k:Int)=n)∧os.count i=j∧∃ y,σ=[some (.ref p),some (.ref pl),some (.ref l),some (.int (i:Int)),y]) ⟨s3,os,u,P3,hu,by omega,hl3,fun k hk=>by have:=ho k hk;omega,hc,ci,_,rfl⟩ ?_ ?_
  ·rintro j σ H4 hj ⟨s4,os,u,P4,hu,lo,hl4,ho,hc,ci,y,rfl⟩
   have hl4':=zaj _ _ _ _ _ hl4
   have eo:(za7 os).length=os.length:=List.length_map ..
   simp_all only [zb7,zac]
   refine ⟨.inl ⟨rfl,_,SqL.of hl4'⟩,_,.inl (SqL.of hl4'),?_⟩
   rw [eo]
   have u0:=P4.t0
   refine ⟨p,c,u,_,rfl,P4,by omega,by omega,by omega,fun r H5 r0 r1 o5 P5=>?_⟩
   rw [← o5] at hl4 s4
   simp_all only [zb7,zac]
   refine ⟨_,zaj _ _ _ _ _ hl4,r0,by rw [eo];omega,by rw [eo];omega,?_,os.take r.toNat++i::os.drop r.toNat,u+1,P5.upd nl.1 nl.2,by rw [zob];omega,by rw [zob];omega,?_,?_,?_,?_⟩
   ·rw [zaH nl.1 nl.2]
    exact s4.put (zbQ hl)
   ·rw [zaH nl.1 nl.2,zai,zst]
   ·intro k hk
    rcases zr4 hk with h | h
    ·exact ho k h
    ·omega
   ·intro k n hk e
    rw [zox,if_neg (by omega)]
    exact hc k n hk e
   ·rw [zox,if_pos rfl,ci]
  ·rintro σ H4 ⟨s4,os,u,P4,hu,lo,hl4,ho,hc,ci,y,rfl⟩
   refine ⟨s4,os,u,P4,hu,by omega,hl4,ho,fun k n' hk e=>?_,_,_,rfl⟩
   by_cases z:k=i
   ·subst z
    rw [en] at e
    cases e
    omega
   ·exact hc k n' (by omega) e
 ·rintro σ H3 ⟨s3,os,u,P3,hu,lo,hl3,ho,hc,x,y,rfl⟩
  rw [Int.toNat_natCast] at lo ho hc
  simp_all only [zb7,zac]
  exact q l os u H3 s3 P3 (by omega) hl3 ⟨by omega,ho,fun k n e=>hc k n (List.getElem?_eq_some_iff.mp e).1 e⟩ hl
theorem zdG:zaM ["_law_purse_here","_law_plan_here","_law_found","_law_k","_law_turn"] ["_law_purse_here","_law_plan_here"] (zan zeM):=⟨rfl,rfl,rfl,by decide +kernel,rfl,by decide +kernel,by decide +kernel⟩
theorem zj7 (T:Txt K mg a):zdW P w K mg base CX0 2 a.f__law_order a.d__law_order ["_law_purse_here","_law_plan_here"] zn8:=by
 have G__law_draw:=zb2 (P:=P) (w:=w) (base:=base) T
 refine T.F__law_order.ok zdG (fun vs H Q E h=>?_) (fun cdv A outer s H vs Q E hr h=>?_)
 ·obtain ⟨p,c,pl,t,ns,rfl,hP,t1,hp,l6,gn,q⟩:=h
  rfl
 obtain ⟨p,c,pl,t,ns,rfl,hP,t1,hp,l6,gn,q⟩:=h
 exact ⟨zeP K,(zaf (zaB (i:=2) zdG.nd rfl (Or.inl rfl) (zaN zad))
 (zaf (zep PassesOwn.never rfl (zcb rfl T.z_range (zaa (zao zaq rfl T.z_len PySem.boot_len (zaa (pv 1) zad)) zad)) (zaF (i:=3) zdG.nd rfl (Or.inl rfl))
 (zam (zep PassesOwn.never rfl (zcb rfl T.z_range (zaa (zbZ za1 (pv 1) (pv 3) (fun _ _=>rfl)) zad)) (zaF (i:=4) zdG.nd rfl (Or.inl rfl))
 (zam (zbF (ze8 PySem.F.plainAttrs_list PySem.F.slot_list_insert PySem.F.type_list_insert zoU (pv 2) (zaa (zap G__law_draw (hr.mono (by decide)) rfl T.m__law_draw T.F__law_draw.kp T.b__law_draw .nil za0 (zaa (pv 0) (zaa (zaA zb0 (zao zaq rfl T.z_len PySem.boot_len (zaa (pv 2) zad)) zag) zad))) (zaa (pv 3) zad))))))))
 (zam (zaY (pv 2))))),
  zj1 hP t1 hp l6 gn q⟩
theorem Pur.put {H:Hp} {p c:Addr} {t:Int} (P:Pur H p c t) {b:Addr} (hb:H b=none) (o:HO):zaL (Off p c H) (Off p c (L2.upd H b o))∧Off p c (L2.upd H b o) b=some o∧Pur (L2.upd H b o) p c t:=by
 have n:=P.new hb
 rw [zaH n.1 n.2]
 exact ⟨zaE (zbQ hb) _,zai,P.upd n.1 n.2⟩
theorem Pur.put2 {H:Hp} {p c:Addr} {t:Int} (P:Pur H p c t) {a b:Addr} {o1:HO} (ha:H a=none) (hb:L2.upd H a o1 b=none) (o2 o3:HO) :
  zaL (Off p c H) (Off p c (L2.upd (L2.upd (L2.upd H a o1) b o2) a o3))∧Off p c (L2.upd (L2.upd (L2.upd H a o1) b o2) a o3) a=some o3∧Off p c (L2.upd (L2.upd (L2.upd H a o1) b o2) a o3) b=some o2∧Pur (L2.upd (L2.upd (L2.upd H a o1) b o2) a o3) p c t:=by
 have ab:b≠a:=fun e=>by
  subst e
  rw [zai] at hb
  cases hb
 have e:L2.upd (L2.upd (L2.upd H a o1) b o2) a o3=L2.upd (L2.upd H a o3) b o2:=by
  funext x
  unfold L2.upd
  by_cases xa:x=a
  ·subst xa
   rw [if_pos rfl,if_neg ab.symm,if_pos rfl]
  ·rw [if_neg xa,if_neg xa,if_neg xa]
 have hb':L2.upd H a o3 b=none:=by
  rw [zaC ab] at hb ⊢
  exact hb
 rw [e]
 have A:=P.put ha o3
 have B:=A.2.2.put hb' o2
 exact ⟨A.1.trans B.1,B.1 _ _ A.2.1,B.2.1,B.2.2⟩
theorem zcr {p c:Addr} {H H':Hp} (o:Off p c H'=Off p c H):zaL (Off p c H) (Off p c H'):=by
 rw [o]
 exact .refl _
def zfu (H:Hp) (xs:List V):Prop:=∀ x∈xs,BxR H x false
theorem zfu.nil {H:Hp}:zfu H []:=fun _ h=>nomatch h
theorem zfu.cons {H:Hp} {x:V} {xs:List V} (h:BxR H x false) (hs:zfu H xs):zfu H (x::xs):=fun y hy=>(List.mem_cons.mp hy).elim (fun e=>e ▸ h) (hs y)
theorem zfu.same {H H':Hp} {xs:List V} (h:zfu H xs) (s:zaL H H'):zfu H' xs:=fun x hx=>(h x hx).same s
theorem zfu.app {H:Hp} {xs ys:List V} (h:zfu H xs) (h':zfu H ys):zfu H (xs++ys):=fun x hx=>(List.mem_append.mp hx).elim (h x) (h' x)
theorem nb3 {H:Hp} {t:Addr} {c h o:Int} (ht:H t=some (.tup [.int c,.int h,.int o])) (n:¬ GB (c,h,o)):BxR H (.ref t) false:=by
 refine .inr ⟨t,_,rfl,ht,fun y hy=>?_,?_⟩
 ·simp only [List.mem_cons,List.not_mem_nil,or_false] at hy
  rcases hy with rfl | rfl | rfl <;> exact .int _
 ·show false=(decide (1≤c∧c≤60)&&decide (1≤o∧o≤50)&&decide (1≤h∧h≤o))
  symm
  rw [Bool.eq_false_iff]
  intro z
  rw [Bool.and_eq_true,Bool.and_eq_true,decide_eq_true_eq,decide_eq_true_eq,decide_eq_true_eq] at z
  exact n ⟨z.1.1.1,z.1.1.2,z.2.1,z.2.2,z.1.2.2⟩
theorem nbt {H:Hp} {t:Addr} {ys:List V} (ht:H t=some (.tup ys)) (hy:∀ y∈ys,(∃ i,y=.int i)∨(∃ b,y=.bl b)∨∃ s,y=.str s) (n:gB ys=false):BxR H (.ref t) false :=
 .inr ⟨t,ys,rfl,ht,fun y h=>by rcases hy y h with ⟨i,rfl⟩ | ⟨i,rfl⟩ | ⟨i,rfl⟩ <;> first | exact .int _ | exact .bl _ | exact .str _,n.symm⟩
theorem zpQ {H:Hp} {t:Addr} {c h o:Int} (ht:H t=some (.tup [.int c,.int h,.int o])) (n:1≤c→c≤60→1≤h→h≤o→o≤50→False):BxR H (.ref t) false:=nb3 ht fun ⟨a,b,d,e,f⟩=>n a b d e f
theorem nbl {H:Hp} {t:Addr} {ys:List V} (ht:H t=some (.lst ys)):BxR H (.ref t) false:=.inl ⟨fun a ys e h=>by { cases e;rw [ht] at h;cases h },.lst ht,rfl⟩
theorem nbn {H:Hp}:BxR H .non false:=.inl ⟨fun a ys e=>(nomatch e),.non,rfl⟩
theorem nbi {H:Hp} {i:Int}:BxR H (.int i) false:=.inl ⟨fun a ys e=>(nomatch e),.int i,rfl⟩
open Classical in
theorem zow {H:Hp} {l:Addr} {xs:List V} (hl:H l=some (.lst xs)) (xl:xs.length≤900) (h:∀ x∈xs,∃ c,BxR H x c) (hb:(∃ x∈xs,BxR H x false)∨xs.length=0∨6<xs.length):zlT H (.ref l):=by
 refine .inr ⟨l,xs,xs.map fun x=>if BxR H x false then false else true,rfl,hl,xl,⟨by rw [List.length_map],fun i x c e1 e2=>?_⟩,fun g=>?_⟩
 ·rw [List.getElem?_map,e1] at e2
  cases e2
  show BxR H x (if BxR H x false then false else true)
  by_cases z:BxR H x false
  ·rw [if_pos z];exact z
  ·rw [if_neg z]
   obtain ⟨c,hc⟩:=h x (zbK e1)
   cases c with
   | true=>exact hc
   | false=>exact absurd hc z
 ·rcases hb with ⟨x,hx,z⟩ | h0 | h6
  ·have:=List.all_eq_true.mp g.2.2 _ (List.mem_map.mpr ⟨x,hx,if_pos z⟩)
   cases this
  ·have:=g.1
   rw [List.length_map] at this
   omega
  ·have:=g.2.1
   rw [List.length_map] at this
   omega
theorem GdB.tru {H:Hp} {l:Addr} {ts:List Addr} {bs:List Box} (G:GdB H l ts bs):∀ x∈ts.map V.ref,∃ c,BxR H x c:=fun x hx=>by
 obtain ⟨i,ei⟩:=List.getElem?_of_mem hx
 have li:=(List.getElem?_eq_some_iff.mp ei).1
 rw [List.length_map,G.hb.1] at li
 exact ⟨true,G.bxl.1.2 i x true ei (by rw [List.getElem?_map,List.getElem?_eq_getElem li];rfl)⟩
theorem ztY {c A B:Prop} [Decidable c] (h:c) (a:A):if c then A else B:=by rw [if_pos h];exact a
theorem zmu {c A B:Prop} [Decidable c] (h:¬ c) (b:B):if c then A else B:=by rw [if_neg h];exact b
theorem zdP (xs:List V) (lo hi:Option Int):(zbW xs lo hi).length≤xs.length:=by
 unfold zbW
 rw [List.length_take,List.length_drop]
 omega
theorem zdC {xs:List V} {lo hi:Option Int} {x:V} (h:x∈zbW xs lo hi):x∈xs:=List.mem_of_mem_drop (List.mem_of_mem_take h)
theorem zuD:znN 10 29:=⟨by decide,by decide,by decide⟩
theorem pow28:znN 10 28:=⟨by decide,by decide,by decide⟩
def zln:Sp:=fun vs H Q _=>∃ (p c l:Addr) (t:Int) (ts:List Addr) (bs:List Box),vs=[.ref p,.ref l]∧Pur H p c t∧t<10000∧GdB (Off p c H) l ts bs∧∀ (v:V) (t':Int) (H':Hp),zaL (Off p c H) (Off p c H')→Pur H' p c t'→t'≤t+3→zlT (Off p c H') v→Q v H'
def zcE (K:PySem.W.Frag):TS :=
 (zcu (tOp (zcO K) (zbX (zab (zbX zah) (zab (tOp ztW (zac 1) (tC (.int 7))) (zab (tCB (fun xs H Q=>∃ p ys,xs=[.ref p]∧((SqL K H p ys∧∀ l,H l=none→Q (.ref l) (upd H l (.tup ys)))∨(SqT K H p ys∧Q (.ref p) H))) (zab (zac 1) zah)) (zab (tC .non) zah))))) (tOp (rI0 fun i j=>.int (i - j)) (zac 8) (tCB (fun xs H Q=>∃ p ys,xs=[.ref p]∧(SqL K H p ys∨SqT K H p ys)∧Q (.int ys.length) H) (zab (zac 7) zah)))))
theorem zaJ (K:PySem.W.Frag) (D:zb5) (σ:St) (H:Hp):zcE K D σ H=(zcu (tOp (zcO K) (zbX (zab (zbX zah) (zab (tOp ztW (zac 1) (tC (.int 7))) (zab (tCB (fun xs H Q=>∃ p ys,xs=[.ref p]∧((SqL K H p ys∧∀ l,H l=none→Q (.ref l) (upd H l (.tup ys)))∨(SqT K H p ys∧Q (.ref p) H))) (zab (zac 1) zah)) (zab (tC .non) zah))))) (tOp (rI0 fun i j=>.int (i - j)) (zac 8) (tCB (fun xs H Q=>∃ p ys,xs=[.ref p]∧(SqL K H p ys∨SqT K H p ys)∧Q (.int ys.length) H) (zab (zac 7) zah))))) D σ H:=rfl
def zcJ (K:PySem.W.Frag):TS :=
 (zcw (za8 (tOp (rI0 fun i j=>.bl (decide (i<j))) (zac 8) (tCB (fun xs H Q=>∃ p ys,xs=[.ref p]∧(SqL K H p ys∨SqT K H p ys)∧Q (.int ys.length) H) (zab (zac 7) zah)))) (zcu (tOp zel (tOp zel (tSl (zfl K) (zac 1) zaZ (zcP (zac 3))) (zbX (zab (tOp (zcO K) (zac 7) (zac 8)) zah))) (tSl (zfl K) (zac 1) (zcP (tOp (rI0 fun i j=>.int (i+j)) (zac 3) (tC (.int 1)))) zaZ))) zaR)
theorem zaK (K:PySem.W.Frag) (D:zb5) (σ:St) (H:Hp):zcJ K D σ H=(zcw (za8 (tOp (rI0 fun i j=>.bl (decide (i<j))) (zac 8) (tCB (fun xs H Q=>∃ p ys,xs=[.ref p]∧(SqL K H p ys∨SqT K H p ys)∧Q (.int ys.length) H) (zab (zac 7) zah)))) (zcu (tOp zel (tOp zel (tSl (zfl K) (zac 1) zaZ (zcP (zac 3))) (zbX (zab (tOp (zcO K) (zac 7) (zac 8)) zah))) (tSl (zfl K) (zac 1) (zcP (tOp (rI0 fun i j=>.int (i+j)) (zac 3) (tC (.int 1)))) zaZ))) zaR) D σ H:=rfl
def zdj (K:PySem.W.Frag):TS :=
 (zaG (za5 (zat zaO [] E0 (zab (zac 0) (zab (tOp (rI0 fun i j=>.int (i+j)) (tCB (fun xs H Q=>∃ p ys,xs=[.ref p]∧(SqL K H p ys∨SqT K H p ys)∧Q (.int ys.length) H) (zab (zac 7) zah)) (tC (.int 4))) zah))) (zak 8))
 (zaG (zc0 (zcJ K))
 (zcE K)))
theorem zbf (K:PySem.W.Frag) (D:zb5) (σ:St) (H:Hp):zdj K D σ H=(zaG (za5 (zat zaO [] E0 (zab (zac 0) (zab (tOp (rI0 fun i j=>.int (i+j)) (tCB (fun xs H Q=>∃ p ys,xs=[.ref p]∧(SqL K H p ys∨SqT K H p ys)∧Q (.int ys.length) H) (zab (zac 7) zah)) (tC (.int 4))) zah))) (zak 8))
 (zaG (zc0 (zcJ K))
 (zcE K))) D σ H:=rfl
def zdl (K:PySem.W.Frag):TS :=
 (zaG (za5 (tOp zel (zac 7) (zbX (zab (zds (zab (tC (.bl true)) (zab (tC (.int 1)) (zab (tC (.int 1)) zah)))) (zab (zds (zab (zac 4) (zab (tC (.bl true)) (zab (zac 6) zah)))) (zab (zds (zab (zac 4) (zab (tC (.int 1)) (zab (tC (.bl true)) zah)))) (zab (zds (zab (tC (.str "1")) (zab (zac 5) (zab (zac 6) zah)))) (zab (tC .non) (zab (zbX (zab (zac 4) (zab (zac 5) (zab (zac 6) zah)))) (zab (tC (.int 5)) (zab (zds zah) zah)))))))))) (zak 7))
 (zdj K))
theorem zbh (K:PySem.W.Frag) (D:zb5) (σ:St) (H:Hp):zdl K D σ H=(zaG (za5 (tOp zel (zac 7) (zbX (zab (zds (zab (tC (.bl true)) (zab (tC (.int 1)) (zab (tC (.int 1)) zah)))) (zab (zds (zab (zac 4) (zab (tC (.bl true)) (zab (zac 6) zah)))) (zab (zds (zab (zac 4) (zab (tC (.int 1)) (zab (tC (.bl true)) zah)))) (zab (zds (zab (tC (.str "1")) (zab (zac 5) (zab (zac 6) zah)))) (zab (tC .non) (zab (zbX (zab (zac 4) (zab (zac 5) (zab (zac 6) zah)))) (zab (tC (.int 5)) (zab (zds zah) zah)))))))))) (zak 7))
 (zdj K)) D σ H:=rfl
def zc8 (K:PySem.W.Frag):TS :=
 (zaG (zbP (tBM K "list" zaI (zac 7) (zab (zds (zab (zac 4) (zab (zac 5) (zab (zac 6) (zab (tC (.int 1)) zah))))) zah)))
 (zdl K))
theorem zba (K:PySem.W.Frag) (D:zb5) (σ:St) (H:Hp):zc8 K D σ H=(zaG (zbP (tBM K "list" zaI (zac 7) (zab (zds (zab (zac 4) (zab (zac 5) (zab (zac 6) (zab (tC (.int 1)) zah))))) zah)))
 (zdl K)) D σ H:=rfl
def zda (K:PySem.W.Frag):TS :=
 (zaG (za5 (tOp zel (zac 7) (zbX (zab (zds (zab (zac 4) (zab (tOp (rI0 fun i j=>.int (i - j)) (tC (.int 0)) (zac 5)) (zab (zac 6) zah)))) (zab (zds (zab (zac 4) (zab (tC (.int 51)) (zab (tC (.int 51)) zah)))) (zab (zds (zab (zac 4) (zab (zac 5) (zab (zac 2) zah)))) (zab (zds (zab (zac 4) (zab (tC (.int 0)) (zab (tC (.int 0)) zah)))) (zab (zds (zab (zac 4) (zab (zac 5) zah))) zah))))))) (zak 7))
 (zc8 K))
theorem zbd (K:PySem.W.Frag) (D:zb5) (σ:St) (H:Hp):zda K D σ H=(zaG (za5 (tOp zel (zac 7) (zbX (zab (zds (zab (zac 4) (zab (tOp (rI0 fun i j=>.int (i - j)) (tC (.int 0)) (zac 5)) (zab (zac 6) zah)))) (zab (zds (zab (zac 4) (zab (tC (.int 51)) (zab (tC (.int 51)) zah)))) (zab (zds (zab (zac 4) (zab (zac 5) (zab (zac 2) zah)))) (zab (zds (zab (zac 4) (zab (tC (.int 0)) (zab (tC (.int 0)) zah)))) (zab (zds (zab (zac 4) (zab (zac 5) zah))) zah))))))) (zak 7))
 (zc8 K)) D σ H:=rfl
def zdn (K:PySem.W.Frag):TS :=
 (zaG (za5 (zbX (zab (zds (zab (tC (.int 0)) (zab (zac 5) (zab (zac 6) zah)))) (zab (zds (zab (zac 2) (zab (zac 5) (zab (zac 6) zah)))) (zab (zds (zab (tC (.int 61)) (zab (zac 5) (zab (zac 6) zah)))) (zab (zds (zab (tOp (rI0 fun i j=>.int (i - j)) (tUn (rU fun i=>.int (-i)) (tC (.int 1))) (zac 2)) (zab (zac 5) (zab (zac 6) zah)))) (zab (zds (zab (zac 4) (zab (tC (.int 0)) (zab (zac 6) zah)))) (zab (zds (zab (zac 4) (zab (tOp (rI0 fun i j=>.int (i+j)) (zac 6) (tC (.int 1))) (zab (zac 6) zah)))) zah))))))) (zak 7))
 (zda K))
theorem zbk (K:PySem.W.Frag) (D:zb5) (σ:St) (H:Hp):zdn K D σ H=(zaG (za5 (zbX (zab (zds (zab (tC (.int 0)) (zab (zac 5) (zab (zac 6) zah)))) (zab (zds (zab (zac 2) (zab (zac 5) (zab (zac 6) zah)))) (zab (zds (zab (tC (.int 61)) (zab (zac 5) (zab (zac 6) zah)))) (zab (zds (zab (tOp (rI0 fun i j=>.int (i - j)) (tUn (rU fun i=>.int (-i)) (tC (.int 1))) (zac 2)) (zab (zac 5) (zab (zac 6) zah)))) (zab (zds (zab (zac 4) (zab (tC (.int 0)) (zab (zac 6) zah)))) (zab (zds (zab (zac 4) (zab (tOp (rI0 fun i j=>.int (i+j)) (zac 6) (tC (.int 1))) (zab (zac 6) zah)))) zah))))))) (zak 7))
 (zda K)) D σ H:=rfl
def zen (K:PySem.W.Frag):TS :=
 (zaG (za5 (zat zaO [] E0 (zab (zac 0) (zab (tCB (fun xs H Q=>∃ p ys,xs=[.ref p]∧(SqL K H p ys∨SqT K H p ys)∧Q (.int ys.length) H) (zab (zac 1) zah)) zah))) (zak 3))
 (zaG (za5 (tOp (zcO K) (zac 1) (zac 3)) (zlN K 3 (zcs (zak 4) (zcs (zak 5) (zcs (zak 6) zlw)))))
 (zdn K)))
theorem zbi (K:PySem.W.Frag) (D:zb5) (σ:St) (H:Hp):zen K D σ H=(zaG (za5 (zat zaO [] E0 (zab (zac 0) (zab (tCB (fun xs H Q=>∃ p ys,xs=[.ref p]∧(SqL K H p ys∨SqT K H p ys)∧Q (.int ys.length) H) (zab (zac 1) zah)) zah))) (zak 3))
 (zaG (za5 (tOp (zcO K) (zac 1) (zac 3)) (zlN K 3 (zcs (zak 4) (zcs (zak 5) (zcs (zak 6) zlw)))))
 (zdn K))) D σ H:=rfl
def zdT (K:PySem.W.Frag):TS :=
 (zaG (za5 (tOp (rI0 fun i j=>.int (i+j)) (tC (.int 61)) (zat zaO [] E0 (zab (zac 0) (zab (tOp (rI znN fun i j=>.int (i ^ j.toNat)) (tC (.int 10)) (tC (.int 29))) zah)))) (zak 2))
 (zen K))
theorem zg0 {p c l:Addr} {t:Int} {ts:List Addr} {bs:List Box} (P:Pur H p c t) (t1:t<10000) (G:GdB (Off p c H) l ts bs) (q:∀ (v:V) (t':Int) (H':Hp),zaL (Off p c H) (Off p c H')→Pur H' p c t'→t'≤t+3→zlT (Off p c H') v→Q v H') :
  zdT K { nx:=fun _ H'=>Q .non H',rt:=Q } (L2.zb1 ["_law_purse_here","_law_boxes_here","_law_far","_law_at","_law_cost","_law_hits","_law_of","_law_bent","_law_way"] [.ref p,.ref l]) H:=by
 unfold zdT
 have t0:=P.t0
 have l1:=G.l1
 have l6:=G.l6
 have lt:=G.hb.1
 simp_all only [zaJ,zaK,zac]
 refine ⟨zuD,?_⟩
 refine ⟨p,c,t,_,rfl,P,by omega,by decide,by decide,fun f H1 f0 f1 o1 P1=>?_⟩
 have s1:=zcr o1
 have G1:=G.same s1
 refine ⟨_,rfl,?_⟩
 ((try simp only);first | rw [zbf] | rw [zbh] | rw [zba] | rw [zbd] | rw [zbk] | rw [zbi]);simp_all only [zaJ,zaK,zac]
 refine ⟨_,.inl (SqL.of (zaj _ _ _ _ _ G1.hl)),?_⟩
 refine ⟨p,c,t+1,_,rfl,P1,by omega,by rw [List.length_map];omega,by rw [List.length_map];omega,fun at_ H2 a0 a1 o2 P2=>?_⟩
 rw [List.length_map] at a1
 have s2:=s1.trans (zcr o2)
 have G2:=G.same s2
 obtain ⟨k,rfl⟩:∃ k:Nat,at_=k:=⟨at_.toNat,by omega⟩
 have et:ts[k]?=some ts[k]:=List.getElem?_eq_getElem (by omega)
 obtain ⟨⟨co,hi,of⟩,eb,hb⟩:=G2.hb.at et
 obtain ⟨g1,g2,g3,g4,g5⟩:=G.gb _ (zbK eb)
 simp only at g1 g2 g3 g4 g5
 have hl2:=SqL.of (K:=K) (zaj _ _ _ _ _ G2.hl)
 have it:atI (ts.map V.ref) (k:Int)=some (.ref ts[k]):=zcq (by rw [List.getElem?_map,et];rfl)
 have hb2:=SqT.of (K:=K) (zaj _ _ _ _ _ hb)
 have S:=s2
 refine ⟨_,_,rfl,hl2,_,it,_,rfl,_,hb2,rfl,_,_,rfl,_,_,rfl,_,_,rfl,rfl,?_⟩
 ((try simp only);first | rw [zbf] | rw [zbh] | rw [zba] | rw [zbd] | rw [zbk] | rw [zbi]);simp_all only [zaJ,zaK,zac]
 refine ⟨by decide,fun q1 e1=>?_⟩
 obtain ⟨s3,h1,P3⟩:=P2.put e1 (.tup [.int 0,.int hi,.int of])
 generalize L2.upd H2 q1 (.tup [.int 0,.int hi,.int of])=X1 at s3 h1 P3 ⊢
 replace S:=S.trans s3
 have A:zfu (Off p c X1) [.ref q1]:=.cons (zpQ h1 (fun _ _ _ _ _=>by omega)) .nil
 refine ⟨by decide,fun q2 e2=>?_⟩
 obtain ⟨s4,h2,P4⟩:=P3.put e2 (.tup [.int (61+f),.int hi,.int of])
 generalize L2.upd X1 q2 (.tup [.int (61+f),.int hi,.int of])=X2 at s4 h2 P4 ⊢
 replace A:=A.same s4
 replace S:=S.trans s4
 replace A:zfu (Off p c X2) [.ref q1,.ref q2]:=A.app (.cons (zpQ h2 (fun _ _ _ _ _=>by omega)) .nil)
 refine ⟨by decide,fun q3 e3=>?_⟩
 obtain ⟨s5,h3,P5⟩:=P4.put e3 (.tup [.int 61,.int hi,.int of])
 generalize L2.upd X2 q3 (.tup [.int 61,.int hi,.int of])=X3 at s5 h3 P5 ⊢
 replace A:=A.same s5
 replace S:=S.trans s5
 replace A:zfu (Off p c X3) [.ref q1,.ref q2,.ref q3]:=A.app (.cons (zpQ h3 (fun _ _ _ _ _=>by omega)) .nil)
 refine ⟨by decide,fun q4 e4=>?_⟩
 obtain ⟨s6,h4,P6⟩:=P5.put e4 (.tup [.int (-1 - (61+f)),.int hi,.int of])
 generalize L2.upd X3 q4 (.tup [.int (-1 - (61+f)),.int hi,.int of])=X4 at s6 h4 P6 ⊢
 replace A:=A.same s6
 replace S:=S.trans s6
 replace A:zfu (Off p c X4) [.ref q1,.ref q2,.ref q3,.ref q4]:=A.app (.cons (zpQ h4 (fun _ _ _ _ _=>by omega)) .nil)
 refine ⟨by decide,fun q5 e5=>?_⟩
 obtain ⟨s7,h5,P7⟩:=P6.put e5 (.tup [.int co,.int 0,.int of])
 generalize L2.upd X4 q5 (.tup [.int co,.int 0,.int of])=X5 at s7 h5 P7 ⊢
 replace A:=A.same s7
 replace S:=S.trans s7
 replace A:zfu (Off p c X5) [.ref q1,.ref q2,.ref q3,.ref q4,.ref q5]:=A.app (.cons (zpQ h5 (fun _ _ _ _ _=>by omega)) .nil)
 refine ⟨by decide,fun q6 e6=>?_⟩
 obtain ⟨s8,h6,P8⟩:=P7.put e6 (.tup [.int co,.int (of+1),.int of])
 generalize L2.upd X5 q6 (.tup [.int co,.int (of+1),.int of])=X6 at s8 h6 P8 ⊢
 replace A:=A.same s8
 replace S:=S.trans s8
 replace A:zfu (Off p c X6) [.ref q1,.ref q2,.ref q3,.ref q4,.ref q5,.ref q6]:=A.app (.cons (zpQ h6 (fun _ _ _ _ _=>by omega)) .nil)
 refine ⟨by decide,fun q7 e7=>?_⟩
 obtain ⟨s9,h7,P9⟩:=P8.put e7 (.lst [.ref q1,.ref q2,.ref q3,.ref q4,.ref q5,.ref q6])
 generalize L2.upd X6 q7 (.lst [.ref q1,.ref q2,.ref q3,.ref q4,.ref q5,.ref q6])=X7 at s9 h7 P9 ⊢
 replace A:=A.same s9
 replace S:=S.trans s9
 have g7:=h7
 ((try simp only);first | rw [zbf] | rw [zbh] | rw [zba] | rw [zbd] | rw [zbk] | rw [zbi]);simp_all only [zaJ,zaK,zac]
 refine ⟨by decide,fun q8 e8=>?_⟩
 obtain ⟨s10,h8,P10⟩:=P9.put e8 (.tup [.int co,.int (0 - hi),.int of])
 generalize L2.upd X7 q8 (.tup [.int co,.int (0 - hi),.int of])=X8 at s10 h8 P10 ⊢
 replace A:=A.same s10
 replace g7:=s10 _ _ g7
 replace S:=S.trans s10
 replace A:zfu (Off p c X8) [.ref q1,.ref q2,.ref q3,.ref q4,.ref q5,.ref q6,.ref q8]:=A.app (.cons (zpQ h8 (fun _ _ _ _ _=>by omega)) .nil)
 refine ⟨by decide,fun q9 e9=>?_⟩
 obtain ⟨s11,h9,P11⟩:=P10.put e9 (.tup [.int co,.int 51,.int 51])
 generalize L2.upd X8 q9 (.tup [.int co,.int 51,.int 51])=X9 at s11 h9 P11 ⊢
 replace A:=A.same s11
 replace g7:=s11 _ _ g7
 replace S:=S.trans s11
 replace A:zfu (Off p c X9) [.ref q1,.ref q2,.ref q3,.ref q4,.ref q5,.ref q6,.ref q8,.ref q9]:=A.app (.cons (zpQ h9 (fun _ _ _ _ _=>by omega)) .nil)
 refine ⟨by decide,fun q10 e10=>?_⟩
 obtain ⟨s12,h10,P12⟩:=P11.put e10 (.tup [.int co,.int hi,.int (61+f)])
 generalize L2.upd X9 q10 (.tup [.int co,.int hi,.int (61+f)])=X10 at s12 h10 P12 ⊢
 replace A:=A.same s12
 replace g7:=s12 _ _ g7
 replace S:=S.trans s12
 replace A:zfu (Off p c X10) [.ref q1,.ref q2,.ref q3,.ref q4,.ref q5,.ref q6,.ref q8,.ref q9,.ref q10]:=A.app (.cons (zpQ h10 (fun _ _ _ _ _=>by omega)) .nil)
 refine ⟨by decide,fun q11 e11=>?_⟩
 obtain ⟨s13,h11,P13⟩:=P12.put e11 (.tup [.int co,.int 0,.int 0])
 generalize L2.upd X10 q11 (.tup [.int co,.int 0,.int 0])=X11 at s13 h11 P13 ⊢
 replace A:=A.same s13
 replace g7:=s13 _ _ g7
 replace S:=S.trans s13
 replace A:zfu (Off p c X11) [.ref q1,.ref q2,.ref q3,.ref q4,.ref q5,.ref q6,.ref q8,.ref q9,.ref q10,.ref q11]:=A.app (.cons (zpQ h11 (fun _ _ _ _ _=>by omega)) .nil)
 refine ⟨by decide,fun q12 e12=>?_⟩
 obtain ⟨s14,h12,P14⟩:=P13.put e12 (.tup [.int co,.int hi])
 generalize L2.upd X11 q12 (.tup [.int co,.int hi])=X12 at s14 h12 P14 ⊢
 replace A:=A.same s14
 replace g7:=s14 _ _ g7
 replace S:=S.trans s14
 replace A:zfu (Off p c X12) [.ref q1,.ref q2,.ref q3,.ref q4,.ref q5,.ref q6,.ref q8,.ref q9,.ref q10,.ref q11,.ref q12]:=A.app (.cons (nbt h12 (fun y hy=>by simp only [List.mem_cons,List.not_mem_nil,or_false] at hy;rcases hy with rfl | rfl <;> first | exact .inl ⟨_,rfl⟩ | exact .inr (.inl ⟨_,rfl⟩) | exact .inr (.inr ⟨_,rfl⟩)) rfl) .nil)
 refine ⟨by decide,fun q13 e13=>?_⟩
 obtain ⟨s15,h13,P15⟩:=P14.put e13 (.lst [.ref q8,.ref q9,.ref q10,.ref q11,.ref q12])
 generalize L2.upd X12 q13 (.lst [.ref q8,.ref q9,.ref q10,.ref q11,.ref q12])=X13 at s15 h13 P15 ⊢
 replace A:=A.same s15
 replace g7:=s15 _ _ g7
 replace S:=S.trans s15
 refine ⟨_,zaj _ _ _ _ _ g7,_,zaj _ _ _ _ _ h13,by show 11≤sizeLine;decide,fun q14 e14=>?_⟩
 simp only [List.cons_append,List.nil_append] at e14 ⊢
 ((try simp only);first | rw [zbf] | rw [zbh] | rw [zba] | rw [zbd] | rw [zbk] | rw [zbi]);simp_all only [zaJ,zaK,zac]
 refine ⟨.inl ⟨rfl,_,SqL.of zai⟩,by decide,fun q15 e15=>?_⟩
 refine ⟨_,by rw [zaC (fun z=>by subst z;rw [zai] at e15;cases e15)];exact zai,by show 11<sizeLine;decide,?_⟩
 obtain ⟨s16,gb,h15,P16⟩:=P15.put2 e14 e15 (.tup [.int co,.int hi,.int of,.int 1]) (.lst [.ref q1,.ref q2,.ref q3,.ref q4,.ref q5,.ref q6,.ref q8,.ref q9,.ref q10,.ref q11,.ref q12,.ref q15])
 simp only [List.cons_append,List.nil_append]
 generalize L2.upd (L2.upd (L2.upd X13 q14 (.lst [.ref q1,.ref q2,.ref q3,.ref q4,.ref q5,.ref q6,.ref q8,.ref q9,.ref q10,.ref q11,.ref q12])) q15 (.tup [.int co,.int hi,.int of,.int 1])) q14 (.lst [.ref q1,.ref q2,.ref q3,.ref q4,.ref q5,.ref q6,.ref q8,.ref q9,.ref q10,.ref q11,.ref q12,.ref q15])=X14 at s16 gb h15 P16 ⊢
 ((try simp only);first | rw [zbf] | rw [zbh] | rw [zba] | rw [zbd] | rw [zbk] | rw [zbi]);simp_all only [zaJ,zaK,zac]
 replace A:=A.same s16
 replace S:=S.trans s16
 replace A:zfu (Off p c X14) [.ref q1,.ref q2,.ref q3,.ref q4,.ref q5,.ref q6,.ref q8,.ref q9,.ref q10,.ref q11,.ref q12,.ref q15]:=A.app (.cons (nbt h15 (fun y hy=>by simp only [List.mem_cons,List.not_mem_nil,or_false] at hy;rcases hy with rfl | rfl | rfl | rfl <;> first | exact .inl ⟨_,rfl⟩ | exact .inr (.inl ⟨_,rfl⟩) | exact .inr (.inr ⟨_,rfl⟩)) rfl) .nil)
 refine ⟨by decide,fun q16 e16=>?_⟩
 obtain ⟨s17,h16,P17⟩:=P16.put e16 (.tup [.bl true,.int 1,.int 1])
 generalize L2.upd X14 q16 (.tup [.bl true,.int 1,.int 1])=X15 at s17 h16 P17 ⊢
 replace A:=A.same s17
 replace gb:=s17 _ _ gb
 replace S:=S.trans s17
 replace A:zfu (Off p c X15) [.ref q1,.ref q2,.ref q3,.ref q4,.ref q5,.ref q6,.ref q8,.ref q9,.ref q10,.ref q11,.ref q12,.ref q15,.ref q16]:=A.app (.cons (nbt h16 (fun y hy=>by simp only [List.mem_cons,List.not_mem_nil,or_false] at hy;rcases hy with rfl | rfl | rfl <;> first | exact .inl ⟨_,rfl⟩ | exact .inr (.inl ⟨_,rfl⟩) | exact .inr (.inr ⟨_,rfl⟩)) rfl) .nil)
 refine ⟨by decide,fun q17 e17=>?_⟩
 obtain ⟨s18,h17,P18⟩:=P17.put e17 (.tup [.int co,.bl true,.int of])
 generalize L2.upd X15 q17 (.tup [.int co,.bl true,.int of])=X16 at s18 h17 P18 ⊢
 replace A:=A.same s18
 replace gb:=s18 _ _ gb
 replace S:=S.trans s18
 replace A:zfu (Off p c X16) [.ref q1,.ref q2,.ref q3,.ref q4,.ref q5,.ref q6,.ref q8,.ref q9,.ref q10,.ref q11,.ref q12,.ref q15,.ref q16,.ref q17]:=A.app (.cons (nbt h17 (fun y hy=>by simp only [List.mem_cons,List.not_mem_nil,or_false] at hy;rcases hy with rfl | rfl | rfl <;> first | exact .inl ⟨_,rfl⟩ | exact .inr (.inl ⟨_,rfl⟩) | exact .inr (.inr ⟨_,rfl⟩)) (by simp only [gB,wi,Bool.and_false])) .nil)
 refine ⟨by decide,fun q18 e18=>?_⟩
 obtain ⟨s19,h18,P19⟩:=P18.put e18 (.tup [.int co,.int 1,.bl true])
 generalize L2.upd X16 q18 (.tup [.int co,.int 1,.bl true])=X17 at s19 h18 P19 ⊢
 replace A:=A.same s19
 replace gb:=s19 _ _ gb
 replace S:=S.trans s19
 replace A:zfu (Off p c X17) [.ref q1,.ref q2,.ref q3,.ref q4,.ref q5,.ref q6,.ref q8,.ref q9,.ref q10,.ref q11,.ref q12,.ref q15,.ref q16,.ref q17,.ref q18]:=A.app (.cons (nbt h18 (fun y hy=>by simp only [List.mem_cons,List.not_mem_nil,or_false] at hy;rcases hy with rfl | rfl | rfl <;> first | exact .inl ⟨_,rfl⟩ | exact .inr (.inl ⟨_,rfl⟩) | exact .inr (.inr ⟨_,rfl⟩)) (by simp only [gB,wi,Bool.and_false,Bool.false_and])) .nil)
 refine ⟨by decide,fun q19 e19=>?_⟩
 obtain ⟨s20,h19,P20⟩:=P19.put e19 (.tup [.str "1",.int hi,.int of])
 generalize L2.upd X17 q19 (.tup [.str "1",.int hi,.int of])=X18 at s20 h19 P20 ⊢
 replace A:=A.same s20
 replace gb:=s20 _ _ gb
 replace S:=S.trans s20
 replace A:zfu (Off p c X18) [.ref q1,.ref q2,.ref q3,.ref q4,.ref q5,.ref q6,.ref q8,.ref q9,.ref q10,.ref q11,.ref q12,.ref q15,.ref q16,.ref q17,.ref q18,.ref q19]:=A.app (.cons (nbt h19 (fun y hy=>by simp only [List.mem_cons,List.not_mem_nil,or_false] at hy;rcases hy with rfl | rfl | rfl <;> first | exact .inl ⟨_,rfl⟩ | exact .inr (.inl ⟨_,rfl⟩) | exact .inr (.inr ⟨_,rfl⟩)) rfl) .nil)
 replace A:zfu (Off p c X18) [.ref q1,.ref q2,.ref q3,.ref q4,.ref q5,.ref q6,.ref q8,.ref q9,.ref q10,.ref q11,.ref q12,.ref q15,.ref q16,.ref q17,.ref q18,.ref q19,.non]:=A.app (.cons (nbn) .nil)
 refine ⟨by decide,fun q20 e20=>?_⟩
 obtain ⟨s21,h20,P21⟩:=P20.put e20 (.lst [.int co,.int hi,.int of])
 generalize L2.upd X18 q20 (.lst [.int co,.int hi,.int of])=X19 at s21 h20 P21 ⊢
 replace A:=A.same s21
 replace gb:=s21 _ _ gb
 replace S:=S.trans s21
 replace A:zfu (Off p c X19) [.ref q1,.ref q2,.ref q3,.ref q4,.ref q5,.ref q6,.ref q8,.ref q9,.ref q10,.ref q11,.ref q12,.ref q15,.ref q16,.ref q17,.ref q18,.ref q19,.non,.ref q20]:=A.app (.cons (nbl h20) .nil)
 replace A:zfu (Off p c X19) [.ref q1,.ref q2,.ref q3,.ref q4,.ref q5,.ref q6,.ref q8,.ref q9,.ref q10,.ref q11,.ref q12,.ref q15,.ref q16,.ref q17,.ref q18,.ref q19,.non,.ref q20,.int 5]:=A.app (.cons (nbi) .nil)
 refine ⟨by decide,fun q21 e21=>?_⟩
 obtain ⟨s22,h21,P22⟩:=P21.put e21 (.tup [])
 generalize L2.upd X19 q21 (.tup [])=X20 at s22 h21 P22 ⊢
 replace A:=A.same s22
 replace gb:=s22 _ _ gb
 replace S:=S.trans s22
 replace A:zfu (Off p c X20) [.ref q1,.ref q2,.ref q3,.ref q4,.ref q5,.ref q6,.ref q8,.ref q9,.ref q10,.ref q11,.ref q12,.ref q15,.ref q16,.ref q17,.ref q18,.ref q19,.non,.ref q20,.int 5,.ref q21]:=A.app (.cons (nbt h21 (fun y hy=>(nomatch hy)) rfl) .nil)
 refine ⟨by decide,fun q22 e22=>?_⟩
 obtain ⟨s23,h22,P23⟩:=P22.put e22 (.lst [.ref q16,.ref q17,.ref q18,.ref q19,.non,.ref q20,.int 5,.ref q21])
 generalize L2.upd X20 q22 (.lst [.ref q16,.ref q17,.ref q18,.ref q19,.non,.ref q20,.int 5,.ref q21])=X21 at s23 h22 P23 ⊢
 replace A:=A.same s23
 replace gb:=s23 _ _ gb
 replace S:=S.trans s23
 refine ⟨_,zaj _ _ _ _ _ gb,_,zaj _ _ _ _ _ h22,by show 20≤sizeLine;decide,fun q23 e23=>?_⟩
 simp only [List.cons_append,List.nil_append] at e23 ⊢
 obtain ⟨sA,h23,PA⟩:=P23.put e23 (.lst [.ref q1,.ref q2,.ref q3,.ref q4,.ref q5,.ref q6,.ref q8,.ref q9,.ref q10,.ref q11,.ref q12,.ref q15,.ref q16,.ref q17,.ref q18,.ref q19,.non,.ref q20,.int 5,.ref q21])
 generalize L2.upd X21 q23 (.lst [.ref q1,.ref q2,.ref q3,.ref q4,.ref q5,.ref q6,.ref q8,.ref q9,.ref q10,.ref q11,.ref q12,.ref q15,.ref q16,.ref q17,.ref q18,.ref q19,.non,.ref q20,.int 5,.ref q21])=X22 at sA h23 PA ⊢
 replace A:=A.same sA
 replace S:=S.trans sA
 ((try simp only);first | rw [zbf] | rw [zbh] | rw [zba] | rw [zbd] | rw [zbk] | rw [zbi]);simp_all only [zaJ,zaK,zac]
 refine ⟨_,.inl (SqL.of (zaj _ _ _ _ _ h23)),?_⟩
 refine ⟨p,c,t+1+1,_,rfl,PA,by omega,by show (0:Int)<20+4;decide,by show (20:Int)+4≤_;decide,fun w H3 w0 w1 o3 PB=>?_⟩
 have sB:=zcr o3
 replace A:=A.same sB
 replace h23:=sB _ _ h23
 replace S:=S.trans sB
 have G3:=G.same S
 replace w1:w<20+4:=w1
 unfold zc0
 refine ⟨fun σ' H'=>σ'=[some (V.ref p),some (V.ref l),some (V.int (61+f)),some (V.int k),some (.int co),some (.int hi),some (.int of),some (.ref q23),some (.int w)]∧H'=H3∧¬ w<20,?_,?_⟩
 ·unfold zcJ
  simp_all only [zaJ,zaK,zac]
  refine ⟨_,.inl (SqL.of (zaj _ _ _ _ _ h23)),?_⟩
  by_cases hw:w<20
  ·refine ztY (show w<((20:Nat):Int) from hw) ?_
   obtain ⟨j,rfl⟩:∃ j:Nat,w=j:=⟨w.toNat,by omega⟩
   refine ⟨_,SqL.of (zaj _ _ _ _ _ G3.hl),fun r1 n1=>?_⟩
   obtain ⟨sC,k1,PC⟩:=PB.put n1 (.lst (zbW (ts.map V.ref) none (some (k:Int))))
   generalize L2.upd H3 r1 (.lst (zbW (ts.map V.ref) none (some (k:Int))))=Y1 at sC k1 PC ⊢
   obtain ⟨v,ev⟩:∃ v,([.ref q1,.ref q2,.ref q3,.ref q4,.ref q5,.ref q6,.ref q8,.ref q9,.ref q10,.ref q11,.ref q12,.ref q15,.ref q16,.ref q17,.ref q18,.ref q19,.non,.ref q20,.int 5,.ref q21]:List V)[j]?=some v:=⟨_,List.getElem?_eq_getElem (show j<20 by omega)⟩
   refine ⟨_,SqL.of (zaj _ _ _ _ _ (sC _ _ h23)),v,zcq ev,by decide,fun r2 n2=>?_⟩
   obtain ⟨sD,k2,PD⟩:=PC.put n2 (.lst [v])
   generalize L2.upd Y1 r2 (.lst [v])=Y2 at sD k2 PD ⊢
   have c1:(zbW (ts.map V.ref) none (some (k:Int))).length≤6:=Nat.le_trans (zdP _ _ _) (by rw [List.length_map];omega)
   have c2:(zbW (ts.map V.ref) (some ((k:Int)+1)) none).length≤6:=Nat.le_trans (zdP _ _ _) (by rw [List.length_map];omega)
   refine ⟨_,zaj _ _ _ _ _ (sD _ _ k1),_,zaj _ _ _ _ _ k2,by show _+1≤sizeLine;exact Nat.le_trans (Nat.add_le_add_right c1 1) (by decide),fun r3 n3=>?_⟩
   obtain ⟨sE,k3,PE⟩:=PD.put n3 (.lst (zbW (ts.map V.ref) none (some (k:Int))++[v]))
   generalize L2.upd Y2 r3 (.lst (zbW (ts.map V.ref) none (some (k:Int))++[v]))=Y3 at sE k3 PE ⊢
   have S3:=S.trans (sC.trans (sD.trans sE))
   refine ⟨_,SqL.of (zaj _ _ _ _ _ ((G.same S3).hl)),fun r4 n4=>?_⟩
   obtain ⟨sF,k4,PF⟩:=PE.put n4 (.lst (zbW (ts.map V.ref) (some ((k:Int)+1)) none))
   generalize L2.upd Y3 r4 (.lst (zbW (ts.map V.ref) (some ((k:Int)+1)) none))=Y4 at sF k4 PF ⊢
   have lX:(zbW (ts.map V.ref) none (some (k:Int))++[v]++zbW (ts.map V.ref) (some ((k:Int)+1)) none).length≤13:=by
    rw [List.length_append,List.length_append]
    show _+1+_≤13
    omega
   refine ⟨_,zaj _ _ _ _ _ (sF _ _ k3),_,zaj _ _ _ _ _ k4,by rw [← List.length_append];exact Nat.le_trans lX (by decide),fun r5 n5=>?_⟩
   obtain ⟨sG,k5,PG⟩:=PF.put n5 (.lst (zbW (ts.map V.ref) none (some (k:Int))++[v]++zbW (ts.map V.ref) (some ((k:Int)+1)) none))
   generalize L2.upd Y4 r5 (.lst (zbW (ts.map V.ref) none (some (k:Int))++[v]++zbW (ts.map V.ref) (some ((k:Int)+1)) none))=Y5 at sG k5 PG ⊢
   have SX:=sC.trans (sD.trans (sE.trans (sF.trans sG)))
   have GX:=G.same (S.trans SX)
   have bv:=(A v (zbK ev)).same SX
   refine q _ _ _ (S.trans SX) PG (by omega) (zow k5 (by omega) (fun x hx=>?_) (.inl ⟨v,List.mem_append_left _ (List.mem_append_right _ (List.mem_singleton.mpr rfl)),bv⟩))
   rcases List.mem_append.mp hx with hx | hx
   ·rcases List.mem_append.mp hx with hx | hx
    ·exact GX.tru x (zdC hx)
    ·cases List.mem_singleton.mp hx
     exact ⟨_,bv⟩
   ·exact GX.tru x (zdC hx)
  ·exact zmu hw hw
 rintro σ' H' ⟨rfl,rfl,hw⟩
 unfold zcE
 simp_all only [zaJ,zaK,zac]
 refine ⟨by decide,fun r1 n1=>?_⟩
 obtain ⟨sC,k1,PC⟩:=PB.put n1 (.lst [])
 generalize L2.upd H' r1 (.lst [])=Y1 at sC k1 PC ⊢
 refine ⟨_,zaj _ _ _ _ _ (sC _ _ G3.hl),by decide,by decide,by rw [List.length_map];exact Nat.le_trans (show _≤42 by omega) (by decide),fun r2 n2=>?_⟩
 obtain ⟨sD,k2,PD⟩:=PC.put n2 (.lst (List.flatten [ts.map V.ref,ts.map V.ref,ts.map V.ref,ts.map V.ref,ts.map V.ref,ts.map V.ref,ts.map V.ref]))
 generalize L2.upd Y1 r2 (.lst (List.flatten [ts.map V.ref,ts.map V.ref,ts.map V.ref,ts.map V.ref,ts.map V.ref,ts.map V.ref,ts.map V.ref]))=Y2 at sD k2 PD ⊢
 have S2:=S.trans (sC.trans sD)
 refine ⟨_,.inl ⟨SqL.of (zaj _ _ _ _ _ (G.same S2).hl),fun r3 n3=>?_⟩⟩
 obtain ⟨sE,k3,PE⟩:=PD.put n3 (.tup (ts.map V.ref))
 generalize L2.upd Y2 r3 (.tup (ts.map V.ref))=Y3 at sE k3 PE ⊢
 refine ⟨by decide,fun r4 n4=>?_⟩
 obtain ⟨sF,k4,PF⟩:=PE.put n4 (.lst [.ref r1,.ref r2,.ref r3,.non])
 generalize L2.upd Y3 r4 (.lst [.ref r1,.ref r2,.ref r3,.non])=Y4 at sF k4 PF ⊢
 have SX:=sC.trans (sD.trans (sE.trans sF))
 have GX:=G.same (S.trans SX)
 refine ⟨_,.inl (SqL.of (zaj _ _ _ _ _ (SX _ _ h23))),_,SqL.of (zaj _ _ _ _ _ k4),?_⟩
 replace k1:=(sD.trans (sE.trans sF)) _ _ k1
 replace k2:=(sE.trans sF) _ _ k2
 replace k3:=sF _ _ k3
 have e4:w=20∨w=21∨w=22∨w=23:=by omega
 have t3:t+1+1+1≤t+3:=by omega
 rcases e4 with rfl | rfl | rfl | rfl
 ·exact ⟨_,rfl,q _ _ _ (S.trans SX) PF t3 (zow k1 (by decide) (fun x hx=>(nomatch hx)) (.inr (.inl rfl)))⟩
 ·have lf:(List.flatten [ts.map V.ref,ts.map V.ref,ts.map V.ref,ts.map V.ref,ts.map V.ref,ts.map V.ref,ts.map V.ref]).length=7*ts.length:=by
   simp only [List.flatten_cons,List.flatten_nil,List.length_append,List.length_map,List.length_nil]
   omega
  refine ⟨_,rfl,q _ _ _ (S.trans SX) PF t3 (zow k2 (by omega) (fun x hx=>?_) (.inr (.inr (by omega))))⟩
  simp only [List.flatten_cons,List.flatten_nil,List.append_nil,List.mem_append,or_self] at hx
  exact GX.tru x hx
 ·exact ⟨_,rfl,q _ _ _ (S.trans SX) PF t3 (.inl (.tup k3))⟩
 ·exact ⟨_,rfl,q _ _ _ (S.trans SX) PF t3 (.inl .non)⟩
theorem zaS:zaM ["_law_purse_here","_law_boxes_here","_law_far","_law_at","_law_cost","_law_hits","_law_of","_law_bent","_law_way"] ["_law_purse_here","_law_boxes_here"] (zan zdS):=⟨rfl,rfl,rfl,by decide +kernel,rfl,by decide +kernel,by decide +kernel⟩
theorem zgP (T:Txt K mg a):zdW P w K mg base CX0 2 a.f__law_no_boxes a.d__law_no_boxes ["_law_purse_here","_law_boxes_here"] zln:=by
 have G__law_draw:=zb2 (P:=P) (w:=w) (base:=base) T
 refine T.F__law_no_boxes.ok zaS (fun vs H Q E h=>?_) (fun cdv A outer s H vs Q E hr h=>?_)
 ·obtain ⟨p,c,l,t,ts,bs,rfl,hP,t1,G,q⟩:=h
  rfl
 obtain ⟨p,c,l,t,ts,bs,rfl,hP,t1,G,q⟩:=h
 exact ⟨zdT K,(zaf (zaB (i:=2) zaS.nd rfl (Or.inl rfl) (zaA zb0 zag (zap G__law_draw (hr.mono (by decide)) rfl T.m__law_draw T.F__law_draw.kp T.b__law_draw .nil za0 (zaa (pv 0) (zaa (zaA zkR zag zag) zad)))))
 (zaf (zaB (i:=3) zaS.nd rfl (Or.inl rfl) (zap G__law_draw (hr.mono (by decide)) rfl T.m__law_draw T.F__law_draw.kp T.b__law_draw .nil za0 (zaa (pv 0) (zaa (zao zaq rfl T.z_len PySem.boot_len (zaa (pv 1) zad)) zad))))
 (zaf (zfZ (zbZ za1 (pv 1) (pv 3) (fun _ _=>rfl)) (zgf rfl (za9 (zaF (i:=4) zaS.nd rfl (Or.inl rfl)) (za9 (zaF (i:=5) zaS.nd rfl (Or.inl rfl)) (za9 (zaF (i:=6) zaS.nd rfl (Or.inl rfl)) zeh)))))
 (zaf (zaB (i:=7) zaS.nd rfl (Or.inl rfl) (zaN (zaa (zca (zaa zag (zaa (pv 5) (zaa (pv 6) zad)))) (zaa (zca (zaa (pv 2) (zaa (pv 5) (zaa (pv 6) zad)))) (zaa (zca (zaa zag (zaa (pv 5) (zaa (pv 6) zad)))) (zaa (zca (zaa (zaA zeq (znr zi2 zag) (pv 2)) (zaa (pv 5) (zaa (pv 6) zad)))) (zaa (zca (zaa (pv 4) (zaa zag (zaa (pv 6) zad)))) (zaa (zca (zaa (pv 4) (zaa (zaA zb0 (pv 6) zag) (zaa (pv 6) zad)))) zad))))))))
 (zaf (zaB (i:=7) zaS.nd rfl (Or.inl rfl) (zaA zcV (pv 7) (zaN (zaa (zca (zaa (pv 4) (zaa (zaA zeq zag (pv 5)) (zaa (pv 6) zad)))) (zaa (zca (zaa (pv 4) (zaa zag (zaa zag zad)))) (zaa (zca (zaa (pv 4) (zaa (pv 5) (zaa (pv 2) zad)))) (zaa (zca (zaa (pv 4) (zaa zag (zaa zag zad)))) (zaa (zca (zaa (pv 4) (zaa (pv 5) zad))) zad))))))))
 (zaf (zbF (ze8 PySem.F.plainAttrs_list PySem.F.slot_list_append PySem.F.type_list_append zbU (pv 7) (zaa (zca (zaa (pv 4) (zaa (pv 5) (zaa (pv 6) (zaa zag zad))))) zad)))
 (zaf (zaB (i:=7) zaS.nd rfl (Or.inl rfl) (zaA zcV (pv 7) (zaN (zaa (zca (zaa zgZ (zaa zag (zaa zag zad)))) (zaa (zca (zaa (pv 4) (zaa zgZ (zaa (pv 6) zad)))) (zaa (zca (zaa (pv 4) (zaa zag (zaa zgZ zad)))) (zaa (zca (zaa zc6 (zaa (pv 5) (zaa (pv 6) zad)))) (zaa zgG (zaa (zaN (zaa (pv 4) (zaa (pv 5) (zaa (pv 6) zad)))) (zaa zag (zaa (zca zad) zad)))))))))))
 (zaf (zaB (i:=8) zaS.nd rfl (Or.inl rfl) (zap G__law_draw (hr.mono (by decide)) rfl T.m__law_draw T.F__law_draw.kp T.b__law_draw .nil za0 (zaa (pv 0) (zaa (zaA zb0 (zao zaq rfl T.z_len PySem.boot_len (zaa (pv 7) zad)) zag) zad))))
 (zaf (zbS (zcv (zbl zoT (pv 8) (zao zaq rfl T.z_len PySem.boot_len (zaa (pv 7) zad)) (zbH _)) (zam (zaY (zaA zcV (zaA zcV (zb6 zcL (pv 1) zcN (zcM (pv 3))) (zaN (zaa (zbZ za1 (pv 7) (pv 8) (fun _ _=>rfl)) zad))) (zb6 zcL (pv 1) (zcM (zaA zb0 (pv 3) zag)) zcN)))) zaQ))
 (zam (zaY (zbZ za1 (zaN (zaa (zaN zad) (zaa (zaA zrX (pv 1) zag) (zaa (zc1 zeu rfl T.z_tuple zfh (zaa (pv 1) zad)) (zaa zgG zad))))) (zaA zeq (pv 8) (zao zaq rfl T.z_len PySem.boot_len (zaa (pv 7) zad))) (fun _ _=>rfl))))))))))))),
  zg0 hP t1 G q⟩
def bdN (m:Int) (x:V):Prop:=(if m=0 then nn x else wi 0 m x)=false
def BadN (H:Hp) (v:V) (n:Nat) (m:Int):Prop:=NL H v∨∃ (a:Addr) (xs:List V),v=.ref a∧H a=some (.lst xs)∧xs.length≤900∧(∀ x∈xs,Tg H x)∧(xs.length≠n∨∃ x∈xs,bdN m x)
theorem zhy {m:Int} {x:V} (h1:nn x=false) (h2:wi 0 m x=false):bdN m x:=by
 unfold bdN
 split
 ·exact h1
 ·exact h2
theorem zpJ {m i:Int} (h:i<0):bdN m (.int i):=zhy (decide_eq_false (by omega)) (decide_eq_false (by omega))
theorem znU {m i:Int} (h0:0<m) (h:m<i):bdN m (.int i):=by
 unfold bdN
 rw [if_neg (by omega)]
 exact decide_eq_false (by omega)
def zoR (H:Hp) (m:Int) (xs:List V):Prop:=∀ x∈xs,Tg H x∧bdN m x
theorem zoR.nil {H:Hp} {m:Int}:zoR H m []:=fun _ h=>nomatch h
theorem zoR.cons {H:Hp} {m:Int} {x:V} {xs:List V} (t:Tg H x) (h:bdN m x) (hs:zoR H m xs):zoR H m (x::xs):=fun y hy=>(List.mem_cons.mp hy).elim (fun e=>e ▸ ⟨t,h⟩) (hs y)
theorem zoR.same {H H':Hp} {m:Int} {xs:List V} (h:zoR H m xs) (s:zaL H H'):zoR H' m xs:=fun x hx=>⟨(h x hx).1.same s,(h x hx).2⟩
theorem zmK {H:Hp} {ns:List Int}:∀ x∈ns.map V.int,Tg H x:=fun x hx=>by
 obtain ⟨i,_,rfl⟩:=List.mem_map.mp hx
 exact .int i
def zfF:Sp:=fun vs H Q _=>∃ (p c l:Addr) (t m:Int) (ns:List Int),vs=[.ref p,.ref l,.int m]∧Pur H p c t∧t<10000∧Off p c H l=some (.lst (ns.map V.int))∧1≤ns.length∧ns.length≤6∧(m=0∨m=60) ∧
 ∀ (v:V) (t':Int) (H':Hp),zaL (Off p c H) (Off p c H')→Pur H' p c t'→t'≤t+3→BadN (Off p c H') v ns.length m→Q v H'
def zcj (K:PySem.W.Frag):TS :=
 (zcu (tOp (zcO K) (zbX (zab (tSl (zfl K) (zac 1) (zcP (tC (.int 1))) zaZ) (zab (tOp zel (zac 1) (zbX (zab (tC (.int 1)) zah))) (zab (zbX zah) (zab (tCB (fun xs H Q=>∃ p ys,xs=[.ref p]∧((SqL K H p ys∧∀ l,H l=none→Q (.ref l) (upd H l (.tup ys)))∨(SqT K H p ys∧Q (.ref p) H))) (zab (zac 1) zah)) (zab (tC .non) (zab (tC (.int 7)) zah))))))) (tOp (rI0 fun i j=>.int (i - j)) (zac 6) (tCB (fun xs H Q=>∃ p ys,xs=[.ref p]∧(SqL K H p ys∨SqT K H p ys)∧Q (.int ys.length) H) (zab (zac 5) zah)))))
theorem zbn (K:PySem.W.Frag) (D:zb5) (σ:St) (H:Hp):zcj K D σ H=(zcu (tOp (zcO K) (zbX (zab (tSl (zfl K) (zac 1) (zcP (tC (.int 1))) zaZ) (zab (tOp zel (zac 1) (zbX (zab (tC (.int 1)) zah))) (zab (zbX zah) (zab (tCB (fun xs H Q=>∃ p ys,xs=[.ref p]∧((SqL K H p ys∧∀ l,H l=none→Q (.ref l) (upd H l (.tup ys)))∨(SqT K H p ys∧Q (.ref p) H))) (zab (zac 1) zah)) (zab (tC .non) (zab (tC (.int 7)) zah))))))) (tOp (rI0 fun i j=>.int (i - j)) (zac 6) (tCB (fun xs H Q=>∃ p ys,xs=[.ref p]∧(SqL K H p ys∨SqT K H p ys)∧Q (.int ys.length) H) (zab (zac 5) zah))))) D σ H:=rfl
def zcd (K:PySem.W.Frag):TS :=
 (zcw (za8 (tOp (rI0 fun i j=>.bl (decide (i<j))) (zac 6) (tCB (fun xs H Q=>∃ p ys,xs=[.ref p]∧(SqL K H p ys∨SqT K H p ys)∧Q (.int ys.length) H) (zab (zac 5) zah)))) (zcu (tOp zel (tOp zel (tSl (zfl K) (zac 1) zaZ (zcP (zac 3))) (zbX (zab (tOp (zcO K) (zac 5) (zac 6)) zah))) (tSl (zfl K) (zac 1) (zcP (tOp (rI0 fun i j=>.int (i+j)) (zac 3) (tC (.int 1)))) zaZ))) zaR)
theorem zbo (K:PySem.W.Frag) (D:zb5) (σ:St) (H:Hp):zcd K D σ H=(zcw (za8 (tOp (rI0 fun i j=>.bl (decide (i<j))) (zac 6) (tCB (fun xs H Q=>∃ p ys,xs=[.ref p]∧(SqL K H p ys∨SqT K H p ys)∧Q (.int ys.length) H) (zab (zac 5) zah)))) (zcu (tOp zel (tOp zel (tSl (zfl K) (zac 1) zaZ (zcP (zac 3))) (zbX (zab (tOp (zcO K) (zac 5) (zac 6)) zah))) (tSl (zfl K) (zac 1) (zcP (tOp (rI0 fun i j=>.int (i+j)) (zac 3) (tC (.int 1)))) zaZ))) zaR) D σ H:=rfl
def zcU (K:PySem.W.Frag):TS :=
 (zaG (za5 (zat zaO [] E0 (zab (zac 0) (zab (tOp (rI0 fun i j=>.int (i+j)) (tCB (fun xs H Q=>∃ p ys,xs=[.ref p]∧(SqL K H p ys∨SqT K H p ys)∧Q (.int ys.length) H) (zab (zac 5) zah)) (tC (.int 6))) zah))) (zak 6))
 (zaG (zc0 (zcd K))
 (zcj K)))
theorem zbp (K:PySem.W.Frag) (D:zb5) (σ:St) (H:Hp):zcU K D σ H=(zaG (za5 (zat zaO [] E0 (zab (zac 0) (zab (tOp (rI0 fun i j=>.int (i+j)) (tCB (fun xs H Q=>∃ p ys,xs=[.ref p]∧(SqL K H p ys∨SqT K H p ys)∧Q (.int ys.length) H) (zab (zac 5) zah)) (tC (.int 6))) zah))) (zak 6))
 (zaG (zc0 (zcd K))
 (zcj K))) D σ H:=rfl
def zcT:TS :=
 (zcw (za8 (tOp (rI0 fun i j=>.bl (decide (j<i))) (zac 2) (tC (.int 0)))) (za5 (tOp zel (zac 5) (zbX (zab (tOp (rI0 fun i j=>.int (i+j)) (zac 2) (tC (.int 1))) (zab (zac 4) zah)))) (zak 5)) zaR)
theorem zbm (D:zb5) (σ:St) (H:Hp):zcT D σ H=(zcw (za8 (tOp (rI0 fun i j=>.bl (decide (j<i))) (zac 2) (tC (.int 0)))) (za5 (tOp zel (zac 5) (zbX (zab (tOp (rI0 fun i j=>.int (i+j)) (zac 2) (tC (.int 1))) (zab (zac 4) zah)))) (zak 5)) zaR) D σ H:=rfl
def zdk (K:PySem.W.Frag):TS :=
 (zaG (za5 (zat zaO [] E0 (zab (zac 0) (zab (tCB (fun xs H Q=>∃ p ys,xs=[.ref p]∧(SqL K H p ys∨SqT K H p ys)∧Q (.int ys.length) H) (zab (zac 1) zah)) zah))) (zak 3))
 (zaG (za5 (tOp (rI0 fun i j=>.int (i+j)) (tOp (rI0 fun i j=>.int (i+j)) (zac 2) (tC (.int 1))) (zat zaO [] E0 (zab (zac 0) (zab (tOp (rI znN fun i j=>.int (i ^ j.toNat)) (tC (.int 10)) (tC (.int 28))) zah)))) (zak 4))
 (zaG (za5 (zbX (zab (tUn (rU fun i=>.int (-i)) (tC (.int 1))) (zab (tOp (rI0 fun i j=>.int (i - j)) (tC (.int 0)) (zac 4)) (zab (tC (.bl true)) (zab (tC (.bl false)) (zab (tC .non) (zab (tC (.str "1")) (zab (zds (zab (tC (.int 1)) zah)) (zab (zbX (zab (tC (.int 1)) zah)) zah))))))))) (zak 5))
 (zaG (zc0 (zcT))
 (zcU K)))))
theorem zfL {p c l:Addr} {t m:Int} {ns:List Int} (P:Pur H p c t) (t1:t<10000) (hl:Off p c H l=some (.lst (ns.map V.int))) (n1:1≤ns.length) (n6:ns.length≤6) (hm:m=0∨m=60)
  (q:∀ (v:V) (t':Int) (H':Hp),zaL (Off p c H) (Off p c H')→Pur H' p c t'→t'≤t+3→BadN (Off p c H') v ns.length m→Q v H') :
  zdk K { nx:=fun _ H'=>Q .non H',rt:=Q } (L2.zb1 ["_law_purse_here","_law_numbers","_law_most","_law_at","_law_far","_law_things","_law_way"] [.ref p,.ref l,.int m]) H:=by
 unfold zdk
 have t0:=P.t0
 simp_all only [zbn,zbo,zbp,zbm,zac]
 refine ⟨_,.inl (SqL.of (zaj _ _ _ _ _ hl)),?_⟩
 refine ⟨p,c,t,_,rfl,P,by omega,by rw [List.length_map];omega,by rw [List.length_map];omega,fun at_ H1 a0 a1 o1 P1=>?_⟩
 rw [List.length_map] at a1
 have s1:=zcr o1
 refine ⟨pow28,?_⟩
 refine ⟨p,c,t+1,_,rfl,P1,by omega,by decide,by decide,fun f H2 f0 f1 o2 P2=>?_⟩
 have S:=s1.trans (zcr o2)
 obtain ⟨k,rfl⟩:∃ k:Nat,at_=k:=⟨at_.toNat,by omega⟩
 refine ⟨f,rfl,by decide,fun q1 e1=>?_⟩
 obtain ⟨s3,h1,P3⟩:=P2.put e1 (.tup [.int 1])
 generalize L2.upd H2 q1 (.tup [.int 1])=X1 at s3 h1 P3 ⊢
 refine ⟨by decide,fun q2 e2=>?_⟩
 obtain ⟨s4,h2,P4⟩:=P3.put e2 (.lst [.int 1])
 generalize L2.upd X1 q2 (.lst [.int 1])=X2 at s4 h2 P4 ⊢
 refine ⟨by decide,fun q3 e3=>?_⟩
 obtain ⟨s5,h3,P5⟩:=P4.put e3 (.lst [.int (-1),.int (0 - (m+1+f)),.bl true,.bl false,.non,.str "1",.ref q1,.ref q2])
 generalize L2.upd X2 q3 (.lst [.int (-1),.int (0 - (m+1+f)),.bl true,.bl false,.non,.str "1",.ref q1,.ref q2])=X3 at s5 h3 P5 ⊢
 replace h1:=(s4.trans s5) _ _ h1
 replace h2:=s5 _ _ h2
 replace S:=S.trans (s3.trans (s4.trans s5))
 have m0:0≤m:=by rcases hm with rfl | rfl <;> decide
 have A:zoR (Off p c X3) m [.int (-1),.int (0 - (m+1+f)),.bl true,.bl false,.non,.str "1",.ref q1,.ref q2] :=
  .cons (.int _) (zpJ (by decide)) (.cons (.int _) (zpJ (by omega)) (.cons (.bl _) (zhy rfl rfl) (.cons (.bl _) (zhy rfl rfl) (.cons .non (zhy rfl rfl) (.cons (.str _) (zhy rfl rfl) (.cons (.tup h1) (zhy rfl rfl) (.cons (.lst h2) (zhy rfl rfl) .nil)))))))
 unfold zc0
 refine ⟨fun σ' H'=>∃ (b:Addr) (xs:List V),σ'=[some (V.ref p),some (V.ref l),some (V.int m),some (V.int k),some (.int (m+1+f)),some (.ref b),none]∧zaL (Off p c H) (Off p c H')∧Pur H' p c (t+1+1)∧Off p c H' b=some (.lst xs)∧zoR (Off p c H') m xs∧1≤xs.length∧xs.length≤10,?_,?_⟩
 ·unfold zcT
  simp_all only [zbn,zbo,zbp,zbm,zac]
  by_cases hm0:0<m
  ·refine ztY hm0 ?_
   refine ⟨by decide,fun q4 e4=>?_⟩
   obtain ⟨s6,h4,P6⟩:=P5.put e4 (.lst [.int (m+1),.int (m+1+f)])
   generalize L2.upd X3 q4 (.lst [.int (m+1),.int (m+1+f)])=X4 at s6 h4 P6 ⊢
   refine ⟨_,zaj _ _ _ _ _ (s6 _ _ h3),_,zaj _ _ _ _ _ h4,by show 10≤sizeLine;decide,fun q5 e5=>?_⟩
   simp only [List.cons_append,List.nil_append] at e5 ⊢
   obtain ⟨s7,h5,P7⟩:=P6.put e5 (.lst [.int (-1),.int (0 - (m+1+f)),.bl true,.bl false,.non,.str "1",.ref q1,.ref q2,.int (m+1),.int (m+1+f)])
   generalize L2.upd X4 q5 (.lst [.int (-1),.int (0 - (m+1+f)),.bl true,.bl false,.non,.str "1",.ref q1,.ref q2,.int (m+1),.int (m+1+f)])=X5 at s7 h5 P7 ⊢
   refine ⟨S.trans (s6.trans s7),P7,_,h5,?_,(by show 1≤10;decide),(by show 10≤10;decide)⟩
   intro x hx
   rcases List.mem_append.mp (show x∈[.int (-1),.int (0 - (m+1+f)),.bl true,.bl false,.non,.str "1",.ref q1,.ref q2]++[.int (m+1),.int (m+1+f)] from hx) with hx | hx
   ·exact (A.same (s6.trans s7)) x hx
   ·exact (zoR.cons (.int _) (znU hm0 (by omega)) (.cons (.int _) (znU hm0 (by omega)) .nil)) x hx
  ·exact zmu hm0 ⟨S,P5,_,h3,A,(by show 1≤8;decide),(by show 8≤10;decide)⟩
 rintro σ' X4 ⟨b,xs,rfl,S',P6,hb,A',x1,x10⟩
 clear A h1 h2 h3 S s1 s3 s4 s5
 unfold zcU
 simp_all only [zbn,zbo,zbp,zbm,zac]
 refine ⟨_,.inl (SqL.of (zaj _ _ _ _ _ hb)),?_⟩
 refine ⟨p,c,t+1+1,_,rfl,P6,by omega,by omega,by omega,fun w H3 w0 w1 o3 PB=>?_⟩
 have sB:=zcr o3
 replace S':=S'.trans sB
 replace A':=A'.same sB
 replace hb:=sB _ _ hb
 have t3:t+1+1+1≤t+3:=by omega
 have hl3:=S' _ _ hl
 unfold zc0
 refine ⟨fun σ' H'=>σ'=[some (V.ref p),some (V.ref l),some (V.int m),some (V.int k),some (.int (m+1+f)),some (.ref b),some (.int w)]∧H'=H3∧¬ w<(xs.length:Int),?_,?_⟩
 ·unfold zcd
  simp_all only [zbn,zbo,zbp,zbm,zac]
  refine ⟨_,.inl (SqL.of (zaj _ _ _ _ _ hb)),?_⟩
  by_cases hw:w<(xs.length:Int)
  ·refine ztY hw ?_
   obtain ⟨j,rfl⟩:∃ j:Nat,w=j:=⟨w.toNat,by omega⟩
   refine ⟨_,SqL.of (zaj _ _ _ _ _ hl3),fun r1 n1'=>?_⟩
   obtain ⟨sC,k1,PC⟩:=PB.put n1' (.lst (zbW (ns.map V.int) none (some (k:Int))))
   generalize L2.upd H3 r1 (.lst (zbW (ns.map V.int) none (some (k:Int))))=Y1 at sC k1 PC ⊢
   obtain ⟨v,ev⟩:∃ v,xs[j]?=some v:=⟨_,List.getElem?_eq_getElem (show j<xs.length by omega)⟩
   refine ⟨_,SqL.of (zaj _ _ _ _ _ (sC _ _ hb)),v,zcq ev,by decide,fun r2 n2=>?_⟩
   obtain ⟨sD,k2,PD⟩:=PC.put n2 (.lst [v])
   generalize L2.upd Y1 r2 (.lst [v])=Y2 at sD k2 PD ⊢
   have c1:(zbW (ns.map V.int) none (some (k:Int))).length≤6:=Nat.le_trans (zdP _ _ _) (by rw [List.length_map];omega)
   have c2:(zbW (ns.map V.int) (some ((k:Int)+1)) none).length≤6:=Nat.le_trans (zdP _ _ _) (by rw [List.length_map];omega)
   refine ⟨_,zaj _ _ _ _ _ (sD _ _ k1),_,zaj _ _ _ _ _ k2,by show _+1≤sizeLine;exact Nat.le_trans (Nat.add_le_add_right c1 1) (by decide),fun r3 n3=>?_⟩
   obtain ⟨sE,k3,PE⟩:=PD.put n3 (.lst (zbW (ns.map V.int) none (some (k:Int))++[v]))
   generalize L2.upd Y2 r3 (.lst (zbW (ns.map V.int) none (some (k:Int))++[v]))=Y3 at sE k3 PE ⊢
   refine ⟨_,SqL.of (zaj _ _ _ _ _ ((sC.trans (sD.trans sE)) _ _ hl3)),fun r4 n4=>?_⟩
   obtain ⟨sF,k4,PF⟩:=PE.put n4 (.lst (zbW (ns.map V.int) (some ((k:Int)+1)) none))
   generalize L2.upd Y3 r4 (.lst (zbW (ns.map V.int) (some ((k:Int)+1)) none))=Y4 at sF k4 PF ⊢
   have lX:(zbW (ns.map V.int) none (some (k:Int))++[v]++zbW (ns.map V.int) (some ((k:Int)+1)) none).length≤13:=by
    rw [List.length_append,List.length_append]
    show _+1+_≤13
    omega
   refine ⟨_,zaj _ _ _ _ _ (sF _ _ k3),_,zaj _ _ _ _ _ k4,by rw [← List.length_append];exact Nat.le_trans lX (by decide),fun r5 n5=>?_⟩
   obtain ⟨sG,k5,PG⟩:=PF.put n5 (.lst (zbW (ns.map V.int) none (some (k:Int))++[v]++zbW (ns.map V.int) (some ((k:Int)+1)) none))
   generalize L2.upd Y4 r5 (.lst (zbW (ns.map V.int) none (some (k:Int))++[v]++zbW (ns.map V.int) (some ((k:Int)+1)) none))=Y5 at sG k5 PG ⊢
   have SX:=sC.trans (sD.trans (sE.trans (sF.trans sG)))
   have bv:=(A'.same SX) v (zbK ev)
   refine q _ _ _ (S'.trans SX) PG t3 (.inr ⟨r5,_,rfl,k5,by omega,fun x hx=>?_,.inr ⟨v,List.mem_append_left _ (List.mem_append_right _ (List.mem_singleton.mpr rfl)),bv.2⟩⟩)
   rcases List.mem_append.mp hx with hx | hx
   ·rcases List.mem_append.mp hx with hx | hx
    ·exact zmK x (zdC hx)
    ·cases List.mem_singleton.mp hx
     exact bv.1
   ·exact zmK x (zdC hx)
  ·exact zmu hw hw
 rintro σ' H' ⟨rfl,rfl,hw⟩
 unfold zcj
 simp_all only [zbn,zbo,zbp,zbm,zac]
 refine ⟨_,SqL.of (zaj _ _ _ _ _ hl3),fun r1 n1'=>?_⟩
 obtain ⟨sC,k1,PC⟩:=PB.put n1' (.lst (zbW (ns.map V.int) (some 1) none))
 generalize L2.upd H' r1 (.lst (zbW (ns.map V.int) (some 1) none))=Y1 at sC k1 PC ⊢
 refine ⟨by decide,fun r2 n2=>?_⟩
 obtain ⟨sD,k2,PD⟩:=PC.put n2 (.lst [.int 1])
 generalize L2.upd Y1 r2 (.lst [.int 1])=Y2 at sD k2 PD ⊢
 refine ⟨_,zaj _ _ _ _ _ ((sC.trans sD) _ _ hl3),_,zaj _ _ _ _ _ k2,by rw [List.length_map];exact Nat.le_trans (Nat.add_le_add_right n6 1) (by decide),fun r3 n3=>?_⟩
 obtain ⟨sE,k3,PE⟩:=PD.put n3 (.lst (ns.map V.int++[.int 1]))
 generalize L2.upd Y2 r3 (.lst (ns.map V.int++[.int 1]))=Y3 at sE k3 PE ⊢
 refine ⟨by decide,fun r4 n4=>?_⟩
 obtain ⟨sF,k4,PF⟩:=PE.put n4 (.lst [])
 generalize L2.upd Y3 r4 (.lst [])=Y4 at sF k4 PF ⊢
 refine ⟨_,.inl ⟨SqL.of (zaj _ _ _ _ _ ((sC.trans (sD.trans (sE.trans sF))) _ _ hl3)),fun r5 n5=>?_⟩⟩
 obtain ⟨sG,k5,PG⟩:=PF.put n5 (.tup (ns.map V.int))
 generalize L2.upd Y4 r5 (.tup (ns.map V.int))=Y5 at sG k5 PG ⊢
 refine ⟨by decide,fun r6 n6'=>?_⟩
 obtain ⟨sJ,k6,PJ⟩:=PG.put n6' (.lst [.ref r1,.ref r3,.ref r4,.ref r5,.non,.int 7])
 generalize L2.upd Y5 r6 (.lst [.ref r1,.ref r3,.ref r4,.ref r5,.non,.int 7])=Y6 at sJ k6 PJ ⊢
 have SX:=sC.trans (sD.trans (sE.trans (sF.trans (sG.trans sJ))))
 refine ⟨_,.inl (SqL.of (zaj _ _ _ _ _ (SX _ _ hb))),_,SqL.of (zaj _ _ _ _ _ k6),?_⟩
 replace k1:=(sD.trans (sE.trans (sF.trans (sG.trans sJ)))) _ _ k1
 replace k3:=(sF.trans (sG.trans sJ)) _ _ k3
 replace k4:=(sG.trans sJ) _ _ k4
 replace k5:=sJ _ _ k5
 obtain ⟨j,rfl⟩:∃ j:Nat,w=(xs.length:Int)+j:=⟨(w - xs.length).toNat,by omega⟩
 rw [show ((xs.length:Int)+(j:Int) - (xs.length:Int))=(j:Int) by omega]
 have j6:j<6:=by omega
 have e6:j=0∨j=1∨j=2∨j=3∨j=4∨j=5:=by omega
 have SY:=S'.trans SX
 rcases e6 with rfl | rfl | rfl | rfl | rfl | rfl
 ·refine ⟨_,rfl,q _ _ _ SY PJ t3 (.inr ⟨_,_,rfl,k1,?_,fun x hx=>zmK x (zdC hx),.inl ?_⟩)⟩
  ·have:=zdP (ns.map V.int) (some 1) none
   rw [List.length_map] at this
   omega
  ·have:(zbW (ns.map V.int) (some ((1:Nat):Int)) none).length=ns.length - 1:=by
    rw [zf6,List.length_drop,List.length_map]
   show ¬ _=_
   intro z
   have:=this.symm.trans z
   omega
 ·refine ⟨_,rfl,q _ _ _ SY PJ t3 (.inr ⟨_,_,rfl,k3,?_,fun x hx=>?_,.inl ?_⟩)⟩
  ·rw [List.length_append,List.length_map]
   show _+1≤900
   omega
  ·rcases List.mem_append.mp hx with hx | hx
   ·exact zmK x hx
   ·cases List.mem_singleton.mp hx
    exact .int _
  ·rw [List.length_append,List.length_map]
   show _+1≠_
   omega
 ·exact ⟨_,rfl,q _ _ _ SY PJ t3 (.inr ⟨_,_,rfl,k4,by decide,fun x hx=>(nomatch hx),.inl (by show 0≠_;omega)⟩)⟩
 ·exact ⟨_,rfl,q _ _ _ SY PJ t3 (.inl (.tup k5))⟩
 ·exact ⟨_,rfl,q _ _ _ SY PJ t3 (.inl .non)⟩
 ·exact ⟨_,rfl,q _ _ _ SY PJ t3 (.inl (.int 7))⟩
theorem zbI:zaM ["_law_purse_here","_law_numbers","_law_most","_law_at","_law_far","_law_things","_law_way"] ["_law_purse_here","_law_numbers","_law_most"] (zan zde):=⟨rfl,rfl,rfl,by decide +kernel,rfl,by decide +kernel,by decide +kernel⟩
theorem zfK (T:Txt K mg a):zdW P w K mg base CX0 2 a.f__law_no_numbers a.d__law_no_numbers ["_law_purse_here","_law_numbers","_law_most"] zfF:=by
 have G__law_draw:=zb2 (P:=P) (w:=w) (base:=base) T
 refine T.F__law_no_numbers.ok zbI (fun vs H Q E h=>?_) (fun cdv A outer s H vs Q E hr h=>?_)
 ·obtain ⟨p,c,l,t,m,ns,rfl,hP,t1,hl,n1,n6,hm,q⟩:=h
  rfl
 obtain ⟨p,c,l,t,m,ns,rfl,hP,t1,hl,n1,n6,hm,q⟩:=h
 exact ⟨zdk K,(zaf (zaB (i:=3) zbI.nd rfl (Or.inl rfl) (zap G__law_draw (hr.mono (by decide)) rfl T.m__law_draw T.F__law_draw.kp T.b__law_draw .nil za0 (zaa (pv 0) (zaa (zao zaq rfl T.z_len PySem.boot_len (zaa (pv 1) zad)) zad))))
 (zaf (zaB (i:=4) zbI.nd rfl (Or.inl rfl) (zaA zb0 (zaA zb0 (pv 2) zag) (zap G__law_draw (hr.mono (by decide)) rfl T.m__law_draw T.F__law_draw.kp T.b__law_draw .nil za0 (zaa (pv 0) (zaa (zaA zkR zag zag) zad)))))
 (zaf (zaB (i:=5) zbI.nd rfl (Or.inl rfl) (zaN (zaa (znr zi2 zag) (zaa (zaA zeq zag (pv 4)) (zaa zgZ (zaa zgZ (zaa zgG (zaa zc6 (zaa (zca (zaa zag zad)) (zaa (zaN (zaa zag zad)) zad))))))))))
 (zaf (zbS (zcv (zbl ztx (pv 2) zag (zbH _)) (zam (zaB (i:=5) zbI.nd rfl (Or.inl rfl) (zaA zcV (pv 5) (zaN (zaa (zaA zb0 (pv 2) zag) (zaa (pv 4) zad)))))) zaQ))
 (zaf (zaB (i:=6) zbI.nd rfl (Or.inl rfl) (zap G__law_draw (hr.mono (by decide)) rfl T.m__law_draw T.F__law_draw.kp T.b__law_draw .nil za0 (zaa (pv 0) (zaa (zaA zb0 (zao zaq rfl T.z_len PySem.boot_len (zaa (pv 5) zad)) zag) zad))))
 (zaf (zbS (zcv (zbl zoT (pv 6) (zao zaq rfl T.z_len PySem.boot_len (zaa (pv 5) zad)) (zbH _)) (zam (zaY (zaA zcV (zaA zcV (zb6 zcL (pv 1) zcN (zcM (pv 3))) (zaN (zaa (zbZ za1 (pv 5) (pv 6) (fun _ _=>rfl)) zad))) (zb6 zcL (pv 1) (zcM (zaA zb0 (pv 3) zag)) zcN)))) zaQ))
 (zam (zaY (zbZ za1 (zaN (zaa (zb6 zcL (pv 1) (zcM zag) zcN) (zaa (zaA zcV (pv 1) (zaN (zaa zag zad))) (zaa (zaN zad) (zaa (zc1 zeu rfl T.z_tuple zfh (zaa (pv 1) zad)) (zaa zgG (zaa zag zad))))))) (zaA zeq (pv 6) (zao zaq rfl T.z_len PySem.boot_len (zaa (pv 5) zad))) (fun _ _=>rfl)))))))))),
  zfL hP t1 hl n1 n6 hm q⟩
open HT in
theorem zg6 (xs:List V) (k:Nat):zbW xs none (some (k:Int))=xs.take k:=by
 unfold zbW
 rw [zmt,zjW,List.drop_zero,Nat.sub_zero]
 by_cases c:k≤xs.length
 ·rw [Nat.min_eq_left c]
 ·rw [Nat.min_eq_right (by omega),List.take_of_length_le (Nat.le_refl _),List.take_of_length_le (by omega)]
theorem zqf {l m i:Int} (h:i<l∨m<i):wi l m (.int i)=false:=decide_eq_false (by omega)
theorem zo1 {ns:List Int} {xs:List V} {x:V} (hx:x∈xs) (h:wi 0 ((ns.length:Int) - 1) x=false):gO ns xs=false:=by
 rw [Bool.eq_false_iff]
 intro z
 unfold gO at z
 rw [Bool.and_eq_true] at z
 have:=List.all_eq_true.mp z.1 x hx
 rw [h] at this
 cases this
theorem zor {ns:List Int} {xs:List V} {os:List Nat} (g:gO ns xs=true) (O:zjm os ns):∃ os':List Nat,xs=za7 os'∧os'.Perm os:=by
 unfold gO at g
 rw [Bool.and_eq_true,decide_eq_true_eq] at g
 obtain ⟨is,rfl⟩:=zfx g.1
 have hi:∀ i∈is,0≤i∧i≤(ns.length:Int) - 1:=fun i h=>of_decide_eq_true (List.all_eq_true.mp g.1 _ (List.mem_map_of_mem h))
 have e:is.map V.int=za7 (is.map Int.toNat):=by
  unfold za7
  rw [List.map_map]
  refine List.map_congr_left fun i h=>?_
  show V.int i=V.int ((i.toNat:Nat):Int)
  rw [Int.toNat_of_nonneg (hi i h).1]
 refine ⟨_,e,List.perm_iff_count.mpr fun k=>?_⟩
 rcases Nat.lt_or_ge k ns.length with h | h
 ·have e1:ns[k]?=some ns[k]:=List.getElem?_eq_getElem h
  have e2:((List.range ns.length).map fun k:Nat=>(((is.map V.int).countP fun z=>eqV z (V.int (k:Int)):Nat):Int))[k]?=some ns[k]:=by
   rw [g.2]
   exact e1
  rw [List.getElem?_map,List.getElem?_range h] at e2
  have e3:(((is.map V.int).countP (fun z=>eqV z (V.int (k:Int))):Nat):Int)=ns[k]:=Option.some.inj e2
  rw [e,zkO] at e3
  have e4:=O.cnt k _ e1
  omega
 ·rw [List.count_eq_zero.mpr,List.count_eq_zero.mpr]
  ·intro z
   have:=O.lt k z
   omega
  ·intro z
   obtain ⟨i,h1,h2⟩:=List.mem_map.mp z
   have:=hi i h1
   omega
theorem zkY {ns:List Int} {xs:List V} {os:List Nat} (O:zjm os ns) (h:xs.length≠os.length):gO ns xs=false:=by
 rw [Bool.eq_false_iff]
 intro z
 obtain ⟨os',rfl,p⟩:=zor z O
 unfold za7 at h
 rw [List.length_map] at h
 exact h p.length_eq
theorem zqS {a b:List Nat} (h:za7 a=za7 b):a=b:=by
 unfold za7 at h
 exact List.map_inj_right (fun x y e=>by cases e;rfl) |>.mp h
theorem zsy {ns:List Int} {os:List Nat} (O:zjm os ns) {i x y:Nat} (e:os[i]?=some x) (h:x≠y):gO ns ((za7 os).take i++[V.int (y:Int)]++(za7 os).drop (i+1))=false:=by
 rw [Bool.eq_false_iff]
 intro z
 have e2:(za7 os).take i++[V.int (y:Int)]++(za7 os).drop (i+1)=za7 (os.take i++[y]++os.drop (i+1)):=by
  unfold za7
  rw [List.map_append,List.map_append,List.map_take,List.map_drop]
  rfl
 rw [e2] at z
 obtain ⟨os',e3,p⟩:=zor z O
 cases zqS e3
 have e4:os=os.take i++[x]++os.drop (i+1):=by
  obtain ⟨hi,e5⟩:=List.getElem?_eq_some_iff.mp e
  rw [List.append_assoc,← e5,List.singleton_append,List.getElem_cons_drop,List.take_append_drop]
 rw [List.append_assoc] at p
 have p2:(os.take i++([y]++os.drop (i+1))).Perm (os.take i++([x]++os.drop (i+1))):=by
  rw [← List.append_assoc (os.take i) [x],← e4]
  exact p
 have p3:=(List.perm_append_right_iff _).mp ((List.perm_append_left_iff _).mp p2)
 have:=p3.mem_iff.mp (List.mem_singleton.mpr rfl)
 exact h (List.mem_singleton.mp this).symm
theorem zfQ {H:Hp} {os:List Nat}:∀ x∈za7 os,Tg H x:=fun x hx=>by
 obtain ⟨i,_,rfl⟩:=List.mem_map.mp hx
 exact .int _
def zk9:Sp:=fun vs H Q _=>∃ (p c l:Addr) (t:Int) (ns:List Int) (os:List Nat),vs=[.ref p,.ref l,.int (ns.length:Int)]∧Pur H p c t∧t<10000∧Off p c H l=some (.lst (za7 os))∧zjm os ns∧1≤ns.length∧ns.length≤6 ∧
 ∀ (v:V) (t':Int) (H':Hp),zaL (Off p c H) (Off p c H')→Pur H' p c t'→t'≤t+6→zlu (Off p c H') v ns→Q v H'
def zdd (K:PySem.W.Frag):TS :=
 (zcu (tOp zel (tOp zel (tSl (zfl K) (zac 1) zaZ (zcP (zac 8))) (zbX (zab (zac 9) zah))) (tSl (zfl K) (zac 1) (zcP (tOp (rI0 fun i j=>.int (i+j)) (zac 8) (tC (.int 1)))) zaZ)))
theorem zbj (K:PySem.W.Frag) (D:zb5) (σ:St) (H:Hp):zdd K D σ H=(zcu (tOp zel (tOp zel (tSl (zfl K) (zac 1) zaZ (zcP (zac 8))) (zbX (zab (zac 9) zah))) (tSl (zfl K) (zac 1) (zcP (tOp (rI0 fun i j=>.int (i+j)) (zac 8) (tC (.int 1)))) zaZ))) D σ H:=rfl
def zb8 (K:PySem.W.Frag):TS :=
 (zcu (tOp (zcO K) (zac 7) (tOp (rI (fun _ j=>0<j) fun i j=>.int (i % j)) (tOp (rI0 fun i j=>.int (i - j)) (zac 6) (tCB (fun xs H Q=>∃ p ys,xs=[.ref p]∧(SqL K H p ys∨SqT K H p ys)∧Q (.int ys.length) H) (zab (zac 5) zah))) (tC (.int 7)))))
theorem zax (K:PySem.W.Frag) (D:zb5) (σ:St) (H:Hp):zb8 K D σ H=(zcu (tOp (zcO K) (zac 7) (tOp (rI (fun _ j=>0<j) fun i j=>.int (i % j)) (tOp (rI0 fun i j=>.int (i - j)) (zac 6) (tCB (fun xs H Q=>∃ p ys,xs=[.ref p]∧(SqL K H p ys∨SqT K H p ys)∧Q (.int ys.length) H) (zab (zac 5) zah))) (tC (.int 7))))) D σ H:=rfl
def zcI (K:PySem.W.Frag):TS :=
 (zcw (zpP (za8 (tOp rEq (zac 6) (tOp (rI0 fun i j=>.int (i+j)) (tCB (fun xs H Q=>∃ p ys,xs=[.ref p]∧(SqL K H p ys∨SqT K H p ys)∧Q (.int ys.length) H) (zab (zac 5) zah)) (tC (.int 8))))) (zpP (za8 (tOp (zt4 K) (zac 1) (zbX zah))) (za8 (tOp (rI0 fun i j=>.bl (decide (j<i))) (zac 2) (tC (.int 1)))))) (zaG (za5 (tOp (rI (fun _ j=>j≠0) fun i j=>.int (i.fmod j)) (tOp (rI0 fun i j=>.int (i+j)) (tOp (rI0 fun i j=>.int (i+j)) (tOp (zcO K) (zac 1) (zac 8)) (tC (.int 1))) (zat zaO [] E0 (zab (zac 0) (zab (tOp (rI0 fun i j=>.int (i - j)) (zac 2) (tC (.int 1))) zah)))) (zac 2)) (zak 9))
 (zdd K)) zaR)
theorem zaz (K:PySem.W.Frag) (D:zb5) (σ:St) (H:Hp):zcI K D σ H=(zcw (zpP (za8 (tOp rEq (zac 6) (tOp (rI0 fun i j=>.int (i+j)) (tCB (fun xs H Q=>∃ p ys,xs=[.ref p]∧(SqL K H p ys∨SqT K H p ys)∧Q (.int ys.length) H) (zab (zac 5) zah)) (tC (.int 8))))) (zpP (za8 (tOp (zt4 K) (zac 1) (zbX zah))) (za8 (tOp (rI0 fun i j=>.bl (decide (j<i))) (zac 2) (tC (.int 1)))))) (zaG (za5 (tOp (rI (fun _ j=>j≠0) fun i j=>.int (i.fmod j)) (tOp (rI0 fun i j=>.int (i+j)) (tOp (rI0 fun i j=>.int (i+j)) (tOp (zcO K) (zac 1) (zac 8)) (tC (.int 1))) (zat zaO [] E0 (zab (zac 0) (zab (tOp (rI0 fun i j=>.int (i - j)) (zac 2) (tC (.int 1))) zah)))) (zac 2)) (zak 9))
 (zdd K)) zaR) D σ H:=rfl
def zcF (K:PySem.W.Frag):TS :=
 (zcw (zpP (za8 (tOp rEq (zac 6) (tOp (rI0 fun i j=>.int (i+j)) (tCB (fun xs H Q=>∃ p ys,xs=[.ref p]∧(SqL K H p ys∨SqT K H p ys)∧Q (.int ys.length) H) (zab (zac 5) zah)) (tC (.int 7))))) (za8 (tOp (zt4 K) (zac 1) (zbX zah)))) (zcu (tOp zel (tSl (zfl K) (zac 1) zaZ (zcP (zac 8))) (tSl (zfl K) (zac 1) (zcP (tOp (rI0 fun i j=>.int (i+j)) (zac 8) (tC (.int 1)))) zaZ))) zaR)
theorem zav (K:PySem.W.Frag) (D:zb5) (σ:St) (H:Hp):zcF K D σ H=(zcw (zpP (za8 (tOp rEq (zac 6) (tOp (rI0 fun i j=>.int (i+j)) (tCB (fun xs H Q=>∃ p ys,xs=[.ref p]∧(SqL K H p ys∨SqT K H p ys)∧Q (.int ys.length) H) (zab (zac 5) zah)) (tC (.int 7))))) (za8 (tOp (zt4 K) (zac 1) (zbX zah)))) (zcu (tOp zel (tSl (zfl K) (zac 1) zaZ (zcP (zac 8))) (tSl (zfl K) (zac 1) (zcP (tOp (rI0 fun i j=>.int (i+j)) (zac 8) (tC (.int 1)))) zaZ))) zaR) D σ H:=rfl
def zdc (K:PySem.W.Frag):TS :=
 (zaG (za5 (tOp (rI (fun _ j=>j≠0) fun i j=>.int (i.fmod j)) (zac 4) (tCB (fun xs H Q=>∃ i j,xs=[.int i,.int j]∧Q (.int (if j > i then j else i)) H) (zab (tC (.int 1)) (zab (tCB (fun xs H Q=>∃ p ys,xs=[.ref p]∧(SqL K H p ys∨SqT K H p ys)∧Q (.int ys.length) H) (zab (zac 1) zah)) zah)))) (zak 8))
 (zaG (zc0 (zcF K))
 (zaG (zc0 (zcI K))
 (zb8 K))))
theorem zbg (K:PySem.W.Frag) (D:zb5) (σ:St) (H:Hp):zdc K D σ H=(zaG (za5 (tOp (rI (fun _ j=>j≠0) fun i j=>.int (i.fmod j)) (zac 4) (tCB (fun xs H Q=>∃ i j,xs=[.int i,.int j]∧Q (.int (if j > i then j else i)) H) (zab (tC (.int 1)) (zab (tCB (fun xs H Q=>∃ p ys,xs=[.ref p]∧(SqL K H p ys∨SqT K H p ys)∧Q (.int ys.length) H) (zab (zac 1) zah)) zah)))) (zak 8))
 (zaG (zc0 (zcF K))
 (zaG (zc0 (zcI K))
 (zb8 K)))) D σ H:=rfl
def zdh (K:PySem.W.Frag):TS :=
 (zaG (za5 (tOp zel (zac 7) (zbX (zab (tC .non) (zab (tC (.int 3)) (zab (tOp zel (tOp zel (zac 1) (zac 1)) (zbX (zab (tC (.int 0)) zah))) (zab (tOp zel (zac 1) (zbX (zab (zac 2) zah))) zah)))))) (zak 7))
 (zdc K))
theorem zbc (K:PySem.W.Frag) (D:zb5) (σ:St) (H:Hp):zdh K D σ H=(zaG (za5 (tOp zel (zac 7) (zbX (zab (tC .non) (zab (tC (.int 3)) (zab (tOp zel (tOp zel (zac 1) (zac 1)) (zbX (zab (tC (.int 0)) zah))) (zab (tOp zel (zac 1) (zbX (zab (zac 2) zah))) zah)))))) (zak 7))
 (zdc K)) D σ H:=rfl
def zcH (K:PySem.W.Frag):TS :=
 (zaG (za5 (zbX (zab (tOp zel (zac 1) (zbX (zab (zat zaO [] E0 (zab (zac 0) (zab (zac 2) zah))) zah))) (zab (tOp zel (tOp zel (tSl (zfl K) (zac 1) zaZ (zcP (zac 4))) (zbX (zab (zat zaO [] E0 (zab (zac 0) (zab (zac 2) zah))) zah))) (tSl (zfl K) (zac 1) (zcP (zac 4)) zaZ)) (zab (tCB (fun xs H Q=>∃ p ys,xs=[.ref p]∧((SqL K H p ys∧∀ l,H l=none→Q (.ref l) (upd H l (.tup ys)))∨(SqT K H p ys∧Q (.ref p) H))) (zab (zac 1) zah)) zah)))) (zak 7))
 (zdh K))
theorem zaw (K:PySem.W.Frag) (D:zb5) (σ:St) (H:Hp):zcH K D σ H=(zaG (za5 (zbX (zab (tOp zel (zac 1) (zbX (zab (zat zaO [] E0 (zab (zac 0) (zab (zac 2) zah))) zah))) (zab (tOp zel (tOp zel (tSl (zfl K) (zac 1) zaZ (zcP (zac 4))) (zbX (zab (zat zaO [] E0 (zab (zac 0) (zab (zac 2) zah))) zah))) (tSl (zfl K) (zac 1) (zcP (zac 4)) zaZ)) (zab (tCB (fun xs H Q=>∃ p ys,xs=[.ref p]∧((SqL K H p ys∧∀ l,H l=none→Q (.ref l) (upd H l (.tup ys)))∨(SqT K H p ys∧Q (.ref p) H))) (zab (zac 1) zah)) zah)))) (zak 7))
 (zdh K)) D σ H:=rfl
def zcC (K:PySem.W.Frag):TS :=
 (zcw (za8 (tOp (rI0 fun i j=>.bl (decide (i<j))) (zac 6) (tCB (fun xs H Q=>∃ p ys,xs=[.ref p]∧(SqL K H p ys∨SqT K H p ys)∧Q (.int ys.length) H) (zab (zac 5) zah)))) (zcu (tOp zel (tOp zel (tSl (zfl K) (zac 1) zaZ (zcP (zac 4))) (zbX (zab (tOp (zcO K) (zac 5) (zac 6)) zah))) (tSl (zfl K) (zac 1) (zcP (tOp (rI0 fun i j=>.int (i+j)) (zac 4) (tC (.int 1)))) zaZ))) zaR)
theorem zay (K:PySem.W.Frag) (D:zb5) (σ:St) (H:Hp):zcC K D σ H=(zcw (za8 (tOp (rI0 fun i j=>.bl (decide (i<j))) (zac 6) (tCB (fun xs H Q=>∃ p ys,xs=[.ref p]∧(SqL K H p ys∨SqT K H p ys)∧Q (.int ys.length) H) (zab (zac 5) zah)))) (zcu (tOp zel (tOp zel (tSl (zfl K) (zac 1) zaZ (zcP (zac 4))) (zbX (zab (tOp (zcO K) (zac 5) (zac 6)) zah))) (tSl (zfl K) (zac 1) (zcP (tOp (rI0 fun i j=>.int (i+j)) (zac 4) (tC (.int 1)))) zaZ))) zaR) D σ H:=rfl
def zc9 (K:PySem.W.Frag):TS :=
 (zaG (za5 (zat zaO [] E0 (zab (zac 0) (zab (tOp (rI0 fun i j=>.int (i+j)) (tCB (fun xs H Q=>∃ p ys,xs=[.ref p]∧(SqL K H p ys∨SqT K H p ys)∧Q (.int ys.length) H) (zab (zac 5) zah)) (tC (.int 9))) zah))) (zak 6))
 (zaG (zc0 (zcC K))
 (zcH K)))
theorem zbb (K:PySem.W.Frag) (D:zb5) (σ:St) (H:Hp):zc9 K D σ H=(zaG (za5 (zat zaO [] E0 (zab (zac 0) (zab (tOp (rI0 fun i j=>.int (i+j)) (tCB (fun xs H Q=>∃ p ys,xs=[.ref p]∧(SqL K H p ys∨SqT K H p ys)∧Q (.int ys.length) H) (zab (zac 5) zah)) (tC (.int 9))) zah))) (zak 6))
 (zaG (zc0 (zcC K))
 (zcH K))) D σ H:=rfl
def zdb (K:PySem.W.Frag):TS :=
 (zaG (za5 (zbX (zab (zac 3) (zab (tUn (rU fun i=>.int (-i)) (tC (.int 1))) (zab (tOp (rI0 fun i j=>.int (i - j)) (tOp (rI0 fun i j=>.int (i - j)) (tC (.int 0)) (tC (.int 1))) (zac 3)) (zab (tC (.bl true)) (zab (tC (.str "0")) (zab (tC .non) (zab (zac 2) zah)))))))) (zak 5))
 (zc9 K))
theorem zbe (K:PySem.W.Frag) (D:zb5) (σ:St) (H:Hp):zdb K D σ H=(zaG (za5 (zbX (zab (zac 3) (zab (tUn (rU fun i=>.int (-i)) (tC (.int 1))) (zab (tOp (rI0 fun i j=>.int (i - j)) (tOp (rI0 fun i j=>.int (i - j)) (tC (.int 0)) (tC (.int 1))) (zac 3)) (zab (tC (.bl true)) (zab (tC (.str "0")) (zab (tC .non) (zab (zac 2) zah)))))))) (zak 5))
 (zc9 K)) D σ H:=rfl
def zd1 (K:PySem.W.Frag):TS :=
 (zaG (za5 (zat zaO [] E0 (zab (zac 0) (zab (tOp (rI0 fun i j=>.int (i+j)) (tCB (fun xs H Q=>∃ p ys,xs=[.ref p]∧(SqL K H p ys∨SqT K H p ys)∧Q (.int ys.length) H) (zab (zac 1) zah)) (tC (.int 1))) zah))) (zak 4))
 (zdb K))
theorem za6 (K:PySem.W.Frag) (D:zb5) (σ:St) (H:Hp):zd1 K D σ H=(zaG (za5 (zat zaO [] E0 (zab (zac 0) (zab (tOp (rI0 fun i j=>.int (i+j)) (tCB (fun xs H Q=>∃ p ys,xs=[.ref p]∧(SqL K H p ys∨SqT K H p ys)∧Q (.int ys.length) H) (zab (zac 1) zah)) (tC (.int 1))) zah))) (zak 4))
 (zdb K)) D σ H:=rfl
def zdY (K:PySem.W.Frag):TS :=
 (zaG (za5 (tOp (rI0 fun i j=>.int (i+j)) (zac 2) (zat zaO [] E0 (zab (zac 0) (zab (tOp (rI znN fun i j=>.int (i ^ j.toNat)) (tC (.int 10)) (tC (.int 29))) zah)))) (zak 3))
 (zd1 K))
theorem zgW {p c l:Addr} {t:Int} {ns:List Int} {os:List Nat} (P:Pur H p c t) (t1:t<10000) (hl:Off p c H l=some (.lst (za7 os))) (O:zjm os ns) (n1:1≤ns.length) (n6:ns.length≤6)
  (q:∀ (v:V) (t':Int) (H':Hp),zaL (Off p c H) (Off p c H')→Pur H' p c t'→t'≤t+6→zlu (Off p c H') v ns→Q v H') :
  zdY K { nx:=fun _ H'=>Q .non H',rt:=Q } (L2.zb1 ["_law_purse_here","_law_order_here","_law_many","_law_far","_law_at","_law_things","_law_way","_law_some","_law_place","_law_other"] [.ref p,.ref l,.int (ns.length:Int)]) H:=by
 unfold zdY
 have t0:=P.t0
 have lo:=O.small
 have lV:(za7 os).length=os.length:=List.length_map ..
 simp_all only [zax,zaz,zav,zaw,zay,zac]
 refine ⟨zuD,?_⟩
 refine ⟨p,c,t,_,rfl,P,by omega,by decide,by decide,fun f H1 f0 f1 o1 P1=>?_⟩
 have s1:=zcr o1
 refine ⟨f,rfl,?_⟩
 ((try simp only);first | rw [zbj] | rw [zbg] | rw [zbc] | rw [zbb] | rw [zbe] | rw [za6]);simp_all only [zax,zaz,zav,zaw,zay,zac]
 have hl1:=s1 _ _ hl
 refine ⟨_,.inl (SqL.of (zaj _ _ _ _ _ hl1)),?_⟩
 refine ⟨p,c,t+1,_,rfl,P1,by omega,by rw [lV];omega,by rw [lV];omega,fun at_ H2 a0 a1 o2 P2=>?_⟩
 rw [lV] at a1
 have S:=s1.trans (zcr o2)
 obtain ⟨k,rfl⟩:∃ k:Nat,at_=k:=⟨at_.toNat,by omega⟩
 ((try simp only);first | rw [zbj] | rw [zbg] | rw [zbc] | rw [zbb] | rw [zbe] | rw [za6]);simp_all only [zax,zaz,zav,zaw,zay,zac]
 refine ⟨by decide,fun b eb=>?_⟩
 obtain ⟨s3,hb,P3⟩:=P2.put eb (.lst [.int (ns.length+f),.int (-1),.int (-1 - (ns.length+f)),.bl true,.str "0",.non,.int ns.length])
 generalize L2.upd H2 b (.lst [.int (ns.length+f),.int (-1),.int (-1 - (ns.length+f)),.bl true,.str "0",.non,.int ns.length])=X1 at s3 hb P3 ⊢
 replace S:=S.trans s3
 ((try simp only);first | rw [zbj] | rw [zbg] | rw [zbc] | rw [zbb] | rw [zbe] | rw [za6]);simp_all only [zax,zaz,zav,zaw,zay,zac]
 refine ⟨_,.inl (SqL.of (zaj _ _ _ _ _ hb)),?_⟩
 refine ⟨p,c,t+1+1,_,rfl,P3,by omega,by show (0:Int)<7+9;decide,by show (7:Int)+9≤_;decide,fun w H3 w0 w1 o3 PB=>?_⟩
 replace w1:w<7+9:=w1
 have sB:=zcr o3
 replace S:=S.trans sB
 replace hb:=sB _ _ hb
 have hl3:=S _ _ hl
 obtain ⟨j,rfl⟩:∃ j:Nat,w=j:=⟨w.toNat,by omega⟩
 unfold zc0
 refine ⟨fun σ' H'=>σ'=[some (V.ref p),some (V.ref l),some (V.int (ns.length:Int)),some (.int (ns.length+f)),some (V.int k),some (.ref b),some (.int j),none,none,none]∧H'=H3∧¬ (j:Int)<7,?_,?_⟩
 ·unfold zcC
  simp_all only [zax,zaz,zav,zaw,zay,zac]
  refine ⟨_,.inl (SqL.of (zaj _ _ _ _ _ hb)),?_⟩
  by_cases hw:(j:Int)<7
  ·refine ztY (show (j:Int)<((7:Nat):Int) from hw) ?_
   refine ⟨_,SqL.of (zaj _ _ _ _ _ hl3),fun r1 n1'=>?_⟩
   obtain ⟨sC,k1,PC⟩:=PB.put n1' (.lst (zbW (za7 os) none (some (k:Int))))
   generalize L2.upd H3 r1 (.lst (zbW (za7 os) none (some (k:Int))))=Y1 at sC k1 PC ⊢
   obtain ⟨v,ev⟩:∃ v,([.int (ns.length+f),.int (-1),.int (-1 - (ns.length+f)),.bl true,.str "0",.non,.int ns.length]:List V)[j]?=some v:=⟨_,List.getElem?_eq_getElem (show j<7 by omega)⟩
   have bv:Tg (Off p c H3) v∧wi 0 ((ns.length:Int) - 1) v=false:=by
    have:=zbK ev
    simp only [List.mem_cons,List.not_mem_nil,or_false] at this
    rcases this with rfl | rfl | rfl | rfl | rfl | rfl | rfl
    ·exact ⟨.int _,zqf (by omega)⟩
    ·exact ⟨.int _,zqf (by omega)⟩
    ·exact ⟨.int _,zqf (by omega)⟩
    ·exact ⟨.bl _,rfl⟩
    ·exact ⟨.str _,rfl⟩
    ·exact ⟨.non,rfl⟩
    ·exact ⟨.int _,zqf (by omega)⟩
   refine ⟨_,SqL.of (zaj _ _ _ _ _ (sC _ _ hb)),v,zcq ev,by decide,fun r2 n2=>?_⟩
   obtain ⟨sD,k2,PD⟩:=PC.put n2 (.lst [v])
   generalize L2.upd Y1 r2 (.lst [v])=Y2 at sD k2 PD ⊢
   have c1:=zdP (za7 os) none (some (k:Int))
   have c2:=zdP (za7 os) (some ((k:Int)+1)) none
   rw [lV] at c1 c2
   refine ⟨_,zaj _ _ _ _ _ (sD _ _ k1),_,zaj _ _ _ _ _ k2,by show _+1≤sizeLine;exact Nat.le_trans (show _≤401 by omega) (by decide),fun r3 n3=>?_⟩
   obtain ⟨sE,k3,PE⟩:=PD.put n3 (.lst (zbW (za7 os) none (some (k:Int))++[v]))
   generalize L2.upd Y2 r3 (.lst (zbW (za7 os) none (some (k:Int))++[v]))=Y3 at sE k3 PE ⊢
   refine ⟨_,SqL.of (zaj _ _ _ _ _ ((sC.trans (sD.trans sE)) _ _ hl3)),fun r4 n4=>?_⟩
   obtain ⟨sF,k4,PF⟩:=PE.put n4 (.lst (zbW (za7 os) (some ((k:Int)+1)) none))
   generalize L2.upd Y3 r4 (.lst (zbW (za7 os) (some ((k:Int)+1)) none))=Y4 at sF k4 PF ⊢
   have lX:(zbW (za7 os) none (some (k:Int))++[v]++zbW (za7 os) (some ((k:Int)+1)) none).length≤801:=by
    rw [List.length_append,List.length_append]
    show _+1+_≤801
    omega
   refine ⟨_,zaj _ _ _ _ _ (sF _ _ k3),_,zaj _ _ _ _ _ k4,by rw [← List.length_append];exact Nat.le_trans lX (by decide),fun r5 n5=>?_⟩
   obtain ⟨sG,k5,PG⟩:=PF.put n5 (.lst (zbW (za7 os) none (some (k:Int))++[v]++zbW (za7 os) (some ((k:Int)+1)) none))
   generalize L2.upd Y4 r5 (.lst (zbW (za7 os) none (some (k:Int))++[v]++zbW (za7 os) (some ((k:Int)+1)) none))=Y5 at sG k5 PG ⊢
   have SX:=sC.trans (sD.trans (sE.trans (sF.trans sG)))
   refine q _ _ _ (S.trans SX) PG (by omega) (.inr ⟨r5,_,rfl,k5,by omega,fun x hx=>?_,zo1 (List.mem_append_left _ (List.mem_append_right _ (List.mem_singleton.mpr rfl))) bv.2⟩)
   rcases List.mem_append.mp hx with hx | hx
   ·rcases List.mem_append.mp hx with hx | hx
    ·exact zfQ x (zdC hx)
    ·cases List.mem_singleton.mp hx
     exact bv.1.same SX
   ·exact zfQ x (zdC hx)
  ·exact zmu hw (show ¬ (j:Int)<7 from hw)
 rintro σ' H' ⟨rfl,rfl,hw⟩
 unfold zcH
 simp_all only [zax,zaz,zav,zaw,zay,zac]
 have SO:∀ H',zaL (Off p c H) (Off p c H')→Off p c H' l=some (.lst (za7 os)):=fun H' s=>s _ _ hl
 refine ⟨p,c,t+1+1+1,_,rfl,PB,by omega,by omega,by omega,fun x1 J1 x10 x11 o4 PC=>?_⟩
 replace S:=S.trans (zcr o4)
 replace hb:=(zcr o4) _ _ hb
 refine ⟨by decide,fun r1 m1=>?_⟩
 obtain ⟨sC,k1,PD⟩:=PC.put m1 (.lst [.int x1])
 generalize L2.upd J1 r1 (.lst [.int x1])=Y1 at sC k1 PD ⊢
 replace S:=S.trans sC
 replace hb:=sC _ _ hb
 refine ⟨_,zaj _ _ _ _ _ (SO _ S),_,zaj _ _ _ _ _ k1,by rw [lV];exact Nat.le_trans (show _+1≤401 by omega) (by decide),fun r2 m2=>?_⟩
 obtain ⟨sD,k2,PE⟩:=PD.put m2 (.lst (za7 os++[.int x1]))
 generalize L2.upd Y1 r2 (.lst (za7 os++[.int x1]))=Y2 at sD k2 PE ⊢
 replace S:=S.trans sD
 replace hb:=sD _ _ hb
 refine ⟨_,SqL.of (zaj _ _ _ _ _ (SO _ S)),fun r3 m3=>?_⟩
 obtain ⟨sE,k3,PF⟩:=PE.put m3 (.lst (zbW (za7 os) none (some (k:Int))))
 generalize L2.upd Y2 r3 (.lst (zbW (za7 os) none (some (k:Int))))=Y3 at sE k3 PF ⊢
 replace S:=S.trans sE
 replace hb:=sE _ _ hb
 replace k2:=sE _ _ k2
 refine ⟨p,c,t+1+1+1+1,_,rfl,PF,by omega,by omega,by omega,fun x2 J2 x20 x21 o5 PG=>?_⟩
 replace S:=S.trans (zcr o5)
 replace hb:=(zcr o5) _ _ hb
 replace k2:=(zcr o5) _ _ k2
 replace k3:=(zcr o5) _ _ k3
 have c1:=zdP (za7 os) none (some (k:Int))
 have c2:=zdP (za7 os) (some (k:Int)) none
 rw [lV] at c1 c2
 refine ⟨by decide,fun r4 m4=>?_⟩
 obtain ⟨sF,k4,PJ⟩:=PG.put m4 (.lst [.int x2])
 generalize L2.upd J2 r4 (.lst [.int x2])=Y4 at sF k4 PJ ⊢
 refine ⟨_,zaj _ _ _ _ _ (sF _ _ k3),_,zaj _ _ _ _ _ k4,Nat.le_trans (show _+1≤401 by omega) (by decide),fun r5 m5=>?_⟩
 obtain ⟨sG,k5,PK⟩:=PJ.put m5 (.lst (zbW (za7 os) none (some (k:Int))++[.int x2]))
 generalize L2.upd Y4 r5 (.lst (zbW (za7 os) none (some (k:Int))++[.int x2]))=Y5 at sG k5 PK ⊢
 replace S:=S.trans (sF.trans sG)
 replace hb:=(sF.trans sG) _ _ hb
 replace k2:=(sF.trans sG) _ _ k2
 refine ⟨_,SqL.of (zaj _ _ _ _ _ (SO _ S)),fun r6 m6=>?_⟩
 obtain ⟨sJ,k6,PL⟩:=PK.put m6 (.lst (zbW (za7 os) (some (k:Int)) none))
 generalize L2.upd Y5 r6 (.lst (zbW (za7 os) (some (k:Int)) none))=Y6 at sJ k6 PL ⊢
 have lX:(zbW (za7 os) none (some (k:Int))++[V.int x2]++zbW (za7 os) (some (k:Int)) none).length=os.length+1:=by
  rw [zg6,zf6,List.length_append,List.length_append,List.length_take,List.length_drop,lV]
  show _+1+_=_
  omega
 refine ⟨_,zaj _ _ _ _ _ (sJ _ _ k5),_,zaj _ _ _ _ _ k6,by rw [← List.length_append,lX];exact Nat.le_trans (show _≤401 by omega) (by decide),fun r7 m7=>?_⟩
 obtain ⟨sK,k7,PM⟩:=PL.put m7 (.lst (zbW (za7 os) none (some (k:Int))++[V.int x2]++zbW (za7 os) (some (k:Int)) none))
 generalize L2.upd Y6 r7 (.lst (zbW (za7 os) none (some (k:Int))++[V.int x2]++zbW (za7 os) (some (k:Int)) none))=Y7 at sK k7 PM ⊢
 replace S:=S.trans (sJ.trans sK)
 replace hb:=(sJ.trans sK) _ _ hb
 replace k2:=(sJ.trans sK) _ _ k2
 refine ⟨_,.inl ⟨SqL.of (zaj _ _ _ _ _ (SO _ S)),fun r8 m8=>?_⟩⟩
 obtain ⟨sN8,k8,PN8⟩:=PM.put m8 (.tup (za7 os))
 generalize L2.upd Y7 r8 (.tup (za7 os))=Y8 at sN8 k8 PN8 ⊢
 replace S:=S.trans sN8
 replace hb:=sN8 _ _ hb
 replace k2:=sN8 _ _ k2
 replace k7:=sN8 _ _ k7
 refine ⟨by decide,fun r9 m9=>?_⟩
 obtain ⟨sN9,k9,PN9⟩:=PN8.put m9 (.lst [.ref r2,.ref r7,.ref r8])
 generalize L2.upd Y8 r9 (.lst [.ref r2,.ref r7,.ref r8])=Y9 at sN9 k9 PN9 ⊢
 replace S:=S.trans sN9
 replace hb:=sN9 _ _ hb
 replace k2:=sN9 _ _ k2
 replace k7:=sN9 _ _ k7
 replace k8:=sN9 _ _ k8
 ((try simp only);first | rw [zbj] | rw [zbg] | rw [zbc] | rw [zbb] | rw [zbe] | rw [za6]);simp_all only [zax,zaz,zav,zaw,zay,zac]
 refine ⟨_,zaj _ _ _ _ _ (SO _ S),_,zaj _ _ _ _ _ (SO _ S),by rw [lV];exact Nat.le_trans (show _≤800 by omega) (by decide),fun r10 m10=>?_⟩
 obtain ⟨sN10,k10,PN10⟩:=PN9.put m10 (.lst (za7 os++za7 os))
 generalize L2.upd Y9 r10 (.lst (za7 os++za7 os))=Y10 at sN10 k10 PN10 ⊢
 replace S:=S.trans sN10
 replace hb:=sN10 _ _ hb
 replace k2:=sN10 _ _ k2
 replace k7:=sN10 _ _ k7
 replace k8:=sN10 _ _ k8
 replace k9:=sN10 _ _ k9
 refine ⟨by decide,fun r11 m11=>?_⟩
 obtain ⟨sN11,k11,PN11⟩:=PN10.put m11 (.lst [.int 0])
 generalize L2.upd Y10 r11 (.lst [.int 0])=Y11 at sN11 k11 PN11 ⊢
 replace S:=S.trans sN11
 replace hb:=sN11 _ _ hb
 replace k2:=sN11 _ _ k2
 replace k7:=sN11 _ _ k7
 replace k8:=sN11 _ _ k8
 replace k9:=sN11 _ _ k9
 replace k10:=sN11 _ _ k10
 refine ⟨_,zaj _ _ _ _ _ k10,_,zaj _ _ _ _ _ k11,by rw [List.length_append,lV];exact Nat.le_trans (show _+_+1≤801 by omega) (by decide),fun r12 m12=>?_⟩
 obtain ⟨sN12,k12,PN12⟩:=PN11.put m12 (.lst (za7 os++za7 os++[.int 0]))
 generalize L2.upd Y11 r12 (.lst (za7 os++za7 os++[.int 0]))=Y12 at sN12 k12 PN12 ⊢
 replace S:=S.trans sN12
 replace hb:=sN12 _ _ hb
 replace k2:=sN12 _ _ k2
 replace k7:=sN12 _ _ k7
 replace k8:=sN12 _ _ k8
 replace k9:=sN12 _ _ k9
 replace k10:=sN12 _ _ k10
 replace k11:=sN12 _ _ k11
 refine ⟨by decide,fun r13 m13=>?_⟩
 obtain ⟨sN13,k13,PN13⟩:=PN12.put m13 (.lst [.int ns.length])
 generalize L2.upd Y12 r13 (.lst [.int ns.length])=Y13 at sN13 k13 PN13 ⊢
 replace S:=S.trans sN13
 replace hb:=sN13 _ _ hb
 replace k2:=sN13 _ _ k2
 replace k7:=sN13 _ _ k7
 replace k8:=sN13 _ _ k8
 replace k9:=sN13 _ _ k9
 replace k12:=sN13 _ _ k12
 refine ⟨_,zaj _ _ _ _ _ (SO _ S),_,zaj _ _ _ _ _ k13,by rw [lV];exact Nat.le_trans (show _+1≤401 by omega) (by decide),fun r14 m14=>?_⟩
 obtain ⟨sN14,k14,PN14⟩:=PN13.put m14 (.lst (za7 os++[.int ns.length]))
 generalize L2.upd Y13 r14 (.lst (za7 os++[.int ns.length]))=Y14 at sN14 k14 PN14 ⊢
 replace S:=S.trans sN14
 replace hb:=sN14 _ _ hb
 replace k2:=sN14 _ _ k2
 replace k7:=sN14 _ _ k7
 replace k8:=sN14 _ _ k8
 replace k9:=sN14 _ _ k9
 replace k12:=sN14 _ _ k12
 replace k13:=sN14 _ _ k13
 refine ⟨by decide,fun r15 m15=>?_⟩
 obtain ⟨sN15,k15,PN15⟩:=PN14.put m15 (.lst [.non,.int 3,.ref r12,.ref r14])
 generalize L2.upd Y14 r15 (.lst [.non,.int 3,.ref r12,.ref r14])=Y15 at sN15 k15 PN15 ⊢
 replace S:=S.trans sN15
 replace hb:=sN15 _ _ hb
 replace k2:=sN15 _ _ k2
 replace k7:=sN15 _ _ k7
 replace k8:=sN15 _ _ k8
 replace k9:=sN15 _ _ k9
 replace k12:=sN15 _ _ k12
 replace k14:=sN15 _ _ k14
 refine ⟨_,zaj _ _ _ _ _ k9,_,zaj _ _ _ _ _ k15,by show 7≤sizeLine;decide,fun r16 m16=>?_⟩
 simp only [List.cons_append,List.nil_append] at m16 ⊢
 obtain ⟨sN16,k16,PN16⟩:=PN15.put m16 (.lst [.ref r2,.ref r7,.ref r8,.non,.int 3,.ref r12,.ref r14])
 generalize L2.upd Y15 r16 (.lst [.ref r2,.ref r7,.ref r8,.non,.int 3,.ref r12,.ref r14])=Y16 at sN16 k16 PN16 ⊢
 replace S:=S.trans sN16
 replace hb:=sN16 _ _ hb
 replace k2:=sN16 _ _ k2
 replace k7:=sN16 _ _ k7
 replace k8:=sN16 _ _ k8
 replace k12:=sN16 _ _ k12
 replace k14:=sN16 _ _ k14
 have AO:∀ x∈([.ref r2,.ref r7,.ref r8,.non,.int 3,.ref r12,.ref r14]:List V),zlu (Off p c Y16) x ns:=by
  have li:∀ (xs:List V) (m:List V),(∀ x∈m,∃ i:Int,x=V.int i)→∀ x∈za7 os++m,Tg (Off p c Y16) x:=fun xs m hm x hx=>by
   rcases List.mem_append.mp hx with hx | hx
   ·exact zfQ x hx
   ·obtain ⟨i,rfl⟩:=hm x hx
    exact .int _
  have one:∀ (i:Int),∀ x∈[V.int i],∃ i:Int,x=V.int i:=fun i x hx=>⟨i,List.mem_singleton.mp hx⟩
  have l1:∀ i:Int,(za7 os++[V.int i]).length=os.length+1:=fun i=>by rw [List.length_append,lV];rfl
  intro x hx
  simp only [List.mem_cons,List.not_mem_nil,or_false] at hx
  rcases hx with rfl | rfl | rfl | rfl | rfl | rfl | rfl
  ·exact .inr ⟨_,_,rfl,k2,by rw [l1];omega,li [] _ (one x1),zkY O (by rw [l1];omega)⟩
  ·refine .inr ⟨_,_,rfl,k7,by rw [lX];omega,fun x hx=>?_,zkY O (by rw [lX];omega)⟩
   rcases List.mem_append.mp hx with hx | hx
   ·rcases List.mem_append.mp hx with hx | hx
    ·exact zfQ x (zdC hx)
    ·cases List.mem_singleton.mp hx
     exact .int _
   ·exact zfQ x (zdC hx)
  ·exact .inl (.tup k8)
  ·exact .inl .non
  ·exact .inl (.int 3)
  ·have l2:(za7 os++za7 os++[V.int 0]).length=os.length+os.length+1:=by rw [List.length_append,List.length_append,lV];rfl
   refine .inr ⟨_,_,rfl,k12,by rw [l2];omega,fun x hx=>?_,zkY O (by rw [l2];omega)⟩
   rcases List.mem_append.mp hx with hx | hx
   ·rcases List.mem_append.mp hx with hx | hx <;> exact zfQ x hx
   ·cases List.mem_singleton.mp hx
    exact .int _
  ·exact .inr ⟨_,_,rfl,k14,by rw [l1];omega,li [] _ (one _),zkY O (by rw [l1];omega)⟩
 clear k2 k7 k8 k12 k14
 ((try simp only);first | rw [zbj] | rw [zbg] | rw [zbc] | rw [zbb] | rw [zbe] | rw [za6]);simp_all only [zax,zaz,zav,zaw,zay,zac]
 have n16:t+1+1+1+1+1≤t+6:=by omega
 refine ⟨_,.inl (SqL.of (zaj _ _ _ _ _ (SO _ S))),?_,?_⟩
 ·split <;> omega
 obtain ⟨pc,epc,hpc⟩:∃ pc:Nat,(k:Int).fmod (if ((za7 os).length:Int) > 1 then ((za7 os).length:Int) else 1)=pc∧(0<os.length→pc<os.length):=by
  have m1:(0:Int)<(if ((za7 os).length:Int) > 1 then ((za7 os).length:Int) else 1):=by split <;> omega
  have u0:=Int.fmod_nonneg_of_pos (k:Int) m1
  have u1:=Int.fmod_lt_of_pos (k:Int) m1
  refine ⟨_,(Int.toNat_of_nonneg u0).symm,fun h0=>?_⟩
  have m2:(if ((za7 os).length:Int) > 1 then ((za7 os).length:Int) else 1)=os.length:=by split <;> omega
  rw [m2] at u0 u1 ⊢
  omega
 rw [epc]
 unfold zc0
 refine ⟨fun σ' H'=>σ'=[some (V.ref p),some (V.ref l),some (V.int (ns.length:Int)),some (.int (ns.length+f)),some (V.int k),some (.ref b),some (.int j),some (.ref r16),some (.int pc),none]∧zaL (Off p c Y16) (Off p c H')∧Pur H' p c (t+1+1+1+1+1),?_,?_⟩
 ·unfold zcF
  simp_all only [zax,zaz,zav,zaw,zay,zac]
  refine ⟨_,.inl (SqL.of (zaj _ _ _ _ _ hb)),?_⟩
  refine zdZ (fun _=>?_) (fun _=>⟨.refl _,PN16⟩)
  refine ⟨by decide,fun z1 y1=>?_⟩
  obtain ⟨sQ,g1,PQ⟩:=PN16.put y1 (.lst [])
  generalize L2.upd Y16 z1 (.lst [])=Z1 at sQ g1 PQ ⊢
  refine ⟨_,SqL.of (zaj _ _ _ _ _ (sQ _ _ (SO _ S))),SqL.of (zaj _ _ _ _ _ g1),?_⟩
  refine zdZ (fun he=>?_) (fun _=>⟨sQ,PQ⟩)
  have o0:0<os.length:=by
   rcases os with _ | ⟨x,os⟩
   ·cases he
   ·exact Nat.succ_pos _
  refine ⟨_,SqL.of (zaj _ _ _ _ _ (sQ _ _ (SO _ S))),fun z2 y2=>?_⟩
  obtain ⟨sR,g2,PR⟩:=PQ.put y2 (.lst (zbW (za7 os) none (some (pc:Int))))
  generalize L2.upd Z1 z2 (.lst (zbW (za7 os) none (some (pc:Int))))=Z2 at sR g2 PR ⊢
  refine ⟨_,SqL.of (zaj _ _ _ _ _ ((sQ.trans sR) _ _ (SO _ S))),fun z3 y3=>?_⟩
  obtain ⟨sS,g3,PS⟩:=PR.put y3 (.lst (zbW (za7 os) (some ((pc:Int)+1)) none))
  generalize L2.upd Z2 z3 (.lst (zbW (za7 os) (some ((pc:Int)+1)) none))=Z3 at sS g3 PS ⊢
  have lY:(zbW (za7 os) none (some (pc:Int))++zbW (za7 os) (some ((pc:Int)+1)) none).length=os.length - 1:=by
   rw [zg6,show ((pc:Int)+1)=((pc+1:Nat):Int) from rfl,zf6,List.length_append,List.length_take,List.length_drop,lV]
   have:=hpc o0
   omega
  refine ⟨_,zaj _ _ _ _ _ (sS _ _ g2),_,zaj _ _ _ _ _ g3,by rw [← List.length_append,lY];exact Nat.le_trans (show _≤400 by omega) (by decide),fun z4 y4=>?_⟩
  obtain ⟨sT,g4,PT⟩:=PS.put y4 (.lst (zbW (za7 os) none (some (pc:Int))++zbW (za7 os) (some ((pc:Int)+1)) none))
  generalize L2.upd Z3 z4 (.lst (zbW (za7 os) none (some (pc:Int))++zbW (za7 os) (some ((pc:Int)+1)) none))=Z4 at sT g4 PT ⊢
  refine q _ _ _ (S.trans (sQ.trans (sR.trans (sS.trans sT)))) PT n16 (.inr ⟨_,_,rfl,g4,by rw [lY];omega,fun x hx=>?_,zkY O (by rw [lY];omega)⟩)
  rcases List.mem_append.mp hx with hx | hx <;> exact zfQ x (zdC hx)
 rintro σ' Z0 ⟨rfl,sZ,PZ⟩
 replace S:=S.trans sZ
 replace hb:=sZ _ _ hb
 replace k16:=sZ _ _ k16
 replace AO:∀ x∈([.ref r2,.ref r7,.ref r8,.non,.int 3,.ref r12,.ref r14]:List V),zlu (Off p c Z0) x ns:=fun x hx=>(AO x hx).same sZ
 unfold zaG
 refine ⟨fun σ' H'=>σ'=[some (V.ref p),some (V.ref l),some (V.int (ns.length:Int)),some (.int (ns.length+f)),some (V.int k),some (.ref b),some (.int j),some (.ref r16),some (.int pc),none]∧zaL (Off p c Z0) (Off p c H')∧Pur H' p c (t+1+1+1+1+1),?_,?_⟩
 ·unfold zcI
  simp_all only [zax,zaz,zav,zaw,zay,zac]
  refine ⟨_,.inl (SqL.of (zaj _ _ _ _ _ hb)),?_⟩
  refine zdZ (fun _=>?_) (fun _=>⟨.refl _,PZ⟩)
  refine ⟨by decide,fun z1 y1=>?_⟩
  obtain ⟨sQ,g1,PQ⟩:=PZ.put y1 (.lst [])
  generalize L2.upd Z0 z1 (.lst [])=Z1 at sQ g1 PQ ⊢
  refine ⟨_,SqL.of (zaj _ _ _ _ _ (sQ _ _ (SO _ S))),SqL.of (zaj _ _ _ _ _ g1),?_⟩
  refine zdZ (fun he=>zdZ (fun hn=>?_) (fun _=>⟨sQ,PQ⟩)) (fun _=>⟨sQ,PQ⟩)
  have o0:0<os.length:=by
   rcases os with _ | ⟨x,os⟩
   ·cases he
   ·exact Nat.succ_pos _
  have ei:os[pc]?=some os[pc]:=List.getElem?_eq_getElem (hpc o0)
  have li:=O.lt _ (List.getElem_mem (hpc o0))
  generalize os[pc]=io at ei li
  refine ⟨_,SqL.of (zaj _ _ _ _ _ (sQ _ _ (SO _ S))),_,zcq (show (za7 os)[pc]?=some (V.int (io:Int)) by rw [za7,List.getElem?_map,ei];rfl),_,rfl,?_⟩
  refine ⟨p,c,t+1+1+1+1+1,_,rfl,PQ,by omega,by omega,by omega,fun y Z2 y0 y1' o6 PR=>?_⟩
  have sR:=sQ.trans (zcr o6)
  have n0:(0:Int)<(ns.length:Int):=by omega
  have u0:=Int.fmod_nonneg_of_pos ((io:Int)+1+y) n0
  obtain ⟨ot,eot⟩:∃ ot:Nat,((io:Int)+1+y).fmod (ns.length:Int)=ot:=⟨_,(Int.toNat_of_nonneg u0).symm⟩
  have ne:io≠ot:=by
   rintro rfl
   rw [Int.fmod_eq_emod_of_nonneg _ (by omega)] at eot
   rcases Int.lt_or_le ((io:Int)+1+y) (ns.length:Int) with h | h
   ·rw [Int.emod_eq_of_lt (by omega) h] at eot
    omega
   ·have:=Int.emod_eq_of_lt (a:=(io:Int)+1+y - (ns.length:Int)) (b:=(ns.length:Int)) (by omega) (by omega)
    rw [Int.sub_emod_right] at this
    omega
  refine ⟨y,rfl,by omega,?_⟩
  rw [eot]
  ((try simp only);first | rw [zbj] | rw [zbg] | rw [zbc] | rw [zbb] | rw [zbe] | rw [za6]);simp_all only [zax,zaz,zav,zaw,zay,zac]
  refine ⟨_,SqL.of (zaj _ _ _ _ _ (sR _ _ (SO _ S))),fun z3 y3=>?_⟩
  obtain ⟨sS,g3,PS⟩:=PR.put y3 (.lst (zbW (za7 os) none (some (pc:Int))))
  generalize L2.upd Z2 z3 (.lst (zbW (za7 os) none (some (pc:Int))))=Z3 at sS g3 PS ⊢
  refine ⟨by decide,fun z4 y4=>?_⟩
  obtain ⟨sT,g4,PT⟩:=PS.put y4 (.lst [.int ot])
  generalize L2.upd Z3 z4 (.lst [.int ot])=Z4 at sT g4 PT ⊢
  have c1:=zdP (za7 os) none (some (pc:Int))
  have c2:=zdP (za7 os) (some ((pc:Int)+1)) none
  rw [lV] at c1 c2
  refine ⟨_,zaj _ _ _ _ _ (sT _ _ g3),_,zaj _ _ _ _ _ g4,Nat.le_trans (show _+1≤401 by omega) (by decide),fun z5 y5=>?_⟩
  obtain ⟨sU,g5,PU⟩:=PT.put y5 (.lst (zbW (za7 os) none (some (pc:Int))++[.int ot]))
  generalize L2.upd Z4 z5 (.lst (zbW (za7 os) none (some (pc:Int))++[.int ot]))=Z5 at sU g5 PU ⊢
  have sV:=sR.trans (sS.trans (sT.trans sU))
  refine ⟨_,SqL.of (zaj _ _ _ _ _ (sV _ _ (SO _ S))),fun z6 y6=>?_⟩
  obtain ⟨sW,g6,PV⟩:=PU.put y6 (.lst (zbW (za7 os) (some ((pc:Int)+1)) none))
  generalize L2.upd Z5 z6 (.lst (zbW (za7 os) (some ((pc:Int)+1)) none))=Z6 at sW g6 PV ⊢
  have lY:(zbW (za7 os) none (some (pc:Int))++[V.int (ot:Int)]++zbW (za7 os) (some ((pc:Int)+1)) none).length≤801:=by
   rw [List.length_append,List.length_append]
   show _+1+_≤801
   omega
  refine ⟨_,zaj _ _ _ _ _ (sW _ _ g5),_,zaj _ _ _ _ _ g6,by rw [← List.length_append];exact Nat.le_trans lY (by decide),fun z7 y7=>?_⟩
  obtain ⟨sX,g7,PW⟩:=PV.put y7 (.lst (zbW (za7 os) none (some (pc:Int))++[.int ot]++zbW (za7 os) (some ((pc:Int)+1)) none))
  generalize L2.upd Z6 z7 (.lst (zbW (za7 os) none (some (pc:Int))++[.int ot]++zbW (za7 os) (some ((pc:Int)+1)) none))=Z7 at sX g7 PW ⊢
  refine q _ _ _ (S.trans (sV.trans (sW.trans sX))) PW (by omega) (.inr ⟨_,_,rfl,g7,by omega,fun x hx=>?_,?_⟩)
  ·rcases List.mem_append.mp hx with hx | hx
   ·rcases List.mem_append.mp hx with hx | hx
    ·exact zfQ x (zdC hx)
    ·cases List.mem_singleton.mp hx
     exact .int _
   ·exact zfQ x (zdC hx)
  ·rw [zg6,show ((pc:Int)+1)=((pc+1:Nat):Int) from rfl,zf6]
   exact zsy O ei ne
 rintro σ' Z1 ⟨rfl,sY,PY⟩
 replace S:=S.trans sY
 replace hb:=sY _ _ hb
 replace k16:=sY _ _ k16
 replace AO:∀ x∈([.ref r2,.ref r7,.ref r8,.non,.int 3,.ref r12,.ref r14]:List V),zlu (Off p c Z1) x ns:=fun x hx=>(AO x hx).same sY
 show zb8 K _ _ _
 unfold zb8
 simp_all only [zax,zaz,zav,zaw,zay,zac]
 obtain ⟨i,ei⟩:∃ i:Nat,((j:Int) - ((7:Nat):Int)) % 7=i:=⟨_,(Int.toNat_of_nonneg (Int.emod_nonneg _ (by decide))).symm⟩
 have i7:i<7:=by
  have:=Int.emod_lt_of_pos ((j:Int) - ((7:Nat):Int)) (show (0:Int)<7 by decide)
  omega
 obtain ⟨v,ev⟩:∃ v,([.ref r2,.ref r7,.ref r8,.non,.int 3,.ref r12,.ref r14]:List V)[i]?=some v:=⟨_,List.getElem?_eq_getElem (show i<7 from i7)⟩
 refine ⟨_,.inl (SqL.of (zaj _ _ _ _ _ hb)),by decide,_,SqL.of (zaj _ _ _ _ _ k16),v,?_,q _ _ _ S PY n16 (AO v (zbK ev))⟩
 show atI _ (((j:Int) - ((7:Nat):Int)) % 7)=_
 rw [ei]
 exact zcq ev
theorem za2:zaM ["_law_purse_here","_law_order_here","_law_many","_law_far","_law_at","_law_things","_law_way","_law_some","_law_place","_law_other"] ["_law_purse_here","_law_order_here","_law_many"] (zan zdR):=⟨rfl,rfl,rfl,by decide +kernel,rfl,by decide +kernel,by decide +kernel⟩
theorem zgY (T:Txt K mg a):zdW P w K mg base CX0 2 a.f__law_no_order a.d__law_no_order ["_law_purse_here","_law_order_here","_law_many"] zk9:=by
 have G__law_draw:=zb2 (P:=P) (w:=w) (base:=base) T
 refine T.F__law_no_order.ok za2 (fun vs H Q E h=>?_) (fun cdv A outer s H vs Q E hr h=>?_)
 ·obtain ⟨p,c,l,t,ns,os,rfl,hP,t1,hl,O,n1,n6,q⟩:=h
  rfl
 obtain ⟨p,c,l,t,ns,os,rfl,hP,t1,hl,O,n1,n6,q⟩:=h
 exact ⟨zdY K,(zaf (zaB (i:=3) za2.nd rfl (Or.inl rfl) (zaA zb0 (pv 2) (zap G__law_draw (hr.mono (by decide)) rfl T.m__law_draw T.F__law_draw.kp T.b__law_draw .nil za0 (zaa (pv 0) (zaa (zaA zkR zag zag) zad)))))
 (zaf (zaB (i:=4) za2.nd rfl (Or.inl rfl) (zap G__law_draw (hr.mono (by decide)) rfl T.m__law_draw T.F__law_draw.kp T.b__law_draw .nil za0 (zaa (pv 0) (zaa (zaA zb0 (zao zaq rfl T.z_len PySem.boot_len (zaa (pv 1) zad)) zag) zad))))
 (zaf (zaB (i:=5) za2.nd rfl (Or.inl rfl) (zaN (zaa (pv 3) (zaa (znr zi2 zag) (zaa (zaA zeq (zaA zeq zag zag) (pv 3)) (zaa zgZ (zaa zc6 (zaa zgG (zaa (pv 2) zad)))))))))
 (zaf (zaB (i:=6) za2.nd rfl (Or.inl rfl) (zap G__law_draw (hr.mono (by decide)) rfl T.m__law_draw T.F__law_draw.kp T.b__law_draw .nil za0 (zaa (pv 0) (zaa (zaA zb0 (zao zaq rfl T.z_len PySem.boot_len (zaa (pv 5) zad)) zag) zad))))
 (zaf (zbS (zcv (zbl zoT (pv 6) (zao zaq rfl T.z_len PySem.boot_len (zaa (pv 5) zad)) (zbH _)) (zam (zaY (zaA zcV (zaA zcV (zb6 zcL (pv 1) zcN (zcM (pv 4))) (zaN (zaa (zbZ za1 (pv 5) (pv 6) (fun _ _=>rfl)) zad))) (zb6 zcL (pv 1) (zcM (zaA zb0 (pv 4) zag)) zcN)))) zaQ))
 (zaf (zaB (i:=7) za2.nd rfl (Or.inl rfl) (zaN (zaa (zaA zcV (pv 1) (zaN (zaa (zap G__law_draw (hr.mono (by decide)) rfl T.m__law_draw T.F__law_draw.kp T.b__law_draw .nil za0 (zaa (pv 0) (zaa (pv 2) zad))) zad))) (zaa (zaA zcV (zaA zcV (zb6 zcL (pv 1) zcN (zcM (pv 4))) (zaN (zaa (zap G__law_draw (hr.mono (by decide)) rfl T.m__law_draw T.F__law_draw.kp T.b__law_draw .nil za0 (zaa (pv 0) (zaa (pv 2) zad))) zad))) (zb6 zcL (pv 1) (zcM (pv 4)) zcN)) (zaa (zc1 zeu rfl T.z_tuple zfh (zaa (pv 1) zad)) zad)))))
 (zaf (zaB (i:=7) za2.nd rfl (Or.inl rfl) (zaA zcV (pv 7) (zaN (zaa zgG (zaa zag (zaa (zaA zcV (zaA zcV (pv 1) (pv 1)) (zaN (zaa zag zad))) (zaa (zaA zcV (pv 1) (zaN (zaa (pv 2) zad))) zad)))))))
 (zaf (zaB (i:=8) za2.nd rfl (Or.inl rfl) (zaA zgt (pv 4) (zao (zn6 rfl) rfl T.z_max PyProof.Rows.boot_max (zaa zag (zaa (zao zaq rfl T.z_len PySem.boot_len (zaa (pv 1) zad)) zad)))))
 (zaf (zbS (zcv (PW.pt (zmJ (zbl zgn (pv 6) (zaA zb0 (zao zaq rfl T.z_len PySem.boot_len (zaa (pv 5) zad)) zag) (zbH _)) (zlZ (zbl (zrT hr.units) (pv 1) (zaN zad) (zbH _))))) (zam (zaY (zaA zcV (zb6 zcL (pv 1) zcN (zcM (pv 8))) (zb6 zcL (pv 1) (zcM (zaA zb0 (pv 8) zag)) zcN)))) zaQ))
 (zaf (zbS (zcv (PW.pt (zmJ (zbl zgn (pv 6) (zaA zb0 (zao zaq rfl T.z_len PySem.boot_len (zaa (pv 5) zad)) zag) (zbH _)) (zmJ (zbl (zrT hr.units) (pv 1) (zaN zad) (zbH _)) (zlZ (zbl ztx (pv 2) zag (zbH _)))))) (zaf (zaB (i:=9) za2.nd rfl (Or.inl rfl) (zaA zgt (zaA zb0 (zaA zb0 (zbZ za1 (pv 1) (pv 8) (fun _ _=>rfl)) zag) (zap G__law_draw (hr.mono (by decide)) rfl T.m__law_draw T.F__law_draw.kp T.b__law_draw .nil za0 (zaa (pv 0) (zaa (zaA zeq (pv 2) zag) zad)))) (pv 2)))
 (zam (zaY (zaA zcV (zaA zcV (zb6 zcL (pv 1) zcN (zcM (pv 8))) (zaN (zaa (pv 9) zad))) (zb6 zcL (pv 1) (zcM (zaA zb0 (pv 8) zag)) zcN))))) zaQ))
 (zam (zaY (zbZ za1 (pv 7) (zaA zgK (zaA zeq (pv 6) (zao zaq rfl T.z_len PySem.boot_len (zaa (pv 5) zad))) zag) (fun _ _=>rfl)))))))))))))),
  zgW hP t1 hl O n1 n6 q⟩
def mkC (a:Ad):Nat→Value
 | 0=>.ref a.c_NoBoxes
 | 1=>.ref a.c_NoWeights
 | 2=>.ref a.c_NoPlan
 | _=>.ref a.c_NoOrder
def mkS:Nat→Str
 | 0=>"boxes"
 | 1=>"weights"
 | 2=>"plan"
 | _=>"order"
def zlU (a:Ad):Sp:=fun vs H Q _=>∃ (x:Addr) (i:Nat) (od:Option Addr),vs=[.ref x]∧i<4∧H x=some (zeI x (mkC a i) od)∧(i=2→∃ dx,od=some dx∧H dx=some (.xd [("at",.int (-1))]))∧∀ (r:Addr) (H':Hp),zaL H H'→H' r=some (.lst [.str (mkS i)])→Q (.ref r) H'
theorem isV {x:Addr} {od:Option Addr} {d:V} {cv dv:Value} {b:Bool} (hc:zvm d=some dv) (h:H x=some (zeI x cv od)) (k:zdQ K cv) (e:PySem.W.kitOne K cv dv=some b) (q:Q (.bl b) H):zfw K [.ref x,d] H Q:=⟨x,d,cv,_,dv,b,rfl,hc,h,k,e,q⟩
def zdq (K:PySem.W.Frag):TS :=
 (zcw (zii (tB (tCB (zfw K) (zab (zac 0) (zab (tC (.ty "ValueError")) zah))))) (zbP (tBM K "list" zaI (zac 1) (zab (tC (.str "none")) zah))) zaR)
theorem zbu (K:PySem.W.Frag) (D:zb5) (σ:St) (H:Hp):zdq K D σ H=(zcw (zii (tB (tCB (zfw K) (zab (zac 0) (zab (tC (.ty "ValueError")) zah))))) (zbP (tBM K "list" zaI (zac 1) (zab (tC (.str "none")) zah))) zaR) D σ H:=rfl
def zdu (K:PySem.W.Frag) (a:Ad):TS :=
 (zcw (tOr (tB (tCB (zfm K) (zab (zac 0) (zab (zds (zab (tC (.ref a.c_NoPaper)) (zab (tC (.ref a.c_NoText)) (zab (tC (.ref a.c_NoTree)) zah)))) zah)))) (tB (tCB (zfm K) (zab (zac 0) (zab (zds (zab (tC (.ref a.c_NoTurns)) (zab (tC (.ref a.c_NoWeb)) (zab (tC (.ref a.c_TooGreat)) zah)))) zah))))) (zbP (tBM K "list" zaI (zac 1) (zab (tC (.str "other")) zah))) zaR)
theorem zbw (K:PySem.W.Frag) (a:Ad) (D:zb5) (σ:St) (H:Hp):zdu K a D σ H=(zcw (tOr (tB (tCB (zfm K) (zab (zac 0) (zab (zds (zab (tC (.ref a.c_NoPaper)) (zab (tC (.ref a.c_NoText)) (zab (tC (.ref a.c_NoTree)) zah)))) zah)))) (tB (tCB (zfm K) (zab (zac 0) (zab (zds (zab (tC (.ref a.c_NoTurns)) (zab (tC (.ref a.c_NoWeb)) (zab (tC (.ref a.c_TooGreat)) zah)))) zah))))) (zbP (tBM K "list" zaI (zac 1) (zab (tC (.str "other")) zah))) zaR) D σ H:=rfl
def zdp (K:PySem.W.Frag) (a:Ad):TS :=
 (zcw (tOr (tB (tCB (zfm K) (zab (zac 0) (zab (zds (zab (tC (.ref a.c_NoKind)) (zab (tC (.ref a.c_NoName)) (zab (tC (.ref a.c_NoNumber)) (zab (tC (.ref a.c_NoPlay)) zah))))) zah)))) (tB (tCB (zfm K) (zab (zac 0) (zab (zds (zab (tC (.ref a.c_NoRoad)) (zab (tC (.ref a.c_NoRow)) (zab (tC (.ref a.c_NoTable)) zah)))) zah))))) (zbP (tBM K "list" zaI (zac 1) (zab (tC (.str "other")) zah))) zaR)
theorem zbs (K:PySem.W.Frag) (a:Ad) (D:zb5) (σ:St) (H:Hp):zdp K a D σ H=(zcw (tOr (tB (tCB (zfm K) (zab (zac 0) (zab (zds (zab (tC (.ref a.c_NoKind)) (zab (tC (.ref a.c_NoName)) (zab (tC (.ref a.c_NoNumber)) (zab (tC (.ref a.c_NoPlay)) zah))))) zah)))) (tB (tCB (zfm K) (zab (zac 0) (zab (zds (zab (tC (.ref a.c_NoRoad)) (zab (tC (.ref a.c_NoRow)) (zab (tC (.ref a.c_NoTable)) zah)))) zah))))) (zbP (tBM K "list" zaI (zac 1) (zab (tC (.str "other")) zah))) zaR) D σ H:=rfl
def zdt (K:PySem.W.Frag) (a:Ad):TS :=
 (zcw (tB (tCB (zfw K) (zab (zac 0) (zab (tC (.ref a.c_NoOrder)) zah)))) (zbP (tBM K "list" zaI (zac 1) (zab (tC (.str "order")) zah))) zaR)
theorem zbz (K:PySem.W.Frag) (a:Ad) (D:zb5) (σ:St) (H:Hp):zdt K a D σ H=(zcw (tB (tCB (zfw K) (zab (zac 0) (zab (tC (.ref a.c_NoOrder)) zah)))) (zbP (tBM K "list" zaI (zac 1) (zab (tC (.str "order")) zah))) zaR) D σ H:=rfl
def zdr (K:PySem.W.Frag) (a:Ad):TS :=
 (zaG (zc0 (zdt K a))
 (zaG (zc0 (zdp K a))
 (zaG (zc0 (zdu K a))
 (zaG (zc0 (zdq K))
 (zcu (zac 1))))))
theorem zbA (K:PySem.W.Frag) (a:Ad) (D:zb5) (σ:St) (H:Hp):zdr K a D σ H=(zaG (zc0 (zdt K a))
 (zaG (zc0 (zdp K a))
 (zaG (zc0 (zdu K a))
 (zaG (zc0 (zdq K))
 (zcu (zac 1)))))) D σ H:=rfl
def zee (K:PySem.W.Frag) (a:Ad):TS :=
 (zcw (tB (tCB (zfw K) (zab (zac 0) (zab (tC (.ref a.c_NoPlan)) zah)))) (zbP (tBM K "list" zaI (zac 1) (zab (tOp (zcO K) (zbX (zab (tC (.str "other")) (zab (tC (.str "plan")) zah))) (tCB (fun xs H Q=>(∃ i,xs=[.int i]∧Q (.int i) H)∨∃ k,xs=[.bl k]∧Q (.int (if k then 1 else 0)) H) (zab (zf8 (zop (tCB (zit K) (zab (znt K (zac 0) "at") (zab (tC (.ty "bool")) zah)))) (tOp rEq (znt K (zac 0) "at") (tUn (rU fun i=>.int (-i)) (tC (.int 1))))) zah))) zah))) zaR)
theorem zbq (K:PySem.W.Frag) (a:Ad) (D:zb5) (σ:St) (H:Hp):zee K a D σ H=(zcw (tB (tCB (zfw K) (zab (zac 0) (zab (tC (.ref a.c_NoPlan)) zah)))) (zbP (tBM K "list" zaI (zac 1) (zab (tOp (zcO K) (zbX (zab (tC (.str "other")) (zab (tC (.str "plan")) zah))) (tCB (fun xs H Q=>(∃ i,xs=[.int i]∧Q (.int i) H)∨∃ k,xs=[.bl k]∧Q (.int (if k then 1 else 0)) H) (zab (zf8 (zop (tCB (zit K) (zab (znt K (zac 0) "at") (zab (tC (.ty "bool")) zah)))) (tOp rEq (znt K (zac 0) "at") (tUn (rU fun i=>.int (-i)) (tC (.int 1))))) zah))) zah))) zaR) D σ H:=rfl
def zei (K:PySem.W.Frag) (a:Ad):TS :=
 (zcw (tB (tCB (zfw K) (zab (zac 0) (zab (tC (.ref a.c_NoWeights)) zah)))) (zbP (tBM K "list" zaI (zac 1) (zab (tC (.str "weights")) zah))) zaR)
theorem zbv (K:PySem.W.Frag) (a:Ad) (D:zb5) (σ:St) (H:Hp):zei K a D σ H=(zcw (tB (tCB (zfw K) (zab (zac 0) (zab (tC (.ref a.c_NoWeights)) zah)))) (zbP (tBM K "list" zaI (zac 1) (zab (tC (.str "weights")) zah))) zaR) D σ H:=rfl
def zek (K:PySem.W.Frag) (a:Ad):TS :=
 (zcw (tB (tCB (zfw K) (zab (zac 0) (zab (tC (.ref a.c_NoBudget)) zah)))) (zbP (tBM K "list" zaI (zac 1) (zab (tC (.str "budget")) zah))) zaR)
theorem zbC (K:PySem.W.Frag) (a:Ad) (D:zb5) (σ:St) (H:Hp):zek K a D σ H=(zcw (tB (tCB (zfw K) (zab (zac 0) (zab (tC (.ref a.c_NoBudget)) zah)))) (zbP (tBM K "list" zaI (zac 1) (zab (tC (.str "budget")) zah))) zaR) D σ H:=rfl
def zec (K:PySem.W.Frag) (a:Ad):TS :=
 (zcw (tB (tCB (zfw K) (zab (zac 0) (zab (tC (.ref a.c_NoBoxes)) zah)))) (zbP (tBM K "list" zaI (zac 1) (zab (tC (.str "boxes")) zah))) zaR)
theorem zbt (K:PySem.W.Frag) (a:Ad) (D:zb5) (σ:St) (H:Hp):zec K a D σ H=(zcw (tB (tCB (zfw K) (zab (zac 0) (zab (tC (.ref a.c_NoBoxes)) zah)))) (zbP (tBM K "list" zaI (zac 1) (zab (tC (.str "boxes")) zah))) zaR) D σ H:=rfl
def zeS (K:PySem.W.Frag) (a:Ad):TS :=
 (zaG (za5 (zbX zah) (zak 1))
 (zaG (zc0 (zec K a))
 (zaG (zc0 (zek K a))
 (zaG (zc0 (zei K a))
 (zaG (zc0 (zee K a))
 (zdr K a))))))
structure KK (K:PySem.W.Frag) (a:Ad) (i:Nat):Prop where
 ec:zdQ K (mkC a i)
 kB:PySem.W.kitOne K (mkC a i) (.ref a.c_NoBoxes)=some (decide (i=0))
 kU:PySem.W.kitOne K (mkC a i) (.ref a.c_NoBudget)=some false
 kW:PySem.W.kitOne K (mkC a i) (.ref a.c_NoWeights)=some (decide (i=1))
 kP:PySem.W.kitOne K (mkC a i) (.ref a.c_NoPlan)=some (decide (i=2))
 kO:PySem.W.kitOne K (mkC a i) (.ref a.c_NoOrder)=some (decide (i=3))
 k_NoKind:PySem.W.kitOne K (mkC a i) (.ref a.c_NoKind)=some false
 k_NoName:PySem.W.kitOne K (mkC a i) (.ref a.c_NoName)=some false
 k_NoNumber:PySem.W.kitOne K (mkC a i) (.ref a.c_NoNumber)=some false
 k_NoPlay:PySem.W.kitOne K (mkC a i) (.ref a.c_NoPlay)=some false
 k_NoRoad:PySem.W.kitOne K (mkC a i) (.ref a.c_NoRoad)=some false
 k_NoRow:PySem.W.kitOne K (mkC a i) (.ref a.c_NoRow)=some false
 k_NoTable:PySem.W.kitOne K (mkC a i) (.ref a.c_NoTable)=some false
 k_NoPaper:PySem.W.kitOne K (mkC a i) (.ref a.c_NoPaper)=some false
 k_NoText:PySem.W.kitOne K (mkC a i) (.ref a.c_NoText)=some false
 k_NoTree:PySem.W.kitOne K (mkC a i) (.ref a.c_NoTree)=some false
 k_NoTurns:PySem.W.kitOne K (mkC a i) (.ref a.c_NoTurns)=some false
 k_NoWeb:PySem.W.kitOne K (mkC a i) (.ref a.c_NoWeb)=some false
 k_TooGreat:PySem.W.kitOne K (mkC a i) (.ref a.c_TooGreat)=some false
 kV:PySem.W.kitOne K (mkC a i) (.type "ValueError")=some true
 sub:PySem.W.subIn K (mkC a i) (.ref a.c_HideError)=some true
theorem zu6 {i:Nat} (I:Isa K a) (I2:Isa2 K a) (I3:Isa3 K a) (I4:Isa4 K a) (i4:i<4):KK K a i:=by
 have:i=0∨i=1∨i=2∨i=3:=by omega
 rcases this with rfl | rfl | rfl | rfl
 ·exact ⟨I2.ec,I2.k_NoBoxes,I2.k_NoBudget,I2.k_NoWeights,I2.k_NoPlan,I2.k_NoOrder,I2.k_NoKind,I2.k_NoName,I2.k_NoNumber,I2.k_NoPlay,I2.k_NoRoad,I2.k_NoRow,I2.k_NoTable,I2.k_NoPaper,I2.k_NoText,I2.k_NoTree,I2.k_NoTurns,I2.k_NoWeb,I2.k_TooGreat,I2.k_ValueError,I2.sub⟩
 ·exact ⟨I3.ec,I3.k_NoBoxes,I3.k_NoBudget,I3.k_NoWeights,I3.k_NoPlan,I3.k_NoOrder,I3.k_NoKind,I3.k_NoName,I3.k_NoNumber,I3.k_NoPlay,I3.k_NoRoad,I3.k_NoRow,I3.k_NoTable,I3.k_NoPaper,I3.k_NoText,I3.k_NoTree,I3.k_NoTurns,I3.k_NoWeb,I3.k_TooGreat,I3.k_ValueError,I3.sub⟩
 ·exact ⟨I.ec,I.k_NoBoxes,I.k_NoBudget,I.k_NoWeights,I.k_NoPlan,I.k_NoOrder,I.k_NoKind,I.k_NoName,I.k_NoNumber,I.k_NoPlay,I.k_NoRoad,I.k_NoRow,I.k_NoTable,I.k_NoPaper,I.k_NoText,I.k_NoTree,I.k_NoTurns,I.k_NoWeb,I.k_TooGreat,I.k_ValueError,I.sub⟩
 ·exact ⟨I4.ec,I4.k_NoBoxes,I4.k_NoBudget,I4.k_NoWeights,I4.k_NoPlan,I4.k_NoOrder,I4.k_NoKind,I4.k_NoName,I4.k_NoNumber,I4.k_NoPlay,I4.k_NoRoad,I4.k_NoRow,I4.k_NoTable,I4.k_NoPaper,I4.k_NoText,I4.k_NoTree,I4.k_NoTurns,I4.k_NoWeb,I4.k_TooGreat,I4.k_ValueError,I4.sub⟩
def mkL (i n:Nat):List V:=if i<n then [.str (mkS i)] else []
theorem ztS (i n:Nat):(mkL i n).length<sizeLine:=by
 unfold mkL
 split
 ·exact (by decide:1<sizeLine)
 ·exact (by decide:0<sizeLine)
theorem pcM {x D c:Addr} {s:Str} {b:Bool} {od:Option Addr} {cv:Value} {ls:List V} {R:St→Hp→Prop} (hx:H x=some (zeI x cv od)) (ec:zdQ K cv) (k:PySem.W.kitOne K cv (.ref c)=some b) (hD:H D=some (.lst ls)) (ll:ls.length<sizeLine)
  (q:if b=true then R [some (.ref x),some (.ref D)] (L2.upd H D (.lst (ls++[.str s]))) else R [some (.ref x),some (.ref D)] H) :
  (zcw (tB (tCB (zfw K) (zab (zac 0) (zab (tC (.ref c)) zah)))) (zbP (tBM K "list" zaI (zac 1) (zab (tC (.str s)) zah))) zaR) { nx:=R,rt:=Q } [some (.ref x),some (.ref D)] H:=by
 simp_all only [zbu,zbw,zbs,zbz,zbA,zbq,zbv,zbC,zbt,zac]
 refine isV rfl hx ec k ⟨b,rfl,?_⟩
 cases b with
 | true=>exact ⟨.inl ⟨rfl,_,SqL.of hD⟩,_,hD,ll,q⟩
 | false=>exact q
def InM (H0:Hp) (x D:Addr) (i n:Nat) (σ:St) (H:Hp):Prop:=σ=[some (.ref x),some (.ref D)]∧zaL H0 H∧H D=some (.lst (mkL i n))
theorem InM.go {H0 H1:Hp} {x D:Addr} {i n:Nat} (hD:H0 D=none) (h:InM H0 x D i n [some (.ref x),some (.ref D)] H1):if decide (i=n)=true then InM H0 x D i (n+1) [some (.ref x),some (.ref D)] (L2.upd H1 D (.lst (mkL i n++[.str (mkS n)]))) else InM H0 x D i (n+1) [some (.ref x),some (.ref D)] H1:=by
 obtain ⟨_,s,h⟩:=h
 by_cases e:i=n
 ·subst e
  rw [if_pos (decide_eq_true rfl)]
  refine ⟨rfl,s.put hD,?_⟩
  rw [zai,mkL,mkL,if_neg (Nat.lt_irrefl _),if_pos (Nat.lt_succ_self _)]
  rfl
 ·rw [if_neg (by simpa using e)]
  refine ⟨rfl,s,?_⟩
  rw [h,mkL,mkL]
  by_cases l:i<n
  ·rw [if_pos l,if_pos (by omega)]
  ·rw [if_neg l,if_neg (by omega)]
theorem zjQ {x:Addr} {i:Nat} {od:Option Addr} (I:Isa K a) (I2:Isa2 K a) (I3:Isa3 K a) (I4:Isa4 K a) (xa:zsW K a.c_NoPlan "at") (i4:i<4) (hx:H x=some (zeI x (mkC a i) od)) (hd:i=2→∃ dx,od=some dx∧H dx=some (.xd [("at",.int (-1))])) (q:∀ (r:Addr) (H':Hp),zaL H H'→H' r=some (.lst [.str (mkS i)])→Q (.ref r) H') :
  zeS K a { nx:=fun _ H'=>Q .non H',rt:=Q } (L2.zb1 ["_law_caught","_law_found"] [.ref x]) H:=by
 unfold zeS
 have k:=zu6 I I2 I3 I4 i4
 simp_all only [zbu,zbw,zbs,zbz,zbA,zbq,zbv,zbC,zbt,zac]
 refine ⟨by decide,fun D hD=>?_⟩
 have M0:InM H x D i 0 [some (.ref x),some (.ref D)] (L2.upd H D (.lst [])):=⟨rfl,zaE hD _,by rw [zai,mkL,if_neg (Nat.not_lt_zero _)]⟩
 generalize L2.upd H D (.lst [])=H0 at M0 ⊢
 have lN:=ztS i
 unfold zc0
 refine ⟨InM H x D i 1,by unfold zec;exact pcM (M0.2.1 _ _ hx) k.ec k.kB M0.2.2 (lN _) (M0.go hD),?_⟩
 rintro _ H1 ⟨rfl,M1⟩
 unfold zaG
 refine ⟨InM H x D i 1,by unfold zek;exact pcM (M1.1 _ _ hx) k.ec k.kU M1.2 (lN _) ⟨rfl,M1⟩,?_⟩
 rintro _ H2 ⟨rfl,M2⟩
 refine ⟨InM H x D i 2,by unfold zei;exact pcM (M2.1 _ _ hx) k.ec k.kW M2.2 (lN _) (InM.go hD ⟨rfl,M2⟩),?_⟩
 rintro _ H3 ⟨rfl,M3⟩
 refine ⟨InM H x D i 3,?_,?_⟩
 ·unfold zee
  simp_all only [zbu,zbw,zbs,zbz,zbA,zbq,zbv,zbC,zbt,zac]
  refine isV rfl (M3.1 _ _ hx) k.ec k.kP ⟨_,rfl,?_⟩
  by_cases e:i=2
  ·subst e
   rw [if_pos (decide_eq_true rfl)]
   obtain ⟨dx,rfl,hdx⟩:=hd rfl
   refine ⟨.inl ⟨rfl,_,SqL.of M3.2⟩,by decide,fun p np=>?_⟩
   have nD:=zau M3.2 np
   have s1:=zaE np (.lst [.str "other",.str "plan"])
   have h1:(L2.upd H3 p (.lst [.str "other",.str "plan"])) p=some (.lst [.str "other",.str "plan"]):=zai
   generalize L2.upd H3 p (.lst [.str "other",.str "plan"])=G1 at s1 h1 ⊢
   have SX:=M3.1.trans s1
   refine ⟨a.c_NoPlan,dx,SX _ _ hx,_,SX _ _ hdx,xa,.int (-1),rfl,?_⟩
   refine zgM ⟨false,rfl,ztY rfl ?_⟩
   refine ⟨a.c_NoPlan,dx,SX _ _ hx,_,SX _ _ hdx,xa,.int (-1),rfl,rfl,.inr ?_⟩
   refine ⟨_,SqL.of h1,.str "plan",rfl,_,s1 _ _ M3.2,lN _,rfl,SX.put hD,?_⟩
   rw [zai,mkL,mkL,if_neg (by decide),if_pos (by decide)]
   rfl
  ·rw [if_neg (by simpa using e)]
   refine ⟨rfl,M3.1,?_⟩
   rw [M3.2,mkL,mkL]
   by_cases l:i<2
   ·rw [if_pos l,if_pos (by omega)]
   ·rw [if_neg l,if_neg (by omega)]
 rintro _ H4 ⟨rfl,M4⟩
 show zdr K a _ _ _
 unfold zdr zaG zc0
 refine ⟨InM H x D i 4,by unfold zdt;exact pcM (M4.1 _ _ hx) k.ec k.kO M4.2 (lN _) (InM.go hD ⟨rfl,M4⟩),?_⟩
 rintro _ H5 ⟨rfl,M5⟩
 refine ⟨InM H x D i 4,?_,?_⟩
 ·unfold zdp
  simp_all only [zbu,zbw,zbs,zbz,zbA,zbq,zbv,zbC,zbt,zac]
  refine ⟨by decide,fun p np=>?_⟩
  have s1:=zaE np (.tup [.ref a.c_NoKind,.ref a.c_NoName,.ref a.c_NoNumber,.ref a.c_NoPlay])
  have h1:(L2.upd H5 p (.tup [.ref a.c_NoKind,.ref a.c_NoName,.ref a.c_NoNumber,.ref a.c_NoPlay])) p=some (.tup [.ref a.c_NoKind,.ref a.c_NoName,.ref a.c_NoNumber,.ref a.c_NoPlay]):=zai
  generalize L2.upd H5 p (.tup [.ref a.c_NoKind,.ref a.c_NoName,.ref a.c_NoNumber,.ref a.c_NoPlay])=G1 at s1 h1 ⊢
  refine ⟨_,mkC a i,od,(M5.1.trans s1) _ _ hx,k.ec,SqT.of h1,_,rfl,false,by simp only [PySem.W.kitAny,k.k_NoKind,k.k_NoName,k.k_NoNumber,k.k_NoPlay],?_⟩
  refine zmu (by decide) ⟨by decide,fun p2 np2=>?_⟩
  have s2:=zaE np2 (.tup [.ref a.c_NoRoad,.ref a.c_NoRow,.ref a.c_NoTable])
  have h2:(L2.upd G1 p2 (.tup [.ref a.c_NoRoad,.ref a.c_NoRow,.ref a.c_NoTable])) p2=some (.tup [.ref a.c_NoRoad,.ref a.c_NoRow,.ref a.c_NoTable]):=zai
  generalize L2.upd G1 p2 (.tup [.ref a.c_NoRoad,.ref a.c_NoRow,.ref a.c_NoTable])=G2 at s2 h2 ⊢
  refine ⟨_,mkC a i,od,(M5.1.trans (s1.trans s2)) _ _ hx,k.ec,SqT.of h2,_,rfl,false,by simp only [PySem.W.kitAny,k.k_NoRoad,k.k_NoRow,k.k_NoTable],?_⟩
  exact zmu (by decide) ⟨rfl,M5.1.trans (s1.trans s2),(s1.trans s2) _ _ M5.2⟩
 rintro _ H6 ⟨rfl,M6⟩
 refine ⟨InM H x D i 4,?_,?_⟩
 ·unfold zdu
  simp_all only [zbu,zbw,zbs,zbz,zbA,zbq,zbv,zbC,zbt,zac]
  refine ⟨by decide,fun p np=>?_⟩
  have s1:=zaE np (.tup [.ref a.c_NoPaper,.ref a.c_NoText,.ref a.c_NoTree])
  have h1:(L2.upd H6 p (.tup [.ref a.c_NoPaper,.ref a.c_NoText,.ref a.c_NoTree])) p=some (.tup [.ref a.c_NoPaper,.ref a.c_NoText,.ref a.c_NoTree]):=zai
  generalize L2.upd H6 p (.tup [.ref a.c_NoPaper,.ref a.c_NoText,.ref a.c_NoTree])=G1 at s1 h1 ⊢
  refine ⟨_,mkC a i,od,(M6.1.trans s1) _ _ hx,k.ec,SqT.of h1,_,rfl,false,by simp only [PySem.W.kitAny,k.k_NoPaper,k.k_NoText,k.k_NoTree],?_⟩
  refine zmu (by decide) ⟨by decide,fun p2 np2=>?_⟩
  have s2:=zaE np2 (.tup [.ref a.c_NoTurns,.ref a.c_NoWeb,.ref a.c_TooGreat])
  have h2:(L2.upd G1 p2 (.tup [.ref a.c_NoTurns,.ref a.c_NoWeb,.ref a.c_TooGreat])) p2=some (.tup [.ref a.c_NoTurns,.ref a.c_NoWeb,.ref a.c_TooGreat]):=zai
  generalize L2.upd G1 p2 (.tup [.ref a.c_NoTurns,.ref a.c_NoWeb,.ref a.c_TooGreat])=G2 at s2 h2 ⊢
  refine ⟨_,mkC a i,od,(M6.1.trans (s1.trans s2)) _ _ hx,k.ec,SqT.of h2,_,rfl,false,by simp only [PySem.W.kitAny,k.k_NoTurns,k.k_NoWeb,k.k_TooGreat],?_⟩
  exact zmu (by decide) ⟨rfl,M6.1.trans (s1.trans s2),(s1.trans s2) _ _ M6.2⟩
 rintro _ H7 ⟨rfl,M7⟩
 refine ⟨InM H x D i 4,?_,?_⟩
 ·unfold zdq
  simp_all only [zbu,zbw,zbs,zbz,zbA,zbq,zbv,zbC,zbt,zac]
  exact isV rfl (M7.1 _ _ hx) k.ec k.kV ⟨true,rfl,zmu (by decide) ⟨rfl,M7⟩⟩
 rintro _ H8 ⟨rfl,M8⟩
 simp_all only [zbu,zbw,zbs,zbz,zbA,zbq,zbv,zbC,zbt,zac]
 refine q D H8 M8.1 ?_
 rw [M8.2,mkL,if_pos i4]
theorem zf3:zaM ["_law_caught","_law_found"] ["_law_caught"] (zan zeY):=⟨rfl,rfl,rfl,by decide +kernel,rfl,by decide +kernel,by decide +kernel⟩
theorem zjn (T:Txt K mg a):zdW P w K mg base CX0 3 a.f__law_marks a.d__law_marks ["_law_caught"] (zlU a):=by
 refine T.F__law_marks.ok zf3 (fun vs H Q E h=>?_) (fun cdv A outer s H vs Q E hr h=>?_)
 ·obtain ⟨x,i,od,rfl,i4,hx,hd,q⟩:=h
  rfl
 obtain ⟨x,i,od,rfl,i4,hx,hd,q⟩:=h
 exact ⟨zeS K a,(zaf (zaB (i:=1) zf3.nd rfl (Or.inl rfl) (zaN zad))
 (zaf (zbS (zcv (zcW (zao zcX rfl T.z_isinstance PyProof.Rows.boot_isinstance (zaa (pv 0) (zaa (zbY rfl T.m_NoBoxes rfl) zad)))) (zam (zbF (ze8 PySem.F.plainAttrs_list PySem.F.slot_list_append PySem.F.type_list_append zbU (pv 1) (zaa zc6 zad)))) zaQ))
 (zaf (zbS (zcv (zcW (zao zcX rfl T.z_isinstance PyProof.Rows.boot_isinstance (zaa (pv 0) (zaa (zbY rfl T.m_NoBudget rfl) zad)))) (zam (zbF (ze8 PySem.F.plainAttrs_list PySem.F.slot_list_append PySem.F.type_list_append zbU (pv 1) (zaa zc6 zad)))) zaQ))
 (zaf (zbS (zcv (zcW (zao zcX rfl T.z_isinstance PyProof.Rows.boot_isinstance (zaa (pv 0) (zaa (zbY rfl T.m_NoWeights rfl) zad)))) (zam (zbF (ze8 PySem.F.plainAttrs_list PySem.F.slot_list_append PySem.F.type_list_append zbU (pv 1) (zaa zc6 zad)))) zaQ))
 (zaf (zbS (zcv (zcW (zao zcX rfl T.z_isinstance PyProof.Rows.boot_isinstance (zaa (pv 0) (zaa (zbY rfl T.m_NoPlan rfl) zad)))) (zam (zbF (ze8 PySem.F.plainAttrs_list PySem.F.slot_list_append PySem.F.type_list_append zbU (pv 1) (zaa (zbZ za1 (zaN (zaa zc6 (zaa zc6 zad))) (zc1 zlx rfl T.z_int zjg (zaa (zhF (zrJ (zao zcz rfl T.z_isinstance PyProof.Rows.boot_isinstance (zaa (zoM (pv 0) rfl) (zaa (zex rfl T.z_bool zku rfl) zad)))) (zi6 (zfA zgn (zoM (pv 0) rfl) (znr zi2 zag) (zbH _)))) zad)) (fun _ _=>rfl)) zad)))) zaQ))
 (zaf (zbS (zcv (zcW (zao zcX rfl T.z_isinstance PyProof.Rows.boot_isinstance (zaa (pv 0) (zaa (zbY rfl T.m_NoOrder rfl) zad)))) (zam (zbF (ze8 PySem.F.plainAttrs_list PySem.F.slot_list_append PySem.F.type_list_append zbU (pv 1) (zaa zc6 zad)))) zaQ))
 (zaf (zbS (zcv (PW.pt (zkU (zcW (zao zfc rfl T.z_isinstance PyProof.Rows.boot_isinstance (zaa (pv 0) (zaa (zca (zaa (zbY rfl T.m_NoKind rfl) (zaa (zbY rfl T.m_NoName rfl) (zaa (zbY rfl T.m_NoNumber rfl) (zaa (zbY rfl T.m_NoPlay rfl) zad))))) zad)))) (zig (zcW (zao zfc rfl T.z_isinstance PyProof.Rows.boot_isinstance (zaa (pv 0) (zaa (zca (zaa (zbY rfl T.m_NoRoad rfl) (zaa (zbY rfl T.m_NoRow rfl) (zaa (zbY rfl T.m_NoTable rfl) zad)))) zad))))))) (zam (zbF (ze8 PySem.F.plainAttrs_list PySem.F.slot_list_append PySem.F.type_list_append zbU (pv 1) (zaa zc6 zad)))) zaQ))
 (zaf (zbS (zcv (PW.pt (zkU (zcW (zao zfc rfl T.z_isinstance PyProof.Rows.boot_isinstance (zaa (pv 0) (zaa (zca (zaa (zbY rfl T.m_NoPaper rfl) (zaa (zbY rfl T.m_NoText rfl) (zaa (zbY rfl T.m_NoTree rfl) zad)))) zad)))) (zig (zcW (zao zfc rfl T.z_isinstance PyProof.Rows.boot_isinstance (zaa (pv 0) (zaa (zca (zaa (zbY rfl T.m_NoTurns rfl) (zaa (zbY rfl T.m_NoWeb rfl) (zaa (zbY rfl T.m_TooGreat rfl) zad)))) zad))))))) (zam (zbF (ze8 PySem.F.plainAttrs_list PySem.F.slot_list_append PySem.F.type_list_append zbU (pv 1) (zaa zc6 zad)))) zaQ))
 (zaf (zbS (zcv (zeE (zcW (zao zcX rfl T.z_isinstance PyProof.Rows.boot_isinstance (zaa (pv 0) (zaa (zex rfl T.z_ValueError zia rfl) zad))))) (zam (zbF (ze8 PySem.F.plainAttrs_list PySem.F.slot_list_append PySem.F.type_list_append zbU (pv 1) (zaa zc6 zad)))) zaQ))
 (zam (zaY (pv 1)))))))))))),
  zjQ T.I T.I2 T.I3 T.I4 T.xa_NoPlan i4 hx hd q⟩
def zpx (a:Ad):Sp:=fun vs H Q E=>∃ (k:Int) (vb vw vp vo:V),vs=[.int k,vb,vw,vp,vo]∧(((k=0∨k=1)∧zpN a H E vb vw vp vo fun _ _ _ _ _ _ _ _ _=>∀ H',zaL H H'→Q .non H')∨(k=2∧znM a H E vb vw vp fun _ _ _ _ _ _ ns=>ns.sum<64∧∀ H',zaL H H'→Q .non H'))
theorem znM.mono {H:Hp} {E:XK} {vb vw vp:V} {G G':Addr→Addr→Addr→List Addr→List Box→List Int→List Int→Prop} (h:znM a H E vb vw vp G) (f:∀ l wl pl ts bs ws ns,BWP H l wl pl ts bs ws ns→G l wl pl ts bs ws ns→G' l wl pl ts bs ws ns):znM a H E vb vw vp G':=by
 rcases h with h | h | h | ⟨l,wl,pl,ts,bs,ws,ns,h1,h2,h3,h4,h5⟩
 ·exact .inl h
 ·exact .inr (.inl h)
 ·exact .inr (.inr (.inl h))
 ·exact .inr (.inr (.inr ⟨l,wl,pl,ts,bs,ws,ns,h1,h2,h3,h4,f _ _ _ _ _ _ _ h4 h5⟩))
theorem zpN.mono {H:Hp} {E:XK} {vb vw vp vo:V} {G G':Addr→Addr→Addr→Addr→List Addr→List Box→List Int→List Int→List Nat→Prop} (h:zpN a H E vb vw vp vo G) (f:∀ l wl pl ol ts bs ws ns os,BWO H l wl pl ol ts bs ws ns os→G l wl pl ol ts bs ws ns os→G' l wl pl ol ts bs ws ns os):zpN a H E vb vw vp vo G' :=
 znM.mono h fun l wl pl ts bs ws ns _ z=>by
  rcases z with z | ⟨ol,os,h1,h2,h3⟩
  ·exact .inl z
  ·exact .inr ⟨ol,os,h1,h2,f _ _ _ _ _ _ _ _ _ h2 h3⟩
def zcn (a:Ad) (E:XK):TS :=
 (zcw (za8 (tOp rEq (zac 0) (tC (.int 1)))) (zbP (zat (zdM a) [] E (zab (zac 1) (zab (zac 2) (zab (zac 3) (zab (zac 4) zah)))))) zaR)
theorem zaV (a:Ad) (E:XK) (D:zb5) (σ:St) (H:Hp):zcn a E D σ H=(zcw (za8 (tOp rEq (zac 0) (tC (.int 1)))) (zbP (zat (zdM a) [] E (zab (zac 1) (zab (zac 2) (zab (zac 3) (zab (zac 4) zah)))))) zaR) D σ H:=rfl
def zbR (a:Ad) (E:XK):TS :=
 (zaG (zc0 (zcn a E))
 (zcw (za8 (tOp rEq (zac 0) (tC (.int 2)))) (zbP (zat (zjZ a) [] E (zab (zac 1) (zab (zac 2) (zab (zac 3) zah))))) zaR))
theorem zaW (a:Ad) (E:XK) (D:zb5) (σ:St) (H:Hp):zbR a E D σ H=(zaG (zc0 (zcn a E))
 (zcw (za8 (tOp rEq (zac 0) (tC (.int 2)))) (zbP (zat (zjZ a) [] E (zab (zac 1) (zab (zac 2) (zab (zac 3) zah))))) zaR)) D σ H:=rfl
def zcQ (a:Ad) (E:XK):TS :=
 (zcw (za8 (tOp rEq (zac 0) (tC (.int 0)))) (zbP (zat (zdM a) [] E (zab (zac 1) (zab (zac 2) (zab (zac 3) (zab (zac 4) zah)))))) zaR)
theorem zaU (a:Ad) (E:XK) (D:zb5) (σ:St) (H:Hp):zcQ a E D σ H=(zcw (za8 (tOp rEq (zac 0) (tC (.int 0)))) (zbP (zat (zdM a) [] E (zab (zac 1) (zab (zac 2) (zab (zac 3) (zab (zac 4) zah)))))) zaR) D σ H:=rfl
def zeT (a:Ad) (E:XK):TS :=
 (zaG (zc0 (zcQ a E))
 (zbR a E))
theorem zjO {E:XK} {k:Int} {vb vw vp vo:V} (h:((k=0∨k=1)∧zpN a H E vb vw vp vo fun _ _ _ _ _ _ _ _ _=>∀ H',zaL H H'→Q .non H')∨(k=2∧znM a H E vb vw vp fun _ _ _ _ _ _ ns=>ns.sum<64∧∀ H',zaL H H'→Q .non H')) :
  zeT a E { nx:=fun _ H'=>Q .non H',rt:=Q } (L2.zb1 ["_law_k","_law_boxes_here","_law_weights_here","_law_plan_here","_law_order_here"] [.int k,vb,vw,vp,vo]) H:=by
 unfold zeT
 simp_all only [zaV,zaW,zaU,zac]
 have fin:∀ {H1:Hp},(∀ H',zaL H1 H'→Q .non H')→∀ σ,k≠2→∀ u v w x y,σ=[some (.int k),some u,some v,some w,some x]→y=(zcw (za8 (tOp rEq (zac 0) (tC (.int 2)))) (zbP (zat (zjZ a) [] E (zab (zac 1) (zab (zac 2) (zab (zac 3) zah))))) zaR) { nx:=fun _ H'=>Q .non H',rt:=Q } σ H1→y:=by
  rintro H1 q σ n2 u v w x y rfl rfl
  simp_all only [zaV,zaW,zaU,zac]
  exact zmu (by simpa using n2) (q _ (.refl _))
 unfold zc0
 rcases h with ⟨rfl | rfl,h⟩ | ⟨rfl,h⟩
 ·refine ⟨fun σ' H'=>σ'=[some (.int 0),some vb,some vw,some vp,some vo]∧∀ H'',zaL H' H''→Q .non H'',?_,?_⟩
  ·unfold zcQ
   simp_all only [zaV,zaW,zaU,zac]
   exact ⟨vb,vw,vp,vo,rfl,h.mono fun _ _ _ _ _ _ _ _ _ _ q v H' s H'' s'=>q H'' (s.trans s')⟩
  rintro _ H1 ⟨rfl,q1⟩
  show zbR a E _ _ _
  unfold zbR zaG zc0
  refine ⟨fun σ' H'=>σ'=[some (.int 0),some vb,some vw,some vp,some vo]∧H'=H1,?_,?_⟩
  ·unfold zcn
   simp_all only [zaV,zaW,zaU,zac]
   exact zmu (by decide) trivial
  rintro _ _ ⟨rfl,rfl⟩
  exact fin q1 _ (by decide) _ _ _ _ _ rfl rfl
 ·refine ⟨fun σ' H'=>σ'=[some (.int 1),some vb,some vw,some vp,some vo]∧H'=H,?_,?_⟩
  ·unfold zcQ
   simp_all only [zaV,zaW,zaU,zac]
   exact zmu (by decide) trivial
  rintro _ H1 ⟨rfl,rfl⟩
  show zbR a E _ _ _
  unfold zbR zaG zc0
  refine ⟨fun σ' H'=>σ'=[some (.int 1),some vb,some vw,some vp,some vo]∧∀ H'',zaL H' H''→Q .non H'',?_,?_⟩
  ·unfold zcn
   simp_all only [zaV,zaW,zaU,zac]
   exact ⟨vb,vw,vp,vo,rfl,h.mono fun _ _ _ _ _ _ _ _ _ _ q v H' s H'' s'=>q H'' (s.trans s')⟩
  rintro _ H2 ⟨rfl,q1⟩
  exact fin q1 _ (by decide) _ _ _ _ _ rfl rfl
 ·refine ⟨fun σ' H'=>σ'=[some (.int 2),some vb,some vw,some vp,some vo]∧H'=H,?_,?_⟩
  ·unfold zcQ
   simp_all only [zaV,zaW,zaU,zac]
   exact zmu (by decide) trivial
  rintro _ H1 ⟨rfl,rfl⟩
  show zbR a E _ _ _
  unfold zbR zaG zc0
  refine ⟨fun σ' H'=>σ'=[some (.int 2),some vb,some vw,some vp,some vo]∧H'=H1,?_,?_⟩
  ·unfold zcn
   simp_all only [zaV,zaW,zaU,zac]
   exact zmu (by decide) trivial
  rintro _ H2 ⟨rfl,rfl⟩
  simp_all only [zaV,zaW,zaU,zac]
  exact ⟨vb,vw,vp,rfl,h.mono fun _ _ _ _ _ _ _ _ q=>⟨q.1,fun v H' s=>q.2 H' s⟩⟩
theorem zju:zaM ["_law_k","_law_boxes_here","_law_weights_here","_law_plan_here","_law_order_here"] ["_law_k","_law_boxes_here","_law_weights_here","_law_plan_here","_law_order_here"] (zan zeZ):=⟨rfl,rfl,rfl,by decide +kernel,rfl,by decide +kernel,by decide +kernel⟩
theorem zjt (T:Txt K mg a):zdW P w K mg base (CXV P w) 8 a.f__law_asked a.d__law_asked ["_law_k","_law_boxes_here","_law_weights_here","_law_plan_here","_law_order_here"] (zpx a):=by
 have G_awaited:=znq (P:=P) (w:=w) (base:=base) T
 have G_best_order:=zjo (P:=P) (w:=w) (base:=base) T
 have G_is_sorted:=zlg (P:=P) (w:=w) (base:=base) T
 refine T.F__law_asked.okV zju (fun vs H Q E h=>?_) (fun cdv A outer s H vs Q E hr h=>?_)
 ·obtain ⟨k,vb,vw,vp,vo,rfl,h⟩:=h
  rfl
 obtain ⟨k,vb,vw,vp,vo,rfl,h⟩:=h
 exact ⟨zeT a E,(zaf (zbS (zcv (zbl zgn (pv 0) zag (zbH _)) (zam (zbF (zap G_awaited (hr.mono (by decide)) rfl T.m_awaited T.F_awaited.kp T.b_awaited .nil zkm (zaa (pv 1) (zaa (pv 2) (zaa (pv 3) (zaa (pv 4) zad))))))) zaQ))
 (zaf (zbS (zcv (zbl zgn (pv 0) zag (zbH _)) (zam (zbF (zap G_is_sorted (hr.mono (by decide)) rfl T.m_is_sorted T.F_is_sorted.kp T.b_is_sorted .nil zkm (zaa (pv 1) (zaa (pv 2) (zaa (pv 3) (zaa (pv 4) zad))))))) zaQ))
 (zam (zcv (zbl zgn (pv 0) zag (zbH _)) (zam (zbF (zap G_best_order (hr.mono (by decide)) rfl T.m_best_order T.F_best_order.kp T.b_best_order .nil zkm (zaa (pv 1) (zaa (pv 2) (zaa (pv 3) zad)))))) zaQ)))),
  zjO h⟩
def zlO (c0 c1 c2 c3:Bool):List V:=if c0 then [.str (mkS 0)] else if c1 then [.str (mkS 1)] else if c2 then [.str (mkS 2)] else if c3 then [.str (mkS 3)] else []
def Gv (c:Bool) (P:Prop) (v:V) (l:Addr):Prop:=if c=true then P else v=.ref l
def zhD (a:Ad):Sp:=fun vs H Q _=>∃ (k:Int) (vb vw vp vo:V) (l wl pl ol:Addr) (ts:List Addr) (bs:List Box) (ws ns:List Int) (os:List Nat) (c0 c1 c2 c3:Bool),vs=[.int k,vb,vw,vp,vo]∧0≤k∧k<3∧BWO H l wl pl ol ts bs ws ns os∧ns.sum<64 ∧
 Gv c0 (zlT H vb) vb l∧Gv c1 (zmT H vw bs.length) vw wl∧Gv c2 (zmU H vp bs.length) vp pl∧Gv c3 (zlu H vo ns) vo ol∧∀ (r:Addr) (H':Hp),zaL H H'→H' r=some (.lst (zlO c0 c1 c2 (if k=2 then false else c3)))→Q (.ref r) H'
theorem zuc {H:Hp} {E:XK} {vb vw vp:V} {l wl pl:Addr} {ts:List Addr} {bs:List Box} {ws ns:List Int} {c0 c1 c2:Bool} {G:Addr→Addr→Addr→List Addr→List Box→List Int→List Int→Prop} (B:BWP H l wl pl ts bs ws ns) (gb:Gv c0 (zlT H vb) vb l) (gw:Gv c1 (zmT H vw bs.length) vw wl) (gp:Gv c2 (zmU H vp bs.length) vp pl)
  (e0:c0=true→∀ H',zaL H H'→E (.ref a.c_NoBoxes) none H') (e1:c0=false→c1=true→∀ H',zaL H H'→E (.ref a.c_NoWeights) none H') (e2:c0=false→c1=false→c2=true→∀ (H':Hp) (dx:Addr),zaL H H'→H' dx=none→E (.ref a.c_NoPlan) (some dx) (L2.upd H' dx (.xd [("at",.int (-1))])))
  (g:c0=false→c1=false→c2=false→G l wl pl ts bs ws ns):znM a H E vb vw vp G:=by
 cases c0 with
 | true=>exact .inl ⟨gb,e0 rfl⟩
 | false =>
  cases c1 with
  | true=>exact .inr (.inl ⟨l,ts,bs,gb,B.gd,gw,e1 rfl rfl⟩)
  | false =>
   cases c2 with
   | true=>exact .inr (.inr (.inl ⟨l,wl,ts,bs,ws,gb,gw,B.gd,B.hw,B.lw,B.gw,B.sw,gp,e2 rfl rfl rfl⟩))
   | false=>exact .inr (.inr (.inr ⟨l,wl,pl,ts,bs,ws,ns,gb,gw,gp,B,g rfl rfl rfl⟩))
def zeg (K:PySem.W.Frag) (a:Ad):TS :=
 (zaG (za5 (tC .non) (zak 5))
 (zaG (ztQ K (fun E'=>(zbP (zo8 (zpx a) [] E' (zab (zac 0) (zab (zac 1) (zab (zac 2) (zab (zac 3) (zab (zac 4) zah)))))))) (.ref a.c_HideError) 6
 (za5 (zac 6) (zak 5)))
 (zaG (zc0 (zcw (za8 (tOp (fun x y H Q=>y=.non∧Q (.bl (decide (x=.non))) H) (zac 5) (tC .non))) (zcu (zbX zah)) zaR))
 (zcu (zat (zlU a) [] E0 (zab (zac 5) zah))))))
def aft (a:Ad) (Q:VK) (σ:St) (H:Hp):Prop:=zc0 (zcw (za8 (tOp (fun x y H Q=>y=V.non∧Q (V.bl (decide (x=V.non))) H) (zac 5) (tC V.non))) (zcu (zbX zah)) zaR) { nx:=zcu (zat (zlU a) [] E0 (zab (zac 5) zah)) { nx:=fun _ H'=>Q V.non H',rt:=Q },rt:=Q } σ H
theorem zhg {k:Int} {vb vw vp vo:V} {l wl pl ol:Addr} {ts:List Addr} {bs:List Box} {ws ns:List Int} {os:List Nat} {c0 c1 c2 c3:Bool} (I:Isa K a) (I2:Isa2 K a) (I3:Isa3 K a) (I4:Isa4 K a) (k0:0≤k) (k3:k<3) (B:BWO H l wl pl ol ts bs ws ns os) (sm:ns.sum<64)
  (gb:Gv c0 (zlT H vb) vb l) (gw:Gv c1 (zmT H vw bs.length) vw wl) (gp:Gv c2 (zmU H vp bs.length) vp pl) (go:Gv c3 (zlu H vo ns) vo ol) (q:∀ (r:Addr) (H':Hp),zaL H H'→H' r=some (.lst (zlO c0 c1 c2 (if k=2 then false else c3)))→Q (.ref r) H') :
  zeg K a { nx:=fun _ H'=>Q .non H',rt:=Q } (L2.zb1 ["_law_k","_law_boxes_here","_law_weights_here","_law_plan_here","_law_order_here","_law_caught","e"] [.int k,vb,vw,vp,vo]) H:=by
 unfold zeg
 simp_all only [zac]
 have ct:∀ (i:Nat) (od:Option Addr) (H1:Hp),i<4→zaL H H1→(i=2→∃ dx,od=some dx∧H1 dx=some (.xd [("at",.int (-1))]))→zlO c0 c1 c2 (if k=2 then false else c3)=[.str (mkS i)] →
   zdQ K (mkC a i)∧PySem.W.subIn K (mkC a i) (.ref a.c_HideError)=some true∧∀ x:Addr,H1 x=none→aft a Q [some (V.int k),some vb,some vw,some vp,some vo,some (V.ref x),none] (L2.upd H1 x (zeI x (mkC a i) od)):=by
  intro i od H1 i4 s1 hd e
  have kk:=zu6 I I2 I3 I4 i4
  refine ⟨kk.ec,kk.sub,fun x nx=>?_⟩
  have s2:=zaE nx (zeI x (mkC a i) od)
  have h2:(L2.upd H1 x (zeI x (mkC a i) od)) x=some (zeI x (mkC a i) od):=zai
  generalize L2.upd H1 x (zeI x (mkC a i) od)=H2 at s2 h2 ⊢
  unfold aft zc0
  refine ⟨fun σ' H'=>σ'=[some (V.int k),some vb,some vw,some vp,some vo,some (V.ref x),none]∧H'=H2,?_,?_⟩
  ·simp_all only [zac]
  rintro _ H3 ⟨rfl,rfl⟩
  simp_all only [zac]
  refine ⟨x,i,od,rfl,i4,h2,fun z=>?_,fun r H' s hr=>q r H' ((s1.trans s2).trans s) (by rw [hr,e])⟩
  obtain ⟨dx,e1,e2⟩:=hd z
  exact ⟨dx,e1,s2 _ _ e2⟩
 have no:∀ H1:Hp,zaL H H1→zlO c0 c1 c2 (if k=2 then false else c3)=[]→aft a Q [some (V.int k),some vb,some vw,some vp,some vo,some V.non,none] H1:=by
  intro H1 s1 e
  unfold aft zc0
  refine ⟨fun _ _=>False,?_,fun _ _ z=>z.elim⟩
  simp_all only [zac]
  exact ⟨by decide,fun p hp=>q p _ (s1.trans (zaE hp _)) (by rw [zai,e])⟩
 have e0:c0=true→zlO c0 c1 c2 (if k=2 then false else c3)=[.str (mkS 0)]:=fun h=>by rw [h];rfl
 have e1:c0=false→c1=true→zlO c0 c1 c2 (if k=2 then false else c3)=[.str (mkS 1)]:=fun h h'=>by rw [h,h'];rfl
 have e2:c0=false→c1=false→c2=true→zlO c0 c1 c2 (if k=2 then false else c3)=[.str (mkS 2)]:=fun h h' h''=>by rw [h,h',h''];rfl
 have n2:∀ i:Nat,i≠2→∀ (od:Option Addr) (H1:Hp),i=2→∃ dx,od=some dx∧H1 dx=some (.xd [("at",.int (-1))]):=fun i n _ _ z=>absurd z n
 have A:=fun G=>zuc (a:=a) (E:=fun c od H'=>zdQ K c∧PySem.W.subIn K c (.ref a.c_HideError)=some true∧∀ x:Addr,H' x=none→aft a Q [some (V.int k),some vb,some vw,some vp,some vo,some (V.ref x),none] (L2.upd H' x (zeI x c od))) (G:=G) B.w gb gw gp (fun h H' s=>ct 0 none H' (by decide) s (n2 0 (by decide) _ _) (e0 h)) (fun h h' H' s=>ct 1 none H' (by decide) s (n2 1 (by decide) _ _) (e1 h h'))
   (fun h h' h'' H' dx s nd=>ct 2 (some dx) _ (by decide) (s.trans (zaE nd _)) (fun _=>⟨dx,rfl,zai⟩) (e2 h h' h''))
 refine ⟨k,vb,vw,vp,vo,rfl,?_⟩
 by_cases k2:k=2
 ·refine .inr ⟨k2,A _ fun h h' h''=>⟨sm,fun H' s=>no H' s (by rw [h,h',h'',if_pos k2];rfl)⟩⟩
 ·refine .inl ⟨by omega,A _ fun h h' h''=>?_⟩
  cases c3 with
  | true=>exact .inl ⟨go,fun H' s=>ct 3 none H' (by decide) s (n2 3 (by decide) _ _) (by rw [h,h',h'',if_neg k2];rfl)⟩
  | false=>exact .inr ⟨ol,os,go,B,fun H' s=>no H' s (by rw [h,h',h'',if_neg k2];rfl)⟩
theorem zc4:zaM ["_law_k","_law_boxes_here","_law_weights_here","_law_plan_here","_law_order_here","_law_caught","e"] ["_law_k","_law_boxes_here","_law_weights_here","_law_plan_here","_law_order_here"] (zan zd6):=⟨rfl,rfl,rfl,by decide +kernel,rfl,by decide +kernel,by decide +kernel⟩
theorem zh8 (T:Txt K mg a):zdW P w K mg base CX0 9 a.f__law_refused a.d__law_refused ["_law_k","_law_boxes_here","_law_weights_here","_law_plan_here","_law_order_here"] (zhD a):=by
 have G__law_asked:=zjt (P:=P) (w:=w) (base:=base) T
 have G__law_marks:=zjn (P:=P) (w:=w) (base:=base) T
 refine T.F__law_refused.ok zc4 (fun vs H Q E h=>?_) (fun cdv A outer s H vs Q E hr h=>?_)
 ·obtain ⟨k,vb,vw,vp,vo,l,wl,pl,ol,ts,bs,ws,ns,os,c0,c1,c2,c3,rfl,k0,k3,B,sm,gb,gw,gp,go,q⟩:=h
  rfl
 obtain ⟨k,vb,vw,vp,vo,l,wl,pl,ol,ts,bs,ws,ns,os,c0,c1,c2,c3,rfl,k0,k3,B,sm,gb,gw,gp,go,q⟩:=h
 exact ⟨zeg K a,(zaf (zaB (i:=5) zc4.nd rfl (Or.inl rfl) zgG)
 (zaf (zts (i:=6) T.m_HideError T.x_HideError rfl zc4.nd rfl rfl rfl rfl rfl rfl (fun pins E'=>(zam (zbF (zqg G__law_asked (hr.mono (by decide)) rfl T.m__law_asked T.F__law_asked.kp T.b__law_asked .nil zvl (zaa (pv 0) (zaa (pv 1) (zaa (pv 2) (zaa (pv 3) (zaa (pv 4) zad)))))))))
 (fun ea=>(zam (zaB (i:=5) zc4.nd rfl (Or.inl rfl) (pv 6)))))
 (zaf (zbS (zcv (zbl zuG (pv 5) zgG (zbH _)) (zam (zaY (zaN zad))) zaQ))
 (zam (zaY (zap G__law_marks (hr.mono (by decide)) rfl T.m__law_marks T.F__law_marks.kp T.b__law_marks .nil za0 (zaa (pv 5) zad))))))),
  zhg T.I T.I2 T.I3 T.I4 k0 k3 B sm gb gw gp go q⟩
def ci (b:Bool):V:=.int (if b=true then 1 else 0)
theorem zql (w:Int):∃ b,V.int (w % 2)=ci b:=by
 have h0:=Int.emod_nonneg w (show (2:Int)≠0 by decide)
 have h1:=Int.emod_lt_of_pos w (show (0:Int)<2 by decide)
 have:w % 2=0∨w % 2=1:=by omega
 rcases this with e | e <;> rw [e]
 ·exact ⟨false,rfl⟩
 ·exact ⟨true,rfl⟩
theorem zpC {p c b:Addr} {H:Hp} (h1:b≠p) (h2:b≠c):Off p c H b=H b:=by
 unfold Off
 rw [if_neg (fun z=>z.elim h1 h2)]
def cw (w:Int) (k:Nat):V:=.int (if (k:Int)=w - 16 then 1 else 0)
theorem zqv (w:Int) (k:Nat):cw w k=ci (decide ((k:Int)=w - 16)):=by
 unfold cw ci
 by_cases e:(k:Int)=w - 16
 ·rw [if_pos e,if_pos (decide_eq_true e)]
 ·rw [if_neg e,if_neg (by simpa using e)]
def zhJ:Sp:=fun vs H Q _=>∃ (p c:Addr) (t:Int),vs=[.ref p]∧Pur H p c t∧t<10000∧∀ (r:Addr) (t':Int) (H':Hp) (c0 c1 c2 c3:Bool),zaL (Off p c H) (Off p c H')→Pur H' p c t'→t'≤t+1→Off p c H' r=some (.lst [ci c0,ci c1,ci c2,ci c3])→Q (.ref r) H'
def zdD:TS :=
 (zcu (zdm (zeo (zab (tC (.int 4)) zah)) (zak 0) zbM (tCB (fun xs H Q=>(∃ i,xs=[.int i]∧Q (.int i) H)∨∃ k,xs=[.bl k]∧Q (.int (if k then 1 else 0)) H) (zab (tOp rEq (zac 0) (tOp (rI0 fun i j=>.int (i - j)) (zac 1) (tC (.int 16)))) zah)) [none,some 1]))
theorem zcf (D:zb5) (σ:St) (H:Hp):zdD D σ H=(zcu (zdm (zeo (zab (tC (.int 4)) zah)) (zak 0) zbM (tCB (fun xs H Q=>(∃ i,xs=[.int i]∧Q (.int i) H)∨∃ k,xs=[.bl k]∧Q (.int (if k then 1 else 0)) H) (zab (tOp rEq (zac 0) (tOp (rI0 fun i j=>.int (i - j)) (zac 1) (tC (.int 16)))) zah)) [none,some 1])) D σ H:=rfl
def zdE:TS :=
 (zcw (za8 (tOp (rI0 fun i j=>.bl (decide (i<j))) (zac 1) (tC (.int 16)))) (zcu (zbX (zab (tOp (rI (fun _ j=>0<j) fun i j=>.int (i % j)) (zac 1) (tC (.int 2))) (zab (tOp (rI (fun _ j=>0<j) fun i j=>.int (i % j)) (tOp (rI (fun _ j=>0<j∧j.natAbs.log2<9000) fun i j=>.int (i / j)) (zac 1) (tC (.int 2))) (tC (.int 2))) (zab (tOp (rI (fun _ j=>0<j) fun i j=>.int (i % j)) (tOp (rI (fun _ j=>0<j∧j.natAbs.log2<9000) fun i j=>.int (i / j)) (zac 1) (tC (.int 4))) (tC (.int 2))) (zab (tOp (rI (fun _ j=>0<j) fun i j=>.int (i % j)) (tOp (rI (fun _ j=>0<j∧j.natAbs.log2<9000) fun i j=>.int (i / j)) (zac 1) (tC (.int 8))) (tC (.int 2))) zah)))))) zaR)
theorem zch (D:zb5) (σ:St) (H:Hp):zdE D σ H=(zcw (za8 (tOp (rI0 fun i j=>.bl (decide (i<j))) (zac 1) (tC (.int 16)))) (zcu (zbX (zab (tOp (rI (fun _ j=>0<j) fun i j=>.int (i % j)) (zac 1) (tC (.int 2))) (zab (tOp (rI (fun _ j=>0<j) fun i j=>.int (i % j)) (tOp (rI (fun _ j=>0<j∧j.natAbs.log2<9000) fun i j=>.int (i / j)) (zac 1) (tC (.int 2))) (tC (.int 2))) (zab (tOp (rI (fun _ j=>0<j) fun i j=>.int (i % j)) (tOp (rI (fun _ j=>0<j∧j.natAbs.log2<9000) fun i j=>.int (i / j)) (zac 1) (tC (.int 4))) (tC (.int 2))) (zab (tOp (rI (fun _ j=>0<j) fun i j=>.int (i % j)) (tOp (rI (fun _ j=>0<j∧j.natAbs.log2<9000) fun i j=>.int (i / j)) (zac 1) (tC (.int 8))) (tC (.int 2))) zah)))))) zaR) D σ H:=rfl
def zeb:TS :=
 (zaG (za5 (zat zaO [] E0 (zab (zac 0) (zab (tC (.int 20)) zah))) (zak 1))
 (zaG (zc0 (zdE))
 (zdD)))
theorem zh7 {p c:Addr} {t:Int} (P:Pur H p c t) (t1:t<10000) (q:∀ (r:Addr) (t':Int) (H':Hp) (c0 c1 c2 c3:Bool),zaL (Off p c H) (Off p c H')→Pur H' p c t'→t'≤t+1→Off p c H' r=some (.lst [ci c0,ci c1,ci c2,ci c3])→Q (.ref r) H') :
  zeb { nx:=fun _ H'=>Q .non H',rt:=Q } (L2.zb1 ["_law_purse_here","_law_which"] [.ref p]) H:=by
 unfold zeb
 have t0:=P.t0
 simp_all only [zcf,zch,zac]
 refine ⟨p,c,t,_,rfl,P,by omega,by decide,by decide,fun w H1 w0 w1 o1 P1=>?_⟩
 have s1:=zcr o1
 unfold zc0
 refine ⟨fun σ' H'=>σ'=[some (V.ref p),some (.int w)]∧H'=H1,?_,?_⟩
 ·unfold zdE
  simp_all only [zcf,zch,zac]
  refine zdZ (fun _=>?_) (fun _=>trivial)
  refine ⟨by decide,by decide,by decide,by decide,by decide,by decide,by decide,by decide,by decide,by decide,by decide,fun r nr=>?_⟩
  obtain ⟨b0,e0⟩:=zql w
  obtain ⟨b1,e1⟩:=zql (w / 2)
  obtain ⟨b2,e2⟩:=zql (w / 4)
  obtain ⟨b3,e3⟩:=zql (w / 8)
  rw [e0,e1,e2,e3]
  obtain ⟨s2,h2,P2⟩:=P1.put nr (.lst [ci b0,ci b1,ci b2,ci b3])
  exact q r _ _ b0 b1 b2 b3 (s1.trans s2) P2 (by omega) h2
 rintro _ H2 ⟨rfl,rfl⟩
 unfold zdD
 simp_all only [zcf,zch,zac]
 refine ⟨by decide,by decide,fun D hD=>?_⟩
 have nD:=P1.new hD
 have A:=P1.put hD (.lst [])
 refine zdV (fun i ys σ H'=>zaL (Off p c H2) (Off p c H')∧Pur H' p c (t+1)∧ys=(List.range i).map (cw w)∧∃ k,σ=[k,some (.int w)]) ⟨A.1,A.2.2,rfl,_,rfl⟩ ?_ ?_
 ·rintro i ys σ H3 hi hr3 ⟨s3,P3,rfl,k,rfl⟩
  simp_all only [zcf,zch,zac]
  refine .inr ⟨_,hr3,zbN (by rw [List.length_map,List.length_range];omega),_,zai,?_,P3.upd nD.1 nD.2,?_⟩
  ·rw [zaH nD.1 nD.2]
   exact s3.put (zbQ hD)
  ·rw [List.range_succ,List.map_append,Int.zero_add]
   rfl
 ·rintro ys σ H3 hr3 ⟨s3,P3,rfl,k,rfl⟩
  have e4:H3 D=some (.lst [cw w 0,cw w 1,cw w 2,cw w 3]):=hr3
  rw [zqv,zqv,zqv,zqv] at e4
  exact q D _ H3 _ _ _ _ (s1.trans s3) P3 (by omega) ((zpC nD.1 nD.2).trans e4)
theorem zeJ:zaM ["_law_purse_here","_law_which"] ["_law_purse_here"] (zan zdo):=⟨rfl,rfl,rfl,by decide +kernel,rfl,by decide +kernel,by decide +kernel⟩
theorem zhV (T:Txt K mg a):zdW P w K mg base CX0 2 a.f__law_choices a.d__law_choices ["_law_purse_here"] zhJ:=by
 have G__law_draw:=zb2 (P:=P) (w:=w) (base:=base) T
 refine T.F__law_choices.ok zeJ (fun vs H Q E h=>?_) (fun cdv A outer s H vs Q E hr h=>?_)
 ·obtain ⟨p,c,t,rfl,hP,t1,q⟩:=h
  rfl
 obtain ⟨p,c,t,rfl,hP,t1,q⟩:=h
 exact ⟨zeb,(zaf (zaB (i:=1) zeJ.nd rfl (Or.inr rfl) (zap G__law_draw (hr.mono (by decide)) rfl T.m__law_draw T.F__law_draw.kp T.b__law_draw .nil za0 (zaa (pv 0) (zaa zag zad))))
 (zaf (zbS (zcv (zbl zoT (pv 1) zag (zbH _)) (zam (zaY (zaN (zaa (zaA zgK (pv 1) zag) (zaa (zaA zgK (zaA zg5 (pv 1) zag) zag) (zaa (zaA zgK (zaA zg5 (pv 1) zag) zag) (zaa (zaA zgK (zaA zg5 (pv 1) zag) zag) zad))))))) zaQ))
 (zam (zaY (zdN (sc:=zan zdo) (N:=["_law_purse_here","_law_which"]) (Nc:=["_law_k","_law_which"]) (cap:=[none,some 1]) rfl rfl rfl (.of (by decide +kernel)) (zcb rfl T.z_range (zaa zag zad)) (fun _ _ _ _=>(zaF (i:=0) (show List.Nodup (["_law_k","_law_which"]:List Str) from by decide) rfl (Or.inl rfl))) (fun _ _ _ _=>zc7) (fun _ _ _ _=>(zc1 zlx rfl T.z_int zjg (zaa (zfA zgn (pv 0) (zaA zeq (pv 1) zag) (zbH _)) zad)))))))),
  zh7 hP t1 q⟩
theorem NL.tg {H:Hp} {v:V} (h:NL H v):Tg H v:=by
 cases h with
 | non=>exact .non
 | bl b=>exact .bl b
 | int i=>exact .int i
 | str x=>exact .str x
 | tup h=>exact .tup h
theorem zlT.tg {H:Hp} {v:V} (h:zlT H v):Tg H v:=by
 rcases h with h | ⟨l,xs,cs,rfl,h,_⟩
 ·exact h.tg
 ·exact .lst h
theorem zmT.tg {H:Hp} {v:V} {n:Int} (h:zmT H v n):Tg H v:=by
 rcases h with h | ⟨l,xs,rfl,h,_⟩
 ·exact h.tg
 ·exact .lst h
theorem zmU.tg {H:Hp} {v:V} {n:Nat} (h:zmU H v n):Tg H v:=by
 rcases h with h | ⟨l,xs,rfl,h,_⟩
 ·exact h.tg
 ·exact .lst h
theorem zlu.tg {H:Hp} {v:V} {ns:List Int} (h:zlu H v ns):Tg H v:=by
 rcases h with h | ⟨l,xs,rfl,h,_⟩
 ·exact h.tg
 ·exact .lst h
theorem Tg.put {H:Hp} {b:Addr} {ys ys':List V} {x:V} (h:Tg H x) (hb:H b=some (.lst ys)):Tg (L2.upd H b (.lst ys')) x:=by
 cases h with
 | non=>exact .non
 | bl b=>exact .bl b
 | int i=>exact .int i
 | str x=>exact .str x
 | @lst a xs h =>
  by_cases e:a=b
  ·subst e
   exact .lst zai
  ·exact .lst (by rw [zaC e];exact h)
 | @tup a xs h =>
  have e:a≠b:=fun e=>by
   subst e
   rw [h] at hb
   cases hb
  exact .tup (by rw [zaC e];exact h)
theorem zlu.put {H:Hp} {b:Addr} {ys ys':List V} {v:V} {ns:List Int} (h:zlu H v ns) (hb:H b=some (.lst ys)) (hm:v∈ys') (hl:ys'.length≤900) (ht:∀ x∈ys',Tg H x):zlu (L2.upd H b (.lst ys')) v ns:=by
 rcases h with h | ⟨a,xs,rfl,ha,hx,hT,g⟩
 ·refine .inl ?_
  cases h with
  | non=>exact .non
  | bl b=>exact .bl b
  | int i=>exact .int i
  | str x=>exact .str x
  | @tup a xs h =>
   have e:a≠b:=fun e=>by
    subst e
    rw [h] at hb
    cases hb
   exact .tup (by rw [zaC e];exact h)
 ·by_cases e:a=b
  ·subst e
   exact .inr ⟨a,ys',rfl,zai,hl,fun x hx=>(ht x hx).put hb,zo1 hm rfl⟩
  ·exact .inr ⟨a,xs,rfl,by rw [zaC e];exact ha,hx,fun x hx=>(hT x hx).put hb,g⟩
theorem ztO {H:Hp} {v:V} {n:Nat} (h:BadN H v n 0):zmT H v n:=by
 rcases h with h | ⟨a,xs,e,ha,hx,hT,g⟩
 ·exact .inl h
 ·refine .inr ⟨a,xs,e,ha,hx,hT,?_⟩
  unfold gW
  rcases g with g | ⟨x,hm,g⟩
  ·rw [decide_eq_false (fun z=>g (by omega))]
   rfl
  ·have:xs.all nn=false:=by
    rw [Bool.eq_false_iff]
    intro z
    have:=List.all_eq_true.mp z x hm
    unfold bdN at g
    rw [if_pos rfl,this] at g
    cases g
   rw [this,Bool.and_false]
   rfl
theorem ztd {H:Hp} {v:V} {n:Nat} (h:BadN H v n 60):zmU H v n:=by
 rcases h with h | ⟨a,xs,e,ha,hx,hT,g⟩
 ·exact .inl h
 ·refine .inr ⟨a,xs,e,ha,hx,hT,?_⟩
  unfold gP
  rcases g with g | ⟨x,hm,g⟩
  ·rw [decide_eq_false g]
   rfl
  ·have:xs.all (wi 0 60)=false:=by
    rw [Bool.eq_false_iff]
    intro z
    have:=List.all_eq_true.mp z x hm
    unfold bdN at g
    rw [if_neg (by decide),this] at g
    cases g
   rw [this,Bool.and_false]
theorem sum0:∀ n:Nat,((List.replicate n (V.int 0)).map iv).sum=0
 | 0=>rfl
 | n+1=>by
  rw [List.replicate_succ,List.map_cons,List.sum_cons,sum0 n]
  rfl
theorem bad0 {H:Hp} {a:Addr} {n:Nat} (h:H a=some (.lst (List.replicate n (V.int 0)))) (l:n≤900):zmT H (.ref a) n:=by
 refine .inr ⟨a,_,rfl,h,by rw [List.length_replicate];exact l,fun x hx=>by rw [(List.mem_replicate.mp hx).2];exact .int _,?_⟩
 unfold gW
 rw [sum0 n,decide_eq_false (by decide:¬ (0:Int)<0),Bool.and_false]
structure LwH (H:Hp) (l wl pl ol g kp k1 k2 k3 k4:Addr) (ts:List Addr) (bs:List Box) (ws ns:List Int) (os:List Nat):Prop where
 B:BWO H l wl pl ol ts bs ws ns os
 hg:H g=some (.lst [.ref l,.ref wl,.ref pl,.ref ol])
 hk:H kp=some (.lst [.ref k1,.ref k2,.ref k3,.ref k4])
 h1:H k1=some (.lst (ts.map V.ref))
 h2:H k2=some (.lst (ws.map V.int))
 h3:H k3=some (.lst (ns.map V.int))
 h4:H k4=some (.lst (za7 os))
theorem LwH.same {H H':Hp} {l wl pl ol g kp k1 k2 k3 k4:Addr} {ts:List Addr} {bs:List Box} {ws ns:List Int} {os:List Nat} (L:LwH H l wl pl ol g kp k1 k2 k3 k4 ts bs ws ns os) (s:zaL H H'):LwH H' l wl pl ol g kp k1 k2 k3 k4 ts bs ws ns os :=
 ⟨L.B.same s,s _ _ L.hg,s _ _ L.hk,s _ _ L.h1,s _ _ L.h2,s _ _ L.h3,s _ _ L.h4⟩
structure Bnt (H:Hp) (b:Addr) (vb vw vp vo:V) (bs:List Box) (ns:List Int):Prop where
 hb:H b=some (.lst [vb,vw,vp,vo])
 bb:zlT H vb
 bw:zmT H vw bs.length
 bp:zmU H vp bs.length
 bo:zlu H vo ns
theorem Bnt.same {H H':Hp} {b:Addr} {vb vw vp vo:V} {bs:List Box} {ns:List Int} (h:Bnt H b vb vw vp vo bs ns) (s:zaL H H'):Bnt H' b vb vw vp vo bs ns:=⟨s _ _ h.hb,h.bb.same s,h.bw.same s,h.bp.same s,h.bo.same s⟩
theorem shI {H:Hp} {p:Addr} {is:List Int} {n:Nat} (h:H p=some (.lst (is.map V.int))):zc3 K H (n+1) (.lst (is.map Tr.int)) (.ref p):=by
 refine .lst (SqL.of h) (by rw [List.length_map,List.length_map]) fun i x t e1 e2=>?_
 obtain ⟨a,ea,rfl⟩:=zcS e1
 obtain ⟨b,eb,rfl⟩:=zcS e2
 rw [ea] at eb
 cases eb
 exact .int _
theorem shO {H:Hp} {p:Addr} {os:List Nat} {n:Nat} (h:H p=some (.lst (za7 os))):zc3 K H (n+1) (.lst ((os.map fun k:Nat=>(k:Int)).map Tr.int)) (.ref p):=by
 refine shI ?_
 rw [h,za7,List.map_map]
 rfl
def bxT (b:Box):Tr:=.tup [.int b.1,.int b.2.1,.int b.2.2]
theorem shB {H:Hp} {p:Addr} {ts:List Addr} {bs:List Box} (h:H p=some (.lst (ts.map V.ref))) (hb:Tps bx H ts bs):zc3 K H (0+1+1) (.lst (bs.map bxT)) (.ref p):=by
 refine .lst (SqL.of h) (by rw [List.length_map,List.length_map,hb.1]) fun i x t e1 e2=>?_
 obtain ⟨a,ea,rfl⟩:=zcS e1
 obtain ⟨b,eb,rfl⟩:=zcS e2
 refine .tup (SqT.of (hb.2 i a b ea eb)) rfl fun j y r f1 f2=>?_
 match j,f1,f2 with
 | 0,f1,f2=>cases f1;cases f2;exact .int _
 | 1,f1,f2=>cases f1;cases f2;exact .int _
 | 2,f1,f2=>cases f1;cases f2;exact .int _
theorem sh4 {H:Hp} {p a b c d:Addr} {A B C D:Tr} {n:Nat} (h:H p=some (.lst [.ref a,.ref b,.ref c,.ref d])) (ha:zc3 K H n A (.ref a)) (hb:zc3 K H n B (.ref b)) (hc:zc3 K H n C (.ref c)) (hd:zc3 K H n D (.ref d)):zc3 K H (n+1) (.lst [A,B,C,D]) (.ref p):=by
 refine .lst (SqL.of h) rfl fun j y r f1 f2=>?_
 match j,f1,f2 with
 | 0,f1,f2=>cases f1;cases f2;exact ha
 | 1,f1,f2=>cases f1;cases f2;exact hb
 | 2,f1,f2=>cases f1;cases f2;exact hc
 | 3,f1,f2=>cases f1;cases f2;exact hd
theorem shS {H:Hp} {p:Addr} {ss:List Str} (h:H p=some (.lst (ss.map V.str))):zc3 K H (0+1) (.lst (ss.map Tr.str)) (.ref p):=by
 refine .lst (SqL.of h) (by rw [List.length_map,List.length_map]) fun i x t e1 e2=>?_
 obtain ⟨a,ea,rfl⟩:=zcS e1
 obtain ⟨b,eb,rfl⟩:=zcS e2
 rw [ea] at eb
 cases eb
 exact .str _
def pick (cs:List Bool) (gs bd:List V) (k:Nat):V:=if cs.getD k false=true then bd.getD k .non else gs.getD k .non
theorem get4 {x0 x1 x2 x3 y0 y1 y2 y3:V} (c0 c1 c2 c3:Bool) {j:Nat} (h:j<4):([x0,x1,x2,x3]:List V)[j]?=some (([x0,x1,x2,x3]:List V).getD j .non)∧([y0,y1,y2,y3]:List V)[j]?=some (([y0,y1,y2,y3]:List V).getD j .non)∧([ci c0,ci c1,ci c2,ci c3]:List V)[j]?=some (ci (([c0,c1,c2,c3]:List Bool).getD j false)):=by
 have:j=0∨j=1∨j=2∨j=3:=by omega
 rcases this with rfl | rfl | rfl | rfl <;> exact ⟨rfl,rfl,rfl⟩
def zrO (cs:List Bool) (i:Nat):List V:=((List.range i).filter fun k=>cs.getD k false).map fun k=>V.str (mkS k)
def zuv (c0 c1 c2 c3:Bool):List Str:=if c0 then [mkS 0] else if c1 then [mkS 1] else if c2 then [mkS 2] else if c3 then [mkS 3] else []
theorem zmo (c0 c1 c2 c3:Bool):zlO c0 c1 c2 c3=(zuv c0 c1 c2 c3).map V.str:=by
 cases c0 <;> cases c1 <;> cases c2 <;> cases c3 <;> rfl
theorem str4 {j:Nat} (h:j<4):([V.str "boxes",V.str "weights",V.str "plan",V.str "order"]:List V)[j]?=some (V.str (mkS j)):=by
 have:j=0∨j=1∨j=2∨j=3:=by omega
 rcases this with rfl | rfl | rfl | rfl <;> rfl
theorem zqW (cs:List Bool) (i:Nat):zrO cs (i+1)=zrO cs i++(if cs.getD i false=true then [V.str (mkS i)] else []):=by
 unfold zrO
 rw [List.range_succ,List.filter_append,List.map_append]
 congr 1
 rw [List.filter_cons,List.filter_nil]
 cases cs.getD i false <;> rfl
theorem zp1 (c0 c1 c2 c3:Bool):(zrO [c0,c1,c2,c3] 4).take 1=zlO c0 c1 c2 c3:=by
 cases c0 <;> cases c1 <;> cases c2 <;> cases c3 <;> rfl
theorem zsh (cs:List Bool) (i:Nat):(zrO cs i).length≤i:=by
 unfold zrO
 rw [List.length_map]
 exact Nat.le_trans (List.length_filter_le _ _) (by rw [List.length_range];exact Nat.le_refl _)
theorem zuC (c0 c1 c2 c3:Bool):∀ x∈zuv c0 c1 c2 c3,okS x:=by
 intro x hx
 cases c0 <;> cases c1 <;> cases c2 <;> cases c3 <;> first | cases hx;done | (rw [List.mem_singleton.mp hx];first | exact trivial | (unfold okS;first | rfl | decide | decide +kernel))
theorem zux (c0 c1 c2 c3:Bool) (h:¬ zuv c0 c1 c2 c3=[mkS 3]):zlO c0 c1 c2 false=zlO c0 c1 c2 c3:=by
 cases c0 <;> cases c1 <;> cases c2 <;> cases c3 <;> first | rfl | exact absurd rfl h
theorem ztU (c0 c1 c2 c3:Bool) (h:zuv c0 c1 c2 c3=[mkS 3]):zlO c0 c1 c2 false=[]:=by
 cases c0 <;> cases c1 <;> cases c2 <;> cases c3 <;> first | rfl | exact absurd h (by decide) | exact absurd h (by decide +kernel)
def zjA (K:PySem.W.Frag) (a:Ad):TS :=
 (zcw (za8 (tOp (rNeD K) (zat (zhD a) [] E0 (zab (zac 13) (zab (tOp (zcO K) (zac 11) (tC (.int 0))) (zab (tOp (zcO K) (zac 11) (tC (.int 1))) (zab (tOp (zcO K) (zac 11) (tC (.int 2))) (zab (tOp (zcO K) (zac 11) (tC (.int 3))) zah)))))) (zac 14))) (zcu (tC (.bl false))) zaR)
theorem zby (K:PySem.W.Frag) (a:Ad) (D:zb5) (σ:St) (H:Hp):zjA K a D σ H=(zcw (za8 (tOp (rNeD K) (zat (zhD a) [] E0 (zab (zac 13) (zab (tOp (zcO K) (zac 11) (tC (.int 0))) (zab (tOp (zcO K) (zac 11) (tC (.int 1))) (zab (tOp (zcO K) (zac 11) (tC (.int 2))) (zab (tOp (zcO K) (zac 11) (tC (.int 3))) zah)))))) (zac 14))) (zcu (tC (.bl false))) zaR) D σ H:=rfl
def zji (K:PySem.W.Frag):TS :=
 (zcw (zpP (za8 (tOp rEq (zac 13) (tC (.int 2)))) (za8 (tOp (rEqS K) (zac 14) (zbX (zab (tC (.str "order")) zah))))) (za5 (zbX zah) (zak 14)) zaR)
theorem zbx (K:PySem.W.Frag) (D:zb5) (σ:St) (H:Hp):zji K D σ H=(zcw (zpP (za8 (tOp rEq (zac 13) (tC (.int 2)))) (za8 (tOp (rEqS K) (zac 14) (zbX (zab (tC (.str "order")) zah))))) (za5 (zbX zah) (zak 14)) zaR) D σ H:=rfl
def zmk (K:PySem.W.Frag) (a:Ad):TS :=
 (zaG (za5 (zat zhJ [] E0 (zab (zac 1) zah)) (zak 10))
 (zaG (za5 (zdm (zeo (zab (tC (.int 4)) zah)) (zak 0) zbM (tOp (zcO K) (zbX (zab (tOp (zcO K) (zac 2) (zac 0)) (zab (tOp (zcO K) (zac 3) (zac 0)) zah))) (tOp (zcO K) (zac 1) (zac 0))) [none,some 10,some 6,some 8]) (zak 11))
 (zaG (za5 (zdm (zeo (zab (tC (.int 4)) zah)) (zak 0) (za8 (tOp rEq (tOp (zcO K) (zac 1) (zac 0)) (tC (.int 1)))) (tOp (zcO K) (zbX (zab (tC (.str "boxes")) (zab (tC (.str "weights")) (zab (tC (.str "plan")) (zab (tC (.str "order")) zah))))) (zac 0)) [none,some 10]) (zak 12))
 (zk7 (zeo (zab (tC (.int 3)) zah)) (zak 13)
 (zaG (za5 (tSl (zfl K) (zac 12) zaZ (zcP (tC (.int 1)))) (zak 14))
 (zaG (zc0 (zji K))
 (zjA K a)))))))
theorem zbB (K:PySem.W.Frag) (a:Ad) (D:zb5) (σ:St) (H:Hp):zmk K a D σ H=(zaG (za5 (zat zhJ [] E0 (zab (zac 1) zah)) (zak 10))
 (zaG (za5 (zdm (zeo (zab (tC (.int 4)) zah)) (zak 0) zbM (tOp (zcO K) (zbX (zab (tOp (zcO K) (zac 2) (zac 0)) (zab (tOp (zcO K) (zac 3) (zac 0)) zah))) (tOp (zcO K) (zac 1) (zac 0))) [none,some 10,some 6,some 8]) (zak 11))
 (zaG (za5 (zdm (zeo (zab (tC (.int 4)) zah)) (zak 0) (za8 (tOp rEq (tOp (zcO K) (zac 1) (zac 0)) (tC (.int 1)))) (tOp (zcO K) (zbX (zab (tC (.str "boxes")) (zab (tC (.str "weights")) (zab (tC (.str "plan")) (zab (tC (.str "order")) zah))))) (zac 0)) [none,some 10]) (zak 12))
 (zk7 (zeo (zab (tC (.int 3)) zah)) (zak 13)
 (zaG (za5 (tSl (zfl K) (zac 12) zaZ (zcP (tC (.int 1)))) (zak 14))
 (zaG (zc0 (zji K))
 (zjA K a))))))) D σ H:=rfl
def zml (K:PySem.W.Frag):TS :=
 (zcw (za8 (tOp rEq (zat zaO [] E0 (zab (zac 1) (zab (tC (.int 8)) zah))) (tC (.int 1)))) (za5 (tOp ztW (zbX (zab (tC (.int 0)) zah)) (tCB (fun xs H Q=>∃ p ys,xs=[.ref p]∧(SqL K H p ys∨SqT K H p ys)∧Q (.int ys.length) H) (zab (zac 2) zah))) (znV (zac 8) (tC (.int 1)) zid)) zaR)
theorem zbr (K:PySem.W.Frag) (D:zb5) (σ:St) (H:Hp):zml K D σ H=(zcw (za8 (tOp rEq (zat zaO [] E0 (zab (zac 1) (zab (tC (.int 8)) zah))) (tC (.int 1)))) (za5 (tOp ztW (zbX (zab (tC (.int 0)) zah)) (tCB (fun xs H Q=>∃ p ys,xs=[.ref p]∧(SqL K H p ys∨SqT K H p ys)∧Q (.int ys.length) H) (zab (zac 2) zah))) (znV (zac 8) (tC (.int 1)) zid)) zaR) D σ H:=rfl
def zsj (K:PySem.W.Frag) (a:Ad):TS :=
 (zaG (za5 (zat (zoz K) [] E0 (zab (zac 0) zah)) (zak 1))
 (zaG (za5 (zat zpA [] E0 (zab (zac 1) (zab (tC (.int 6)) zah))) (zak 2))
 (zaG (za5 (zat zkF [] E0 (zab (zac 1) (zab (tCB (fun xs H Q=>∃ p ys,xs=[.ref p]∧(SqL K H p ys∨SqT K H p ys)∧Q (.int ys.length) H) (zab (zac 2) zah)) zah))) (zak 3))
 (zaG (za5 (zat zpa [] E0 (zab (zac 1) (zab (tCB (fun xs H Q=>∃ p ys,xs=[.ref p]∧(SqL K H p ys∨SqT K H p ys)∧Q (.int ys.length) H) (zab (zac 2) zah)) zah))) (zak 4))
 (zaG (za5 (zat zn8 [] E0 (zab (zac 1) (zab (zac 4) zah))) (zak 5))
 (zaG (za5 (zbX (zab (zac 2) (zab (zac 3) (zab (zac 4) (zab (zac 5) zah))))) (zak 6))
 (zaG (za5 (zbX (zab (tCB (fun xs H Q=>∃ p ys,xs=[.ref p]∧(SqL K H p ys∨SqT K H p ys)∧∀ l,H l=none→Q (.ref l) (upd H l (.lst ys))) (zab (zac 2) zah)) (zab (tCB (fun xs H Q=>∃ p ys,xs=[.ref p]∧(SqL K H p ys∨SqT K H p ys)∧∀ l,H l=none→Q (.ref l) (upd H l (.lst ys))) (zab (zac 3) zah)) (zab (tCB (fun xs H Q=>∃ p ys,xs=[.ref p]∧(SqL K H p ys∨SqT K H p ys)∧∀ l,H l=none→Q (.ref l) (upd H l (.lst ys))) (zab (zac 4) zah)) (zab (tCB (fun xs H Q=>∃ p ys,xs=[.ref p]∧(SqL K H p ys∨SqT K H p ys)∧∀ l,H l=none→Q (.ref l) (upd H l (.lst ys))) (zab (zac 5) zah)) zah))))) (zak 7))
 (zaG (za5 (zbX (zab (zat zln [] E0 (zab (zac 1) (zab (zac 2) zah))) (zab (zat zfF [] E0 (zab (zac 1) (zab (zac 3) (zab (tC (.int 0)) zah)))) (zab (zat zfF [] E0 (zab (zac 1) (zab (zac 4) (zab (tC (.int 60)) zah)))) zah)))) (zak 8))
 (zaG (zbP (tBM K "list" zaI (zac 8) (zab (zat zk9 [] E0 (zab (zac 1) (zab (zac 5) (zab (tCB (fun xs H Q=>∃ p ys,xs=[.ref p]∧(SqL K H p ys∨SqT K H p ys)∧Q (.int ys.length) H) (zab (zac 2) zah)) zah)))) zah)))
 (zaG (zc0 (zml K))
 (zaG (zk7 (zeo (zab (tC (.int 4)) zah)) (zak 9)
 (zmk K a))
 (zcu (tOp (rEqD K) (zac 6) (zac 7))))))))))))))
theorem zvh {p:Addr} {ns0:List Int} (hS:SqL K H p (ns0.map V.int)) (hl:ns0.length≤63) (q:∀ H',Q (.bl true) H') :
  zsj K a { nx:=fun _ H'=>Q .non H',rt:=Q } (L2.zb1 ["_law_script","_law_purse_here","_law_boxes_here","_law_weights_here","_law_plan_here","_law_order_here","_law_good","_law_kept","_law_bent","_law_turn","_law_choices_here","_law_handed","_law_due","_law_k","_law_wanted"] [.ref p]) H:=by
 unfold zsj
 simp_all only [zby,zbx,zbB,zbr,zac]
 refine ⟨p,ns0,rfl,hS,fun u c H1 s1 P1=>?_⟩
 simp only
 refine ⟨u,c,0,rfl,P1,by decide,fun l ts bs t2 H2 s2 P2 ht2 hl2 hb2 gb l1 l6=>?_⟩
 have t20:=P2.t0
 simp_all only [zby,zbx,zbB,zbr,zac]
 refine ⟨_,.inl (SqL.of (zaj _ _ _ _ _ hl2)),?_⟩
 rw [List.length_map,hb2.1]
 refine ⟨u,c,t2,_,rfl,P2,by omega,by omega,by omega,fun wl ws t3 H3 s3 P3 ht3 hw3 lw gw sw=>?_⟩
 have t30:=P3.t0
 have hl3:=s3 _ _ hl2
 simp_all only [zby,zbx,zbB,zbr,zac]
 refine ⟨_,.inl (SqL.of (zaj _ _ _ _ _ hl3)),?_⟩
 rw [List.length_map,hb2.1]
 refine ⟨u,c,t3,_,rfl,P3,by omega,by omega,by omega,fun pl ns t4 H4 s4 P4 ht4 hp4 ln gn n64=>?_⟩
 have t40:=P4.t0
 have B4:BWP (Off u c H4) l wl pl ts bs ws ns:=⟨⟨s4 _ _ hl3,(hb2.same s3).same s4,hp4,by omega,gb,gn,l1,l6⟩,s4 _ _ hw3,by omega,gw,sw⟩
 refine ⟨u,c,pl,t4,ns,rfl,P4,by omega,hp4,by omega,gn,fun ol os t5 H5 s5 P5 ht5 ho5 O _=>?_⟩
 have t50:=P5.t0
 have B:BWO (Off u c H5) l wl pl ol ts bs ws ns os:=⟨B4.same s5,ho5,O⟩
 clear B4 hp4 hl3 hw3 hl2 s2 s3 s4 s5 P1 P2 P3 P4 ho5
 simp_all only [zby,zbx,zbB,zbr,zac]
 refine ⟨by decide,fun g n1=>?_⟩
 obtain ⟨z1,hg,Q1⟩:=P5.put n1 (.lst [.ref l,.ref wl,.ref pl,.ref ol])
 generalize L2.upd H5 g (.lst [.ref l,.ref wl,.ref pl,.ref ol])=A1 at z1 hg Q1 ⊢
 replace B:=B.same z1
 refine ⟨_,.inl (SqL.of (zaj _ _ _ _ _ B.w.bp.hl)),fun k1 n2=>?_⟩
 obtain ⟨z2,hk1,Q2⟩:=Q1.put n2 (.lst (ts.map V.ref))
 generalize L2.upd A1 k1 (.lst (ts.map V.ref))=A2 at z2 hk1 Q2 ⊢
 replace B:=B.same z2
 refine ⟨_,.inl (SqL.of (zaj _ _ _ _ _ B.w.hw)),fun k2 n3=>?_⟩
 obtain ⟨z3,hk2,Q3⟩:=Q2.put n3 (.lst (ws.map V.int))
 generalize L2.upd A2 k2 (.lst (ws.map V.int))=A3 at z3 hk2 Q3 ⊢
 replace B:=B.same z3
 refine ⟨_,.inl (SqL.of (zaj _ _ _ _ _ B.w.bp.hp)),fun k3 n4=>?_⟩
 obtain ⟨z4,hk3,Q4⟩:=Q3.put n4 (.lst (ns.map V.int))
 generalize L2.upd A3 k3 (.lst (ns.map V.int))=A4 at z4 hk3 Q4 ⊢
 replace B:=B.same z4
 refine ⟨_,.inl (SqL.of (zaj _ _ _ _ _ B.ho)),fun k4 n5=>?_⟩
 obtain ⟨z5,hk4,Q5⟩:=Q4.put n5 (.lst (za7 os))
 generalize L2.upd A4 k4 (.lst (za7 os))=A5 at z5 hk4 Q5 ⊢
 refine ⟨by decide,fun kp n6=>?_⟩
 obtain ⟨z6,hkp,Q6⟩:=Q5.put n6 (.lst [.ref k1,.ref k2,.ref k3,.ref k4])
 generalize L2.upd A5 kp (.lst [.ref k1,.ref k2,.ref k3,.ref k4])=A6 at z6 hkp Q6 ⊢
 have L:LwH (Off u c A6) l wl pl ol g kp k1 k2 k3 k4 ts bs ws ns os:=⟨(B.same z5).same z6,(z2.trans (z3.trans (z4.trans (z5.trans z6)))) _ _ hg,hkp,(z3.trans (z4.trans (z5.trans z6))) _ _ hk1,(z4.trans (z5.trans z6)) _ _ hk2,(z5.trans z6) _ _ hk3,z6 _ _ hk4⟩
 clear B hg hkp hk1 hk2 hk3 hk4 z1 z2 z3 z4 z5 z6 Q1 Q2 Q3 Q4 Q5
 refine ⟨u,c,l,t5,ts,bs,rfl,Q6,by omega,L.B.w.gd,fun vb t6 A7 z7 Q7 ht6 bb=>?_⟩
 replace L:=L.same z7
 have t60:=Q7.t0
 refine ⟨u,c,wl,t6,0,ws,rfl,Q7,by omega,L.B.w.hw,by omega,by omega,.inl rfl,fun vw t7 A8 z8 Q8 ht7 bw=>?_⟩
 replace L:=L.same z8
 replace bb:=bb.same z8
 have t70:=Q8.t0
 refine ⟨u,c,pl,t7,60,ns,rfl,Q8,by omega,L.B.w.bp.hp,by omega,by omega,.inr rfl,fun vp t8 A9 z9 Q9 ht8 bp=>?_⟩
 replace L:=L.same z9
 replace bb:=bb.same z9
 replace bw:zmT (Off u c A9) vw bs.length:=by
  have:=(ztO bw).same z9
  rw [show ws.length=bs.length by omega] at this
  exact this
 replace bp:zmU (Off u c A9) vp bs.length:=by
  have:=ztd bp
  rw [show ns.length=bs.length by omega] at this
  exact this
 have t80:=Q9.t0
 refine ⟨by decide,fun b n7=>?_⟩
 have nb:=Q9.new n7
 have ob:=zbQ (p:=u) (c:=c) n7
 obtain ⟨y1,hb,R1⟩:=Q9.put n7 (.lst [vb,vw,vp])
 generalize L2.upd A9 b (.lst [vb,vw,vp])=C1 at y1 hb R1 ⊢
 refine ⟨.inl ⟨rfl,_,SqL.of (zaj _ _ _ _ _ hb)⟩,_,.inl (SqL.of (zaj _ _ _ _ _ (L.same y1).B.w.bp.hl)),?_⟩
 rw [List.length_map,hb2.1,show bs.length=ns.length by omega]
 refine ⟨u,c,ol,t8,ns,os,rfl,R1,by omega,(L.same y1).B.ho,O,by omega,by omega,fun vo t9 C2 y2 R2 ht9 bo=>?_⟩
 have t90:=R2.t0
 have y12:=y1.trans y2
 replace hb:=y2 _ _ hb
 refine ⟨_,zaj _ _ _ _ _ hb,by show 3<sizeLine;decide,?_⟩
 simp only [List.cons_append,List.nil_append]
 have sC:zaL (Off u c A9) (Off u c (L2.upd C2 b (.lst [vb,vw,vp,vo]))):=by
  rw [zaH nb.1 nb.2]
  exact y12.put ob
 have hT:∀ x∈[vb,vw,vp,vo],Tg (Off u c C2) x:=by
  intro x hx
  simp only [List.mem_cons,List.not_mem_nil,or_false] at hx
  rcases hx with rfl | rfl | rfl | rfl
  ·exact bb.tg.same y12
  ·exact bw.tg.same y12
  ·exact bp.tg.same y12
  ·exact bo.tg
 have N3:Bnt (Off u c (L2.upd C2 b (.lst [vb,vw,vp,vo]))) b vb vw vp vo bs ns:=by
  refine ⟨?_,bb.same sC,bw.same sC,bp.same sC,?_⟩
  ·rw [zaH nb.1 nb.2]
   exact zai
  ·rw [zaH nb.1 nb.2]
   exact bo.put hb (by simp) (by show 4≤900;decide) hT
 have L3:=L.same sC
 have R3:=R2.upd (o:=.lst [vb,vw,vp,vo]) nb.1 nb.2
 have f3:∀ z,L2.upd C2 b (.lst [vb,vw,vp,vo]) z=none→Off u c A9 z=none:=fun z hz=>sC.free (zbQ hz)
 generalize L2.upd C2 b (.lst [vb,vw,vp,vo])=C3 at sC N3 L3 R3 f3 ⊢
 clear hT hb y1 y2 y12 bo R1 R2 Q6 Q7 Q8 z7 z8 z9
 unfold zc0
 refine ⟨fun σ' H'=>∃ (vw':V) (t':Int),σ'=[some (V.ref p),some (V.ref u),some (V.ref l),some (V.ref wl),some (V.ref pl),some (V.ref ol),some (V.ref g),some (V.ref kp),some (V.ref b),none,none,none,none,none,none]∧LwH (Off u c H') l wl pl ol g kp k1 k2 k3 k4 ts bs ws ns os∧Bnt (Off u c H') b vb vw' vp vo bs ns∧Pur H' u c t'∧t'≤t9+1,?_,?_⟩
 ·unfold zml
  simp_all only [zby,zbx,zbB,zbr,zac]
  refine ⟨u,c,t9,_,rfl,R3,by omega,by decide,by decide,fun w C4 w0 w1 o4 R4=>?_⟩
  have y4:=zcr o4
  replace L3:=L3.same y4
  replace N3:=N3.same y4
  simp_all only [zby,zbx,zbB,zbr,zac]
  refine zdZ (fun _=>?_) (fun _=>⟨L3,vw,N3,t9+1,R4,by omega⟩)
  refine ⟨by decide,fun q1 m1=>?_⟩
  obtain ⟨x1,e1,W1⟩:=R4.put m1 (.lst [.int 0])
  generalize L2.upd C4 q1 (.lst [.int 0])=E1 at x1 e1 W1 ⊢
  replace L3:=L3.same x1
  replace N3:=N3.same x1
  refine ⟨_,.inl (SqL.of (zaj _ _ _ _ _ L3.B.w.bp.hl)),_,zaj _ _ _ _ _ e1,?_⟩
  rw [List.length_map,hb2.1,Int.toNat_natCast]
  refine ⟨by omega,by omega,by show 1*bs.length≤sizeLine;exact Nat.le_trans (show _≤6 by omega) (by decide),fun q2 m2=>?_⟩
  rw [List.flatten_replicate_singleton]
  obtain ⟨x2,e2,W2⟩:=W1.put m2 (.lst (List.replicate bs.length (V.int 0)))
  generalize L2.upd E1 q2 (.lst (List.replicate bs.length (V.int 0)))=E2 at x2 e2 W2 ⊢
  replace L3:=L3.same x2
  have qb:q2≠b:=fun z=>by
   subst z
   have:=zbQ (p:=u) (c:=c) m2
   rw [N3.hb] at this
   cases this
  replace N3:=N3.same x2
  refine ⟨_,zaj _ _ _ _ _ N3.hb,1,rfl,?_⟩
  show LwH (Off u c (L2.upd E2 b (.lst [vb,.ref q2,vp,vo]))) l wl pl ol g kp k1 k2 k3 k4 ts bs ws ns os∧∃ x,Bnt (Off u c (L2.upd E2 b (.lst [vb,.ref q2,vp,vo]))) b vb x vp vo bs ns∧∃ x,Pur (L2.upd E2 b (.lst [vb,.ref q2,vp,vo])) u c x∧x≤t9+1
  have sE:=sC.trans (y4.trans (x1.trans x2))
  have sF:zaL (Off u c A9) (Off u c (L2.upd E2 b (.lst [vb,.ref q2,vp,vo]))):=by
   rw [zaH nb.1 nb.2]
   exact sE.put ob
  refine ⟨L.same sF,.ref q2,⟨?_,bb.same sF,?_,bp.same sF,?_⟩,t9+1,W2.upd nb.1 nb.2,by omega⟩
  ·rw [zaH nb.1 nb.2]
   exact zai
  ·refine bad0 ?_ (by omega)
   rw [zaH nb.1 nb.2,zaC qb]
   exact e2
  ·rw [zaH nb.1 nb.2]
   refine N3.bo.put N3.hb (by simp) (by show 4≤900;decide) fun x hx=>?_
   simp only [List.mem_cons,List.not_mem_nil,or_false] at hx
   rcases hx with rfl | rfl | rfl | rfl
   ·exact N3.bb.tg
   ·exact .lst e2
   ·exact N3.bp.tg
   ·exact N3.bo.tg
 rintro _ C5 ⟨vw',t10,rfl,L5,N5,R5,ht10⟩
 clear sC N3 L3 R3 f3 bb bw bp L Q9 ob
 have t100:=R5.t0
 unfold zaG
 simp_all only [zby,zbx,zbB,zbr,zac]
 refine ⟨by decide,by decide,?_⟩
 refine zcY (fun i σ H'=>∃ (t':Int) (o1 o2 o3 o4 o5 o6:Option V),σ=[some (V.ref p),some (V.ref u),some (V.ref l),some (V.ref wl),some (V.ref pl),some (V.ref ol),some (V.ref g),some (V.ref kp),some (V.ref b),o1,o2,o3,o4,o5,o6]∧zaL (Off u c C5) (Off u c H')∧Pur H' u c t'∧t'≤t10+i) ⟨t10,_,_,_,_,_,_,rfl,.refl _,R5,by omega⟩ ?_ ?_
 ·rintro i σ H6 hi ⟨t6',o1,o2,o3,o4,o5,o6,rfl,y6,R6,ht6'⟩
  have t60':=R6.t0
  unfold zmk
  simp_all only [zby,zbx,zbB,zbr,zac]
  refine ⟨u,c,t6',rfl,R6,by omega,fun ch t7' H7 c0 c1 c2 c3 y7 R7 ht7' hch=>?_⟩
  simp_all only [zby,zbx,zbB,zbr,zac]
  refine ⟨by decide,by decide,fun D hD=>?_⟩
  have nD:=R7.new hD
  have dD:=zbQ (p:=u) (c:=c) hD
  have Z:=R7.put hD (.lst [])
  have L7:=(L5.same y6).same y7
  have N7:=(N5.same y6).same y7
  refine zdV (fun i ys σ H'=>zaL (Off u c H7) (Off u c H')∧Pur H' u c t7'∧ys=(List.range i).map (pick [c0,c1,c2,c3] [.ref l,.ref wl,.ref pl,.ref ol] [vb,vw',vp,vo])∧∃ x,σ=[x,some (.ref ch),some (.ref g),some (.ref b)]) ⟨Z.1,Z.2.2,rfl,_,rfl⟩ ?_ ?_
  ·rintro j ys σ H8 hj hD8 ⟨y8,R8,rfl,x,rfl⟩
   replace hj:j<4:=hj
   have L8:=L7.same y8
   have N8:=N7.same y8
   simp_all only [zby,zbx,zbB,zbr,zac]
   rw [Int.zero_add]
   obtain ⟨g1,g2,g3⟩:=get4 (x0:=V.ref l) (x1:=.ref wl) (x2:=.ref pl) (x3:=.ref ol) (y0:=vb) (y1:=vw') (y2:=vp) (y3:=vo) c0 c1 c2 c3 hj
   refine ⟨_,SqL.of (zaj _ _ _ _ _ L8.hg),_,zcq g1,_,SqL.of (zaj _ _ _ _ _ N8.hb),_,zcq g2,by decide,fun r1 m1=>?_⟩
   have rD:r1≠D:=(zau hD8 m1).symm
   obtain ⟨y9,h9,R9⟩:=R8.put m1 (.lst [([V.ref l,V.ref wl,V.ref pl,V.ref ol]:List V).getD j .non,([vb,vw',vp,vo]:List V).getD j .non])
   generalize L2.upd H8 r1 (.lst [([V.ref l,V.ref wl,V.ref pl,V.ref ol]:List V).getD j .non,([vb,vw',vp,vo]:List V).getD j .non])=H9 at y9 h9 R9 ⊢
   refine ⟨_,SqL.of (zaj _ _ _ _ _ (y9 _ _ (y8 _ _ hch))),_,zcq g3,?_⟩
   refine ⟨_,_,rfl,SqL.of (zaj _ _ _ _ _ h9),pick [c0,c1,c2,c3] [.ref l,.ref wl,.ref pl,.ref ol] [vb,vw',vp,vo] j,?_,_,zaj _ _ _ _ _ (y9 _ _ ((zpC nD.1 nD.2).trans hD8)),zbN (by rw [List.length_map,List.length_range];omega),_,zai,?_,R9.upd nD.1 nD.2,?_⟩
   ·unfold pick
    cases ([c0,c1,c2,c3]:List Bool).getD j false <;> rfl
   ·rw [zaH nD.1 nD.2]
    exact (y8.trans y9).put dD
   ·rw [List.range_succ,List.map_append]
    rfl
  rintro ys σ H8 hD8 ⟨y8,R8,rfl,x,rfl⟩
  refine ⟨by decide,by decide,fun D2 hD2=>?_⟩
  have nD2:=R8.new hD2
  have Z2:=R8.put hD2 (.lst [])
  refine zdV (fun i ys σ H'=>zaL (Off u c H8) (Off u c H')∧Pur H' u c t7'∧ys=zrO [c0,c1,c2,c3] i∧∃ x,σ=[x,some (.ref ch)]) ⟨Z2.1,Z2.2.2,rfl,_,rfl⟩ ?_ ?_
  ·rintro j ys σ H9 hj hD9 ⟨y9,R9,rfl,x,rfl⟩
   replace hj:j<4:=hj
   obtain ⟨_,_,g3⟩:=get4 (x0:=vb) (x1:=vb) (x2:=vb) (x3:=vb) (y0:=vb) (y1:=vw') (y2:=vp) (y3:=vo) c0 c1 c2 c3 hj
   simp_all only [zby,zbx,zbB,zbr,zac]
   rw [Int.zero_add]
   have oD2:=(zpC (H:=H9) nD2.1 nD2.2).trans hD9
   have dl:=zsh [c0,c1,c2,c3] j
   have ds:=zqW [c0,c1,c2,c3] j
   refine ⟨_,SqL.of (zaj _ _ _ _ _ (y9 _ _ (y8 _ _ hch))),_,zcq g3,rfl,?_⟩
   generalize ([c0,c1,c2,c3]:List Bool).getD j false=bb at ds ⊢
   cases bb with
   | true =>
    refine ztY rfl ⟨by decide,fun r1 m1=>?_⟩
    obtain ⟨y10,h10,R10⟩:=R9.put m1 (.lst [.str "boxes",.str "weights",.str "plan",.str "order"])
    generalize L2.upd H9 r1 (.lst [.str "boxes",.str "weights",.str "plan",.str "order"])=H10 at y10 h10 R10 ⊢
    refine ⟨_,SqL.of (zaj _ _ _ _ _ h10),_,zcq (str4 hj),_,zaj _ _ _ _ _ (y10 _ _ oD2),zbN (by omega),_,zai,?_,R10.upd nD2.1 nD2.2,ds.symm⟩
    rw [zaH nD2.1 nD2.2]
    exact (y9.trans y10).put (zbQ hD2)
   | false =>
    refine zmu (by decide) ⟨_,hD9,y9,R9,?_⟩
    rw [ds]
    exact (List.append_nil _).symm
  rintro ys σ H9 hD9 ⟨y9,R9,rfl,x,rfl⟩
  refine ⟨by decide,by decide,?_⟩
  have L9:=(L7.same y8).same y9
  have N9:=(N7.same y8).same y9
  have hD0:=y9 _ _ ((zpC (H:=H8) nD.1 nD.2).trans hD8)
  have hD1:=(zpC (H:=H9) nD2.1 nD2.2).trans hD9
  have yy:=((y6.trans y7).trans y8).trans y9
  clear hD8 hD9 y6 y7 y8 y9 Z Z2 L7 N7 R7 R8 hD hD2 dD hch L5 N5
  refine zcY (fun k σ H'=>∃ (x y:Option V),σ=[some (V.ref p),some (V.ref u),some (V.ref l),some (V.ref wl),some (V.ref pl),some (V.ref ol),some (V.ref g),some (V.ref kp),some (V.ref b),some (V.int (0+i)),some (V.ref ch),some (V.ref D),some (V.ref D2),x,y]∧zaL (Off u c H9) (Off u c H')∧Pur H' u c t7') ⟨_,_,rfl,.refl _,R9⟩ ?_ ?_
  ·rintro k σ H10 hk ⟨x,y,rfl,y10,R10⟩
   replace hk:k<3:=hk
   simp_all only [zby,zbx,zbB,zbr,zac]
   refine ⟨_,SqL.of (zaj _ _ _ _ _ (y10 _ _ hD1)),fun r1 m1=>?_⟩
   rw [show zbW (zrO [c0,c1,c2,c3] 4) none (some 1)=zlO c0 c1 c2 c3 from (zg6 _ 1).trans (zp1 c0 c1 c2 c3)]
   obtain ⟨y11,h11,R11⟩:=R10.put m1 (.lst (zlO c0 c1 c2 c3))
   generalize L2.upd H10 r1 (.lst (zlO c0 c1 c2 c3))=H11 at y11 h11 R11 ⊢
   replace y11:=y10.trans y11
   unfold zc0
   refine ⟨fun σ' H'=>∃ r2:Addr,σ'=[some (V.ref p),some (V.ref u),some (V.ref l),some (V.ref wl),some (V.ref pl),some (V.ref ol),some (V.ref g),some (V.ref kp),some (V.ref b),some (V.int (0+i)),some (V.ref ch),some (V.ref D),some (V.ref D2),some (.int (0+k)),some (.ref r2)]∧zaL (Off u c H9) (Off u c H')∧Pur H' u c t7'∧Off u c H' r2=some (.lst (zlO c0 c1 c2 (if ((0:Int)+k)=2 then false else c3))),?_,?_⟩
   ·unfold zji
    simp_all only [zby,zbx,zbB,zbr,zac]
    refine zdZ (fun e2=>?_) (fun e2=>⟨y11,R11,by rw [if_neg e2];exact h11⟩)
    rw [if_pos e2]
    refine ⟨by decide,fun r2 m2=>?_⟩
    obtain ⟨y12,h12,R12⟩:=R11.put m2 (.lst [.str "order"])
    generalize L2.upd H11 r2 (.lst [.str "order"])=H12 at y12 h12 R12 ⊢
    refine ⟨zuv c0 c1 c2 c3,zuC c0 c1 c2 c3,[mkS 3],fun x hx=>by rw [List.mem_singleton.mp hx];first | exact trivial | (unfold okS;first | rfl | decide | decide +kernel),SqL.of (zaj _ _ _ _ _ ((y12 _ _ h11).trans (by rw [zmo]))),SqL.of (zaj _ _ _ _ _ h12),zdZ (fun e3=>⟨by decide,fun r3 m3=>?_⟩) (fun e3=>⟨y11.trans y12,R12,(y12 _ _ h11).trans (by rw [zux _ _ _ _ e3])⟩)⟩
    obtain ⟨y13,h13,R13⟩:=R12.put m3 (.lst [])
    generalize L2.upd H12 r3 (.lst [])=H13 at y13 h13 R13 ⊢
    exact ⟨y11.trans (y12.trans y13),R13,h13.trans (by rw [ztU _ _ _ _ e3])⟩
   rintro _ H12 ⟨r2,rfl,y12,R12,h12⟩
   have L12:=(L9.same y12).same (zaj u c H12)
   have N12:=(N9.same y12).same (zaj u c H12)
   unfold zjA
   simp_all only [zby,zbx,zbB,zbr,zac]
   have hD12:=SqL.of (K:=K) (zaj _ _ _ _ _ (y12 _ _ hD0))
   refine ⟨_,hD12,_,rfl,_,hD12,_,rfl,_,hD12,_,rfl,_,hD12,_,rfl,?_⟩
   refine ⟨0+k,_,_,_,_,l,wl,pl,ol,ts,bs,ws,ns,os,c0,c1,c2,c3,rfl,by omega,by omega,L12.B,n64,?_,?_,?_,?_,fun r H' s hr=>?_⟩
   ·cases c0
    ·exact rfl
    ·exact N12.bb
   ·cases c1
    ·exact rfl
    ·exact N12.bw
   ·cases c2
    ·exact rfl
    ·exact N12.bp
   ·cases c3
    ·exact rfl
    ·exact N12.bo
   ·exact ⟨0,by decide,_,.inl ⟨shS (hr.trans (by rw [zmo])),shS ((s _ _ (zaj _ _ _ _ _ h12)).trans (by rw [zmo]))⟩,y12.trans (zqc u c s),R12.same s⟩
  rintro σ H10 ⟨x,y,rfl,y10,R10⟩
  exact ⟨t7',_,_,_,_,_,_,rfl,yy.trans y10,R10,by omega⟩
 rintro σ H6 ⟨t6',o1,o2,o3,o4,o5,o6,rfl,y6,R6,ht6'⟩
 have L6:=(L5.same y6).same (zaj u c H6)
 simp_all only [zby,zbx,zbB,zbr,zac]
 exact ⟨2,by decide,_,.inl ⟨sh4 L6.hg (shB L6.B.w.bp.hl L6.B.w.bp.hb) (shI L6.B.w.hw) (shI L6.B.w.bp.hp) (shO L6.B.ho),sh4 L6.hk (shB L6.h1 L6.B.w.bp.hb) (shI L6.h2) (shI L6.h3) (shO L6.h4)⟩,q _⟩
theorem zdF:zaM ["_law_script","_law_purse_here","_law_boxes_here","_law_weights_here","_law_plan_here","_law_order_here","_law_good","_law_kept","_law_bent","_law_turn","_law_choices_here","_law_handed","_law_due","_law_k","_law_wanted"] ["_law_script"] (zan zn4):=⟨rfl,rfl,rfl,by decide +kernel,rfl,by decide +kernel,by decide +kernel⟩
theorem zuP (T:Txt K mg a):zdW P w K mg base CX0 10 a.f_law a.d_law ["_law_script"] (zpV K):=by
 have G__law_boxes:=zkb (P:=P) (w:=w) (base:=base) T
 have G__law_choices:=zhV (P:=P) (w:=w) (base:=base) T
 have G__law_draw:=zb2 (P:=P) (w:=w) (base:=base) T
 have G__law_no_boxes:=zgP (P:=P) (w:=w) (base:=base) T
 have G__law_no_numbers:=zfK (P:=P) (w:=w) (base:=base) T
 have G__law_no_order:=zgY (P:=P) (w:=w) (base:=base) T
 have G__law_order:=zj7 (P:=P) (w:=w) (base:=base) T
 have G__law_plan:=zll (P:=P) (w:=w) (base:=base) T
 have G__law_purse:=zj3 (P:=P) (w:=w) (base:=base) T
 have G__law_refused:=zh8 (P:=P) (w:=w) (base:=base) T
 have G__law_weights:=zhw (P:=P) (w:=w) (base:=base) T
 refine T.F_law.ok zdF (fun vs H Q E h=>?_) (fun cdv A outer s H vs Q E hr h=>?_)
 ·obtain ⟨p,ns,rfl,hS,hl,q⟩:=h
  rfl
 obtain ⟨p,ns,rfl,hS,hl,q⟩:=h
 exact ⟨zsj K a,(zaf (zaB (i:=1) zdF.nd rfl (Or.inl rfl) (zap G__law_purse (hr.mono (by decide)) rfl T.m__law_purse T.F__law_purse.kp T.b__law_purse .nil za0 (zaa (pv 0) zad)))
 (zaf (zaB (i:=2) zdF.nd rfl (Or.inl rfl) (zap G__law_boxes (hr.mono (by decide)) rfl T.m__law_boxes T.F__law_boxes.kp T.b__law_boxes .nil za0 (zaa (pv 1) (zaa zag zad))))
 (zaf (zaB (i:=3) zdF.nd rfl (Or.inl rfl) (zap G__law_weights (hr.mono (by decide)) rfl T.m__law_weights T.F__law_weights.kp T.b__law_weights .nil za0 (zaa (pv 1) (zaa (zao zaq rfl T.z_len PySem.boot_len (zaa (pv 2) zad)) zad))))
 (zaf (zaB (i:=4) zdF.nd rfl (Or.inl rfl) (zap G__law_plan (hr.mono (by decide)) rfl T.m__law_plan T.F__law_plan.kp T.b__law_plan .nil za0 (zaa (pv 1) (zaa (zao zaq rfl T.z_len PySem.boot_len (zaa (pv 2) zad)) zad))))
 (zaf (zaB (i:=5) zdF.nd rfl (Or.inl rfl) (zap G__law_order (hr.mono (by decide)) rfl T.m__law_order T.F__law_order.kp T.b__law_order .nil za0 (zaa (pv 1) (zaa (pv 4) zad))))
 (zaf (zaB (i:=6) zdF.nd rfl (Or.inr rfl) (zaN (zaa (pv 2) (zaa (pv 3) (zaa (pv 4) (zaa (pv 5) zad))))))
 (zaf (zaB (i:=7) zdF.nd rfl (Or.inl rfl) (zaN (zaa (zc1 zd0 rfl T.z_list zdx (zaa (pv 2) zad)) (zaa (zc1 zd0 rfl T.z_list zdx (zaa (pv 3) zad)) (zaa (zc1 zd0 rfl T.z_list zdx (zaa (pv 4) zad)) (zaa (zc1 zd0 rfl T.z_list zdx (zaa (pv 5) zad)) zad))))))
 (zaf (zaB (i:=8) zdF.nd rfl (Or.inr rfl) (zaN (zaa (zap G__law_no_boxes (hr.mono (by decide)) rfl T.m__law_no_boxes T.F__law_no_boxes.kp T.b__law_no_boxes .nil za0 (zaa (pv 1) (zaa (pv 2) zad))) (zaa (zap G__law_no_numbers (hr.mono (by decide)) rfl T.m__law_no_numbers T.F__law_no_numbers.kp T.b__law_no_numbers .nil za0 (zaa (pv 1) (zaa (pv 3) (zaa zag zad)))) (zaa (zap G__law_no_numbers (hr.mono (by decide)) rfl T.m__law_no_numbers T.F__law_no_numbers.kp T.b__law_no_numbers .nil za0 (zaa (pv 1) (zaa (pv 4) (zaa zag zad)))) zad)))))
 (zaf (zbF (ze8 PySem.F.plainAttrs_list PySem.F.slot_list_append PySem.F.type_list_append zbU (pv 8) (zaa (zap G__law_no_order (hr.mono (by decide)) rfl T.m__law_no_order T.F__law_no_order.kp T.b__law_no_order .nil za0 (zaa (pv 1) (zaa (pv 5) (zaa (zao zaq rfl T.z_len PySem.boot_len (zaa (pv 2) zad)) zad)))) zad)))
 (zaf (zbS (zcv (zbl zgn (zap G__law_draw (hr.mono (by decide)) rfl T.m__law_draw T.F__law_draw.kp T.b__law_draw .nil za0 (zaa (pv 1) (zaa zag zad))) zag (zbH _)) (zam (zfZ (zaA zrX (zaN (zaa zag zad)) (zao zaq rfl T.z_len PySem.boot_len (zaa (pv 2) zad))) (zkW (pv 8) zag zfO))) zaQ))
 (zaf (zep PassesOwn.never rfl (zcb rfl T.z_range (zaa zag zad)) (zaF (i:=9) zdF.nd rfl (Or.inl rfl))
 (zaf (zaB (i:=10) zdF.nd rfl (Or.inr rfl) (zap G__law_choices (hr.mono (by decide)) rfl T.m__law_choices T.F__law_choices.kp T.b__law_choices .nil za0 (zaa (pv 1) zad)))
 (zaf (zgh (i:=11) zdF.nd rfl rfl (sc:=zan zn4) (N:=["_law_script","_law_purse_here","_law_boxes_here","_law_weights_here","_law_plan_here","_law_order_here","_law_good","_law_kept","_law_bent","_law_turn","_law_choices_here","_law_handed","_law_due","_law_k","_law_wanted"]) (Nc:=["_law_k","_law_choices_here","_law_good","_law_bent"]) (cap:=[none,some 10,some 6,some 8]) rfl rfl rfl (.of (by decide +kernel)) (zcb rfl T.z_range (zaa zag zad)) (fun _ _ _ _=>(zaF (i:=0) (show List.Nodup (["_law_k","_law_choices_here","_law_good","_law_bent"]:List Str) from by decide) rfl (Or.inl rfl))) (fun _ _ _ _=>zc7) (fun _ _ _ _=>(zbZ za1 (zaN (zaa (zbZ za1 (pv 2) (pv 0) (fun _ _=>rfl)) (zaa (zbZ za1 (pv 3) (pv 0) (fun _ _=>rfl)) zad))) (zbZ za1 (pv 1) (pv 0) (fun _ _=>rfl)) (fun _ _=>rfl))))
 (zaf (zgh (i:=12) zdF.nd rfl rfl (sc:=zan zn4) (N:=["_law_script","_law_purse_here","_law_boxes_here","_law_weights_here","_law_plan_here","_law_order_here","_law_good","_law_kept","_law_bent","_law_turn","_law_choices_here","_law_handed","_law_due","_law_k","_law_wanted"]) (Nc:=["_law_k","_law_choices_here"]) (cap:=[none,some 10]) rfl rfl rfl (.of (by decide +kernel)) (zcb rfl T.z_range (zaa zag zad)) (fun _ _ _ _=>(zaF (i:=0) (show List.Nodup (["_law_k","_law_choices_here"]:List Str) from by decide) rfl (Or.inl rfl))) (fun _ _ _ _=>(ztq (zbl zgn (zbZ za1 (pv 1) (pv 0) (fun _ _=>rfl)) zag (zbH _)))) (fun _ _ _ _=>(zbZ za1 (zaN (zaa zc6 (zaa zc6 (zaa zc6 (zaa zc6 zad))))) (pv 0) (fun _ _=>rfl))))
 (zam (zep PassesOwn.never rfl (zcb rfl T.z_range (zaa zag zad)) (zaF (i:=13) zdF.nd rfl (Or.inl rfl))
 (zaf (zaB (i:=14) zdF.nd rfl (Or.inl rfl) (zb6 zcL (pv 12) zcN (zcM zag)))
 (zaf (zbS (zcv (PW.pt (zmJ (zbl zgn (pv 13) zag (zbH _)) (zlZ (zbl (zuy hr.units) (pv 14) (zaN (zaa zc6 zad)) (zbH _))))) (zam (zaB (i:=14) zdF.nd rfl (Or.inl rfl) (zaN zad))) zaQ))
 (zam (zcv (zbl (zt8 hr.units) (zap G__law_refused (hr.mono (by decide)) rfl T.m__law_refused T.F__law_refused.kp T.b__law_refused .nil za0 (zaa (pv 13) (zaa (zbZ za1 (pv 11) zag (fun _ _=>rfl)) (zaa (zbZ za1 (pv 11) zag (fun _ _=>rfl)) (zaa (zbZ za1 (pv 11) zag (fun _ _=>rfl)) (zaa (zbZ za1 (pv 11) zag (fun _ _=>rfl)) zad)))))) (pv 14) (zbH _)) (zam (zaY zgZ)) zaQ))))))))))
 (zam (zaY (zfA (zu4 hr.units) (pv 6) (pv 7) (zbH _))))))))))))))),
  zvh hS hl q⟩
end
theorem zlY {us:List Value} {n:Nat} (h:us.length=n+1):∃ a t,us=a::t∧t.length=n:=by
 cases us with
 | nil=>cases h
 | cons a t=>exact ⟨a,t,rfl,Nat.succ.inj h⟩
theorem zse {us:List Value} (h:us.length=1):∃ a0,us=[a0]:=by
 obtain ⟨a0,u0,rfl,h0⟩:=zlY h
 cases List.eq_nil_of_length_eq_zero h0
 exact ⟨a0,rfl⟩
theorem zmH {us:List Value} (h:us.length=2):∃ a0,∃ a1,us=[a0,a1]:=by
 obtain ⟨a0,u0,rfl,h0⟩:=zlY h
 obtain ⟨a1,u1,rfl,h1⟩:=zlY h0
 cases List.eq_nil_of_length_eq_zero h1
 exact ⟨a0,a1,rfl⟩
theorem ztZ {us:List Value} (h:us.length=3):∃ a0,∃ a1,∃ a2,us=[a0,a1,a2]:=by
 obtain ⟨a0,u0,rfl,h0⟩:=zlY h
 obtain ⟨a1,u1,rfl,h1⟩:=zlY h0
 obtain ⟨a2,u2,rfl,h2⟩:=zlY h1
 cases List.eq_nil_of_length_eq_zero h2
 exact ⟨a0,a1,a2,rfl⟩
theorem zue {us:List Value} (h:us.length=4):∃ a0,∃ a1,∃ a2,∃ a3,us=[a0,a1,a2,a3]:=by
 obtain ⟨a0,u0,rfl,h0⟩:=zlY h
 obtain ⟨a1,u1,rfl,h1⟩:=zlY h0
 obtain ⟨a2,u2,rfl,h2⟩:=zlY h1
 obtain ⟨a3,u3,rfl,h3⟩:=zlY h2
 cases List.eq_nil_of_length_eq_zero h3
 exact ⟨a0,a1,a2,a3,rfl⟩
theorem lst5 {us:List Value} (h:us.length=5):∃ a0,∃ a1,∃ a2,∃ a3,∃ a4,us=[a0,a1,a2,a3,a4]:=by
 obtain ⟨a0,u0,rfl,h0⟩:=zlY h
 obtain ⟨a1,u1,rfl,h1⟩:=zlY h0
 obtain ⟨a2,u2,rfl,h2⟩:=zlY h1
 obtain ⟨a3,u3,rfl,h3⟩:=zlY h2
 obtain ⟨a4,u4,rfl,h4⟩:=zlY h3
 cases List.eq_nil_of_length_eq_zero h4
 exact ⟨a0,a1,a2,a3,a4,rfl⟩
theorem zt9 {K:PySem.W.Frag} {h:Heap} {mg:Str→Option Value} (X:K.In h) (G:h.Ns mainGlobals mg)
  {f0 f1 f2 f3 f4 f5 f6 f7 f8 f9 f10 f11 f12 f13 f14 f15 f16 f17 f18 f19 f20 f21 f22 f23 f24 f25 f26 f27 f28 f29 f30 f31 f32 f33:Addr} {d0 d1 d2 d3 d4 d5 d6 d7 d8 d9 d10 d11 d12 d13 d14 d15 d16 d17 d18 d19 d20 d21 d22 d23 d24 d25 d26 d27 d28 d29 d30 d31 d32 d33:FuncData}
  (F0:Fun K "divisor" "divisor" zhi f0 d0) (m0:mg "divisor"=some (.ref f0))
  (F1:Fun K "ratio" "ratio" zl5 f1 d1) (m1:mg "ratio"=some (.ref f1))
  (F2:Fun K "is_whole" "is_whole" zgm f2 d2) (m2:mg "is_whole"=some (.ref f2))
  (F3:Fun K "is_within" "is_within" zfy f3 d3) (m3:mg "is_within"=some (.ref f3))
  (F4:Fun K "are_weights" "are_weights" zdK f4 d4) (m4:mg "are_weights"=some (.ref f4))
  (F5:Fun K "is_box" "is_box" zke f5 d5) (m5:mg "is_box"=some (.ref f5))
  (F6:Fun K "look_boxes" "look_boxes" zd2 f6 d6) (m6:mg "look_boxes"=some (.ref f6))
  (F7:Fun K "is_plan" "is_plan" zfW f7 d7) (m7:mg "is_plan"=some (.ref f7))
  (F8:Fun K "power" "power" zmm f8 d8) (m8:mg "power"=some (.ref f8))
  (F9:Fun K "missed" "missed" zjM f9 d9) (m9:mg "missed"=some (.ref f9))
  (F10:Fun K "look_plan" "look_plan" zfH f10 d10) (m10:mg "look_plan"=some (.ref f10))
  (F11:Fun K "is_order" "is_order" zem f11 d11) (m11:mg "is_order"=some (.ref f11))
  (F12:Fun K "look_order" "look_order" zeO f12 d12) (m12:mg "look_order"=some (.ref f12))
  (F13:Fun K "looks_bottom" "looks_bottom" zea f13 d13) (m13:mg "looks_bottom"=some (.ref f13))
  (F14:Fun K "chance_tops" "chance_tops" zey f14 d14) (m14:mg "chance_tops"=some (.ref f14))
  (F15:Fun K "tops_by_box" "tops_by_box" zdH f15 d15) (m15:mg "tops_by_box"=some (.ref f15))
  (F16:Fun K "looks_in" "looks_in" zfb f16 d16) (m16:mg "looks_in"=some (.ref f16))
  (F17:Fun K "awaited" "awaited" zhL f17 d17) (m17:mg "awaited"=some (.ref f17))
  (F18:Fun K "is_sorted" "is_sorted" zez f18 d18) (m18:mg "is_sorted"=some (.ref f18))
  (F19:Fun K "best_order" "best_order" zdy f19 d19) (m19:mg "best_order"=some (.ref f19))
  (F20:Fun K "_law_purse" "_law_purse" ze7 f20 d20) (m20:mg "_law_purse"=some (.ref f20))
  (F21:Fun K "_law_draw" "_law_draw" zfI f21 d21) (m21:mg "_law_draw"=some (.ref f21))
  (F22:Fun K "_law_boxes" "_law_boxes" zeX f22 d22) (m22:mg "_law_boxes"=some (.ref f22))
  (F23:Fun K "_law_weights" "_law_weights" zd7 f23 d23) (m23:mg "_law_weights"=some (.ref f23))
  (F24:Fun K "_law_plan" "_law_plan" zev f24 d24) (m24:mg "_law_plan"=some (.ref f24))
  (F25:Fun K "_law_order" "_law_order" zeM f25 d25) (m25:mg "_law_order"=some (.ref f25))
  (F26:Fun K "_law_no_boxes" "_law_no_boxes" zdS f26 d26) (m26:mg "_law_no_boxes"=some (.ref f26))
  (F27:Fun K "_law_no_numbers" "_law_no_numbers" zde f27 d27) (m27:mg "_law_no_numbers"=some (.ref f27))
  (F28:Fun K "_law_marks" "_law_marks" zeY f28 d28) (m28:mg "_law_marks"=some (.ref f28))
  (F29:Fun K "_law_no_order" "_law_no_order" zdR f29 d29) (m29:mg "_law_no_order"=some (.ref f29))
  (F30:Fun K "_law_asked" "_law_asked" zeZ f30 d30) (m30:mg "_law_asked"=some (.ref f30))
  (F31:Fun K "_law_refused" "_law_refused" zd6 f31 d31) (m31:mg "_law_refused"=some (.ref f31))
  (F32:Fun K "_law_choices" "_law_choices" zdo f32 d32) (m32:mg "_law_choices"=some (.ref f32))
  (F33:Fun K "law" "law" zn4 f33 d33) (m33:mg "law"=some (.ref f33))
  (z_zip:mg "zip"=none)
  (z_sum:mg "sum"=none)
  (z_list:mg "list"=none)
  (z_range:mg "range"=none)
  (z_len:mg "len"=none)
  (z_all:mg "all"=none)
  (z_max:mg "max"=none)
  (z_abs:mg "abs"=none)
  (z_isinstance:mg "isinstance"=none)
  (z_int:mg "int"=none)
  (z_bool:mg "bool"=none)
  (z_tuple:mg "tuple"=none)
  (z_str:mg "str"=none)
  (z_enumerate:mg "enumerate"=none)
  (z_sorted:mg "sorted"=none)
  (z_ValueError:mg "ValueError"=none)
  {c_HideError c_NoWeb c_NoPlan c_NoText c_NoKind c_TooGreat c_NoTree c_NoWeights c_NoTurns c_NoNumber c_NoBoxes c_NoBudget c_NoName c_NoOrder c_NoPlay c_NoRoad c_NoRow c_NoTable c_NoPaper:Addr}
  (ac_HideError:mg "HideError"=some (.ref c_HideError))
  (ac_NoWeb:mg "NoWeb"=some (.ref c_NoWeb))
  (ac_NoPlan:mg "NoPlan"=some (.ref c_NoPlan))
  (ac_NoText:mg "NoText"=some (.ref c_NoText))
  (ac_NoKind:mg "NoKind"=some (.ref c_NoKind))
  (ac_TooGreat:mg "TooGreat"=some (.ref c_TooGreat))
  (ac_NoTree:mg "NoTree"=some (.ref c_NoTree))
  (ac_NoWeights:mg "NoWeights"=some (.ref c_NoWeights))
  (ac_NoTurns:mg "NoTurns"=some (.ref c_NoTurns))
  (ac_NoNumber:mg "NoNumber"=some (.ref c_NoNumber))
  (ac_NoBoxes:mg "NoBoxes"=some (.ref c_NoBoxes))
  (ac_NoBudget:mg "NoBudget"=some (.ref c_NoBudget))
  (ac_NoName:mg "NoName"=some (.ref c_NoName))
  (ac_NoOrder:mg "NoOrder"=some (.ref c_NoOrder))
  (ac_NoPlay:mg "NoPlay"=some (.ref c_NoPlay))
  (ac_NoRoad:mg "NoRoad"=some (.ref c_NoRoad))
  (ac_NoRow:mg "NoRow"=some (.ref c_NoRow))
  (ac_NoTable:mg "NoTable"=some (.ref c_NoTable))
  (ac_NoPaper:mg "NoPaper"=some (.ref c_NoPaper))
  {k_MOST_BOXES:Tok} (ak_MOST_BOXES:mg "MOST_BOXES"=some (.int 6 k_MOST_BOXES))
  {k_MOST_COST:Tok} (ak_MOST_COST:mg "MOST_COST"=some (.int 60 k_MOST_COST))
  {k_MOST_OF:Tok} (ak_MOST_OF:mg "MOST_OF"=some (.int 50 k_MOST_OF))
  {k_MOST_LOOKS:Tok} (ak_MOST_LOOKS:mg "MOST_LOOKS"=some (.int 60 k_MOST_LOOKS))
  (xc_HideError:PySem.W.excIn K c_HideError zes "ValueError.__new__"=true)
  (xc_NoBoxes:PySem.W.excIn K c_NoBoxes zes "ValueError.__new__"=true)
  (xc_NoWeights:PySem.W.excIn K c_NoWeights zes "ValueError.__new__"=true)
  (xc_NoOrder:PySem.W.excIn K c_NoOrder zes "ValueError.__new__"=true)
  (vsg:PySem.W.specialIn K (.ref c_HideError) "__getattribute__"=some (some (.builtin "type.__getattribute__")))
  (vrd:PySem.W.readsIn K c_HideError (.type "type")=true)
  (vfc:PySem.W.findCls K (.ref c_HideError) (.type "type") "__init__"=some (.val (.builtin "ValueError.__init__")))
  {i_NoPlan:Addr} (vin_NoPlan:PySem.W.findIn K (.ref c_NoPlan) "__init__"=some (some (.ref i_NoPlan)))
  {voc_NoPlan vkV_NoPlan vdc_NoPlan vpm_NoPlan vcd_NoPlan vct_NoPlan:Value} {vod_NoPlan van_NoPlan:Option Addr} {vsl_NoPlan:Array (Option Value)} (vl_NoPlan:K.lookup i_NoPlan=some ⟨voc_NoPlan,vod_NoPlan,.func (PySem.W.fnOf "__init__" "NoPlan.__init__" (zgr zc2) (ze1 zc2) (zan zc2) .none vkV_NoPlan vdc_NoPlan vpm_NoPlan van_NoPlan vcd_NoPlan vct_NoPlan),vsl_NoPlan⟩)
  (vc_NoPlan:PySem.W.codeIn K vcd_NoPlan "NoPlan.__init__"=true)
  (vk_NoPlan:PySem.W.keepIn K (.ref i_NoPlan)=true)
  {vnm_NoPlan vq_NoPlan:Str} {vN_NoPlan:Addr} {vbs_NoPlan vbm_NoPlan:List Value} {vsn_NoPlan:List Str} {vsub_NoPlan:List Value} {vab_NoPlan:Bool} {vcol_NoPlan:Option Bool} {vdd_NoPlan:Option Addr} {v0_NoPlan v1_NoPlan v2_NoPlan v3_NoPlan v5_NoPlan:Option Value} (vlk_NoPlan:K.lookup c_NoPlan=some (excClassObj vnm_NoPlan vq_NoPlan c_NoPlan vN_NoPlan vbs_NoPlan vbm_NoPlan true vsn_NoPlan vsub_NoPlan vab_NoPlan vcol_NoPlan vdd_NoPlan v0_NoPlan v1_NoPlan v2_NoPlan v3_NoPlan v5_NoPlan "ValueError.__new__"))
  (vtl_NoPlan:PySem.W.tailIn K zes vbm_NoPlan=true)
  (vfn_NoPlan:PySem.W.isFn K (.ref i_NoPlan)=true)
  (vkp_NoPlan:PySem.W.keepIn K (.ref c_NoPlan)=true)
  (vmo_NoPlan:PySem.W.mroIn K c_NoPlan (.type "object")=some true)
  (vsa_NoPlan:PySem.W.findIn K (.ref c_NoPlan) "__setattr__"=some (some (.builtin "object.__setattr__")))
  (vga_NoPlan:PySem.W.findIn K (.ref c_NoPlan) "__getattribute__"=some (some (.builtin "BaseException.__getattribute__")))
  (vgn_NoPlan:PySem.W.findIn K (.ref c_NoPlan) "__getattr__"=some none)
  (vcl_NoPlan:PySem.W.findIn K (.ref c_NoPlan) "__class__"=some (some (.builtin "object.__class__")))
  (vmb_NoPlan:PySem.W.mroIn K c_NoPlan (.type "BaseException")=some true)
  (vhd_NoPlan:PySem.W.hasDictIn K c_NoPlan=true)
  (vna_NoPlan:PySem.W.findIn K (.ref c_NoPlan) "at"=some none)
  (i_k_NoWeb:PySem.W.kitOne K (.ref c_NoPlan) (.ref c_NoWeb)=some false)
  (i_k_NoPlan:PySem.W.kitOne K (.ref c_NoPlan) (.ref c_NoPlan)=some true)
  (i_k_NoText:PySem.W.kitOne K (.ref c_NoPlan) (.ref c_NoText)=some false)
  (i_k_NoKind:PySem.W.kitOne K (.ref c_NoPlan) (.ref c_NoKind)=some false)
  (i_k_TooGreat:PySem.W.kitOne K (.ref c_NoPlan) (.ref c_TooGreat)=some false)
  (i_k_NoTree:PySem.W.kitOne K (.ref c_NoPlan) (.ref c_NoTree)=some false)
  (i_k_NoWeights:PySem.W.kitOne K (.ref c_NoPlan) (.ref c_NoWeights)=some false)
  (i_k_NoTurns:PySem.W.kitOne K (.ref c_NoPlan) (.ref c_NoTurns)=some false)
  (i_k_NoNumber:PySem.W.kitOne K (.ref c_NoPlan) (.ref c_NoNumber)=some false)
  (i_k_NoBoxes:PySem.W.kitOne K (.ref c_NoPlan) (.ref c_NoBoxes)=some false)
  (i_k_NoBudget:PySem.W.kitOne K (.ref c_NoPlan) (.ref c_NoBudget)=some false)
  (i_k_NoName:PySem.W.kitOne K (.ref c_NoPlan) (.ref c_NoName)=some false)
  (i_k_NoOrder:PySem.W.kitOne K (.ref c_NoPlan) (.ref c_NoOrder)=some false)
  (i_k_NoPlay:PySem.W.kitOne K (.ref c_NoPlan) (.ref c_NoPlay)=some false)
  (i_k_NoRoad:PySem.W.kitOne K (.ref c_NoPlan) (.ref c_NoRoad)=some false)
  (i_k_NoRow:PySem.W.kitOne K (.ref c_NoPlan) (.ref c_NoRow)=some false)
  (i_k_NoTable:PySem.W.kitOne K (.ref c_NoPlan) (.ref c_NoTable)=some false)
  (i_k_NoPaper:PySem.W.kitOne K (.ref c_NoPlan) (.ref c_NoPaper)=some false)
  (i_k_ValueError:PySem.W.kitOne K (.ref c_NoPlan) (.type "ValueError")=some true)
  (i_sub:PySem.W.subIn K (.ref c_NoPlan) (.ref c_HideError)=some true)
  (e_ga:PySem.W.findIn K (.ref c_NoPlan) "__getattribute__"=some (some (.builtin "BaseException.__getattribute__")))
  (e_gn:PySem.W.findIn K (.ref c_NoPlan) "__getattr__"=some none)
  (e_cl:PySem.W.findIn K (.ref c_NoPlan) "__class__"=some (some (.builtin "object.__class__")))
  (e_mb:PySem.W.mroIn K c_NoPlan (.type "BaseException")=some true)
  (e_mo:PySem.W.mroIn K c_NoPlan (.type "object")=some true)
  (i2_k_NoWeb:PySem.W.kitOne K (.ref c_NoBoxes) (.ref c_NoWeb)=some false)
  (i2_k_NoPlan:PySem.W.kitOne K (.ref c_NoBoxes) (.ref c_NoPlan)=some false)
  (i2_k_NoText:PySem.W.kitOne K (.ref c_NoBoxes) (.ref c_NoText)=some false)
  (i2_k_NoKind:PySem.W.kitOne K (.ref c_NoBoxes) (.ref c_NoKind)=some false)
  (i2_k_TooGreat:PySem.W.kitOne K (.ref c_NoBoxes) (.ref c_TooGreat)=some false)
  (i2_k_NoTree:PySem.W.kitOne K (.ref c_NoBoxes) (.ref c_NoTree)=some false)
  (i2_k_NoWeights:PySem.W.kitOne K (.ref c_NoBoxes) (.ref c_NoWeights)=some false)
  (i2_k_NoTurns:PySem.W.kitOne K (.ref c_NoBoxes) (.ref c_NoTurns)=some false)
  (i2_k_NoNumber:PySem.W.kitOne K (.ref c_NoBoxes) (.ref c_NoNumber)=some false)
  (i2_k_NoBoxes:PySem.W.kitOne K (.ref c_NoBoxes) (.ref c_NoBoxes)=some true)
  (i2_k_NoBudget:PySem.W.kitOne K (.ref c_NoBoxes) (.ref c_NoBudget)=some false)
  (i2_k_NoName:PySem.W.kitOne K (.ref c_NoBoxes) (.ref c_NoName)=some false)
  (i2_k_NoOrder:PySem.W.kitOne K (.ref c_NoBoxes) (.ref c_NoOrder)=some false)
  (i2_k_NoPlay:PySem.W.kitOne K (.ref c_NoBoxes) (.ref c_NoPlay)=some false)
  (i2_k_NoRoad:PySem.W.kitOne K (.ref c_NoBoxes) (.ref c_NoRoad)=some false)
  (i2_k_NoRow:PySem.W.kitOne K (.ref c_NoBoxes) (.ref c_NoRow)=some false)
  (i2_k_NoTable:PySem.W.kitOne K (.ref c_NoBoxes) (.ref c_NoTable)=some false)
  (i2_k_NoPaper:PySem.W.kitOne K (.ref c_NoBoxes) (.ref c_NoPaper)=some false)
  (i2_k_ValueError:PySem.W.kitOne K (.ref c_NoBoxes) (.type "ValueError")=some true)
  (i2_sub:PySem.W.subIn K (.ref c_NoBoxes) (.ref c_HideError)=some true)
  (e2_ga:PySem.W.findIn K (.ref c_NoBoxes) "__getattribute__"=some (some (.builtin "BaseException.__getattribute__")))
  (e2_gn:PySem.W.findIn K (.ref c_NoBoxes) "__getattr__"=some none)
  (e2_cl:PySem.W.findIn K (.ref c_NoBoxes) "__class__"=some (some (.builtin "object.__class__")))
  (e2_mb:PySem.W.mroIn K c_NoBoxes (.type "BaseException")=some true)
  (e2_mo:PySem.W.mroIn K c_NoBoxes (.type "object")=some true)
  (i3_k_NoWeb:PySem.W.kitOne K (.ref c_NoWeights) (.ref c_NoWeb)=some false)
  (i3_k_NoPlan:PySem.W.kitOne K (.ref c_NoWeights) (.ref c_NoPlan)=some false)
  (i3_k_NoText:PySem.W.kitOne K (.ref c_NoWeights) (.ref c_NoText)=some false)
  (i3_k_NoKind:PySem.W.kitOne K (.ref c_NoWeights) (.ref c_NoKind)=some false)
  (i3_k_TooGreat:PySem.W.kitOne K (.ref c_NoWeights) (.ref c_TooGreat)=some false)
  (i3_k_NoTree:PySem.W.kitOne K (.ref c_NoWeights) (.ref c_NoTree)=some false)
  (i3_k_NoWeights:PySem.W.kitOne K (.ref c_NoWeights) (.ref c_NoWeights)=some true)
  (i3_k_NoTurns:PySem.W.kitOne K (.ref c_NoWeights) (.ref c_NoTurns)=some false)
  (i3_k_NoNumber:PySem.W.kitOne K (.ref c_NoWeights) (.ref c_NoNumber)=some false)
  (i3_k_NoBoxes:PySem.W.kitOne K (.ref c_NoWeights) (.ref c_NoBoxes)=some false)
  (i3_k_NoBudget:PySem.W.kitOne K (.ref c_NoWeights) (.ref c_NoBudget)=some false)
  (i3_k_NoName:PySem.W.kitOne K (.ref c_NoWeights) (.ref c_NoName)=some false)
  (i3_k_NoOrder:PySem.W.kitOne K (.ref c_NoWeights) (.ref c_NoOrder)=some false)
  (i3_k_NoPlay:PySem.W.kitOne K (.ref c_NoWeights) (.ref c_NoPlay)=some false)
  (i3_k_NoRoad:PySem.W.kitOne K (.ref c_NoWeights) (.ref c_NoRoad)=some false)
  (i3_k_NoRow:PySem.W.kitOne K (.ref c_NoWeights) (.ref c_NoRow)=some false)
  (i3_k_NoTable:PySem.W.kitOne K (.ref c_NoWeights) (.ref c_NoTable)=some false)
  (i3_k_NoPaper:PySem.W.kitOne K (.ref c_NoWeights) (.ref c_NoPaper)=some false)
  (i3_k_ValueError:PySem.W.kitOne K (.ref c_NoWeights) (.type "ValueError")=some true)
  (i3_sub:PySem.W.subIn K (.ref c_NoWeights) (.ref c_HideError)=some true)
  (e3_ga:PySem.W.findIn K (.ref c_NoWeights) "__getattribute__"=some (some (.builtin "BaseException.__getattribute__")))
  (e3_gn:PySem.W.findIn K (.ref c_NoWeights) "__getattr__"=some none)
  (e3_cl:PySem.W.findIn K (.ref c_NoWeights) "__class__"=some (some (.builtin "object.__class__")))
  (e3_mb:PySem.W.mroIn K c_NoWeights (.type "BaseException")=some true)
  (e3_mo:PySem.W.mroIn K c_NoWeights (.type "object")=some true)
  (i4_k_NoWeb:PySem.W.kitOne K (.ref c_NoOrder) (.ref c_NoWeb)=some false)
  (i4_k_NoPlan:PySem.W.kitOne K (.ref c_NoOrder) (.ref c_NoPlan)=some false)
  (i4_k_NoText:PySem.W.kitOne K (.ref c_NoOrder) (.ref c_NoText)=some false)
  (i4_k_NoKind:PySem.W.kitOne K (.ref c_NoOrder) (.ref c_NoKind)=some false)
  (i4_k_TooGreat:PySem.W.kitOne K (.ref c_NoOrder) (.ref c_TooGreat)=some false)
  (i4_k_NoTree:PySem.W.kitOne K (.ref c_NoOrder) (.ref c_NoTree)=some false)
  (i4_k_NoWeights:PySem.W.kitOne K (.ref c_NoOrder) (.ref c_NoWeights)=some false)
  (i4_k_NoTurns:PySem.W.kitOne K (.ref c_NoOrder) (.ref c_NoTurns)=some false)
  (i4_k_NoNumber:PySem.W.kitOne K (.ref c_NoOrder) (.ref c_NoNumber)=some false)
  (i4_k_NoBoxes:PySem.W.kitOne K (.ref c_NoOrder) (.ref c_NoBoxes)=some false)
  (i4_k_NoBudget:PySem.W.kitOne K (.ref c_NoOrder) (.ref c_NoBudget)=some false)
  (i4_k_NoName:PySem.W.kitOne K (.ref c_NoOrder) (.ref c_NoName)=some false)
  (i4_k_NoOrder:PySem.W.kitOne K (.ref c_NoOrder) (.ref c_NoOrder)=some true)
  (i4_k_NoPlay:PySem.W.kitOne K (.ref c_NoOrder) (.ref c_NoPlay)=some false)
  (i4_k_NoRoad:PySem.W.kitOne K (.ref c_NoOrder) (.ref c_NoRoad)=some false)
  (i4_k_NoRow:PySem.W.kitOne K (.ref c_NoOrder) (.ref c_NoRow)=some false)
  (i4_k_NoTable:PySem.W.kitOne K (.ref c_NoOrder) (.ref c_NoTable)=some false)
  (i4_k_NoPaper:PySem.W.kitOne K (.ref c_NoOrder) (.ref c_NoPaper)=some false)
  (i4_k_ValueError:PySem.W.kitOne K (.ref c_NoOrder) (.type "ValueError")=some true)
  (i4_sub:PySem.W.subIn K (.ref c_NoOrder) (.ref c_HideError)=some true)
  (e4_ga:PySem.W.findIn K (.ref c_NoOrder) "__getattribute__"=some (some (.builtin "BaseException.__getattribute__")))
  (e4_gn:PySem.W.findIn K (.ref c_NoOrder) "__getattr__"=some none)
  (e4_cl:PySem.W.findIn K (.ref c_NoOrder) "__class__"=some (some (.builtin "object.__class__")))
  (e4_mb:PySem.W.mroIn K c_NoOrder (.type "BaseException")=some true)
  (e4_mo:PySem.W.mroIn K c_NoOrder (.type "object")=some true)
  : Txt K mg ⟨f0,d0,f1,d1,f2,d2,f3,d3,f4,d4,f5,d5,f6,d6,f7,d7,f8,d8,f9,d9,f10,d10,f11,d11,f12,d12,f13,d13,f14,d14,f15,d15,f16,d16,f17,d17,f18,d18,f19,d19,f20,d20,f21,d21,f22,d22,f23,d23,f24,d24,f25,d25,f26,d26,f27,d27,f28,d28,f29,d29,f30,d30,f31,d31,f32,d32,f33,d33,c_HideError,c_NoWeb,c_NoPlan,c_NoText,c_NoKind,c_TooGreat,c_NoTree,c_NoWeights,c_NoTurns,c_NoNumber,c_NoBoxes,c_NoBudget,c_NoName,c_NoOrder,c_NoPlay,c_NoRoad,c_NoRow,c_NoTable,c_NoPaper,i_NoPlan,PySem.W.fnOf "__init__" "NoPlan.__init__" (zgr zc2) (ze1 zc2) (zan zc2) .none vkV_NoPlan vdc_NoPlan vpm_NoPlan van_NoPlan vcd_NoPlan vct_NoPlan,k_MOST_BOXES,k_MOST_COST,k_MOST_OF,k_MOST_LOOKS⟩:=by
 have VF_NoPlan:=zbG (st:=zc2) vl_NoPlan vc_NoPlan vk_NoPlan
 have vb_NoPlan:=VF_NoPlan.binds (ps:=["self","at"]) fun _ _ _ _ _ _ us hl=>by obtain ⟨_,_,rfl⟩:=vlst2 hl;rfl
 exact ⟨F0,F0.binds fun _ _ _ _ _ _ us hl=>by obtain ⟨_,_,rfl⟩:=zmH hl;rfl,m0,F1,F1.binds fun _ _ _ _ _ _ us hl=>by obtain ⟨_,_,rfl⟩:=zmH hl;rfl,m1,F2,F2.binds fun _ _ _ _ _ _ us hl=>by obtain ⟨_,rfl⟩:=zse hl;rfl,m2,F3,F3.binds fun _ _ _ _ _ _ us hl=>by obtain ⟨_,_,_,rfl⟩:=ztZ hl;rfl,m3,F4,F4.binds fun _ _ _ _ _ _ us hl=>by obtain ⟨_,_,rfl⟩:=zmH hl;rfl,m4,F5,F5.binds fun _ _ _ _ _ _ us hl=>by obtain ⟨_,rfl⟩:=zse hl;rfl,m5,F6,F6.binds fun _ _ _ _ _ _ us hl=>by obtain ⟨_,rfl⟩:=zse hl;rfl,m6,F7,F7.binds fun _ _ _ _ _ _ us hl=>by obtain ⟨_,_,rfl⟩:=zmH hl;rfl,m7,F8,F8.binds fun _ _ _ _ _ _ us hl=>by obtain ⟨_,_,rfl⟩:=zmH hl;rfl,m8,F9,F9.binds fun _ _ _ _ _ _ us hl=>by obtain ⟨_,_,rfl⟩:=zmH hl;rfl,m9,F10,F10.binds fun _ _ _ _ _ _ us hl=>by obtain ⟨_,_,_,rfl⟩:=ztZ hl;rfl,m10,F11,F11.binds fun _ _ _ _ _ _ us hl=>by obtain ⟨_,_,rfl⟩:=zmH hl;rfl,m11,F12,F12.binds fun _ _ _ _ _ _ us hl=>by obtain ⟨_,_,_,_,rfl⟩:=zue hl;rfl,m12,F13,F13.binds fun _ _ _ _ _ _ us hl=>by obtain ⟨_,_,rfl⟩:=zmH hl;rfl,m13,F14,F14.binds fun _ _ _ _ _ _ us hl=>by obtain ⟨_,_,_,_,rfl⟩:=zue hl;rfl,m14,F15,F15.binds fun _ _ _ _ _ _ us hl=>by obtain ⟨_,_,_,rfl⟩:=ztZ hl;rfl,m15,F16,F16.binds fun _ _ _ _ _ _ us hl=>by obtain ⟨_,_,_,_,rfl⟩:=zue hl;rfl,m16,F17,F17.binds fun _ _ _ _ _ _ us hl=>by obtain ⟨_,_,_,_,rfl⟩:=zue hl;rfl,m17,F18,F18.binds fun _ _ _ _ _ _ us hl=>by obtain ⟨_,_,_,_,rfl⟩:=zue hl;rfl,m18,F19,F19.binds fun _ _ _ _ _ _ us hl=>by obtain ⟨_,_,_,rfl⟩:=ztZ hl;rfl,m19,F20,F20.binds fun _ _ _ _ _ _ us hl=>by obtain ⟨_,rfl⟩:=zse hl;rfl,m20,F21,F21.binds fun _ _ _ _ _ _ us hl=>by obtain ⟨_,_,rfl⟩:=zmH hl;rfl,m21,F22,F22.binds fun _ _ _ _ _ _ us hl=>by obtain ⟨_,_,rfl⟩:=zmH hl;rfl,m22,F23,F23.binds fun _ _ _ _ _ _ us hl=>by obtain ⟨_,_,rfl⟩:=zmH hl;rfl,m23,F24,F24.binds fun _ _ _ _ _ _ us hl=>by obtain ⟨_,_,rfl⟩:=zmH hl;rfl,m24,F25,F25.binds fun _ _ _ _ _ _ us hl=>by obtain ⟨_,_,rfl⟩:=zmH hl;rfl,m25,F26,F26.binds fun _ _ _ _ _ _ us hl=>by obtain ⟨_,_,rfl⟩:=zmH hl;rfl,m26,F27,F27.binds fun _ _ _ _ _ _ us hl=>by obtain ⟨_,_,_,rfl⟩:=ztZ hl;rfl,m27,F28,F28.binds fun _ _ _ _ _ _ us hl=>by obtain ⟨_,rfl⟩:=zse hl;rfl,m28,F29,F29.binds fun _ _ _ _ _ _ us hl=>by obtain ⟨_,_,_,rfl⟩:=ztZ hl;rfl,m29,F30,F30.binds fun _ _ _ _ _ _ us hl=>by obtain ⟨_,_,_,_,_,rfl⟩:=lst5 hl;rfl,m30,F31,F31.binds fun _ _ _ _ _ _ us hl=>by obtain ⟨_,_,_,_,_,rfl⟩:=lst5 hl;rfl,m31,F32,F32.binds fun _ _ _ _ _ _ us hl=>by obtain ⟨_,rfl⟩:=zse hl;rfl,m32,F33,F33.binds fun _ _ _ _ _ _ us hl=>by obtain ⟨_,rfl⟩:=zse hl;rfl,m33,z_zip,z_sum,z_list,z_range,z_len,z_all,z_max,z_abs,z_isinstance,z_int,z_bool,z_tuple,z_str,z_enumerate,z_sorted,z_ValueError,ac_HideError,ac_NoWeb,ac_NoPlan,ac_NoText,ac_NoKind,ac_TooGreat,ac_NoTree,ac_NoWeights,ac_NoTurns,ac_NoNumber,ac_NoBoxes,ac_NoBudget,ac_NoName,ac_NoOrder,ac_NoPlay,ac_NoRoad,ac_NoRow,ac_NoTable,ac_NoPaper,ak_MOST_BOXES,ak_MOST_COST,ak_MOST_OF,ak_MOST_LOOKS,xc_HideError,xc_NoBoxes,xc_NoWeights,xc_NoOrder,⟨vsg,vrd,vfc⟩,VF_NoPlan,vb_NoPlan,⟨⟨_,_,_,_,_,_,_,_,_,_,_,_,_,_,_,vlk_NoPlan,vtl_NoPlan⟩,vin_NoPlan,vfn_NoPlan,vkp_NoPlan,vmo_NoPlan,vsa_NoPlan⟩,⟨⟨vga_NoPlan,vgn_NoPlan,vcl_NoPlan,vmb_NoPlan,vmo_NoPlan⟩,vhd_NoPlan,vna_NoPlan⟩,⟨i_k_NoWeb,i_k_NoPlan,i_k_NoText,i_k_NoKind,i_k_TooGreat,i_k_NoTree,i_k_NoWeights,i_k_NoTurns,i_k_NoNumber,i_k_NoBoxes,i_k_NoBudget,i_k_NoName,i_k_NoOrder,i_k_NoPlay,i_k_NoRoad,i_k_NoRow,i_k_NoTable,i_k_NoPaper,i_k_ValueError,i_sub,znf ⟨e_ga,e_gn,e_cl,e_mb,e_mo⟩ (ExI.mk ⟨_,_,_,_,_,_,_,_,_,_,_,_,_,_,_,vlk_NoPlan,vtl_NoPlan⟩ vin_NoPlan vfn_NoPlan vkp_NoPlan vmo_NoPlan vsa_NoPlan)⟩,⟨i2_k_NoWeb,i2_k_NoPlan,i2_k_NoText,i2_k_NoKind,i2_k_TooGreat,i2_k_NoTree,i2_k_NoWeights,i2_k_NoTurns,i2_k_NoNumber,i2_k_NoBoxes,i2_k_NoBudget,i2_k_NoName,i2_k_NoOrder,i2_k_NoPlay,i2_k_NoRoad,i2_k_NoRow,i2_k_NoTable,i2_k_NoPaper,i2_k_ValueError,i2_sub,zhO ⟨e2_ga,e2_gn,e2_cl,e2_mb,e2_mo,xc_NoBoxes⟩⟩,⟨i3_k_NoWeb,i3_k_NoPlan,i3_k_NoText,i3_k_NoKind,i3_k_TooGreat,i3_k_NoTree,i3_k_NoWeights,i3_k_NoTurns,i3_k_NoNumber,i3_k_NoBoxes,i3_k_NoBudget,i3_k_NoName,i3_k_NoOrder,i3_k_NoPlay,i3_k_NoRoad,i3_k_NoRow,i3_k_NoTable,i3_k_NoPaper,i3_k_ValueError,i3_sub,zhO ⟨e3_ga,e3_gn,e3_cl,e3_mb,e3_mo,xc_NoWeights⟩⟩,⟨i4_k_NoWeb,i4_k_NoPlan,i4_k_NoText,i4_k_NoKind,i4_k_TooGreat,i4_k_NoTree,i4_k_NoWeights,i4_k_NoTurns,i4_k_NoNumber,i4_k_NoBoxes,i4_k_NoBudget,i4_k_NoName,i4_k_NoOrder,i4_k_NoPlay,i4_k_NoRoad,i4_k_NoRow,i4_k_NoTable,i4_k_NoPaper,i4_k_ValueError,i4_sub,zhO ⟨e4_ga,e4_gn,e4_cl,e4_mb,e4_mo,xc_NoOrder⟩⟩⟩
theorem zuZ {K:PySem.W.Frag} {w:World} {mg:Str→Option Value} {h:Heap} {fa:Addr} {P:Program} (X:K.In h) (G:h.Ns mainGlobals mg) (hfa:mg "law"=some (.ref fa)) {a:Ad} (T:Txt K mg a) :
  ∃ fd:FuncData,(∀ (s:Shared) (u:Value),BindsTo s fd ⟨[u],[]⟩ [("_law_script",u)])∧∀ base:Heap,K.In base→base.Ns mainGlobals mg→zdW P w K mg base CX0 10 fa fd ["_law_script"] (zpV K):=by
 have e:=hfa.symm.trans T.m_law
 cases e
 refine ⟨a.d_law,fun s v=>?_,fun base _ _=>zuP T⟩
 obtain ⟨oc,od,kV,doc,pm,an,cdv,ct,osl,e,lk,hcd⟩:=T.F_law.ex
 rw [e]
 exact .of_eq rfl
theorem walk {l:PySem.W.OpenLaw} {q:Program} {loose:List Str} {XP:(Str→Option Value)→Heap→Prop} {YP:World→Heap→Prop} {d:DefRec} {K:Params→PySem.W.Frag} (hn:l.most=some 63) (hdf:d.params.defaults=[])
  (hY:∀ (w:World) (h:Heap),YP w h→(K w.params).In h)
  (F:∀ (w:World) (mg:Str→Option Value) (fa:Addr) (h:Heap),(K w.params).In h→h.Ns mainGlobals mg→mg d.name=some (.ref fa) →
   ∃ fd:FuncData,(∀ (s:Shared) (u:Value),BindsTo s fd ⟨[u],[]⟩ [("_law_script",u)])∧∀ base:Heap,(K w.params).In base→base.Ns mainGlobals mg→zdW l.prog w (K w.params) mg base CX0 10 fa fd ["_law_script"] (zpV (K w.params))) :
  PySem.W.WalkO q loose XP YP l.row.toRowW d [] (fun f vs=>PySem.call f vs) :=
 L2.ztm (n:=63) (k:=10) (x:="_law_script") (CX:=fun _=>CX0) (sp:=fun w=>zpV (K w.params)) hn (by decide) hdf ⟨rfl,by decide,by decide⟩ hY F (fun _ _ a ns hl _ hS=>⟨a,ns,rfl,hS,hl,fun _=>rfl⟩) fun _ _ _ _ _ z=>z
end My
open PySem PySem.W in
theorem My.walk_at {K:Params→Frag} {w:World} {h:Heap} {l:OpenLaw} {q:Program} {loose:List Str} {XP:(Str→Option Value)→Heap→Prop} {d:DefRec} {C:Prop} (_:(K w.params).In h)
  (use:WalkO q loose XP (fun w h=>(K w.params).In h) l.row.toRowW d [] (fun f vs=>PySem.call f vs)→C) (W:WalkO q loose XP (fun w h=>(K w.params).In h) l.row.toRowW d [] (fun f vs=>PySem.call f vs)):C:=use W
noncomputable section
namespace Hd
open PySem PySem.W.Fast
structure Q (α : Type) where
  a : α
  b : α
  c : α
  d : α
  e : α
  f : α
  g : α
  h : α
class X where
  s : Q (Q (Q Str))
  t : Q (Q (Q String))
  r : Q (Q (Q Obj))
  p : Program
  P : Params
def sp (p : Program) (n : Nat) : Stmt := (p.main.body.drop n).headD (.Pass ⟨0, 0, 0, 0⟩)
def st [x : X] (n : Nat) : Stmt := sp x.p n
def cb : Stmt → List Stmt
  | .ClassDef _ _ _ b .. => b
  | _ => []
def sm [x : X] (n k : Nat) : Stmt := ((cb (st n)).drop k).headD (.Pass ⟨0, 0, 0, 0⟩)
def fn (s : Stmt) (q : Str) (g : Addr) (c : List (Str × Addr)) (d k o m : Value) (a : Option Addr) (z t : Value) (b : Addr) : FuncData := match s with
  | .FunctionDef n p y _ _ _ u .. => ⟨n, q, p, .stmts y, u, g, c, d, k, o, m, a, z, t, b⟩
  | _ => default
abbrev z := W.BT.nil
def N (o : Obj) (l r : W.BT) : W.BT := .node o l r
def L (o : Obj) : W.BT := .node o .nil .nil
def e [x : X] (s : Str) (n : Nat) (v : Value) : DictEntry := ⟨PyData.keyHash x.P s, .str s n, v⟩
def vR (n : Nat) : Option Value := some (.ref n)
def vr (n : Nat) : Value := .ref n
def vO : Value := .int 0 0
def vI (n : Int) : Value := .int n 0
def vS (s : Str) (n : Tok) : Value := .str s n
def vY (s : String) : Value := .type s
def vB (s : String) : Value := .builtin s
section
variable [x : X]
def i0 := e x.s.a.a.d 165 (vS x.s.a.a.e 187)
def i1 := e x.s.a.a.f 166 .none
def i2 := e x.s.a.a.g 167 .none
def i3 := e x.s.a.a.h 168 (vB x.t.a.a.e)
def i4 := e x.s.a.b.a 169 .none
def i5 := e x.s.a.b.b 170 (vr 6)
def i6 := e x.s.a.b.c 171 (vr 4)
def i7 := e x.s.a.b.d 173 (vS x.s.a.a.b 172)
def i8 := e x.s.a.b.e 174 .none
def i9 := e x.s.a.b.f 206 (vr 24)
def i10 := e x.s.a.b.g 196 (vS x.s.a.a.e 187)
def i11 := e x.s.a.b.h 198 (vS x.s.a.b.f 197)
def i12 := e x.s.a.c.a 200 (.int 2 199)
def i13 := e x.s.a.c.b 201 (vr 22)
def i14 := e x.s.a.c.c 203 (vr 25)
def i15 := e x.s.a.a.f 204 .none
def i16 := e x.s.a.c.d 222 (vr 37)
def i17 := e x.s.a.b.g 214 (vS x.s.a.a.e 187)
def i18 := e x.s.a.b.h 216 (vS x.s.a.c.d 215)
def i19 := e x.s.a.c.a 218 (.int 4 217)
def i20 := e x.s.a.c.b 219 (vr 35)
def i21 := e x.s.a.a.f 220 .none
def i22 := e x.s.a.c.e 238 (vr 49)
def i23 := e x.s.a.b.g 230 (vS x.s.a.a.e 187)
def i24 := e x.s.a.b.h 232 (vS x.s.a.c.e 231)
def i25 := e x.s.a.c.a 234 (.int 6 233)
def i26 := e x.s.a.c.b 235 (vr 47)
def i27 := e x.s.a.a.f 236 .none
def i28 := e x.s.a.c.f 254 (vr 61)
def i29 := e x.s.a.b.g 246 (vS x.s.a.a.e 187)
def i30 := e x.s.a.b.h 248 (vS x.s.a.c.f 247)
def i31 := e x.s.a.c.a 250 (.int 8 249)
def i32 := e x.s.a.c.b 251 (vr 59)
def i33 := e x.s.a.a.f 252 .none
def i34 := e x.s.a.c.g 270 (vr 73)
def i35 := e x.s.a.b.g 262 (vS x.s.a.a.e 187)
def i36 := e x.s.a.b.h 264 (vS x.s.a.c.g 263)
def i37 := e x.s.a.c.a 266 (.int 10 265)
def i38 := e x.s.a.c.b 267 (vr 71)
def i39 := e x.s.a.a.f 268 .none
def i40 := e x.s.a.c.h 286 (vr 85)
def i41 := e x.s.a.b.g 278 (vS x.s.a.a.e 187)
def i42 := e x.s.a.b.h 280 (vS x.s.a.c.h 279)
def i43 := e x.s.a.c.a 282 (.int 12 281)
def i44 := e x.s.a.c.b 283 (vr 83)
def i45 := e x.s.a.a.f 284 .none
def i46 := e x.s.a.d.a 302 (vr 97)
def i47 := e x.s.a.b.g 294 (vS x.s.a.a.e 187)
def i48 := e x.s.a.b.h 296 (vS x.s.a.d.a 295)
def i49 := e x.s.a.c.a 298 (.int 14 297)
def i50 := e x.s.a.c.b 299 (vr 95)
def i51 := e x.s.a.a.f 300 .none
def i52 := e x.s.a.d.b 318 (vr 109)
def i53 := e x.s.a.b.g 310 (vS x.s.a.a.e 187)
def i54 := e x.s.a.b.h 312 (vS x.s.a.d.b 311)
def i55 := e x.s.a.c.a 314 (.int 16 313)
def i56 := e x.s.a.c.b 315 (vr 107)
def i57 := e x.s.a.a.f 316 .none
def i58 := e x.s.a.d.c 334 (vr 121)
def i59 := e x.s.a.b.g 326 (vS x.s.a.a.e 187)
def i60 := e x.s.a.b.h 328 (vS x.s.a.d.c 327)
def i61 := e x.s.a.c.a 330 (.int 18 329)
def i62 := e x.s.a.c.b 331 (vr 119)
def i63 := e x.s.a.a.f 332 .none
def i64 := e x.s.a.d.d 350 (vr 133)
def i65 := e x.s.a.b.g 342 (vS x.s.a.a.e 187)
def i66 := e x.s.a.b.h 344 (vS x.s.a.d.d 343)
def i67 := e x.s.a.c.a 346 (.int 20 345)
def i68 := e x.s.a.c.b 347 (vr 131)
def i69 := e x.s.a.a.f 348 .none
def i70 := e x.s.a.d.e 366 (vr 145)
def i71 := e x.s.a.b.g 358 (vS x.s.a.a.e 187)
def i72 := e x.s.a.b.h 360 (vS x.s.a.d.e 359)
def i73 := e x.s.a.c.a 362 (.int 22 361)
def i74 := e x.s.a.c.b 363 (vr 143)
def i75 := e x.s.a.a.f 364 .none
def i76 := e x.s.a.d.f 382 (vr 157)
def i77 := e x.s.a.b.g 374 (vS x.s.a.a.e 187)
def i78 := e x.s.a.b.h 376 (vS x.s.a.d.f 375)
def i79 := e x.s.a.c.a 378 (.int 24 377)
def i80 := e x.s.a.c.b 379 (vr 155)
def i81 := e x.s.a.a.f 380 .none
def i82 := e x.s.a.d.g 398 (vr 169)
def i83 := e x.s.a.b.g 390 (vS x.s.a.a.e 187)
def i84 := e x.s.a.b.h 392 (vS x.s.a.d.g 391)
def i85 := e x.s.a.c.a 394 (.int 26 393)
def i86 := e x.s.a.c.b 395 (vr 167)
def i87 := e x.s.a.a.f 396 .none
def i88 := e x.s.a.d.h 414 (vr 181)
def i89 := e x.s.a.b.g 406 (vS x.s.a.a.e 187)
def i90 := e x.s.a.b.h 408 (vS x.s.a.d.h 407)
def i91 := e x.s.a.c.a 410 (.int 28 409)
def i92 := e x.s.a.c.b 411 (vr 179)
def i93 := e x.s.a.a.f 412 .none
def i94 := e x.s.a.e.a 430 (vr 193)
def i95 := e x.s.a.b.g 422 (vS x.s.a.a.e 187)
def i96 := e x.s.a.b.h 424 (vS x.s.a.e.a 423)
def i97 := e x.s.a.c.a 426 (.int 30 425)
def i98 := e x.s.a.c.b 427 (vr 191)
def i99 := e x.s.a.a.f 428 .none
def ztg := e x.s.a.e.b 455 (vr 212)
def i101 := e x.s.a.b.g 438 (vS x.s.a.a.e 187)
def i102 := e x.s.a.b.h 440 (vS x.s.a.e.b 439)
def i103 := e x.s.a.c.a 442 (.int 32 441)
def i104 := e x.s.a.e.c 450 (vr 209)
def i105 := e x.s.a.c.b 452 (vr 210)
def i106 := e x.s.a.a.f 453 .none
def zt0 := e x.s.a.e.g 480 (vr 231)
def i108 := e x.s.a.b.g 463 (vS x.s.a.a.e 187)
def i109 := e x.s.a.b.h 465 (vS x.s.a.e.g 464)
def i110 := e x.s.a.c.a 467 (.int 37 466)
def i111 := e x.s.a.e.c 475 (vr 228)
def i112 := e x.s.a.c.b 477 (vr 229)
def i113 := e x.s.a.a.f 478 .none
def zt7 := e x.s.a.f.b 505 (vr 250)
def i115 := e x.s.a.b.g 488 (vS x.s.a.a.e 187)
def i116 := e x.s.a.b.h 490 (vS x.s.a.f.b 489)
def i117 := e x.s.a.c.a 492 (.int 42 491)
def i118 := e x.s.a.e.c 500 (vr 247)
def i119 := e x.s.a.c.b 502 (vr 248)
def i120 := e x.s.a.a.f 503 .none
def i121 := e x.s.a.a.d 165 (vS x.s.a.f.e 551)
def i122 := e x.s.a.f.f 530 (vr 269)
def i123 := e x.s.a.f.g 541 (vr 278)
def i124 := e x.s.a.f.h 550 (vr 285)
def i125 := e x.s.a.g.a 559 (vr 292)
def i126 := e x.s.a.g.b 568 (vr 299)
def i127 := e x.s.a.b.g 513 (vS x.s.a.a.e 187)
def i128 := e x.s.a.b.h 515 (vS x.s.a.f.f 514)
def i129 := e x.s.a.c.a 517 (.int 47 516)
def i130 := e x.s.a.e.c 525 (vr 266)
def i131 := e x.s.a.c.b 527 (vr 267)
def i132 := e x.s.a.a.f 528 .none
def i133 := e x.s.a.a.d 165 (vS x.s.a.h.g 625)
def i134 := e x.s.a.h.h 574 (vr 304)
def i135 := e x.s.b.a.a 578 (.int 6 577)
def i136 := e x.s.b.a.b 580 (.int 60 579)
def i137 := e x.s.b.a.c 582 (.int 50 581)
def i138 := e x.s.b.a.d 584 (.int 60 583)
def i139 := e x.s.b.a.e 594 (vr 311)
def i140 := e x.s.b.a.f 600 (vr 316)
def i141 := e x.s.b.a.g 606 (vr 321)
def i142 := e x.s.b.a.h 616 (vr 328)
def i143 := e x.s.b.b.a 624 (vr 335)
def i144 := e x.s.b.b.b 635 (vr 342)
def i145 := e x.s.b.b.c 641 (vr 347)
def i146 := e x.s.b.b.d 651 (vr 354)
def i147 := e x.s.b.b.e 662 (vr 361)
def i148 := e x.s.b.b.f 676 (vr 368)
def i149 := e x.s.a.a.d 165 (vS x.s.b.d.f 716)
def i150 := e x.s.b.d.g 682 (vr 373)
def i151 := e x.s.b.d.h 688 (vr 378)
def i152 := e x.s.b.e.a 703 (vr 385)
def i153 := e x.s.b.e.b 709 (vr 390)
def i154 := e x.s.b.e.c 715 (vr 395)
def i155 := e x.s.b.e.d 725 (vr 402)
def i156 := e x.s.b.e.e 738 (vr 409)
def i157 := e x.s.b.e.f 751 (vr 416)
def i158 := e x.s.b.e.g 761 (vr 423)
def i159 := e x.s.b.e.h 767 (vr 428)
def i160 := e x.s.b.f.a 778 (vr 435)
def i161 := e x.s.b.f.b 793 (vr 442)
def i162 := e x.s.c.a.a 806 (vr 449)
def i163 := e x.s.c.a.b 814 (vr 456)
def i164 := e x.s.c.a.c 830 (vr 463)
def i165 := e x.s.c.a.d 841 (vr 470)
def i166 := e x.s.c.a.e 854 (vr 477)
def i167 := e x.s.c.a.f 860 (vr 482)
def i168 := e x.s.c.a.g 866 (vr 487)
def zae : Obj := ⟨(vY x.t.a.a.a), none, (.seq #[] 0), #[]⟩
def zal : Obj := ⟨.none, none, (.fields #[]), #[]⟩
def zgU : Obj := ⟨(vY x.t.a.a.b), none, (.fields #[(vS x.s.a.a.a 182), (vS x.s.a.a.a 183), (vS x.s.a.a.b 184), (vI 1), vO, vO, vO, vO, (vr 11), (.bool false), (vI 181), (vr 12), .none, .none, .none, .none, (vI 185), (vI 1), (vS x.s.a.a.b 186)]), #[]⟩
def zgX : Obj := ⟨(vY x.t.a.a.c), none, .plain, #[(vR 13), (vR 3), (vR 3), none, (some (vS x.s.a.a.c 164)), none, (vR 0)]⟩
def b865 : Obj := ⟨(vY x.t.a.a.d), none, (.dict #[i0, i1, i2, i3, i4, i5, i6, i7, i8, i9] 10), #[]⟩
def b866 : Obj := ⟨.none, none, (.fields #[(vI 2), vO, (vr 20)]), #[]⟩
def zhX : Obj := ⟨(vY x.t.a.a.a), none, (.seq #[(vY x.t.a.a.f)] 0), #[]⟩
def zar : Obj := ⟨(vY x.t.a.a.g), none, (.fields #[(vB x.t.a.a.h), (vY x.t.a.b.a)]), #[]⟩
def zhj : Obj := ⟨(vY x.t.a.a.d), none, (.dict #[i10, i11, i12, i13] 4), #[]⟩
def zif : Obj := ⟨(vY x.t.a.a.b), none, (.fields #[(vS x.s.a.b.f 191), (vS x.s.a.b.f 192), (vS x.s.a.a.b 193), (vI 2), vO, vO, vO, vO, (vr 18), (.bool false), (vI 181), (vr 19), .none, .none, .none, .none, (vI 194), (vI 2), (vS x.s.a.a.b 195)]), #[]⟩
def zhR : Obj := ⟨(vY x.t.a.a.c), none, .plain, #[(vR 20), (vR 3), (vR 17), none, (some (vS x.s.a.a.e 187)), none, (vR 0)]⟩
def zhp : Obj := ⟨(vY x.t.a.a.d), none, (.dict #[i10, i12, i13, i14, i15] 3), #[]⟩
def b876 : Obj := ⟨(vY x.t.a.b.a), none, (.cls ⟨x.s.a.b.f, [(vY x.t.a.a.f)], [(vr 24), (vY x.t.a.a.f), (vY x.t.a.b.b), (vY x.t.a.b.c), (vY x.t.a.b.d)], 23, x.s.a.b.f, true, [], [], false, none, false⟩), #[(vR 15), none, (some (vS x.s.a.b.f 189)), (some (vS x.s.a.b.f 197)), (some (vB x.t.a.b.e)), (some (.bool true))]⟩
def zhK : Obj := ⟨(vY x.t.a.b.f), none, (.fields #[(vS x.s.a.c.c 202), (vr 24), (vB x.t.a.b.g), .none]), #[]⟩
def zhP : Obj := ⟨(vY x.t.a.b.h), none, (.fields #[(vr 24), (vr 24), (vr 24)]), #[]⟩
def zhW : Obj := ⟨(vY x.t.a.a.g), none, (.fields #[(vB x.t.a.c.a), (vr 24)]), #[]⟩
def b880 : Obj := ⟨(vY x.t.a.a.d), none, (.dict #[i0, i1, i2, i3, i4, i5, i6, i7, i8, i9, i16] 11), #[]⟩
def b881 : Obj := ⟨.none, none, (.fields #[(vI 2), vO, (vr 20), (vI 4), vO, (vr 33)]), #[]⟩
def b882 : Obj := ⟨(vY x.t.a.b.a), none, (.cls ⟨x.s.a.b.f, [(vY x.t.a.a.f)], [(vr 24), (vY x.t.a.a.f), (vY x.t.a.b.b), (vY x.t.a.b.c), (vY x.t.a.b.d)], 23, x.s.a.b.f, true, [], [(vr 37)], false, none, false⟩), #[(vR 15), none, (some (vS x.s.a.b.f 189)), (some (vS x.s.a.b.f 197)), (some (vB x.t.a.b.e)), (some (.bool true))]⟩
def zas : Obj := ⟨(vY x.t.a.a.a), none, (.seq #[(vr 24)] 0), #[]⟩
def zih : Obj := ⟨(vY x.t.a.a.d), none, (.dict #[i17, i18, i19, i20] 4), #[]⟩
def zij : Obj := ⟨(vY x.t.a.a.b), none, (.fields #[(vS x.s.a.c.d 209), (vS x.s.a.c.d 210), (vS x.s.a.a.b 211), (vI 4), vO, vO, vO, vO, (vr 31), (.bool false), (vI 181), (vr 32), .none, .none, .none, .none, (vI 212), (vI 4), (vS x.s.a.a.b 213)]), #[]⟩
def zik : Obj := ⟨(vY x.t.a.a.c), none, .plain, #[(vR 33), (vR 3), (vR 30), none, (some (vS x.s.a.a.e 187)), none, (vR 0)]⟩
def zio : Obj := ⟨(vY x.t.a.a.d), none, (.dict #[i17, i19, i20, i21] 2), #[]⟩
def zim : Obj := ⟨(vY x.t.a.b.a), none, (.cls ⟨x.s.a.c.d, [(vr 24)], [(vr 37), (vr 24), (vY x.t.a.a.f), (vY x.t.a.b.b), (vY x.t.a.b.c), (vY x.t.a.b.d)], 36, x.s.a.c.d, true, [], [], false, none, false⟩), #[(vR 28), none, (some (vS x.s.a.c.d 207)), (some (vS x.s.a.c.d 215)), (some (vB x.t.a.b.e)), (some (.bool true))]⟩
def ziq : Obj := ⟨(vY x.t.a.b.h), none, (.fields #[(vr 37), (vr 37), (vr 37)]), #[]⟩
def zin : Obj := ⟨(vY x.t.a.a.g), none, (.fields #[(vB x.t.a.c.a), (vr 37)]), #[]⟩
def b895 : Obj := ⟨(vY x.t.a.a.d), none, (.dict #[i0, i1, i2, i3, i4, i5, i6, i7, i8, i9, i16, i22] 12), #[]⟩
def b896 : Obj := ⟨.none, none, (.fields #[(vI 2), vO, (vr 20), (vI 4), vO, (vr 33), (vI 6), vO, (vr 45)]), #[]⟩
def b897 : Obj := ⟨(vY x.t.a.b.a), none, (.cls ⟨x.s.a.b.f, [(vY x.t.a.a.f)], [(vr 24), (vY x.t.a.a.f), (vY x.t.a.b.b), (vY x.t.a.b.c), (vY x.t.a.b.d)], 23, x.s.a.b.f, true, [], [(vr 37), (vr 49)], false, none, false⟩), #[(vR 15), none, (some (vS x.s.a.b.f 189)), (some (vS x.s.a.b.f 197)), (some (vB x.t.a.b.e)), (some (.bool true))]⟩
def ziz : Obj := ⟨(vY x.t.a.a.d), none, (.dict #[i23, i24, i25, i26] 4), #[]⟩
def ziA : Obj := ⟨(vY x.t.a.a.b), none, (.fields #[(vS x.s.a.c.e 225), (vS x.s.a.c.e 226), (vS x.s.a.a.b 227), (vI 6), vO, vO, vO, vO, (vr 43), (.bool false), (vI 181), (vr 44), .none, .none, .none, .none, (vI 228), (vI 6), (vS x.s.a.a.b 229)]), #[]⟩
def zis : Obj := ⟨(vY x.t.a.a.c), none, .plain, #[(vR 45), (vR 3), (vR 42), none, (some (vS x.s.a.a.e 187)), none, (vR 0)]⟩
def ziO : Obj := ⟨(vY x.t.a.a.d), none, (.dict #[i23, i25, i26, i27] 2), #[]⟩
def zix : Obj := ⟨(vY x.t.a.b.a), none, (.cls ⟨x.s.a.c.e, [(vr 24)], [(vr 49), (vr 24), (vY x.t.a.a.f), (vY x.t.a.b.b), (vY x.t.a.b.c), (vY x.t.a.b.d)], 48, x.s.a.c.e, true, [], [], false, none, false⟩), #[(vR 40), none, (some (vS x.s.a.c.e 223)), (some (vS x.s.a.c.e 231)), (some (vB x.t.a.b.e)), (some (.bool true))]⟩
def ziB : Obj := ⟨(vY x.t.a.b.h), none, (.fields #[(vr 49), (vr 49), (vr 49)]), #[]⟩
def ziP : Obj := ⟨(vY x.t.a.a.g), none, (.fields #[(vB x.t.a.c.a), (vr 49)]), #[]⟩
def b910 : Obj := ⟨(vY x.t.a.a.d), none, (.dict #[i0, i1, i2, i3, i4, i5, i6, i7, i8, i9, i16, i22, i28] 13), #[]⟩
def b911 : Obj := ⟨.none, none, (.fields #[(vI 2), vO, (vr 20), (vI 4), vO, (vr 33), (vI 6), vO, (vr 45), (vI 8), vO, (vr 57)]), #[]⟩
def b912 : Obj := ⟨(vY x.t.a.b.a), none, (.cls ⟨x.s.a.b.f, [(vY x.t.a.a.f)], [(vr 24), (vY x.t.a.a.f), (vY x.t.a.b.b), (vY x.t.a.b.c), (vY x.t.a.b.d)], 23, x.s.a.b.f, true, [], [(vr 37), (vr 49), (vr 61)], false, none, false⟩), #[(vR 15), none, (some (vS x.s.a.b.f 189)), (some (vS x.s.a.b.f 197)), (some (vB x.t.a.b.e)), (some (.bool true))]⟩
def ziS : Obj := ⟨(vY x.t.a.a.d), none, (.dict #[i29, i30, i31, i32] 4), #[]⟩
def zi8 : Obj := ⟨(vY x.t.a.a.b), none, (.fields #[(vS x.s.a.c.f 241), (vS x.s.a.c.f 242), (vS x.s.a.a.b 243), (vI 8), vO, vO, vO, vO, (vr 55), (.bool false), (vI 181), (vr 56), .none, .none, .none, .none, (vI 244), (vI 8), (vS x.s.a.a.b 245)]), #[]⟩
def ziT : Obj := ⟨(vY x.t.a.a.c), none, .plain, #[(vR 57), (vR 3), (vR 54), none, (some (vS x.s.a.a.e 187)), none, (vR 0)]⟩
def zi4 : Obj := ⟨(vY x.t.a.a.d), none, (.dict #[i29, i31, i32, i33] 2), #[]⟩
def zi1 : Obj := ⟨(vY x.t.a.b.a), none, (.cls ⟨x.s.a.c.f, [(vr 24)], [(vr 61), (vr 24), (vY x.t.a.a.f), (vY x.t.a.b.b), (vY x.t.a.b.c), (vY x.t.a.b.d)], 60, x.s.a.c.f, true, [], [], false, none, false⟩), #[(vR 52), none, (some (vS x.s.a.c.f 239)), (some (vS x.s.a.c.f 247)), (some (vB x.t.a.b.e)), (some (.bool true))]⟩
def zjc : Obj := ⟨(vY x.t.a.b.h), none, (.fields #[(vr 61), (vr 61), (vr 61)]), #[]⟩
def ziW : Obj := ⟨(vY x.t.a.a.g), none, (.fields #[(vB x.t.a.c.a), (vr 61)]), #[]⟩
def b925 : Obj := ⟨(vY x.t.a.a.d), none, (.dict #[i0, i1, i2, i3, i4, i5, i6, i7, i8, i9, i16, i22, i28, i34] 14), #[]⟩
def b926 : Obj := ⟨.none, none, (.fields #[(vI 2), vO, (vr 20), (vI 4), vO, (vr 33), (vI 6), vO, (vr 45), (vI 8), vO, (vr 57), (vI 10), vO, (vr 69)]), #[]⟩
def b927 : Obj := ⟨(vY x.t.a.b.a), none, (.cls ⟨x.s.a.b.f, [(vY x.t.a.a.f)], [(vr 24), (vY x.t.a.a.f), (vY x.t.a.b.b), (vY x.t.a.b.c), (vY x.t.a.b.d)], 23, x.s.a.b.f, true, [], [(vr 37), (vr 49), (vr 61), (vr 73)], false, none, false⟩), #[(vR 15), none, (some (vS x.s.a.b.f 189)), (some (vS x.s.a.b.f 197)), (some (vB x.t.a.b.e)), (some (.bool true))]⟩
def zjp : Obj := ⟨(vY x.t.a.a.d), none, (.dict #[i35, i36, i37, i38] 4), #[]⟩
def zjG : Obj := ⟨(vY x.t.a.a.b), none, (.fields #[(vS x.s.a.c.g 257), (vS x.s.a.c.g 258), (vS x.s.a.a.b 259), (vI 10), vO, vO, vO, vO, (vr 67), (.bool false), (vI 181), (vr 68), .none, .none, .none, .none, (vI 260), (vI 10), (vS x.s.a.a.b 261)]), #[]⟩
def zjH : Obj := ⟨(vY x.t.a.a.c), none, .plain, #[(vR 69), (vR 3), (vR 66), none, (some (vS x.s.a.a.e 187)), none, (vR 0)]⟩
def zjy : Obj := ⟨(vY x.t.a.a.d), none, (.dict #[i35, i37, i38, i39] 2), #[]⟩
def zjL : Obj := ⟨(vY x.t.a.b.a), none, (.cls ⟨x.s.a.c.g, [(vr 24)], [(vr 73), (vr 24), (vY x.t.a.a.f), (vY x.t.a.b.b), (vY x.t.a.b.c), (vY x.t.a.b.d)], 72, x.s.a.c.g, true, [], [], false, none, false⟩), #[(vR 64), none, (some (vS x.s.a.c.g 255)), (some (vS x.s.a.c.g 263)), (some (vB x.t.a.b.e)), (some (.bool true))]⟩
def zjq : Obj := ⟨(vY x.t.a.b.h), none, (.fields #[(vr 73), (vr 73), (vr 73)]), #[]⟩
def zj6 : Obj := ⟨(vY x.t.a.a.g), none, (.fields #[(vB x.t.a.c.a), (vr 73)]), #[]⟩
def b940 : Obj := ⟨(vY x.t.a.a.d), none, (.dict #[i0, i1, i2, i3, i4, i5, i6, i7, i8, i9, i16, i22, i28, i34, i40] 15), #[]⟩
def b941 : Obj := ⟨.none, none, (.fields #[(vI 2), vO, (vr 20), (vI 4), vO, (vr 33), (vI 6), vO, (vr 45), (vI 8), vO, (vr 57), (vI 10), vO, (vr 69), (vI 12), vO, (vr 81)]), #[]⟩
def b942 : Obj := ⟨(vY x.t.a.b.a), none, (.cls ⟨x.s.a.b.f, [(vY x.t.a.a.f)], [(vr 24), (vY x.t.a.a.f), (vY x.t.a.b.b), (vY x.t.a.b.c), (vY x.t.a.b.d)], 23, x.s.a.b.f, true, [], [(vr 37), (vr 49), (vr 61), (vr 73), (vr 85)], false, none, false⟩), #[(vR 15), none, (some (vS x.s.a.b.f 189)), (some (vS x.s.a.b.f 197)), (some (vB x.t.a.b.e)), (some (.bool true))]⟩
def zkh : Obj := ⟨(vY x.t.a.a.d), none, (.dict #[i41, i42, i43, i44] 4), #[]⟩
def zkk : Obj := ⟨(vY x.t.a.a.b), none, (.fields #[(vS x.s.a.c.h 273), (vS x.s.a.c.h 274), (vS x.s.a.a.b 275), (vI 12), vO, vO, vO, vO, (vr 79), (.bool false), (vI 181), (vr 80), .none, .none, .none, .none, (vI 276), (vI 12), (vS x.s.a.a.b 277)]), #[]⟩
def zkf : Obj := ⟨(vY x.t.a.a.c), none, .plain, #[(vR 81), (vR 3), (vR 78), none, (some (vS x.s.a.a.e 187)), none, (vR 0)]⟩
def zki : Obj := ⟨(vY x.t.a.a.d), none, (.dict #[i41, i43, i44, i45] 2), #[]⟩
def zkg : Obj := ⟨(vY x.t.a.b.a), none, (.cls ⟨x.s.a.c.h, [(vr 24)], [(vr 85), (vr 24), (vY x.t.a.a.f), (vY x.t.a.b.b), (vY x.t.a.b.c), (vY x.t.a.b.d)], 84, x.s.a.c.h, true, [], [], false, none, false⟩), #[(vR 76), none, (some (vS x.s.a.c.h 271)), (some (vS x.s.a.c.h 279)), (some (vB x.t.a.b.e)), (some (.bool true))]⟩
def zkl : Obj := ⟨(vY x.t.a.b.h), none, (.fields #[(vr 85), (vr 85), (vr 85)]), #[]⟩
def zkj : Obj := ⟨(vY x.t.a.a.g), none, (.fields #[(vB x.t.a.c.a), (vr 85)]), #[]⟩
def b955 : Obj := ⟨(vY x.t.a.a.d), none, (.dict #[i0, i1, i2, i3, i4, i5, i6, i7, i8, i9, i16, i22, i28, i34, i40, i46] 16), #[]⟩
def b956 : Obj := ⟨.none, none, (.fields #[(vI 2), vO, (vr 20), (vI 4), vO, (vr 33), (vI 6), vO, (vr 45), (vI 8), vO, (vr 57), (vI 10), vO, (vr 69), (vI 12), vO, (vr 81), (vI 14), vO, (vr 93)]), #[]⟩
def b957 : Obj := ⟨(vY x.t.a.b.a), none, (.cls ⟨x.s.a.b.f, [(vY x.t.a.a.f)], [(vr 24), (vY x.t.a.a.f), (vY x.t.a.b.b), (vY x.t.a.b.c), (vY x.t.a.b.d)], 23, x.s.a.b.f, true, [], [(vr 37), (vr 49), (vr 61), (vr 73), (vr 85), (vr 97)], false, none, false⟩), #[(vR 15), none, (some (vS x.s.a.b.f 189)), (some (vS x.s.a.b.f 197)), (some (vB x.t.a.b.e)), (some (.bool true))]⟩
def zlp : Obj := ⟨(vY x.t.a.a.d), none, (.dict #[i47, i48, i49, i50] 4), #[]⟩
def zly : Obj := ⟨(vY x.t.a.a.b), none, (.fields #[(vS x.s.a.d.a 289), (vS x.s.a.d.a 290), (vS x.s.a.a.b 291), (vI 14), vO, vO, vO, vO, (vr 91), (.bool false), (vI 181), (vr 92), .none, .none, .none, .none, (vI 292), (vI 14), (vS x.s.a.a.b 293)]), #[]⟩
def zlm : Obj := ⟨(vY x.t.a.a.c), none, .plain, #[(vR 93), (vR 3), (vR 90), none, (some (vS x.s.a.a.e 187)), none, (vR 0)]⟩
def zlf : Obj := ⟨(vY x.t.a.a.d), none, (.dict #[i47, i49, i50, i51] 2), #[]⟩
def zlj : Obj := ⟨(vY x.t.a.b.a), none, (.cls ⟨x.s.a.d.a, [(vr 24)], [(vr 97), (vr 24), (vY x.t.a.a.f), (vY x.t.a.b.b), (vY x.t.a.b.c), (vY x.t.a.b.d)], 96, x.s.a.d.a, true, [], [], false, none, false⟩), #[(vR 88), none, (some (vS x.s.a.d.a 287)), (some (vS x.s.a.d.a 295)), (some (vB x.t.a.b.e)), (some (.bool true))]⟩
def zk0 : Obj := ⟨(vY x.t.a.b.h), none, (.fields #[(vr 97), (vr 97), (vr 97)]), #[]⟩
def zlz : Obj := ⟨(vY x.t.a.a.g), none, (.fields #[(vB x.t.a.c.a), (vr 97)]), #[]⟩
def b970 : Obj := ⟨(vY x.t.a.a.d), none, (.dict #[i0, i1, i2, i3, i4, i5, i6, i7, i8, i9, i16, i22, i28, i34, i40, i46, i52] 17), #[]⟩
def b971 : Obj := ⟨.none, none, (.fields #[(vI 2), vO, (vr 20), (vI 4), vO, (vr 33), (vI 6), vO, (vr 45), (vI 8), vO, (vr 57), (vI 10), vO, (vr 69), (vI 12), vO, (vr 81), (vI 14), vO, (vr 93), (vI 16), vO, (vr 105)]), #[]⟩
def b972 : Obj := ⟨(vY x.t.a.b.a), none, (.cls ⟨x.s.a.b.f, [(vY x.t.a.a.f)], [(vr 24), (vY x.t.a.a.f), (vY x.t.a.b.b), (vY x.t.a.b.c), (vY x.t.a.b.d)], 23, x.s.a.b.f, true, [], [(vr 37), (vr 49), (vr 61), (vr 73), (vr 85), (vr 97), (vr 109)], false, none, false⟩), #[(vR 15), none, (some (vS x.s.a.b.f 189)), (some (vS x.s.a.b.f 197)), (some (vB x.t.a.b.e)), (some (.bool true))]⟩
def zlP : Obj := ⟨(vY x.t.a.a.d), none, (.dict #[i53, i54, i55, i56] 4), #[]⟩
def zlK : Obj := ⟨(vY x.t.a.a.b), none, (.fields #[(vS x.s.a.d.b 305), (vS x.s.a.d.b 306), (vS x.s.a.a.b 307), (vI 16), vO, vO, vO, vO, (vr 103), (.bool false), (vI 181), (vr 104), .none, .none, .none, .none, (vI 308), (vI 16), (vS x.s.a.a.b 309)]), #[]⟩
def zlM : Obj := ⟨(vY x.t.a.a.c), none, .plain, #[(vR 105), (vR 3), (vR 102), none, (some (vS x.s.a.a.e 187)), none, (vR 0)]⟩
def zlJ : Obj := ⟨(vY x.t.a.a.d), none, (.dict #[i53, i55, i56, i57] 2), #[]⟩
def zlH : Obj := ⟨(vY x.t.a.b.a), none, (.cls ⟨x.s.a.d.b, [(vr 24)], [(vr 109), (vr 24), (vY x.t.a.a.f), (vY x.t.a.b.b), (vY x.t.a.b.c), (vY x.t.a.b.d)], 108, x.s.a.d.b, true, [], [], false, none, false⟩), #[(vR 100), none, (some (vS x.s.a.d.b 303)), (some (vS x.s.a.d.b 311)), (some (vB x.t.a.b.e)), (some (.bool true))]⟩
def zlI : Obj := ⟨(vY x.t.a.b.h), none, (.fields #[(vr 109), (vr 109), (vr 109)]), #[]⟩
def zlL : Obj := ⟨(vY x.t.a.a.g), none, (.fields #[(vB x.t.a.c.a), (vr 109)]), #[]⟩
def b985 : Obj := ⟨(vY x.t.a.a.d), none, (.dict #[i0, i1, i2, i3, i4, i5, i6, i7, i8, i9, i16, i22, i28, i34, i40, i46, i52, i58] 18), #[]⟩
def b986 : Obj := ⟨.none, none, (.fields #[(vI 2), vO, (vr 20), (vI 4), vO, (vr 33), (vI 6), vO, (vr 45), (vI 8), vO, (vr 57), (vI 10), vO, (vr 69), (vI 12), vO, (vr 81), (vI 14), vO, (vr 93), (vI 16), vO, (vr 105), (vI 18), vO, (vr 117)]), #[]⟩
def b987 : Obj := ⟨(vY x.t.a.b.a), none, (.cls ⟨x.s.a.b.f, [(vY x.t.a.a.f)], [(vr 24), (vY x.t.a.a.f), (vY x.t.a.b.b), (vY x.t.a.b.c), (vY x.t.a.b.d)], 23, x.s.a.b.f, true, [], [(vr 37), (vr 49), (vr 61), (vr 73), (vr 85), (vr 97), (vr 109), (vr 121)], false, none, false⟩), #[(vR 15), none, (some (vS x.s.a.b.f 189)), (some (vS x.s.a.b.f 197)), (some (vB x.t.a.b.e)), (some (.bool true))]⟩
def zlR : Obj := ⟨(vY x.t.a.a.d), none, (.dict #[i59, i60, i61, i62] 4), #[]⟩
def zmB : Obj := ⟨(vY x.t.a.a.b), none, (.fields #[(vS x.s.a.d.c 321), (vS x.s.a.d.c 322), (vS x.s.a.a.b 323), (vI 18), vO, vO, vO, vO, (vr 115), (.bool false), (vI 181), (vr 116), .none, .none, .none, .none, (vI 324), (vI 18), (vS x.s.a.a.b 325)]), #[]⟩
def zlW : Obj := ⟨(vY x.t.a.a.c), none, .plain, #[(vR 117), (vR 3), (vR 114), none, (some (vS x.s.a.a.e 187)), none, (vR 0)]⟩
def zlX : Obj := ⟨(vY x.t.a.a.d), none, (.dict #[i59, i61, i62, i63] 2), #[]⟩
def zmi : Obj := ⟨(vY x.t.a.b.a), none, (.cls ⟨x.s.a.d.c, [(vr 24)], [(vr 121), (vr 24), (vY x.t.a.a.f), (vY x.t.a.b.b), (vY x.t.a.b.c), (vY x.t.a.b.d)], 120, x.s.a.d.c, true, [], [], false, none, false⟩), #[(vR 112), none, (some (vS x.s.a.d.c 319)), (some (vS x.s.a.d.c 327)), (some (vB x.t.a.b.e)), (some (.bool true))]⟩
def zmC : Obj := ⟨(vY x.t.a.b.h), none, (.fields #[(vr 121), (vr 121), (vr 121)]), #[]⟩
def zmb : Obj := ⟨(vY x.t.a.a.g), none, (.fields #[(vB x.t.a.c.a), (vr 121)]), #[]⟩
def b1000 : Obj := ⟨(vY x.t.a.a.d), none, (.dict #[i0, i1, i2, i3, i4, i5, i6, i7, i8, i9, i16, i22, i28, i34, i40, i46, i52, i58, i64] 19), #[]⟩
def b1001 : Obj := ⟨.none, none, (.fields #[(vI 2), vO, (vr 20), (vI 4), vO, (vr 33), (vI 6), vO, (vr 45), (vI 8), vO, (vr 57), (vI 10), vO, (vr 69), (vI 12), vO, (vr 81), (vI 14), vO, (vr 93), (vI 16), vO, (vr 105), (vI 18), vO, (vr 117), (vI 20), vO, (vr 129)]), #[]⟩
def b1002 : Obj := ⟨(vY x.t.a.b.a), none, (.cls ⟨x.s.a.b.f, [(vY x.t.a.a.f)], [(vr 24), (vY x.t.a.a.f), (vY x.t.a.b.b), (vY x.t.a.b.c), (vY x.t.a.b.d)], 23, x.s.a.b.f, true, [], [(vr 37), (vr 49), (vr 61), (vr 73), (vr 85), (vr 97), (vr 109), (vr 121), (vr 133)], false, none, false⟩), #[(vR 15), none, (some (vS x.s.a.b.f 189)), (some (vS x.s.a.b.f 197)), (some (vB x.t.a.b.e)), (some (.bool true))]⟩
def zfS : Obj := ⟨(vY x.t.a.a.d), none, (.dict #[i65, i66, i67, i68] 4), #[]⟩
def zgc : Obj := ⟨(vY x.t.a.a.b), none, (.fields #[(vS x.s.a.d.d 337), (vS x.s.a.d.d 338), (vS x.s.a.a.b 339), (vI 20), vO, vO, vO, vO, (vr 127), (.bool false), (vI 181), (vr 128), .none, .none, .none, .none, (vI 340), (vI 20), (vS x.s.a.a.b 341)]), #[]⟩
def zfX : Obj := ⟨(vY x.t.a.a.c), none, .plain, #[(vR 129), (vR 3), (vR 126), none, (some (vS x.s.a.a.e 187)), none, (vR 0)]⟩
def zfT : Obj := ⟨(vY x.t.a.a.d), none, (.dict #[i65, i67, i68, i69] 2), #[]⟩
def zfU : Obj := ⟨(vY x.t.a.b.a), none, (.cls ⟨x.s.a.d.d, [(vr 24)], [(vr 133), (vr 24), (vY x.t.a.a.f), (vY x.t.a.b.b), (vY x.t.a.b.c), (vY x.t.a.b.d)], 132, x.s.a.d.d, true, [], [], false, none, false⟩), #[(vR 124), none, (some (vS x.s.a.d.d 335)), (some (vS x.s.a.d.d 343)), (some (vB x.t.a.b.e)), (some (.bool true))]⟩
def zfM : Obj := ⟨(vY x.t.a.b.h), none, (.fields #[(vr 133), (vr 133), (vr 133)]), #[]⟩
def zgd : Obj := ⟨(vY x.t.a.a.g), none, (.fields #[(vB x.t.a.c.a), (vr 133)]), #[]⟩
def b1015 : Obj := ⟨(vY x.t.a.a.d), none, (.dict #[i0, i1, i2, i3, i4, i5, i6, i7, i8, i9, i16, i22, i28, i34, i40, i46, i52, i58, i64, i70] 20), #[]⟩
def b1016 : Obj := ⟨.none, none, (.fields #[(vI 2), vO, (vr 20), (vI 4), vO, (vr 33), (vI 6), vO, (vr 45), (vI 8), vO, (vr 57), (vI 10), vO, (vr 69), (vI 12), vO, (vr 81), (vI 14), vO, (vr 93), (vI 16), vO, (vr 105), (vI 18), vO, (vr 117), (vI 20), vO, (vr 129), (vI 22), vO, (vr 141)]), #[]⟩
def b1017 : Obj := ⟨(vY x.t.a.b.a), none, (.cls ⟨x.s.a.b.f, [(vY x.t.a.a.f)], [(vr 24), (vY x.t.a.a.f), (vY x.t.a.b.b), (vY x.t.a.b.c), (vY x.t.a.b.d)], 23, x.s.a.b.f, true, [], [(vr 37), (vr 49), (vr 61), (vr 73), (vr 85), (vr 97), (vr 109), (vr 121), (vr 133), (vr 145)], false, none, false⟩), #[(vR 15), none, (some (vS x.s.a.b.f 189)), (some (vS x.s.a.b.f 197)), (some (vB x.t.a.b.e)), (some (.bool true))]⟩
def zgi : Obj := ⟨(vY x.t.a.a.d), none, (.dict #[i71, i72, i73, i74] 4), #[]⟩
def zgv : Obj := ⟨(vY x.t.a.a.b), none, (.fields #[(vS x.s.a.d.e 353), (vS x.s.a.d.e 354), (vS x.s.a.a.b 355), (vI 22), vO, vO, vO, vO, (vr 139), (.bool false), (vI 181), (vr 140), .none, .none, .none, .none, (vI 356), (vI 22), (vS x.s.a.a.b 357)]), #[]⟩
def zgq : Obj := ⟨(vY x.t.a.a.c), none, .plain, #[(vR 141), (vR 3), (vR 138), none, (some (vS x.s.a.a.e 187)), none, (vR 0)]⟩
def zgB : Obj := ⟨(vY x.t.a.a.d), none, (.dict #[i71, i73, i74, i75] 2), #[]⟩
def zgw : Obj := ⟨(vY x.t.a.b.a), none, (.cls ⟨x.s.a.d.e, [(vr 24)], [(vr 145), (vr 24), (vY x.t.a.a.f), (vY x.t.a.b.b), (vY x.t.a.b.c), (vY x.t.a.b.d)], 144, x.s.a.d.e, true, [], [], false, none, false⟩), #[(vR 136), none, (some (vS x.s.a.d.e 351)), (some (vS x.s.a.d.e 359)), (some (vB x.t.a.b.e)), (some (.bool true))]⟩
def zgx : Obj := ⟨(vY x.t.a.b.h), none, (.fields #[(vr 145), (vr 145), (vr 145)]), #[]⟩
def zgg : Obj := ⟨(vY x.t.a.a.g), none, (.fields #[(vB x.t.a.c.a), (vr 145)]), #[]⟩
def b1030 : Obj := ⟨(vY x.t.a.a.d), none, (.dict #[i0, i1, i2, i3, i4, i5, i6, i7, i8, i9, i16, i22, i28, i34, i40, i46, i52, i58, i64, i70, i76] 21), #[]⟩
def b1031 : Obj := ⟨.none, none, (.fields #[(vI 2), vO, (vr 20), (vI 4), vO, (vr 33), (vI 6), vO, (vr 45), (vI 8), vO, (vr 57), (vI 10), vO, (vr 69), (vI 12), vO, (vr 81), (vI 14), vO, (vr 93), (vI 16), vO, (vr 105), (vI 18), vO, (vr 117), (vI 20), vO, (vr 129), (vI 22), vO, (vr 141), (vI 24), vO, (vr 153)]), #[]⟩
def b1032 : Obj := ⟨(vY x.t.a.b.a), none, (.cls ⟨x.s.a.b.f, [(vY x.t.a.a.f)], [(vr 24), (vY x.t.a.a.f), (vY x.t.a.b.b), (vY x.t.a.b.c), (vY x.t.a.b.d)], 23, x.s.a.b.f, true, [], [(vr 37), (vr 49), (vr 61), (vr 73), (vr 85), (vr 97), (vr 109), (vr 121), (vr 133), (vr 145), (vr 157)], false, none, false⟩), #[(vR 15), none, (some (vS x.s.a.b.f 189)), (some (vS x.s.a.b.f 197)), (some (vB x.t.a.b.e)), (some (.bool true))]⟩
def zg1 : Obj := ⟨(vY x.t.a.a.d), none, (.dict #[i77, i78, i79, i80] 4), #[]⟩
def zgR : Obj := ⟨(vY x.t.a.a.b), none, (.fields #[(vS x.s.a.d.f 369), (vS x.s.a.d.f 370), (vS x.s.a.a.b 371), (vI 24), vO, vO, vO, vO, (vr 151), (.bool false), (vI 181), (vr 152), .none, .none, .none, .none, (vI 372), (vI 24), (vS x.s.a.a.b 373)]), #[]⟩
def zgO : Obj := ⟨(vY x.t.a.a.c), none, .plain, #[(vR 153), (vR 3), (vR 150), none, (some (vS x.s.a.a.e 187)), none, (vR 0)]⟩
def zg2 : Obj := ⟨(vY x.t.a.a.d), none, (.dict #[i77, i79, i80, i81] 2), #[]⟩
def zgT : Obj := ⟨(vY x.t.a.b.a), none, (.cls ⟨x.s.a.d.f, [(vr 24)], [(vr 157), (vr 24), (vY x.t.a.a.f), (vY x.t.a.b.b), (vY x.t.a.b.c), (vY x.t.a.b.d)], 156, x.s.a.d.f, true, [], [], false, none, false⟩), #[(vR 148), none, (some (vS x.s.a.d.f 367)), (some (vS x.s.a.d.f 375)), (some (vB x.t.a.b.e)), (some (.bool true))]⟩
def zgV : Obj := ⟨(vY x.t.a.b.h), none, (.fields #[(vr 157), (vr 157), (vr 157)]), #[]⟩
def zgS : Obj := ⟨(vY x.t.a.a.g), none, (.fields #[(vB x.t.a.c.a), (vr 157)]), #[]⟩
def b1045 : Obj := ⟨(vY x.t.a.a.d), none, (.dict #[i0, i1, i2, i3, i4, i5, i6, i7, i8, i9, i16, i22, i28, i34, i40, i46, i52, i58, i64, i70, i76, i82] 22), #[]⟩
def b1046 : Obj := ⟨.none, none, (.fields #[(vI 2), vO, (vr 20), (vI 4), vO, (vr 33), (vI 6), vO, (vr 45), (vI 8), vO, (vr 57), (vI 10), vO, (vr 69), (vI 12), vO, (vr 81), (vI 14), vO, (vr 93), (vI 16), vO, (vr 105), (vI 18), vO, (vr 117), (vI 20), vO, (vr 129), (vI 22), vO, (vr 141), (vI 24), vO, (vr 153), (vI 26), vO, (vr 165)]), #[]⟩
def b1047 : Obj := ⟨(vY x.t.a.b.a), none, (.cls ⟨x.s.a.b.f, [(vY x.t.a.a.f)], [(vr 24), (vY x.t.a.a.f), (vY x.t.a.b.b), (vY x.t.a.b.c), (vY x.t.a.b.d)], 23, x.s.a.b.f, true, [], [(vr 37), (vr 49), (vr 61), (vr 73), (vr 85), (vr 97), (vr 109), (vr 121), (vr 133), (vr 145), (vr 157), (vr 169)], false, none, false⟩), #[(vR 15), none, (some (vS x.s.a.b.f 189)), (some (vS x.s.a.b.f 197)), (some (vB x.t.a.b.e)), (some (.bool true))]⟩
def zho : Obj := ⟨(vY x.t.a.a.d), none, (.dict #[i83, i84, i85, i86] 4), #[]⟩
def zhm : Obj := ⟨(vY x.t.a.a.b), none, (.fields #[(vS x.s.a.d.g 385), (vS x.s.a.d.g 386), (vS x.s.a.a.b 387), (vI 26), vO, vO, vO, vO, (vr 163), (.bool false), (vI 181), (vr 164), .none, .none, .none, .none, (vI 388), (vI 26), (vS x.s.a.a.b 389)]), #[]⟩
def zhC : Obj := ⟨(vY x.t.a.a.c), none, .plain, #[(vR 165), (vR 3), (vR 162), none, (some (vS x.s.a.a.e 187)), none, (vR 0)]⟩
def zib : Obj := ⟨(vY x.t.a.a.d), none, (.dict #[i83, i85, i86, i87] 2), #[]⟩
def zhI : Obj := ⟨(vY x.t.a.b.a), none, (.cls ⟨x.s.a.d.g, [(vr 24)], [(vr 169), (vr 24), (vY x.t.a.a.f), (vY x.t.a.b.b), (vY x.t.a.b.c), (vY x.t.a.b.d)], 168, x.s.a.d.g, true, [], [], false, none, false⟩), #[(vR 160), none, (some (vS x.s.a.d.g 383)), (some (vS x.s.a.d.g 391)), (some (vB x.t.a.b.e)), (some (.bool true))]⟩
def zhM : Obj := ⟨(vY x.t.a.b.h), none, (.fields #[(vr 169), (vr 169), (vr 169)]), #[]⟩
def zhQ : Obj := ⟨(vY x.t.a.a.g), none, (.fields #[(vB x.t.a.c.a), (vr 169)]), #[]⟩
def b1060 : Obj := ⟨(vY x.t.a.a.d), none, (.dict #[i0, i1, i2, i3, i4, i5, i6, i7, i8, i9, i16, i22, i28, i34, i40, i46, i52, i58, i64, i70, i76, i82, i88] 23), #[]⟩
def b1061 : Obj := ⟨.none, none, (.fields #[(vI 2), vO, (vr 20), (vI 4), vO, (vr 33), (vI 6), vO, (vr 45), (vI 8), vO, (vr 57), (vI 10), vO, (vr 69), (vI 12), vO, (vr 81), (vI 14), vO, (vr 93), (vI 16), vO, (vr 105), (vI 18), vO, (vr 117), (vI 20), vO, (vr 129), (vI 22), vO, (vr 141), (vI 24), vO, (vr 153), (vI 26), vO, (vr 165), (vI 28), vO, (vr 177)]), #[]⟩
def b1062 : Obj := ⟨(vY x.t.a.b.a), none, (.cls ⟨x.s.a.b.f, [(vY x.t.a.a.f)], [(vr 24), (vY x.t.a.a.f), (vY x.t.a.b.b), (vY x.t.a.b.c), (vY x.t.a.b.d)], 23, x.s.a.b.f, true, [], [(vr 37), (vr 49), (vr 61), (vr 73), (vr 85), (vr 97), (vr 109), (vr 121), (vr 133), (vr 145), (vr 157), (vr 169), (vr 181)], false, none, false⟩), #[(vR 15), none, (some (vS x.s.a.b.f 189)), (some (vS x.s.a.b.f 197)), (some (vB x.t.a.b.e)), (some (.bool true))]⟩
def ziM : Obj := ⟨(vY x.t.a.a.d), none, (.dict #[i89, i90, i91, i92] 4), #[]⟩
def ziJ : Obj := ⟨(vY x.t.a.a.b), none, (.fields #[(vS x.s.a.d.h 401), (vS x.s.a.d.h 402), (vS x.s.a.a.b 403), (vI 28), vO, vO, vO, vO, (vr 175), (.bool false), (vI 181), (vr 176), .none, .none, .none, .none, (vI 404), (vI 28), (vS x.s.a.a.b 405)]), #[]⟩
def ziK : Obj := ⟨(vY x.t.a.a.c), none, .plain, #[(vR 177), (vR 3), (vR 174), none, (some (vS x.s.a.a.e 187)), none, (vR 0)]⟩
def ziv : Obj := ⟨(vY x.t.a.a.d), none, (.dict #[i89, i91, i92, i93] 2), #[]⟩
def ziR : Obj := ⟨(vY x.t.a.b.a), none, (.cls ⟨x.s.a.d.h, [(vr 24)], [(vr 181), (vr 24), (vY x.t.a.a.f), (vY x.t.a.b.b), (vY x.t.a.b.c), (vY x.t.a.b.d)], 180, x.s.a.d.h, true, [], [], false, none, false⟩), #[(vR 172), none, (some (vS x.s.a.d.h 399)), (some (vS x.s.a.d.h 407)), (some (vB x.t.a.b.e)), (some (.bool true))]⟩
def ziI : Obj := ⟨(vY x.t.a.b.h), none, (.fields #[(vr 181), (vr 181), (vr 181)]), #[]⟩
def ziy : Obj := ⟨(vY x.t.a.a.g), none, (.fields #[(vB x.t.a.c.a), (vr 181)]), #[]⟩
def b1075 : Obj := ⟨(vY x.t.a.a.d), none, (.dict #[i0, i1, i2, i3, i4, i5, i6, i7, i8, i9, i16, i22, i28, i34, i40, i46, i52, i58, i64, i70, i76, i82, i88, i94] 24), #[]⟩
def b1076 : Obj := ⟨.none, none, (.fields #[(vI 2), vO, (vr 20), (vI 4), vO, (vr 33), (vI 6), vO, (vr 45), (vI 8), vO, (vr 57), (vI 10), vO, (vr 69), (vI 12), vO, (vr 81), (vI 14), vO, (vr 93), (vI 16), vO, (vr 105), (vI 18), vO, (vr 117), (vI 20), vO, (vr 129), (vI 22), vO, (vr 141), (vI 24), vO, (vr 153), (vI 26), vO, (vr 165), (vI 28), vO, (vr 177), (vI 30), vO, (vr 189)]), #[]⟩
def b1077 : Obj := ⟨(vY x.t.a.b.a), none, (.cls ⟨x.s.a.b.f, [(vY x.t.a.a.f)], [(vr 24), (vY x.t.a.a.f), (vY x.t.a.b.b), (vY x.t.a.b.c), (vY x.t.a.b.d)], 23, x.s.a.b.f, true, [], [(vr 37), (vr 49), (vr 61), (vr 73), (vr 85), (vr 97), (vr 109), (vr 121), (vr 133), (vr 145), (vr 157), (vr 169), (vr 181), (vr 193)], false, none, false⟩), #[(vR 15), none, (some (vS x.s.a.b.f 189)), (some (vS x.s.a.b.f 197)), (some (vB x.t.a.b.e)), (some (.bool true))]⟩
def zjB : Obj := ⟨(vY x.t.a.a.d), none, (.dict #[i95, i96, i97, i98] 4), #[]⟩
def zj5 : Obj := ⟨(vY x.t.a.a.b), none, (.fields #[(vS x.s.a.e.a 417), (vS x.s.a.e.a 418), (vS x.s.a.a.b 419), (vI 30), vO, vO, vO, vO, (vr 187), (.bool false), (vI 181), (vr 188), .none, .none, .none, .none, (vI 420), (vI 30), (vS x.s.a.a.b 421)]), #[]⟩
def zj9 : Obj := ⟨(vY x.t.a.a.c), none, .plain, #[(vR 189), (vR 3), (vR 186), none, (some (vS x.s.a.a.e 187)), none, (vR 0)]⟩
def zjY : Obj := ⟨(vY x.t.a.a.d), none, (.dict #[i95, i97, i98, i99] 2), #[]⟩
def zjw : Obj := ⟨(vY x.t.a.b.a), none, (.cls ⟨x.s.a.e.a, [(vr 24)], [(vr 193), (vr 24), (vY x.t.a.a.f), (vY x.t.a.b.b), (vY x.t.a.b.c), (vY x.t.a.b.d)], 192, x.s.a.e.a, true, [], [], false, none, false⟩), #[(vR 184), none, (some (vS x.s.a.e.a 415)), (some (vS x.s.a.e.a 423)), (some (vB x.t.a.b.e)), (some (.bool true))]⟩
def zjE : Obj := ⟨(vY x.t.a.b.h), none, (.fields #[(vr 193), (vr 193), (vr 193)]), #[]⟩
def zjT : Obj := ⟨(vY x.t.a.a.g), none, (.fields #[(vB x.t.a.c.a), (vr 193)]), #[]⟩
def b1090 : Obj := ⟨(vY x.t.a.a.d), none, (.dict #[i0, i1, i2, i3, i4, i5, i6, i7, i8, i9, i16, i22, i28, i34, i40, i46, i52, i58, i64, i70, i76, i82, i88, i94, ztg] 25), #[]⟩
def b1091 : Obj := ⟨.none, none, (.fields #[(vI 2), vO, (vr 20), (vI 4), vO, (vr 33), (vI 6), vO, (vr 45), (vI 8), vO, (vr 57), (vI 10), vO, (vr 69), (vI 12), vO, (vr 81), (vI 14), vO, (vr 93), (vI 16), vO, (vr 105), (vI 18), vO, (vr 117), (vI 20), vO, (vr 129), (vI 22), vO, (vr 141), (vI 24), vO, (vr 153), (vI 26), vO, (vr 165), (vI 28), vO, (vr 177), (vI 30), vO, (vr 189), (vI 32), vO, (vr 201)]), #[]⟩
def b1092 : Obj := ⟨(vY x.t.a.b.a), none, (.cls ⟨x.s.a.b.f, [(vY x.t.a.a.f)], [(vr 24), (vY x.t.a.a.f), (vY x.t.a.b.b), (vY x.t.a.b.c), (vY x.t.a.b.d)], 23, x.s.a.b.f, true, [], [(vr 37), (vr 49), (vr 61), (vr 73), (vr 85), (vr 97), (vr 109), (vr 121), (vr 133), (vr 145), (vr 157), (vr 169), (vr 181), (vr 193), (vr 212)], false, none, false⟩), #[(vR 15), none, (some (vS x.s.a.b.f 189)), (some (vS x.s.a.b.f 197)), (some (vB x.t.a.b.e)), (some (.bool true))]⟩
def zk3 : Obj := ⟨(vY x.t.a.a.d), none, (.dict #[i101, i102, i103, i104, i105] 5), #[]⟩
def zkH : Obj := ⟨.none, none, (.fields #[(vI 34), (vI 4), (vr 208)]), #[]⟩
def zk6 : Obj := ⟨(vY x.t.a.a.b), none, (.fields #[(vS x.s.a.e.b 433), (vS x.s.a.e.b 434), (vS x.s.a.a.b 435), (vI 32), vO, vO, vO, vO, (vr 199), (.bool false), (vI 181), (vr 200), .none, .none, .none, .none, (vI 436), (vI 32), (vS x.s.a.a.b 437)]), #[]⟩
def zlD : Obj := ⟨(vY x.t.a.a.c), none, .plain, #[(vR 201), (vR 3), (vR 198), none, (some (vS x.s.a.a.e 187)), none, (vR 0)]⟩
def zkZ : Obj := ⟨(vY x.t.a.a.a), none, (.seq #[(vS x.s.a.e.d 446), (vS x.s.a.e.e 447)] 0), #[]⟩
def zlo : Obj := ⟨.none, none, (.func (fn (sm 16 0) x.s.a.e.f 0 [] .none .none .none .none none .none .none 0)), #[]⟩
def zli : Obj := ⟨(vY x.t.a.a.b), none, (.fields #[(vS x.s.a.e.c 443), (vS x.s.a.e.f 444), (vS x.s.a.a.b 445), (vI 34), (vI 2), vO, vO, (vI 3), (vr 203), (.bool true), (vI 181), (vr 204), .none, (vr 205), (vr 206), (vr 207), (vI 448), (vI 34), (vS x.s.a.a.b 449)]), #[]⟩
def zld : Obj := ⟨(vY x.t.a.c.b), none, (.func (fn (sm 16 0) x.s.a.e.f 3 [] .none .none .none (vS x.s.a.a.e 187) none (vr 208) .none 0)), #[]⟩
def zkD : Obj := ⟨(vY x.t.a.a.a), none, (.seq #[(vS x.s.a.e.e 451)] 0), #[]⟩
def zkq : Obj := ⟨(vY x.t.a.a.d), none, (.dict #[i101, i103, i104, i105, i106] 2), #[]⟩
def zko : Obj := ⟨(vY x.t.a.b.a), none, (.cls ⟨x.s.a.e.b, [(vr 24)], [(vr 212), (vr 24), (vY x.t.a.a.f), (vY x.t.a.b.b), (vY x.t.a.b.c), (vY x.t.a.b.d)], 211, x.s.a.e.b, true, [], [], false, none, false⟩), #[(vR 196), none, (some (vS x.s.a.e.b 431)), (some (vS x.s.a.e.b 439)), (some (vB x.t.a.b.e)), (some (.bool true))]⟩
def zlA : Obj := ⟨(vY x.t.a.b.h), none, (.fields #[(vr 212), (vr 212), (vr 212)]), #[]⟩
def zk1 : Obj := ⟨(vY x.t.a.a.g), none, (.fields #[(vB x.t.a.c.a), (vr 212)]), #[]⟩
def b1112 : Obj := ⟨(vY x.t.a.a.d), none, (.dict #[i0, i1, i2, i3, i4, i5, i6, i7, i8, i9, i16, i22, i28, i34, i40, i46, i52, i58, i64, i70, i76, i82, i88, i94, ztg, zt0] 26), #[]⟩
def b1113 : Obj := ⟨.none, none, (.fields #[(vI 2), vO, (vr 20), (vI 4), vO, (vr 33), (vI 6), vO, (vr 45), (vI 8), vO, (vr 57), (vI 10), vO, (vr 69), (vI 12), vO, (vr 81), (vI 14), vO, (vr 93), (vI 16), vO, (vr 105), (vI 18), vO, (vr 117), (vI 20), vO, (vr 129), (vI 22), vO, (vr 141), (vI 24), vO, (vr 153), (vI 26), vO, (vr 165), (vI 28), vO, (vr 177), (vI 30), vO, (vr 189), (vI 32), vO, (vr 201), (vI 37), vO, (vr 220)]), #[]⟩
def b1114 : Obj := ⟨(vY x.t.a.b.a), none, (.cls ⟨x.s.a.b.f, [(vY x.t.a.a.f)], [(vr 24), (vY x.t.a.a.f), (vY x.t.a.b.b), (vY x.t.a.b.c), (vY x.t.a.b.d)], 23, x.s.a.b.f, true, [], [(vr 37), (vr 49), (vr 61), (vr 73), (vr 85), (vr 97), (vr 109), (vr 121), (vr 133), (vr 145), (vr 157), (vr 169), (vr 181), (vr 193), (vr 212), (vr 231)], false, none, false⟩), #[(vR 15), none, (some (vS x.s.a.b.f 189)), (some (vS x.s.a.b.f 197)), (some (vB x.t.a.b.e)), (some (.bool true))]⟩
def zms : Obj := ⟨(vY x.t.a.a.d), none, (.dict #[i108, i109, i110, i111, i112] 5), #[]⟩
def zlV : Obj := ⟨.none, none, (.fields #[(vI 39), (vI 4), (vr 227)]), #[]⟩
def zmd : Obj := ⟨(vY x.t.a.a.b), none, (.fields #[(vS x.s.a.e.g 458), (vS x.s.a.e.g 459), (vS x.s.a.a.b 460), (vI 37), vO, vO, vO, vO, (vr 218), (.bool false), (vI 181), (vr 219), .none, .none, .none, .none, (vI 461), (vI 37), (vS x.s.a.a.b 462)]), #[]⟩
def zmh : Obj := ⟨(vY x.t.a.a.c), none, .plain, #[(vR 220), (vR 3), (vR 217), none, (some (vS x.s.a.a.e 187)), none, (vR 0)]⟩
def zmF : Obj := ⟨(vY x.t.a.a.a), none, (.seq #[(vS x.s.a.e.d 471), (vS x.s.a.e.h 472)] 0), #[]⟩
def zl6 : Obj := ⟨.none, none, (.func (fn (sm 17 0) x.s.a.f.a 0 [] .none .none .none .none none .none .none 0)), #[]⟩
def zl3 : Obj := ⟨(vY x.t.a.a.b), none, (.fields #[(vS x.s.a.e.c 468), (vS x.s.a.f.a 469), (vS x.s.a.a.b 470), (vI 39), (vI 2), vO, vO, (vI 3), (vr 222), (.bool true), (vI 181), (vr 223), .none, (vr 224), (vr 225), (vr 226), (vI 473), (vI 39), (vS x.s.a.a.b 474)]), #[]⟩
def zma : Obj := ⟨(vY x.t.a.c.b), none, (.func (fn (sm 17 0) x.s.a.f.a 3 [] .none .none .none (vS x.s.a.a.e 187) none (vr 227) .none 0)), #[]⟩
def zmE : Obj := ⟨(vY x.t.a.a.a), none, (.seq #[(vS x.s.a.e.h 476)] 0), #[]⟩
def zmz : Obj := ⟨(vY x.t.a.a.d), none, (.dict #[i108, i110, i111, i112, i113] 2), #[]⟩
def zl0 : Obj := ⟨(vY x.t.a.b.a), none, (.cls ⟨x.s.a.e.g, [(vr 24)], [(vr 231), (vr 24), (vY x.t.a.a.f), (vY x.t.a.b.b), (vY x.t.a.b.c), (vY x.t.a.b.d)], 230, x.s.a.e.g, true, [], [], false, none, false⟩), #[(vR 215), none, (some (vS x.s.a.e.g 456)), (some (vS x.s.a.e.g 464)), (some (vB x.t.a.b.e)), (some (.bool true))]⟩
def zl8 : Obj := ⟨(vY x.t.a.b.h), none, (.fields #[(vr 231), (vr 231), (vr 231)]), #[]⟩
def zmc : Obj := ⟨(vY x.t.a.a.g), none, (.fields #[(vB x.t.a.c.a), (vr 231)]), #[]⟩
def b1134 : Obj := ⟨(vY x.t.a.a.d), none, (.dict #[i0, i1, i2, i3, i4, i5, i6, i7, i8, i9, i16, i22, i28, i34, i40, i46, i52, i58, i64, i70, i76, i82, i88, i94, ztg, zt0, zt7] 27), #[]⟩
def b1135 : Obj := ⟨.none, none, (.fields #[(vI 2), vO, (vr 20), (vI 4), vO, (vr 33), (vI 6), vO, (vr 45), (vI 8), vO, (vr 57), (vI 10), vO, (vr 69), (vI 12), vO, (vr 81), (vI 14), vO, (vr 93), (vI 16), vO, (vr 105), (vI 18), vO, (vr 117), (vI 20), vO, (vr 129), (vI 22), vO, (vr 141), (vI 24), vO, (vr 153), (vI 26), vO, (vr 165), (vI 28), vO, (vr 177), (vI 30), vO, (vr 189), (vI 32), vO, (vr 201), (vI 37), vO, (vr 220), (vI 42), vO, (vr 239)]), #[]⟩
def b1136 : Obj := ⟨(vY x.t.a.b.a), none, (.cls ⟨x.s.a.b.f, [(vY x.t.a.a.f)], [(vr 24), (vY x.t.a.a.f), (vY x.t.a.b.b), (vY x.t.a.b.c), (vY x.t.a.b.d)], 23, x.s.a.b.f, true, [], [(vr 37), (vr 49), (vr 61), (vr 73), (vr 85), (vr 97), (vr 109), (vr 121), (vr 133), (vr 145), (vr 157), (vr 169), (vr 181), (vr 193), (vr 212), (vr 231), (vr 250)], false, none, false⟩), #[(vR 15), none, (some (vS x.s.a.b.f 189)), (some (vS x.s.a.b.f 197)), (some (vB x.t.a.b.e)), (some (.bool true))]⟩
def zny : Obj := ⟨(vY x.t.a.a.d), none, (.dict #[i115, i116, i117, i118, i119] 5), #[]⟩
def znj : Obj := ⟨.none, none, (.fields #[(vI 44), (vI 4), (vr 246)]), #[]⟩
def znC : Obj := ⟨(vY x.t.a.a.b), none, (.fields #[(vS x.s.a.f.b 483), (vS x.s.a.f.b 484), (vS x.s.a.a.b 485), (vI 42), vO, vO, vO, vO, (vr 237), (.bool false), (vI 181), (vr 238), .none, .none, .none, .none, (vI 486), (vI 42), (vS x.s.a.a.b 487)]), #[]⟩
def zm8 : Obj := ⟨(vY x.t.a.a.c), none, .plain, #[(vR 239), (vR 3), (vR 236), none, (some (vS x.s.a.a.e 187)), none, (vR 0)]⟩
def znK : Obj := ⟨(vY x.t.a.a.a), none, (.seq #[(vS x.s.a.e.d 496), (vS x.s.a.f.c 497)] 0), #[]⟩
def znu : Obj := ⟨.none, none, (.func (fn (sm 18 0) x.s.a.f.d 0 [] .none .none .none .none none .none .none 0)), #[]⟩
def znl : Obj := ⟨(vY x.t.a.a.b), none, (.fields #[(vS x.s.a.e.c 493), (vS x.s.a.f.d 494), (vS x.s.a.a.b 495), (vI 44), (vI 2), vO, vO, (vI 3), (vr 241), (.bool true), (vI 181), (vr 242), .none, (vr 243), (vr 244), (vr 245), (vI 498), (vI 44), (vS x.s.a.a.b 499)]), #[]⟩
def zm2 : Obj := ⟨(vY x.t.a.c.b), none, (.func (fn (sm 18 0) x.s.a.f.d 3 [] .none .none .none (vS x.s.a.a.e 187) none (vr 246) .none 0)), #[]⟩
def znv : Obj := ⟨(vY x.t.a.a.a), none, (.seq #[(vS x.s.a.f.c 501)] 0), #[]⟩
def znA : Obj := ⟨(vY x.t.a.a.d), none, (.dict #[i115, i117, i118, i119, i120] 2), #[]⟩
def znh : Obj := ⟨(vY x.t.a.b.a), none, (.cls ⟨x.s.a.f.b, [(vr 24)], [(vr 250), (vr 24), (vY x.t.a.a.f), (vY x.t.a.b.b), (vY x.t.a.b.c), (vY x.t.a.b.d)], 249, x.s.a.f.b, true, [], [], false, none, false⟩), #[(vR 234), none, (some (vS x.s.a.f.b 481)), (some (vS x.s.a.f.b 489)), (some (vB x.t.a.b.e)), (some (.bool true))]⟩
def znJ : Obj := ⟨(vY x.t.a.b.h), none, (.fields #[(vr 250), (vr 250), (vr 250)]), #[]⟩
def znb : Obj := ⟨(vY x.t.a.a.g), none, (.fields #[(vB x.t.a.c.a), (vr 250)]), #[]⟩
def b1156 : Obj := ⟨(vY x.t.a.a.d), none, (.dict #[i121, i1, i2, i3, i4, i5, i6, i7, i8, i9, i16, i22, i28, i34, i40, i46, i52, i58, i64, i70, i76, i82, i88, i94, ztg, zt0, zt7, i122, i123, i124, i125, i126] 32), #[]⟩
def b1157 : Obj := ⟨.none, none, (.fields #[(vI 2), vO, (vr 20), (vI 4), vO, (vr 33), (vI 6), vO, (vr 45), (vI 8), vO, (vr 57), (vI 10), vO, (vr 69), (vI 12), vO, (vr 81), (vI 14), vO, (vr 93), (vI 16), vO, (vr 105), (vI 18), vO, (vr 117), (vI 20), vO, (vr 129), (vI 22), vO, (vr 141), (vI 24), vO, (vr 153), (vI 26), vO, (vr 165), (vI 28), vO, (vr 177), (vI 30), vO, (vr 189), (vI 32), vO, (vr 201), (vI 37), vO, (vr 220), (vI 42), vO, (vr 239), (vI 47), vO, (vr 258), (vI 53), vO, (vr 277), (vI 61), vO, (vr 284), (vI 69), vO, (vr 291), (vI 71), vO, (vr 298)]), #[]⟩
def znT : Obj := ⟨(vY x.t.a.b.a), none, (.cls ⟨x.s.a.b.f, [(vY x.t.a.a.f)], [(vr 24), (vY x.t.a.a.f), (vY x.t.a.b.b), (vY x.t.a.b.c), (vY x.t.a.b.d)], 23, x.s.a.b.f, true, [], [(vr 37), (vr 49), (vr 61), (vr 73), (vr 85), (vr 97), (vr 109), (vr 121), (vr 133), (vr 145), (vr 157), (vr 169), (vr 181), (vr 193), (vr 212), (vr 231), (vr 250), (vr 269)], false, none, false⟩), #[(vR 15), none, (some (vS x.s.a.b.f 189)), (some (vS x.s.a.b.f 197)), (some (vB x.t.a.b.e)), (some (.bool true))]⟩
def zpy : Obj := ⟨(vY x.t.a.a.d), none, (.dict #[i127, i128, i129, i130, i131] 5), #[]⟩
def zoo : Obj := ⟨.none, none, (.fields #[(vI 49), (vI 4), (vr 265)]), #[]⟩
def zo9 : Obj := ⟨(vY x.t.a.a.b), none, (.fields #[(vS x.s.a.f.f 508), (vS x.s.a.f.f 509), (vS x.s.a.a.b 510), (vI 47), vO, vO, vO, vO, (vr 256), (.bool false), (vI 181), (vr 257), .none, .none, .none, .none, (vI 511), (vI 47), (vS x.s.a.a.b 512)]), #[]⟩
def zpD : Obj := ⟨(vY x.t.a.a.c), none, .plain, #[(vR 258), (vR 3), (vR 255), none, (some (vS x.s.a.a.e 187)), none, (vR 0)]⟩
def zoq : Obj := ⟨(vY x.t.a.a.a), none, (.seq #[(vS x.s.a.e.d 521), (vS x.s.a.g.c 522)] 0), #[]⟩
def zn2 : Obj := ⟨.none, none, (.func (fn (sm 19 0) x.s.a.g.d 0 [] .none .none .none .none none .none .none 0)), #[]⟩
def zom : Obj := ⟨(vY x.t.a.a.b), none, (.fields #[(vS x.s.a.e.c 518), (vS x.s.a.g.d 519), (vS x.s.a.a.b 520), (vI 49), (vI 2), vO, vO, (vI 3), (vr 260), (.bool true), (vI 181), (vr 261), .none, (vr 262), (vr 263), (vr 264), (vI 523), (vI 49), (vS x.s.a.a.b 524)]), #[]⟩
def zoA : Obj := ⟨(vY x.t.a.c.b), none, (.func (fn (sm 19 0) x.s.a.g.d 3 [] .none .none .none (vS x.s.a.a.e 187) none (vr 265) .none 0)), #[]⟩
def znZ : Obj := ⟨(vY x.t.a.a.a), none, (.seq #[(vS x.s.a.g.c 526)] 0), #[]⟩
def zoH : Obj := ⟨(vY x.t.a.a.d), none, (.dict #[i127, i129, i130, i131, i132] 2), #[]⟩
def zoQ : Obj := ⟨(vY x.t.a.b.a), none, (.cls ⟨x.s.a.f.f, [(vr 24)], [(vr 269), (vr 24), (vY x.t.a.a.f), (vY x.t.a.b.b), (vY x.t.a.b.c), (vY x.t.a.b.d)], 268, x.s.a.f.f, true, [], [], false, none, false⟩), #[(vR 253), none, (some (vS x.s.a.f.f 506)), (some (vS x.s.a.f.f 514)), (some (vB x.t.a.b.e)), (some (.bool true))]⟩
def znW : Obj := ⟨(vY x.t.a.b.h), none, (.fields #[(vr 269), (vr 269), (vr 269)]), #[]⟩
def zoL : Obj := ⟨(vY x.t.a.a.g), none, (.fields #[(vB x.t.a.c.a), (vr 269)]), #[]⟩
def zoj : Obj := ⟨(vY x.t.a.a.a), none, (.seq #[(vS x.s.a.g.e 536), (vS x.s.a.g.f 537), (vS x.s.a.g.g 538)] 0), #[]⟩
def zoV : Obj := ⟨.none, none, (.func (fn (st 21) x.s.a.f.g 0 [] .none .none .none .none none .none .none 0)), #[]⟩
def zoK : Obj := ⟨(vY x.t.a.a.b), none, (.fields #[(vS x.s.a.f.g 533), (vS x.s.a.f.g 534), (vS x.s.a.a.b 535), (vI 53), (vI 2), vO, vO, (vI 3), (vr 272), (.bool true), (vI 181), (vr 273), .none, (vr 274), (vr 275), (vr 276), (vI 539), (vI 53), (vS x.s.a.a.b 540)]), #[]⟩
def zpz : Obj := ⟨(vY x.t.a.c.b), none, (.func (fn (st 21) x.s.a.f.g 3 [] .none .none .none (vS x.s.a.g.h 531) none (vr 277) .none 0)), #[]⟩
def zoF : Obj := ⟨(vY x.t.a.a.a), none, (.seq #[(vS x.s.a.h.a 545), (vS x.s.a.h.b 546), (vS x.s.a.h.c 547)] 0), #[]⟩
def zoO : Obj := ⟨.none, none, (.func (fn (st 22) x.s.a.f.h 0 [] .none .none .none .none none .none .none 0)), #[]⟩
def zpt : Obj := ⟨(vY x.t.a.a.b), none, (.fields #[(vS x.s.a.f.h 542), (vS x.s.a.f.h 543), (vS x.s.a.a.b 544), (vI 61), (vI 2), vO, vO, (vI 3), (vr 279), (.bool true), (vI 181), (vr 280), .none, (vr 281), (vr 282), (vr 283), (vI 548), (vI 61), (vS x.s.a.a.b 549)]), #[]⟩
def zo7 : Obj := ⟨(vY x.t.a.c.b), none, (.func (fn (st 22) x.s.a.f.h 3 [] .none .none .none (vS x.s.a.g.h 531) none (vr 284) .none 0)), #[]⟩
def zpG : Obj := ⟨(vY x.t.a.a.a), none, (.seq #[(vS x.s.a.h.d 556)] 0), #[]⟩
def zoS : Obj := ⟨.none, none, (.func (fn (st 24) x.s.a.g.a 0 [] .none .none .none .none none .none .none 0)), #[]⟩
def zoc : Obj := ⟨(vY x.t.a.a.b), none, (.fields #[(vS x.s.a.g.a 553), (vS x.s.a.g.a 554), (vS x.s.a.a.b 555), (vI 69), (vI 1), vO, vO, (vI 3), (vr 286), (.bool true), (vI 181), (vr 287), .none, (vr 288), (vr 289), (vr 290), (vI 557), (vI 69), (vS x.s.a.a.b 558)]), #[]⟩
def zpd : Obj := ⟨(vY x.t.a.c.b), none, (.func (fn (st 24) x.s.a.g.a 3 [] .none .none .none (vS x.s.a.f.e 551) none (vr 291) .none 0)), #[]⟩
def zps : Obj := ⟨(vY x.t.a.a.a), none, (.seq #[(vS x.s.a.h.d 563), (vS x.s.a.h.e 564), (vS x.s.a.h.f 565)] 0), #[]⟩
def zoY : Obj := ⟨.none, none, (.func (fn (st 25) x.s.a.g.b 0 [] .none .none .none .none none .none .none 0)), #[]⟩
def znS : Obj := ⟨(vY x.t.a.a.b), none, (.fields #[(vS x.s.a.g.b 560), (vS x.s.a.g.b 561), (vS x.s.a.a.b 562), (vI 71), (vI 3), vO, vO, (vI 3), (vr 293), (.bool true), (vI 181), (vr 294), .none, (vr 295), (vr 296), (vr 297), (vI 566), (vI 71), (vS x.s.a.a.b 567)]), #[]⟩
def zn0 : Obj := ⟨(vY x.t.a.c.b), none, (.func (fn (st 25) x.s.a.g.b 3 [] .none .none .none (vS x.s.a.f.e 551) none (vr 298) .none 0)), #[]⟩
def b1206 : Obj := ⟨(vY x.t.a.a.d), none, (.dict #[i133, i1, i2, i3, i4, i5, i6, i7, i8, i9, i16, i22, i28, i34, i40, i46, i52, i58, i64, i70, i76, i82, i88, i94, ztg, zt0, zt7, i122, i123, i124, i125, i126, i134, i135, i136, i137, i138, i139, i140, i141, i142, i143, i144, i145, i146, i147, i148] 47), #[]⟩
def b1207 : Obj := ⟨.none, none, (.fields #[(vI 2), vO, (vr 20), (vI 4), vO, (vr 33), (vI 6), vO, (vr 45), (vI 8), vO, (vr 57), (vI 10), vO, (vr 69), (vI 12), vO, (vr 81), (vI 14), vO, (vr 93), (vI 16), vO, (vr 105), (vI 18), vO, (vr 117), (vI 20), vO, (vr 129), (vI 22), vO, (vr 141), (vI 24), vO, (vr 153), (vI 26), vO, (vr 165), (vI 28), vO, (vr 177), (vI 30), vO, (vr 189), (vI 32), vO, (vr 201), (vI 37), vO, (vr 220), (vI 42), vO, (vr 239), (vI 47), vO, (vr 258), (vI 53), vO, (vr 277), (vI 61), vO, (vr 284), (vI 69), vO, (vr 291), (vI 71), vO, (vr 298), (vI 73), vO, (vr 303), (vI 82), vO, (vr 310), (vI 87), vO, (vr 315), (vI 90), vO, (vr 320), (vI 94), vO, (vr 327), (vI 99), vO, (vr 334), (vI 102), vO, (vr 341), (vI 108), vO, (vr 346), (vI 112), vO, (vr 353), (vI 116), vO, (vr 360), (vI 121), vO, (vr 367)]), #[]⟩
def zqu : Obj := ⟨.none, none, (.func (fn (st 26) x.s.a.h.h 0 [] .none .none .none .none none .none .none 0)), #[]⟩
def zqh : Obj := ⟨(vY x.t.a.a.b), none, (.fields #[(vS x.s.a.h.h 569), (vS x.s.a.h.h 570), (vS x.s.a.a.b 571), (vI 73), (vI 2), vO, vO, (vI 3), (vr 300), (.bool true), (vI 181), (vr 301), .none, .none, .none, (vr 302), (vI 572), (vI 73), (vS x.s.a.a.b 573)]), #[]⟩
def zrk : Obj := ⟨(vY x.t.a.c.b), none, (.func (fn (st 26) x.s.a.h.h 3 [] .none .none .none (vS x.s.a.f.e 551) none (vr 303) .none 0)), #[]⟩
def zri : Obj := ⟨(vY x.t.a.a.a), none, (.seq #[(vS x.s.a.h.d 588), (vS x.s.b.b.g 589), (vS x.s.b.b.h 590), (vS x.s.b.c.a 591)] 0), #[]⟩
def zqs : Obj := ⟨.none, none, (.func (fn (st 32) x.s.b.a.e 0 [] .none .none .none .none none .none .none 0)), #[]⟩
def zp3 : Obj := ⟨(vY x.t.a.a.b), none, (.fields #[(vS x.s.b.a.e 585), (vS x.s.b.a.e 586), (vS x.s.a.a.b 587), (vI 82), (vI 1), vO, vO, (vI 3), (vr 305), (.bool true), (vI 181), (vr 306), .none, (vr 307), (vr 308), (vr 309), (vI 592), (vI 82), (vS x.s.a.a.b 593)]), #[]⟩
def zrq : Obj := ⟨(vY x.t.a.c.b), none, (.func (fn (st 32) x.s.b.a.e 3 [] .none .none .none (vS x.s.b.c.b 575) none (vr 310) .none 0)), #[]⟩
def zrp : Obj := ⟨.none, none, (.func (fn (st 33) x.s.b.a.f 0 [] .none .none .none .none none .none .none 0)), #[]⟩
def zp5 : Obj := ⟨(vY x.t.a.a.b), none, (.fields #[(vS x.s.b.a.f 595), (vS x.s.b.a.f 596), (vS x.s.a.a.b 597), (vI 87), (vI 1), vO, vO, (vI 3), (vr 312), (.bool true), (vI 181), (vr 313), .none, .none, .none, (vr 314), (vI 598), (vI 87), (vS x.s.a.a.b 599)]), #[]⟩
def zqa : Obj := ⟨(vY x.t.a.c.b), none, (.func (fn (st 33) x.s.b.a.f 3 [] .none .none .none (vS x.s.b.c.b 575) none (vr 315) .none 0)), #[]⟩
def zqz : Obj := ⟨.none, none, (.func (fn (st 34) x.s.b.a.g 0 [] .none .none .none .none none .none .none 0)), #[]⟩
def zqt : Obj := ⟨(vY x.t.a.a.b), none, (.fields #[(vS x.s.b.a.g 601), (vS x.s.b.a.g 602), (vS x.s.a.a.b 603), (vI 90), (vI 2), vO, vO, (vI 3), (vr 317), (.bool true), (vI 181), (vr 318), .none, .none, .none, (vr 319), (vI 604), (vI 90), (vS x.s.a.a.b 605)]), #[]⟩
def zqL : Obj := ⟨(vY x.t.a.c.b), none, (.func (fn (st 34) x.s.b.a.g 3 [] .none .none .none (vS x.s.b.c.b 575) none (vr 320) .none 0)), #[]⟩
def zrh : Obj := ⟨(vY x.t.a.a.a), none, (.seq #[(vS x.s.b.c.c 610), (vS x.s.b.c.d 611), (vS x.s.b.c.e 612), (vS x.s.a.g.c 613)] 0), #[]⟩
def zq8 : Obj := ⟨.none, none, (.func (fn (st 35) x.s.b.a.h 0 [] .none .none .none .none none .none .none 0)), #[]⟩
def zpT : Obj := ⟨(vY x.t.a.a.b), none, (.fields #[(vS x.s.b.a.h 607), (vS x.s.b.a.h 608), (vS x.s.a.a.b 609), (vI 94), (vI 2), vO, vO, (vI 3), (vr 322), (.bool true), (vI 181), (vr 323), .none, (vr 324), (vr 325), (vr 326), (vI 614), (vI 94), (vS x.s.a.a.b 615)]), #[]⟩
def zrc : Obj := ⟨(vY x.t.a.c.b), none, (.func (fn (st 35) x.s.b.a.h 3 [] .none .none .none (vS x.s.b.c.b 575) none (vr 327) .none 0)), #[]⟩
def zqr : Obj := ⟨(vY x.t.a.a.a), none, (.seq #[(vS x.s.b.c.f 620), (vS x.s.b.c.d 621)] 0), #[]⟩
def zp8 : Obj := ⟨.none, none, (.func (fn (st 36) x.s.b.b.a 0 [] .none .none .none .none none .none .none 0)), #[]⟩
def zpX : Obj := ⟨(vY x.t.a.a.b), none, (.fields #[(vS x.s.b.b.a 617), (vS x.s.b.b.a 618), (vS x.s.a.a.b 619), (vI 99), (vI 2), vO, vO, (vI 3), (vr 329), (.bool true), (vI 181), (vr 330), .none, (vr 331), (vr 332), (vr 333), (vI 622), (vI 99), (vS x.s.a.a.b 623)]), #[]⟩
def zrd : Obj := ⟨(vY x.t.a.c.b), none, (.func (fn (st 36) x.s.b.b.a 3 [] .none .none .none (vS x.s.b.c.b 575) none (vr 334) .none 0)), #[]⟩
def zqm : Obj := ⟨(vY x.t.a.a.a), none, (.seq #[(vS x.s.b.c.g 630), (vS x.s.b.c.h 631), (vS x.s.b.d.a 632)] 0), #[]⟩
def zp9 : Obj := ⟨.none, none, (.func (fn (st 38) x.s.b.b.b 0 [] .none .none .none .none none .none .none 0)), #[]⟩
def zq6 : Obj := ⟨(vY x.t.a.a.b), none, (.fields #[(vS x.s.b.b.b 627), (vS x.s.b.b.b 628), (vS x.s.a.a.b 629), (vI 102), (vI 3), vO, vO, (vI 3), (vr 336), (.bool true), (vI 181), (vr 337), .none, (vr 338), (vr 339), (vr 340), (vI 633), (vI 102), (vS x.s.a.a.b 634)]), #[]⟩
def zqN : Obj := ⟨(vY x.t.a.c.b), none, (.func (fn (st 38) x.s.b.b.b 3 [] .none .none .none (vS x.s.a.h.g 625) none (vr 341) .none 0)), #[]⟩
def zqX : Obj := ⟨.none, none, (.func (fn (st 39) x.s.b.b.c 0 [] .none .none .none .none none .none .none 0)), #[]⟩
def zqK : Obj := ⟨(vY x.t.a.a.b), none, (.fields #[(vS x.s.b.b.c 636), (vS x.s.b.b.c 637), (vS x.s.a.a.b 638), (vI 108), (vI 2), vO, vO, (vI 3), (vr 343), (.bool true), (vI 181), (vr 344), .none, .none, .none, (vr 345), (vI 639), (vI 108), (vS x.s.a.a.b 640)]), #[]⟩
def zru : Obj := ⟨(vY x.t.a.c.b), none, (.func (fn (st 39) x.s.b.b.c 3 [] .none .none .none (vS x.s.a.h.g 625) none (vr 346) .none 0)), #[]⟩
def zra : Obj := ⟨(vY x.t.a.a.a), none, (.seq #[(vS x.s.b.c.g 645), (vS x.s.b.c.h 646), (vS x.s.b.d.a 647), (vS x.s.b.d.b 648)] 0), #[]⟩
def zqC : Obj := ⟨.none, none, (.func (fn (st 40) x.s.b.b.d 0 [] .none .none .none .none none .none .none 0)), #[]⟩
def zqe : Obj := ⟨(vY x.t.a.a.b), none, (.fields #[(vS x.s.b.b.d 642), (vS x.s.b.b.d 643), (vS x.s.a.a.b 644), (vI 112), (vI 4), vO, vO, (vI 3), (vr 348), (.bool true), (vI 181), (vr 349), .none, (vr 350), (vr 351), (vr 352), (vI 649), (vI 112), (vS x.s.a.a.b 650)]), #[]⟩
def zqx : Obj := ⟨(vY x.t.a.c.b), none, (.func (fn (st 40) x.s.b.b.d 3 [] .none .none .none (vS x.s.a.h.g 625) none (vr 353) .none 0)), #[]⟩
def zqO : Obj := ⟨(vY x.t.a.a.a), none, (.seq #[(vS x.s.b.c.g 655), (vS x.s.b.d.a 656), (vS x.s.a.h.b 657), (vS x.s.b.c.f 658), (vS x.s.b.c.d 659)] 0), #[]⟩
def zqU : Obj := ⟨.none, none, (.func (fn (st 41) x.s.b.b.e 0 [] .none .none .none .none none .none .none 0)), #[]⟩
def zrv : Obj := ⟨(vY x.t.a.a.b), none, (.fields #[(vS x.s.b.b.e 652), (vS x.s.b.b.e 653), (vS x.s.a.a.b 654), (vI 116), (vI 2), vO, vO, (vI 3), (vr 355), (.bool true), (vI 181), (vr 356), .none, (vr 357), (vr 358), (vr 359), (vI 660), (vI 116), (vS x.s.a.a.b 661)]), #[]⟩
def zq9 : Obj := ⟨(vY x.t.a.c.b), none, (.func (fn (st 41) x.s.b.b.e 3 [] .none .none .none (vS x.s.a.h.g 625) none (vr 360) .none 0)), #[]⟩
def zqw : Obj := ⟨(vY x.t.a.a.a), none, (.seq #[(vS x.s.b.c.f 666), (vS x.s.b.d.c 667), (vS x.s.b.c.d 668), (vS x.s.a.h.b 669), (vS x.s.b.d.d 670), (vS x.s.a.g.c 671), (vS x.s.a.h.a 672), (vS x.s.b.d.e 673)] 0), #[]⟩
def zq5 : Obj := ⟨.none, none, (.func (fn (st 42) x.s.b.b.f 0 [] .none .none .none .none none .none .none 0)), #[]⟩
def zq2 : Obj := ⟨(vY x.t.a.a.b), none, (.fields #[(vS x.s.b.b.f 663), (vS x.s.b.b.f 664), (vS x.s.a.a.b 665), (vI 121), (vI 4), vO, vO, (vI 3), (vr 362), (.bool true), (vI 181), (vr 363), .none, (vr 364), (vr 365), (vr 366), (vI 674), (vI 121), (vS x.s.a.a.b 675)]), #[]⟩
def zrw : Obj := ⟨(vY x.t.a.c.b), none, (.func (fn (st 42) x.s.b.b.f 3 [] .none .none .none (vS x.s.a.h.g 625) none (vr 367) .none 0)), #[]⟩
def b1277 : Obj := ⟨(vY x.t.a.a.d), none, (.dict #[i149, i1, i2, i3, i4, i5, i6, i7, i8, i9, i16, i22, i28, i34, i40, i46, i52, i58, i64, i70, i76, i82, i88, i94, ztg, zt0, zt7, i122, i123, i124, i125, i126, i134, i135, i136, i137, i138, i139, i140, i141, i142, i143, i144, i145, i146, i147, i148, i150, i151, i152, i153, i154, i155, i156, i157, i158, i159, i160, i161] 59), #[]⟩
def b1278 : Obj := ⟨.none, none, (.fields #[(vI 2), vO, (vr 20), (vI 4), vO, (vr 33), (vI 6), vO, (vr 45), (vI 8), vO, (vr 57), (vI 10), vO, (vr 69), (vI 12), vO, (vr 81), (vI 14), vO, (vr 93), (vI 16), vO, (vr 105), (vI 18), vO, (vr 117), (vI 20), vO, (vr 129), (vI 22), vO, (vr 141), (vI 24), vO, (vr 153), (vI 26), vO, (vr 165), (vI 28), vO, (vr 177), (vI 30), vO, (vr 189), (vI 32), vO, (vr 201), (vI 37), vO, (vr 220), (vI 42), vO, (vr 239), (vI 47), vO, (vr 258), (vI 53), vO, (vr 277), (vI 61), vO, (vr 284), (vI 69), vO, (vr 291), (vI 71), vO, (vr 298), (vI 73), vO, (vr 303), (vI 82), vO, (vr 310), (vI 87), vO, (vr 315), (vI 90), vO, (vr 320), (vI 94), vO, (vr 327), (vI 99), vO, (vr 334), (vI 102), vO, (vr 341), (vI 108), vO, (vr 346), (vI 112), vO, (vr 353), (vI 116), vO, (vr 360), (vI 121), vO, (vr 367), (vI 127), vO, (vr 372), (vI 130), vO, (vr 377), (vI 138), vO, (vr 384), (vI 147), vO, (vr 389), (vI 151), vO, (vr 394), (vI 161), vO, (vr 401), (vI 166), vO, (vr 408), (vI 177), vO, (vr 415), (vI 185), vO, (vr 422), (vI 192), vO, (vr 427), (vI 196), vO, (vr 434), (vI 202), vO, (vr 441)]), #[]⟩
def ztH : Obj := ⟨.none, none, (.func (fn (st 43) x.s.b.d.g 0 [] .none .none .none .none none .none .none 0)), #[]⟩
def ztJ : Obj := ⟨(vY x.t.a.a.b), none, (.fields #[(vS x.s.b.d.g 677), (vS x.s.b.d.g 678), (vS x.s.a.a.b 679), (vI 127), (vI 3), vO, vO, (vI 3), (vr 369), (.bool true), (vI 181), (vr 370), .none, .none, .none, (vr 371), (vI 680), (vI 127), (vS x.s.a.a.b 681)]), #[]⟩
def zsb : Obj := ⟨(vY x.t.a.c.b), none, (.func (fn (st 43) x.s.b.d.g 3 [] .none .none .none (vS x.s.a.h.g 625) none (vr 372) .none 0)), #[]⟩
def zsI : Obj := ⟨.none, none, (.func (fn (st 44) x.s.b.d.h 0 [] .none .none .none .none none .none .none 0)), #[]⟩
def zsY : Obj := ⟨(vY x.t.a.a.b), none, (.fields #[(vS x.s.b.d.h 683), (vS x.s.b.d.h 684), (vS x.s.a.a.b 685), (vI 130), (vI 4), vO, vO, (vI 3), (vr 374), (.bool true), (vI 181), (vr 375), .none, .none, .none, (vr 376), (vI 686), (vI 130), (vS x.s.a.a.b 687)]), #[]⟩
def zr0 : Obj := ⟨(vY x.t.a.c.b), none, (.func (fn (st 44) x.s.b.d.h 3 [] .none .none .none (vS x.s.a.h.g 625) none (vr 377) .none 0)), #[]⟩
def ztu : Obj := ⟨(vY x.t.a.a.a), none, (.seq #[(vS x.s.b.c.g 692), (vS x.s.b.c.h 693), (vS x.s.b.d.a 694), (vS x.s.b.d.b 695), (vS x.s.a.h.b 696), (vS x.s.b.f.c 697), (vS x.s.b.f.d 698), (vS x.s.b.b.g 699), (vS x.s.a.h.a 700)] 0), #[]⟩
def ztj : Obj := ⟨.none, none, (.func (fn (st 45) x.s.b.e.a 0 [] .none .none .none .none none .none .none 0)), #[]⟩
def zsS : Obj := ⟨(vY x.t.a.a.b), none, (.fields #[(vS x.s.b.e.a 689), (vS x.s.b.e.a 690), (vS x.s.a.a.b 691), (vI 138), (vI 4), vO, vO, (vI 3), (vr 379), (.bool true), (vI 181), (vr 380), .none, (vr 381), (vr 382), (vr 383), (vI 701), (vI 138), (vS x.s.a.a.b 702)]), #[]⟩
def zsP : Obj := ⟨(vY x.t.a.c.b), none, (.func (fn (st 45) x.s.b.e.a 3 [] .none .none .none (vS x.s.a.h.g 625) none (vr 384) .none 0)), #[]⟩
def ztr : Obj := ⟨.none, none, (.func (fn (st 46) x.s.b.e.b 0 [] .none .none .none .none none .none .none 0)), #[]⟩
def zr2 : Obj := ⟨(vY x.t.a.a.b), none, (.fields #[(vS x.s.b.e.b 704), (vS x.s.b.e.b 705), (vS x.s.a.a.b 706), (vI 147), (vI 4), vO, vO, (vI 3), (vr 386), (.bool true), (vI 181), (vr 387), .none, .none, .none, (vr 388), (vI 707), (vI 147), (vS x.s.a.a.b 708)]), #[]⟩
def ztB : Obj := ⟨(vY x.t.a.c.b), none, (.func (fn (st 46) x.s.b.e.b 3 [] .none .none .none (vS x.s.a.h.g 625) none (vr 389) .none 0)), #[]⟩
def ztw : Obj := ⟨.none, none, (.func (fn (st 47) x.s.b.e.c 0 [] .none .none .none .none none .none .none 0)), #[]⟩
def zta : Obj := ⟨(vY x.t.a.a.b), none, (.fields #[(vS x.s.b.e.c 710), (vS x.s.b.e.c 711), (vS x.s.a.a.b 712), (vI 151), (vI 3), vO, vO, (vI 3), (vr 391), (.bool true), (vI 181), (vr 392), .none, .none, .none, (vr 393), (vI 713), (vI 151), (vS x.s.a.a.b 714)]), #[]⟩
def zsl : Obj := ⟨(vY x.t.a.c.b), none, (.func (fn (st 47) x.s.b.e.c 3 [] .none .none .none (vS x.s.a.h.g 625) none (vr 394) .none 0)), #[]⟩
def zsn : Obj := ⟨(vY x.t.a.a.a), none, (.seq #[(vS x.s.b.f.e 721), (vS x.s.b.f.f 722)] 0), #[]⟩
def zsF : Obj := ⟨.none, none, (.func (fn (st 49) x.s.b.e.d 0 [] .none .none .none .none none .none .none 0)), #[]⟩
def zsz : Obj := ⟨(vY x.t.a.a.b), none, (.fields #[(vS x.s.b.e.d 718), (vS x.s.b.e.d 719), (vS x.s.a.a.b 720), (vI 161), (vI 1), vO, vO, (vI 3), (vr 396), (.bool true), (vI 181), (vr 397), .none, (vr 398), (vr 399), (vr 400), (vI 723), (vI 161), (vS x.s.a.a.b 724)]), #[]⟩
def ztv : Obj := ⟨(vY x.t.a.c.b), none, (.func (fn (st 49) x.s.b.e.d 3 [] .none .none .none (vS x.s.b.d.f 716) none (vr 401) .none 0)), #[]⟩
def zsx : Obj := ⟨(vY x.t.a.a.a), none, (.seq #[(vS x.s.b.f.g 729), (vS x.s.b.f.h 730), (vS x.s.b.f.f 731), (vS x.s.b.g.a 732), (vS x.s.b.g.b 733), (vS x.s.b.g.c 734), (vS x.s.b.g.d 735)] 0), #[]⟩
def ztD : Obj := ⟨.none, none, (.func (fn (st 50) x.s.b.e.e 0 [] .none .none .none .none none .none .none 0)), #[]⟩
def ztp : Obj := ⟨(vY x.t.a.a.b), none, (.fields #[(vS x.s.b.e.e 726), (vS x.s.b.e.e 727), (vS x.s.a.a.b 728), (vI 166), (vI 2), vO, vO, (vI 3), (vr 403), (.bool true), (vI 181), (vr 404), .none, (vr 405), (vr 406), (vr 407), (vI 736), (vI 166), (vS x.s.a.a.b 737)]), #[]⟩
def zti : Obj := ⟨(vY x.t.a.c.b), none, (.func (fn (st 50) x.s.b.e.e 3 [] .none .none .none (vS x.s.b.d.f 716) none (vr 408) .none 0)), #[]⟩
def zsV : Obj := ⟨(vY x.t.a.a.a), none, (.seq #[(vS x.s.b.f.g 742), (vS x.s.b.g.e 743), (vS x.s.b.g.f 744), (vS x.s.b.g.g 745), (vS x.s.b.g.h 746), (vS x.s.b.h.a 747), (vS x.s.b.h.b 748)] 0), #[]⟩
def ztn : Obj := ⟨.none, none, (.func (fn (st 51) x.s.b.e.f 0 [] .none .none .none .none none .none .none 0)), #[]⟩
def zs7 : Obj := ⟨(vY x.t.a.a.b), none, (.fields #[(vS x.s.b.e.f 739), (vS x.s.b.e.f 740), (vS x.s.a.a.b 741), (vI 177), (vI 2), vO, vO, (vI 3), (vr 410), (.bool true), (vI 181), (vr 411), .none, (vr 412), (vr 413), (vr 414), (vI 749), (vI 177), (vS x.s.a.a.b 750)]), #[]⟩
def zs3 : Obj := ⟨(vY x.t.a.c.b), none, (.func (fn (st 51) x.s.b.e.f 3 [] .none .none .none (vS x.s.b.d.f 716) none (vr 415) .none 0)), #[]⟩
def zsC : Obj := ⟨(vY x.t.a.a.a), none, (.seq #[(vS x.s.b.f.g 755), (vS x.s.b.h.c 756), (vS x.s.b.g.f 757), (vS x.s.b.g.g 758)] 0), #[]⟩
def zsN : Obj := ⟨.none, none, (.func (fn (st 52) x.s.b.e.g 0 [] .none .none .none .none none .none .none 0)), #[]⟩
def zs5 : Obj := ⟨(vY x.t.a.a.b), none, (.fields #[(vS x.s.b.e.g 752), (vS x.s.b.e.g 753), (vS x.s.a.a.b 754), (vI 185), (vI 2), vO, vO, (vI 3), (vr 417), (.bool true), (vI 181), (vr 418), .none, (vr 419), (vr 420), (vr 421), (vI 759), (vI 185), (vS x.s.a.a.b 760)]), #[]⟩
def zsR : Obj := ⟨(vY x.t.a.c.b), none, (.func (fn (st 52) x.s.b.e.g 3 [] .none .none .none (vS x.s.b.d.f 716) none (vr 422) .none 0)), #[]⟩
def zsv : Obj := ⟨.none, none, (.func (fn (st 53) x.s.b.e.h 0 [] .none .none .none .none none .none .none 0)), #[]⟩
def zr7 : Obj := ⟨(vY x.t.a.a.b), none, (.fields #[(vS x.s.b.e.h 762), (vS x.s.b.e.h 763), (vS x.s.a.a.b 764), (vI 192), (vI 2), vO, vO, (vI 3), (vr 424), (.bool true), (vI 181), (vr 425), .none, .none, .none, (vr 426), (vI 765), (vI 192), (vS x.s.a.a.b 766)]), #[]⟩
def zs4 : Obj := ⟨(vY x.t.a.c.b), none, (.func (fn (st 53) x.s.b.e.h 3 [] .none .none .none (vS x.s.b.d.f 716) none (vr 427) .none 0)), #[]⟩
def zsa : Obj := ⟨(vY x.t.a.a.a), none, (.seq #[(vS x.s.b.f.g 771), (vS x.s.b.h.d 772), (vS x.s.b.g.f 773), (vS x.s.b.g.g 774), (vS x.s.b.g.a 775)] 0), #[]⟩
def ztF : Obj := ⟨.none, none, (.func (fn (st 54) x.s.b.f.a 0 [] .none .none .none .none none .none .none 0)), #[]⟩
def zsA : Obj := ⟨(vY x.t.a.a.b), none, (.fields #[(vS x.s.b.f.a 768), (vS x.s.b.f.a 769), (vS x.s.a.a.b 770), (vI 196), (vI 2), vO, vO, (vI 3), (vr 429), (.bool true), (vI 181), (vr 430), .none, (vr 431), (vr 432), (vr 433), (vI 776), (vI 196), (vS x.s.a.a.b 777)]), #[]⟩
def zsM : Obj := ⟨(vY x.t.a.c.b), none, (.func (fn (st 54) x.s.b.f.a 3 [] .none .none .none (vS x.s.b.d.f 716) none (vr 434) .none 0)), #[]⟩
def zr3 : Obj := ⟨(vY x.t.a.a.a), none, (.seq #[(vS x.s.b.f.g 782), (vS x.s.b.h.e 783), (vS x.s.b.h.f 784), (vS x.s.b.g.b 785), (vS x.s.b.g.h 786), (vS x.s.b.h.b 787), (vS x.s.b.h.a 788), (vS x.s.b.h.g 789), (vS x.s.b.h.h 790)] 0), #[]⟩
def ztf : Obj := ⟨.none, none, (.func (fn (st 55) x.s.b.f.b 0 [] .none .none .none .none none .none .none 0)), #[]⟩
def ztc : Obj := ⟨(vY x.t.a.a.b), none, (.fields #[(vS x.s.b.f.b 779), (vS x.s.b.f.b 780), (vS x.s.a.a.b 781), (vI 202), (vI 2), vO, vO, (vI 3), (vr 436), (.bool true), (vI 181), (vr 437), .none, (vr 438), (vr 439), (vr 440), (vI 791), (vI 202), (vS x.s.a.a.b 792)]), #[]⟩
def zsc : Obj := ⟨(vY x.t.a.c.b), none, (.func (fn (st 55) x.s.b.f.b 3 [] .none .none .none (vS x.s.b.d.f 716) none (vr 441) .none 0)), #[]⟩
def zuj : Obj := ⟨(vY x.t.a.a.d), none, (.dict #[i149, i1, i2, i3, i4, i5, i6, i7, i8, i9, i16, i22, i28, i34, i40, i46, i52, i58, i64, i70, i76, i82, i88, i94, ztg, zt0, zt7, i122, i123, i124, i125, i126, i134, i135, i136, i137, i138, i139, i140, i141, i142, i143, i144, i145, i146, i147, i148, i150, i151, i152, i153, i154, i155, i156, i157, i158, i159, i160, i161, i162, i163, i164, i165, i166, i167, i168] 66), #[]⟩
def zuU : Obj := ⟨.none, none, (.fields #[(vI 2), vO, (vr 20), (vI 4), vO, (vr 33), (vI 6), vO, (vr 45), (vI 8), vO, (vr 57), (vI 10), vO, (vr 69), (vI 12), vO, (vr 81), (vI 14), vO, (vr 93), (vI 16), vO, (vr 105), (vI 18), vO, (vr 117), (vI 20), vO, (vr 129), (vI 22), vO, (vr 141), (vI 24), vO, (vr 153), (vI 26), vO, (vr 165), (vI 28), vO, (vr 177), (vI 30), vO, (vr 189), (vI 32), vO, (vr 201), (vI 37), vO, (vr 220), (vI 42), vO, (vr 239), (vI 47), vO, (vr 258), (vI 53), vO, (vr 277), (vI 61), vO, (vr 284), (vI 69), vO, (vr 291), (vI 71), vO, (vr 298), (vI 73), vO, (vr 303), (vI 82), vO, (vr 310), (vI 87), vO, (vr 315), (vI 90), vO, (vr 320), (vI 94), vO, (vr 327), (vI 99), vO, (vr 334), (vI 102), vO, (vr 341), (vI 108), vO, (vr 346), (vI 112), vO, (vr 353), (vI 116), vO, (vr 360), (vI 121), vO, (vr 367), (vI 127), vO, (vr 372), (vI 130), vO, (vr 377), (vI 138), vO, (vr 384), (vI 147), vO, (vr 389), (vI 151), vO, (vr 394), (vI 161), vO, (vr 401), (vI 166), vO, (vr 408), (vI 177), vO, (vr 415), (vI 185), vO, (vr 422), (vI 192), vO, (vr 427), (vI 196), vO, (vr 434), (vI 202), vO, (vr 441), (vI 214), vO, (vr 448), (vI 224), vO, (vr 455), (vI 243), vO, (vr 462), (vI 259), vO, (vr 469), (vI 266), vO, (vr 476), (vI 275), vO, (vr 481), (vI 280), vO, (vr 486)]), #[]⟩
def zuF : Obj := ⟨(vY x.t.a.a.a), none, (.seq #[(vS x.s.b.f.g 797), (vS x.s.c.a.h 798), (vS x.s.b.g.e 799), (vS x.s.b.g.b 800), (vS x.s.b.h.f 801), (vS x.s.c.b.a 802), (vS x.s.b.h.h 803)] 0), #[]⟩
def zud : Obj := ⟨.none, none, (.func (fn (st 56) x.s.c.a.a 0 [] .none .none .none .none none .none .none 0)), #[]⟩
def zvj : Obj := ⟨(vY x.t.a.a.b), none, (.fields #[(vS x.s.c.a.a 794), (vS x.s.c.a.a 795), (vS x.s.a.a.b 796), (vI 214), (vI 3), vO, vO, (vI 3), (vr 443), (.bool true), (vI 181), (vr 444), .none, (vr 445), (vr 446), (vr 447), (vI 804), (vI 214), (vS x.s.a.a.b 805)]), #[]⟩
def zuI : Obj := ⟨(vY x.t.a.c.b), none, (.func (fn (st 56) x.s.c.a.a 3 [] .none .none .none (vS x.s.b.d.f 716) none (vr 448) .none 0)), #[]⟩
def zvf : Obj := ⟨(vY x.t.a.a.a), none, (.seq #[(vS x.s.c.b.b 810), (vS x.s.b.g.f 811)] 0), #[]⟩
def zuN : Obj := ⟨.none, none, (.func (fn (st 57) x.s.c.a.b 0 [] .none .none .none .none none .none .none 0)), #[]⟩
def zuf : Obj := ⟨(vY x.t.a.a.b), none, (.fields #[(vS x.s.c.a.b 807), (vS x.s.c.a.b 808), (vS x.s.a.a.b 809), (vI 224), (vI 1), vO, vO, (vI 3), (vr 450), (.bool true), (vI 181), (vr 451), .none, (vr 452), (vr 453), (vr 454), (vI 812), (vI 224), (vS x.s.a.a.b 813)]), #[]⟩
def zur : Obj := ⟨(vY x.t.a.c.b), none, (.func (fn (st 57) x.s.c.a.b 3 [] .none .none .none (vS x.s.b.d.f 716) none (vr 455) .none 0)), #[]⟩
def zuo : Obj := ⟨(vY x.t.a.a.a), none, (.seq #[(vS x.s.b.f.g 818), (vS x.s.c.b.c 819), (vS x.s.b.h.c 820), (vS x.s.b.h.f 821), (vS x.s.b.g.b 822), (vS x.s.c.b.a 823), (vS x.s.b.h.h 824), (vS x.s.c.b.d 825), (vS x.s.c.b.e 826), (vS x.s.c.b.f 827)] 0), #[]⟩
def zvi : Obj := ⟨.none, none, (.func (fn (st 58) x.s.c.a.c 0 [] .none .none .none .none none .none .none 0)), #[]⟩
def zuK : Obj := ⟨(vY x.t.a.a.b), none, (.fields #[(vS x.s.c.a.c 815), (vS x.s.c.a.c 816), (vS x.s.a.a.b 817), (vI 243), (vI 3), vO, vO, (vI 3), (vr 457), (.bool true), (vI 181), (vr 458), .none, (vr 459), (vr 460), (vr 461), (vI 828), (vI 243), (vS x.s.a.a.b 829)]), #[]⟩
def zve : Obj := ⟨(vY x.t.a.c.b), none, (.func (fn (st 58) x.s.c.a.c 3 [] .none .none .none (vS x.s.b.d.f 716) none (vr 462) .none 0)), #[]⟩
def zu7 : Obj := ⟨(vY x.t.a.a.a), none, (.seq #[(vS x.s.b.g.g 834), (vS x.s.b.h.e 835), (vS x.s.c.b.g 836), (vS x.s.b.h.d 837), (vS x.s.c.b.c 838)] 0), #[]⟩
def zub : Obj := ⟨.none, none, (.func (fn (st 59) x.s.c.a.d 0 [] .none .none .none .none none .none .none 0)), #[]⟩
def zuz : Obj := ⟨(vY x.t.a.a.b), none, (.fields #[(vS x.s.c.a.d 831), (vS x.s.c.a.d 832), (vS x.s.a.a.b 833), (vI 259), (vI 5), vO, vO, (vI 3), (vr 464), (.bool true), (vI 181), (vr 465), .none, (vr 466), (vr 467), (vr 468), (vI 839), (vI 259), (vS x.s.a.a.b 840)]), #[]⟩
def zuW : Obj := ⟨(vY x.t.a.c.b), none, (.func (fn (st 59) x.s.c.a.d 3 [] .none .none .none (vS x.s.b.d.f 716) none (vr 469) .none 0)), #[]⟩
def zt6 : Obj := ⟨(vY x.t.a.a.a), none, (.seq #[(vS x.s.b.g.g 845), (vS x.s.b.h.e 846), (vS x.s.c.b.g 847), (vS x.s.b.h.d 848), (vS x.s.c.b.c 849), (vS x.s.c.b.b 850), (vS x.s.c.b.h 851)] 0), #[]⟩
def zvc : Obj := ⟨.none, none, (.func (fn (st 60) x.s.c.a.e 0 [] .none .none .none .none none .none .none 0)), #[]⟩
def zuM : Obj := ⟨(vY x.t.a.a.b), none, (.fields #[(vS x.s.c.a.e 842), (vS x.s.c.a.e 843), (vS x.s.a.a.b 844), (vI 266), (vI 5), vO, vO, (vI 3), (vr 471), (.bool true), (vI 181), (vr 472), .none, (vr 473), (vr 474), (vr 475), (vI 852), (vI 266), (vS x.s.a.a.b 853)]), #[]⟩
def zuq : Obj := ⟨(vY x.t.a.c.b), none, (.func (fn (st 60) x.s.c.a.e 3 [] .none .none .none (vS x.s.b.d.f 716) none (vr 476) .none 0)), #[]⟩
def zuL : Obj := ⟨.none, none, (.func (fn (st 61) x.s.c.a.f 0 [] .none .none .none .none none .none .none 0)), #[]⟩
def zuA : Obj := ⟨(vY x.t.a.a.b), none, (.fields #[(vS x.s.c.a.f 855), (vS x.s.c.a.f 856), (vS x.s.a.a.b 857), (vI 275), (vI 1), vO, vO, (vI 3), (vr 478), (.bool true), (vI 181), (vr 479), .none, .none, .none, (vr 480), (vI 858), (vI 275), (vS x.s.a.a.b 859)]), #[]⟩
def zuu : Obj := ⟨(vY x.t.a.c.b), none, (.func (fn (st 61) x.s.c.a.f 3 [] .none .none .none (vS x.s.b.d.f 716) none (vr 481) .none 0)), #[]⟩
def zu0 : Obj := ⟨.none, none, (.func (fn (st 62) x.s.c.a.g 0 [] .none .none .none .none none .none .none 0)), #[]⟩
def zuh : Obj := ⟨(vY x.t.a.a.b), none, (.fields #[(vS x.s.c.a.g 861), (vS x.s.c.a.g 862), (vS x.s.a.a.b 863), (vI 280), (vI 1), vO, vO, (vI 3), (vr 483), (.bool true), (vI 181), (vr 484), .none, .none, .none, (vr 485), (vI 864), (vI 280), (vS x.s.a.a.b 865)]), #[]⟩
def zva : Obj := ⟨(vY x.t.a.c.b), none, (.func (fn (st 62) x.s.c.a.g 3 [] .none .none .none (vS x.s.b.d.f 716) none (vr 486) .none 0)), #[]⟩
def m862 : Heap := ⟨⟨[x.r.a.a.a, x.r.a.a.b, x.r.a.a.c, x.r.a.a.d, x.r.a.a.e, x.r.a.a.f, x.r.a.a.g, x.r.a.a.h, x.r.a.b.a, x.r.a.b.b, x.r.a.b.c, zae, zal, zgU, zgX]⟩, ⟨[], [], [], 0, [], [], false, #[], [], 0, false, false, false, 0, [2000, 10, 10], false, 0, true, [], [], 0, false⟩⟩
def m863 : W.BT := (N x.r.a.a.a (N x.r.a.a.b (N x.r.a.a.d (L x.r.a.a.h) (L zae)) (N x.r.a.a.f (L x.r.a.b.b) (L zgU))) (N x.r.a.a.c (N x.r.a.a.e (L x.r.a.b.a) (L zal)) (N x.r.a.a.g (L x.r.a.b.c) (L zgX))))
def m879 : W.BT := (N x.r.a.a.a (N x.r.a.a.b (N b865 (N x.r.a.a.h (L zhX) (L zhp)) (N zae (L zal) (L zhW))) (N x.r.a.a.f (N x.r.a.b.b (L zhj) (L zhK)) (N zgU (L zhR) z))) (N x.r.a.a.c (N x.r.a.a.e (N x.r.a.b.a (L zar) (L b876)) (N b866 (L zif) z)) (N x.r.a.a.g (N x.r.a.b.c (L zae) (L zhP)) (N zgX (L zae) z))))
def m894 : W.BT := (N x.r.a.a.a (N x.r.a.a.b (N b880 (N x.r.a.a.h (N zhX (L zae) z) (N zhp (L zin) z)) (N zae (N zal (L zae) z) (L zhW))) (N x.r.a.a.f (N x.r.a.b.b (N zhj (L zij) z) (L zhK)) (N zgU (N zhR (L zim) z) (L zar)))) (N x.r.a.a.c (N x.r.a.a.e (N x.r.a.b.a (N zar (L zal) z) (L b882)) (N b881 (N zif (L zio) z) (L zas))) (N x.r.a.a.g (N x.r.a.b.c (N zae (L zik) z) (L zhP)) (N zgX (N zae (L ziq) z) (L zih)))))
def m909 : W.BT := (N x.r.a.a.a (N x.r.a.a.b (N b895 (N x.r.a.a.h (N zhX (L zae) (L zae)) (N zhp (L zin) z)) (N zae (N zal (L zae) (L ziP)) (N zhW (L zae) z))) (N x.r.a.a.f (N x.r.a.b.b (N zhj (L zij) (L zix)) (N zhK (L zar) z)) (N zgU (N zhR (L zim) z) (N zar (L ziA) z)))) (N x.r.a.a.c (N x.r.a.a.e (N x.r.a.b.a (N zar (L zal) (L ziO)) (N b897 (L zas) z)) (N b896 (N zif (L zio) z) (N zas (L zal) z))) (N x.r.a.a.g (N x.r.a.b.c (N zae (L zik) (L ziB)) (N zhP (L ziz) z)) (N zgX (N zae (L ziq) z) (N zih (L zis) z)))))
def m924 : W.BT := (N x.r.a.a.a (N x.r.a.a.b (N b910 (N x.r.a.a.h (N zhX (N zae (L ziW) z) (L zae)) (N zhp (L zin) (L zae))) (N zae (N zal (L zae) (L ziP)) (N zhW (L zae) (L zae)))) (N x.r.a.a.f (N x.r.a.b.b (N zhj (L zij) (L zix)) (N zhK (L zar) (L zi8))) (N zgU (N zhR (L zim) (L zar)) (N zar (L ziA) (L zi1))))) (N x.r.a.a.c (N x.r.a.a.e (N x.r.a.b.a (N zar (L zal) (L ziO)) (N b912 (L zas) (L zal))) (N b911 (N zif (L zio) (L zas)) (N zas (L zal) (L zi4)))) (N x.r.a.a.g (N x.r.a.b.c (N zae (L zik) (L ziB)) (N zhP (L ziz) (L ziT))) (N zgX (N zae (L ziq) (L ziS)) (N zih (L zis) (L zjc))))))
def m939 : W.BT := (N x.r.a.a.a (N x.r.a.a.b (N b925 (N x.r.a.a.h (N zhX (N zae (L ziW) z) (L zae)) (N zhp (N zin (L zae) z) (L zae))) (N zae (N zal (N zae (L zae) z) (L ziP)) (N zhW (N zae (L zj6) z) (L zae)))) (N x.r.a.a.f (N x.r.a.b.b (N zhj (N zij (L zar) z) (L zix)) (N zhK (N zar (L zjL) z) (L zi8))) (N zgU (N zhR (N zim (L zjG) z) (L zar)) (N zar (L ziA) (L zi1))))) (N x.r.a.a.c (N x.r.a.a.e (N x.r.a.b.a (N zar (N zal (L zas) z) (L ziO)) (N b927 (N zas (L zjy) z) (L zal))) (N b926 (N zif (N zio (L zal) z) (L zas)) (N zas (L zal) (L zi4)))) (N x.r.a.a.g (N x.r.a.b.c (N zae (N zik (L zjp) z) (L ziB)) (N zhP (N ziz (L zjq) z) (L ziT))) (N zgX (N zae (N ziq (L zjH) z) (L ziS)) (N zih (L zis) (L zjc))))))
def m954 : W.BT := (N x.r.a.a.a (N x.r.a.a.b (N b940 (N x.r.a.a.h (N zhX (N zae (L ziW) z) (N zae (L zae) z)) (N zhp (N zin (L zae) z) (N zae (L zkj) z))) (N zae (N zal (N zae (L zae) z) (N ziP (L zae) z)) (N zhW (N zae (L zj6) z) (L zae)))) (N x.r.a.a.f (N x.r.a.b.b (N zhj (N zij (L zar) z) (N zix (L zkk) z)) (N zhK (N zar (L zjL) z) (L zi8))) (N zgU (N zhR (N zim (L zjG) z) (N zar (L zkg) z)) (N zar (N ziA (L zar) z) (L zi1))))) (N x.r.a.a.c (N x.r.a.a.e (N x.r.a.b.a (N zar (N zal (L zas) z) (N ziO (L zal) z)) (N b942 (N zas (L zjy) z) (L zal))) (N b941 (N zif (N zio (L zal) z) (N zas (L zki) z)) (N zas (N zal (L zas) z) (L zi4)))) (N x.r.a.a.g (N x.r.a.b.c (N zae (N zik (L zjp) z) (N ziB (L zkf) z)) (N zhP (N ziz (L zjq) z) (L ziT))) (N zgX (N zae (N ziq (L zjH) z) (N ziS (L zkl) z)) (N zih (N zis (L zkh) z) (L zjc))))))
def m969 : W.BT := (N x.r.a.a.a (N x.r.a.a.b (N b955 (N x.r.a.a.h (N zhX (N zae (L ziW) (L zae)) (N zae (L zae) z)) (N zhp (N zin (L zae) z) (N zae (L zkj) z))) (N zae (N zal (N zae (L zae) (L zlz)) (N ziP (L zae) z)) (N zhW (N zae (L zj6) z) (N zae (L zae) z)))) (N x.r.a.a.f (N x.r.a.b.b (N zhj (N zij (L zar) (L zlj)) (N zix (L zkk) z)) (N zhK (N zar (L zjL) z) (N zi8 (L zar) z))) (N zgU (N zhR (N zim (L zjG) z) (N zar (L zkg) z)) (N zar (N ziA (L zar) z) (N zi1 (L zly) z))))) (N x.r.a.a.c (N x.r.a.a.e (N x.r.a.b.a (N zar (N zal (L zas) (L zlf)) (N ziO (L zal) z)) (N b957 (N zas (L zjy) z) (N zal (L zas) z))) (N b956 (N zif (N zio (L zal) z) (N zas (L zki) z)) (N zas (N zal (L zas) z) (N zi4 (L zal) z)))) (N x.r.a.a.g (N x.r.a.b.c (N zae (N zik (L zjp) (L zk0)) (N ziB (L zkf) z)) (N zhP (N ziz (L zjq) z) (N ziT (L zlp) z))) (N zgX (N zae (N ziq (L zjH) z) (N ziS (L zkl) z)) (N zih (N zis (L zkh) z) (N zjc (L zlm) z))))))
def m984 : W.BT := (N x.r.a.a.a (N x.r.a.a.b (N b970 (N x.r.a.a.h (N zhX (N zae (L ziW) (L zae)) (N zae (L zae) (L zlL))) (N zhp (N zin (L zae) (L zae)) (N zae (L zkj) z))) (N zae (N zal (N zae (L zae) (L zlz)) (N ziP (L zae) z)) (N zhW (N zae (L zj6) (L zae)) (N zae (L zae) z)))) (N x.r.a.a.f (N x.r.a.b.b (N zhj (N zij (L zar) (L zlj)) (N zix (L zkk) z)) (N zhK (N zar (L zjL) (L zlK)) (N zi8 (L zar) z))) (N zgU (N zhR (N zim (L zjG) (L zar)) (N zar (L zkg) z)) (N zar (N ziA (L zar) (L zlH)) (N zi1 (L zly) z))))) (N x.r.a.a.c (N x.r.a.a.e (N x.r.a.b.a (N zar (N zal (L zas) (L zlf)) (N ziO (L zal) z)) (N b972 (N zas (L zjy) (L zal)) (N zal (L zas) z))) (N b971 (N zif (N zio (L zal) (L zas)) (N zas (L zki) z)) (N zas (N zal (L zas) (L zlJ)) (N zi4 (L zal) z)))) (N x.r.a.a.g (N x.r.a.b.c (N zae (N zik (L zjp) (L zk0)) (N ziB (L zkf) z)) (N zhP (N ziz (L zjq) (L zlM)) (N ziT (L zlp) z))) (N zgX (N zae (N ziq (L zjH) (L zlP)) (N ziS (L zkl) z)) (N zih (N zis (L zkh) (L zlI)) (N zjc (L zlm) z))))))
def m999 : W.BT := (N x.r.a.a.a (N x.r.a.a.b (N b985 (N x.r.a.a.h (N zhX (N zae (L ziW) (L zae)) (N zae (L zae) (L zlL))) (N zhp (N zin (L zae) (L zae)) (N zae (L zkj) (L zae)))) (N zae (N zal (N zae (L zae) (L zlz)) (N ziP (L zae) (L zae))) (N zhW (N zae (L zj6) (L zae)) (N zae (L zae) (L zmb))))) (N x.r.a.a.f (N x.r.a.b.b (N zhj (N zij (L zar) (L zlj)) (N zix (L zkk) (L zar))) (N zhK (N zar (L zjL) (L zlK)) (N zi8 (L zar) (L zmi)))) (N zgU (N zhR (N zim (L zjG) (L zar)) (N zar (L zkg) (L zmB))) (N zar (N ziA (L zar) (L zlH)) (N zi1 (L zly) z))))) (N x.r.a.a.c (N x.r.a.a.e (N x.r.a.b.a (N zar (N zal (L zas) (L zlf)) (N ziO (L zal) (L zas))) (N b987 (N zas (L zjy) (L zal)) (N zal (L zas) (L zlX)))) (N b986 (N zif (N zio (L zal) (L zas)) (N zas (L zki) (L zal))) (N zas (N zal (L zas) (L zlJ)) (N zi4 (L zal) z)))) (N x.r.a.a.g (N x.r.a.b.c (N zae (N zik (L zjp) (L zk0)) (N ziB (L zkf) (L zlR))) (N zhP (N ziz (L zjq) (L zlM)) (N ziT (L zlp) (L zmC)))) (N zgX (N zae (N ziq (L zjH) (L zlP)) (N ziS (L zkl) (L zlW))) (N zih (N zis (L zkh) (L zlI)) (N zjc (L zlm) z))))))
def m1014 : W.BT := (N x.r.a.a.a (N x.r.a.a.b (N b1000 (N x.r.a.a.h (N zhX (N zae (N ziW (L zae) z) (L zae)) (N zae (L zae) (L zlL))) (N zhp (N zin (N zae (L zgd) z) (L zae)) (N zae (L zkj) (L zae)))) (N zae (N zal (N zae (N zae (L zae) z) (L zlz)) (N ziP (L zae) (L zae))) (N zhW (N zae (L zj6) (L zae)) (N zae (L zae) (L zmb))))) (N x.r.a.a.f (N x.r.a.b.b (N zhj (N zij (N zar (L zgc) z) (L zlj)) (N zix (L zkk) (L zar))) (N zhK (N zar (L zjL) (L zlK)) (N zi8 (L zar) (L zmi)))) (N zgU (N zhR (N zim (N zjG (L zfU) z) (L zar)) (N zar (L zkg) (L zmB))) (N zar (N ziA (L zar) (L zlH)) (N zi1 (L zly) (L zar)))))) (N x.r.a.a.c (N x.r.a.a.e (N x.r.a.b.a (N zar (N zal (N zas (L zal) z) (L zlf)) (N ziO (L zal) (L zas))) (N b1002 (N zas (L zjy) (L zal)) (N zal (L zas) (L zlX)))) (N b1001 (N zif (N zio (N zal (L zfT) z) (L zas)) (N zas (L zki) (L zal))) (N zas (N zal (L zas) (L zlJ)) (N zi4 (L zal) (L zas))))) (N x.r.a.a.g (N x.r.a.b.c (N zae (N zik (N zjp (L zfX) z) (L zk0)) (N ziB (L zkf) (L zlR))) (N zhP (N ziz (L zjq) (L zlM)) (N ziT (L zlp) (L zmC)))) (N zgX (N zae (N ziq (N zjH (L zfM) z) (L zlP)) (N ziS (L zkl) (L zlW))) (N zih (N zis (L zkh) (L zlI)) (N zjc (L zlm) (L zfS)))))))
def m1029 : W.BT := (N x.r.a.a.a (N x.r.a.a.b (N b1015 (N x.r.a.a.h (N zhX (N zae (N ziW (L zae) z) (L zae)) (N zae (N zae (L zae) z) (L zlL))) (N zhp (N zin (N zae (L zgd) z) (L zae)) (N zae (L zkj) (L zae)))) (N zae (N zal (N zae (N zae (L zae) z) (L zlz)) (N ziP (N zae (L zgg) z) (L zae))) (N zhW (N zae (N zj6 (L zae) z) (L zae)) (N zae (L zae) (L zmb))))) (N x.r.a.a.f (N x.r.a.b.b (N zhj (N zij (N zar (L zgc) z) (L zlj)) (N zix (N zkk (L zgw) z) (L zar))) (N zhK (N zar (N zjL (L zar) z) (L zlK)) (N zi8 (L zar) (L zmi)))) (N zgU (N zhR (N zim (N zjG (L zfU) z) (L zar)) (N zar (L zkg) (L zmB))) (N zar (N ziA (N zar (L zgv) z) (L zlH)) (N zi1 (L zly) (L zar)))))) (N x.r.a.a.c (N x.r.a.a.e (N x.r.a.b.a (N zar (N zal (N zas (L zal) z) (L zlf)) (N ziO (N zal (L zgB) z) (L zas))) (N b1017 (N zas (N zjy (L zas) z) (L zal)) (N zal (L zas) (L zlX)))) (N b1016 (N zif (N zio (N zal (L zfT) z) (L zas)) (N zas (L zki) (L zal))) (N zas (N zal (N zas (L zal) z) (L zlJ)) (N zi4 (L zal) (L zas))))) (N x.r.a.a.g (N x.r.a.b.c (N zae (N zik (N zjp (L zfX) z) (L zk0)) (N ziB (N zkf (L zgx) z) (L zlR))) (N zhP (N ziz (N zjq (L zgi) z) (L zlM)) (N ziT (L zlp) (L zmC)))) (N zgX (N zae (N ziq (N zjH (L zfM) z) (L zlP)) (N ziS (L zkl) (L zlW))) (N zih (N zis (N zkh (L zgq) z) (L zlI)) (N zjc (L zlm) (L zfS)))))))
def m1044 : W.BT := (N x.r.a.a.a (N x.r.a.a.b (N b1030 (N x.r.a.a.h (N zhX (N zae (N ziW (L zae) z) (N zae (L zgS) z)) (N zae (N zae (L zae) z) (L zlL))) (N zhp (N zin (N zae (L zgd) z) (L zae)) (N zae (N zkj (L zae) z) (L zae)))) (N zae (N zal (N zae (N zae (L zae) z) (L zlz)) (N ziP (N zae (L zgg) z) (L zae))) (N zhW (N zae (N zj6 (L zae) z) (L zae)) (N zae (N zae (L zae) z) (L zmb))))) (N x.r.a.a.f (N x.r.a.b.b (N zhj (N zij (N zar (L zgc) z) (L zlj)) (N zix (N zkk (L zgw) z) (L zar))) (N zhK (N zar (N zjL (L zar) z) (L zlK)) (N zi8 (N zar (L zgR) z) (L zmi)))) (N zgU (N zhR (N zim (N zjG (L zfU) z) (L zar)) (N zar (N zkg (L zar) z) (L zmB))) (N zar (N ziA (N zar (L zgv) z) (L zlH)) (N zi1 (N zly (L zgT) z) (L zar)))))) (N x.r.a.a.c (N x.r.a.a.e (N x.r.a.b.a (N zar (N zal (N zas (L zal) z) (L zlf)) (N ziO (N zal (L zgB) z) (L zas))) (N b1032 (N zas (N zjy (L zas) z) (L zal)) (N zal (N zas (L zal) z) (L zlX)))) (N b1031 (N zif (N zio (N zal (L zfT) z) (L zas)) (N zas (N zki (L zas) z) (L zal))) (N zas (N zal (N zas (L zal) z) (L zlJ)) (N zi4 (N zal (L zg2) z) (L zas))))) (N x.r.a.a.g (N x.r.a.b.c (N zae (N zik (N zjp (L zfX) z) (L zk0)) (N ziB (N zkf (L zgx) z) (L zlR))) (N zhP (N ziz (N zjq (L zgi) z) (L zlM)) (N ziT (N zlp (L zgO) z) (L zmC)))) (N zgX (N zae (N ziq (N zjH (L zfM) z) (L zlP)) (N ziS (N zkl (L zg1) z) (L zlW))) (N zih (N zis (N zkh (L zgq) z) (L zlI)) (N zjc (N zlm (L zgV) z) (L zfS)))))))
def m1059 : W.BT := (N x.r.a.a.a (N x.r.a.a.b (N b1045 (N x.r.a.a.h (N zhX (N zae (N ziW (L zae) z) (N zae (L zgS) z)) (N zae (N zae (L zae) z) (L zlL))) (N zhp (N zin (N zae (L zgd) z) (N zae (L zae) z)) (N zae (N zkj (L zae) z) (L zae)))) (N zae (N zal (N zae (N zae (L zae) z) (N zlz (L zae) z)) (N ziP (N zae (L zgg) z) (L zae))) (N zhW (N zae (N zj6 (L zae) z) (N zae (L zhQ) z)) (N zae (N zae (L zae) z) (L zmb))))) (N x.r.a.a.f (N x.r.a.b.b (N zhj (N zij (N zar (L zgc) z) (N zlj (L zar) z)) (N zix (N zkk (L zgw) z) (L zar))) (N zhK (N zar (N zjL (L zar) z) (N zlK (L zhI) z)) (N zi8 (N zar (L zgR) z) (L zmi)))) (N zgU (N zhR (N zim (N zjG (L zfU) z) (N zar (L zhm) z)) (N zar (N zkg (L zar) z) (L zmB))) (N zar (N ziA (N zar (L zgv) z) (L zlH)) (N zi1 (N zly (L zgT) z) (L zar)))))) (N x.r.a.a.c (N x.r.a.a.e (N x.r.a.b.a (N zar (N zal (N zas (L zal) z) (N zlf (L zas) z)) (N ziO (N zal (L zgB) z) (L zas))) (N b1047 (N zas (N zjy (L zas) z) (N zal (L zib) z)) (N zal (N zas (L zal) z) (L zlX)))) (N b1046 (N zif (N zio (N zal (L zfT) z) (N zas (L zal) z)) (N zas (N zki (L zas) z) (L zal))) (N zas (N zal (N zas (L zal) z) (L zlJ)) (N zi4 (N zal (L zg2) z) (L zas))))) (N x.r.a.a.g (N x.r.a.b.c (N zae (N zik (N zjp (L zfX) z) (N zk0 (L zho) z)) (N ziB (N zkf (L zgx) z) (L zlR))) (N zhP (N ziz (N zjq (L zgi) z) (N zlM (L zhM) z)) (N ziT (N zlp (L zgO) z) (L zmC)))) (N zgX (N zae (N ziq (N zjH (L zfM) z) (N zlP (L zhC) z)) (N ziS (N zkl (L zg1) z) (L zlW))) (N zih (N zis (N zkh (L zgq) z) (L zlI)) (N zjc (N zlm (L zgV) z) (L zfS)))))))
def m1074 : W.BT := (N x.r.a.a.a (N x.r.a.a.b (N b1060 (N x.r.a.a.h (N zhX (N zae (N ziW (L zae) z) (N zae (L zgS) z)) (N zae (N zae (L zae) z) (N zlL (L zae) z))) (N zhp (N zin (N zae (L zgd) z) (N zae (L zae) z)) (N zae (N zkj (L zae) z) (N zae (L ziy) z)))) (N zae (N zal (N zae (N zae (L zae) z) (N zlz (L zae) z)) (N ziP (N zae (L zgg) z) (N zae (L zae) z))) (N zhW (N zae (N zj6 (L zae) z) (N zae (L zhQ) z)) (N zae (N zae (L zae) z) (L zmb))))) (N x.r.a.a.f (N x.r.a.b.b (N zhj (N zij (N zar (L zgc) z) (N zlj (L zar) z)) (N zix (N zkk (L zgw) z) (N zar (L ziJ) z))) (N zhK (N zar (N zjL (L zar) z) (N zlK (L zhI) z)) (N zi8 (N zar (L zgR) z) (L zmi)))) (N zgU (N zhR (N zim (N zjG (L zfU) z) (N zar (L zhm) z)) (N zar (N zkg (L zar) z) (N zmB (L ziR) z))) (N zar (N ziA (N zar (L zgv) z) (N zlH (L zar) z)) (N zi1 (N zly (L zgT) z) (L zar)))))) (N x.r.a.a.c (N x.r.a.a.e (N x.r.a.b.a (N zar (N zal (N zas (L zal) z) (N zlf (L zas) z)) (N ziO (N zal (L zgB) z) (N zas (L zal) z))) (N b1062 (N zas (N zjy (L zas) z) (N zal (L zib) z)) (N zal (N zas (L zal) z) (L zlX)))) (N b1061 (N zif (N zio (N zal (L zfT) z) (N zas (L zal) z)) (N zas (N zki (L zas) z) (N zal (L ziv) z))) (N zas (N zal (N zas (L zal) z) (N zlJ (L zas) z)) (N zi4 (N zal (L zg2) z) (L zas))))) (N x.r.a.a.g (N x.r.a.b.c (N zae (N zik (N zjp (L zfX) z) (N zk0 (L zho) z)) (N ziB (N zkf (L zgx) z) (N zlR (L ziK) z))) (N zhP (N ziz (N zjq (L zgi) z) (N zlM (L zhM) z)) (N ziT (N zlp (L zgO) z) (L zmC)))) (N zgX (N zae (N ziq (N zjH (L zfM) z) (N zlP (L zhC) z)) (N ziS (N zkl (L zg1) z) (N zlW (L ziI) z))) (N zih (N zis (N zkh (L zgq) z) (N zlI (L ziM) z)) (N zjc (N zlm (L zgV) z) (L zfS)))))))
def m1089 : W.BT := (N x.r.a.a.a (N x.r.a.a.b (N b1075 (N x.r.a.a.h (N zhX (N zae (N ziW (L zae) (L zae)) (N zae (L zgS) z)) (N zae (N zae (L zae) z) (N zlL (L zae) z))) (N zhp (N zin (N zae (L zgd) z) (N zae (L zae) z)) (N zae (N zkj (L zae) z) (N zae (L ziy) z)))) (N zae (N zal (N zae (N zae (L zae) (L zjT)) (N zlz (L zae) z)) (N ziP (N zae (L zgg) z) (N zae (L zae) z))) (N zhW (N zae (N zj6 (L zae) z) (N zae (L zhQ) z)) (N zae (N zae (L zae) z) (N zmb (L zae) z))))) (N x.r.a.a.f (N x.r.a.b.b (N zhj (N zij (N zar (L zgc) (L zjw)) (N zlj (L zar) z)) (N zix (N zkk (L zgw) z) (N zar (L ziJ) z))) (N zhK (N zar (N zjL (L zar) z) (N zlK (L zhI) z)) (N zi8 (N zar (L zgR) z) (N zmi (L zar) z)))) (N zgU (N zhR (N zim (N zjG (L zfU) z) (N zar (L zhm) z)) (N zar (N zkg (L zar) z) (N zmB (L ziR) z))) (N zar (N ziA (N zar (L zgv) z) (N zlH (L zar) z)) (N zi1 (N zly (L zgT) z) (N zar (L zj5) z)))))) (N x.r.a.a.c (N x.r.a.a.e (N x.r.a.b.a (N zar (N zal (N zas (L zal) (L zjY)) (N zlf (L zas) z)) (N ziO (N zal (L zgB) z) (N zas (L zal) z))) (N b1077 (N zas (N zjy (L zas) z) (N zal (L zib) z)) (N zal (N zas (L zal) z) (N zlX (L zas) z)))) (N b1076 (N zif (N zio (N zal (L zfT) z) (N zas (L zal) z)) (N zas (N zki (L zas) z) (N zal (L ziv) z))) (N zas (N zal (N zas (L zal) z) (N zlJ (L zas) z)) (N zi4 (N zal (L zg2) z) (N zas (L zal) z))))) (N x.r.a.a.g (N x.r.a.b.c (N zae (N zik (N zjp (L zfX) (L zjE)) (N zk0 (L zho) z)) (N ziB (N zkf (L zgx) z) (N zlR (L ziK) z))) (N zhP (N ziz (N zjq (L zgi) z) (N zlM (L zhM) z)) (N ziT (N zlp (L zgO) z) (N zmC (L zjB) z)))) (N zgX (N zae (N ziq (N zjH (L zfM) z) (N zlP (L zhC) z)) (N ziS (N zkl (L zg1) z) (N zlW (L ziI) z))) (N zih (N zis (N zkh (L zgq) z) (N zlI (L ziM) z)) (N zjc (N zlm (L zgV) z) (N zfS (L zj9) z)))))))
def m1111 : W.BT := (N x.r.a.a.a (N x.r.a.a.b (N b1090 (N x.r.a.a.h (N zhX (N zae (N ziW (L zae) (L zae)) (N zae (L zgS) z)) (N zae (N zae (L zae) (L zlo)) (N zlL (L zae) z))) (N zhp (N zin (N zae (L zgd) (L zae)) (N zae (L zae) z)) (N zae (N zkj (L zae) z) (N zae (L ziy) z)))) (N zae (N zal (N zae (N zae (L zae) (L zjT)) (N zlz (L zae) z)) (N ziP (N zae (L zgg) (L zkq)) (N zae (L zae) z))) (N zhW (N zae (N zj6 (L zae) (L zae)) (N zae (L zhQ) z)) (N zae (N zae (L zae) z) (N zmb (L zae) z))))) (N x.r.a.a.f (N x.r.a.b.b (N zhj (N zij (N zar (L zgc) (L zjw)) (N zlj (L zar) z)) (N zix (N zkk (L zgw) (L zld)) (N zar (L ziJ) z))) (N zhK (N zar (N zjL (L zar) (L zk6)) (N zlK (L zhI) z)) (N zi8 (N zar (L zgR) z) (N zmi (L zar) z)))) (N zgU (N zhR (N zim (N zjG (L zfU) (L zar)) (N zar (L zhm) z)) (N zar (N zkg (L zar) (L zlA)) (N zmB (L ziR) z))) (N zar (N ziA (N zar (L zgv) (L zkZ)) (N zlH (L zar) z)) (N zi1 (N zly (L zgT) z) (N zar (L zj5) z)))))) (N x.r.a.a.c (N x.r.a.a.e (N x.r.a.b.a (N zar (N zal (N zas (L zal) (L zjY)) (N zlf (L zas) z)) (N ziO (N zal (L zgB) (L zli)) (N zas (L zal) z))) (N b1092 (N zas (N zjy (L zas) (L zkH)) (N zal (L zib) z)) (N zal (N zas (L zal) z) (N zlX (L zas) z)))) (N b1091 (N zif (N zio (N zal (L zfT) (L zas)) (N zas (L zal) z)) (N zas (N zki (L zas) (L zko)) (N zal (L ziv) z))) (N zas (N zal (N zas (L zal) (L zal)) (N zlJ (L zas) z)) (N zi4 (N zal (L zg2) z) (N zas (L zal) z))))) (N x.r.a.a.g (N x.r.a.b.c (N zae (N zik (N zjp (L zfX) (L zjE)) (N zk0 (L zho) z)) (N ziB (N zkf (L zgx) (L zkD)) (N zlR (L ziK) z))) (N zhP (N ziz (N zjq (L zgi) (L zlD)) (N zlM (L zhM) z)) (N ziT (N zlp (L zgO) z) (N zmC (L zjB) z)))) (N zgX (N zae (N ziq (N zjH (L zfM) (L zk3)) (N zlP (L zhC) z)) (N ziS (N zkl (L zg1) (L zk1)) (N zlW (L ziI) z))) (N zih (N zis (N zkh (L zgq) (L zae)) (N zlI (L ziM) z)) (N zjc (N zlm (L zgV) z) (N zfS (L zj9) z)))))))
def m1133 : W.BT := (N x.r.a.a.a (N x.r.a.a.b (N b1112 (N x.r.a.a.h (N zhX (N zae (N ziW (L zae) (L zae)) (N zae (L zgS) (L zal))) (N zae (N zae (L zae) (L zlo)) (N zlL (L zae) z))) (N zhp (N zin (N zae (L zgd) (L zae)) (N zae (L zae) (L zl0))) (N zae (N zkj (L zae) (L zas)) (N zae (L ziy) z)))) (N zae (N zal (N zae (N zae (L zae) (L zjT)) (N zlz (L zae) (L zl3))) (N ziP (N zae (L zgg) (L zkq)) (N zae (L zae) z))) (N zhW (N zae (N zj6 (L zae) (L zae)) (N zae (L zhQ) z)) (N zae (N zae (L zae) (L zlV)) (N zmb (L zae) z))))) (N x.r.a.a.f (N x.r.a.b.b (N zhj (N zij (N zar (L zgc) (L zjw)) (N zlj (L zar) (L zae))) (N zix (N zkk (L zgw) (L zld)) (N zar (L ziJ) z))) (N zhK (N zar (N zjL (L zar) (L zk6)) (N zlK (L zhI) (L zmc))) (N zi8 (N zar (L zgR) (L zms)) (N zmi (L zar) z)))) (N zgU (N zhR (N zim (N zjG (L zfU) (L zar)) (N zar (L zhm) (L zmE))) (N zar (N zkg (L zar) (L zlA)) (N zmB (L ziR) z))) (N zar (N ziA (N zar (L zgv) (L zkZ)) (N zlH (L zar) z)) (N zi1 (N zly (L zgT) (L zmh)) (N zar (L zj5) z)))))) (N x.r.a.a.c (N x.r.a.a.e (N x.r.a.b.a (N zar (N zal (N zas (L zal) (L zjY)) (N zlf (L zas) (L zmF))) (N ziO (N zal (L zgB) (L zli)) (N zas (L zal) z))) (N b1114 (N zas (N zjy (L zas) (L zkH)) (N zal (L zib) (L zl8))) (N zal (N zas (L zal) (L zar)) (N zlX (L zas) z)))) (N b1113 (N zif (N zio (N zal (L zfT) (L zas)) (N zas (L zal) (L zma))) (N zas (N zki (L zas) (L zko)) (N zal (L ziv) z))) (N zas (N zal (N zas (L zal) (L zal)) (N zlJ (L zas) z)) (N zi4 (N zal (L zg2) (L zmd)) (N zas (L zal) z))))) (N x.r.a.a.g (N x.r.a.b.c (N zae (N zik (N zjp (L zfX) (L zjE)) (N zk0 (L zho) (L zl6))) (N ziB (N zkf (L zgx) (L zkD)) (N zlR (L ziK) z))) (N zhP (N ziz (N zjq (L zgi) (L zlD)) (N zlM (L zhM) z)) (N ziT (N zlp (L zgO) (L zae)) (N zmC (L zjB) z)))) (N zgX (N zae (N ziq (N zjH (L zfM) (L zk3)) (N zlP (L zhC) (L zmz))) (N ziS (N zkl (L zg1) (L zk1)) (N zlW (L ziI) z))) (N zih (N zis (N zkh (L zgq) (L zae)) (N zlI (L ziM) z)) (N zjc (N zlm (L zgV) (L zae)) (N zfS (L zj9) z)))))))
def m1155 : W.BT := (N x.r.a.a.a (N x.r.a.a.b (N b1134 (N x.r.a.a.h (N zhX (N zae (N ziW (L zae) (L zae)) (N zae (L zgS) (L zal))) (N zae (N zae (L zae) (L zlo)) (N zlL (L zae) (L znC)))) (N zhp (N zin (N zae (L zgd) (L zae)) (N zae (L zae) (L zl0))) (N zae (N zkj (L zae) (L zas)) (N zae (L ziy) (L zm2))))) (N zae (N zal (N zae (N zae (L zae) (L zjT)) (N zlz (L zae) (L zl3))) (N ziP (N zae (L zgg) (L zkq)) (N zae (L zae) (L znK)))) (N zhW (N zae (N zj6 (L zae) (L zae)) (N zae (L zhQ) (L zar))) (N zae (N zae (L zae) (L zlV)) (N zmb (L zae) (L znJ)))))) (N x.r.a.a.f (N x.r.a.b.b (N zhj (N zij (N zar (L zgc) (L zjw)) (N zlj (L zar) (L zae))) (N zix (N zkk (L zgw) (L zld)) (N zar (L ziJ) (L zae)))) (N zhK (N zar (N zjL (L zar) (L zk6)) (N zlK (L zhI) (L zmc))) (N zi8 (N zar (L zgR) (L zms)) (N zmi (L zar) (L znA))))) (N zgU (N zhR (N zim (N zjG (L zfU) (L zar)) (N zar (L zhm) (L zmE))) (N zar (N zkg (L zar) (L zlA)) (N zmB (L ziR) (L znu)))) (N zar (N ziA (N zar (L zgv) (L zkZ)) (N zlH (L zar) (L zae))) (N zi1 (N zly (L zgT) (L zmh)) (N zar (L zj5) z)))))) (N x.r.a.a.c (N x.r.a.a.e (N x.r.a.b.a (N zar (N zal (N zas (L zal) (L zjY)) (N zlf (L zas) (L zmF))) (N ziO (N zal (L zgB) (L zli)) (N zas (L zal) (L zm8)))) (N b1136 (N zas (N zjy (L zas) (L zkH)) (N zal (L zib) (L zl8))) (N zal (N zas (L zal) (L zar)) (N zlX (L zas) (L znv))))) (N b1135 (N zif (N zio (N zal (L zfT) (L zas)) (N zas (L zal) (L zma))) (N zas (N zki (L zas) (L zko)) (N zal (L ziv) (L zae)))) (N zas (N zal (N zas (L zal) (L zal)) (N zlJ (L zas) (L zny))) (N zi4 (N zal (L zg2) (L zmd)) (N zas (L zal) (L znb)))))) (N x.r.a.a.g (N x.r.a.b.c (N zae (N zik (N zjp (L zfX) (L zjE)) (N zk0 (L zho) (L zl6))) (N ziB (N zkf (L zgx) (L zkD)) (N zlR (L ziK) (L zal)))) (N zhP (N ziz (N zjq (L zgi) (L zlD)) (N zlM (L zhM) (L zas))) (N ziT (N zlp (L zgO) (L zae)) (N zmC (L zjB) (L znh))))) (N zgX (N zae (N ziq (N zjH (L zfM) (L zk3)) (N zlP (L zhC) (L zmz))) (N ziS (N zkl (L zg1) (L zk1)) (N zlW (L ziI) (L znl)))) (N zih (N zis (N zkh (L zgq) (L zae)) (N zlI (L ziM) (L znj))) (N zjc (N zlm (L zgV) (L zae)) (N zfS (L zj9) z)))))))
def m1205 : W.BT := (N x.r.a.a.a (N x.r.a.a.b (N b1156 (N x.r.a.a.h (N zhX (N zae (N ziW (N zae (L zpy) z) (L zae)) (N zae (N zgS (L zal) z) (L zal))) (N zae (N zae (N zae (L zoL) z) (L zlo)) (N zlL (L zae) (L znC)))) (N zhp (N zin (N zae (N zgd (L zae) z) (L zae)) (N zae (N zae (L zps) z) (L zl0))) (N zae (N zkj (N zae (L zae) z) (L zas)) (N zae (L ziy) (L zm2))))) (N zae (N zal (N zae (N zae (N zae (L zpD) z) (L zjT)) (N zlz (N zae (L zoc) z) (L zl3))) (N ziP (N zae (N zgg (L zae) z) (L zkq)) (N zae (L zae) (L znK)))) (N zhW (N zae (N zj6 (N zae (L znZ) z) (L zae)) (N zae (N zhQ (L zn0) z) (L zar))) (N zae (N zae (N zae (L zoO) z) (L zlV)) (N zmb (L zae) (L znJ)))))) (N x.r.a.a.f (N x.r.a.b.b (N zhj (N zij (N zar (N zgc (L zoo) z) (L zjw)) (N zlj (N zar (L zae) z) (L zae))) (N zix (N zkk (N zgw (L zal) z) (L zld)) (N zar (L ziJ) (L zae)))) (N zhK (N zar (N zjL (N zar (L zom) z) (L zk6)) (N zlK (N zhI (L zoY) z) (L zmc))) (N zi8 (N zar (N zgR (L zoF) z) (L zms)) (N zmi (L zar) (L znA))))) (N zgU (N zhR (N zim (N zjG (N zfU (L zal) z) (L zar)) (N zar (N zhm (L zae) z) (L zmE))) (N zar (N zkg (N zar (L zoK) z) (L zlA)) (N zmB (L ziR) (L znu)))) (N zar (N ziA (N zar (N zgv (L zoQ) z) (L zkZ)) (N zlH (L zar) (L zae))) (N zi1 (N zly (N zgT (L zo7) z) (L zmh)) (N zar (L zj5) (L zas))))))) (N x.r.a.a.c (N x.r.a.a.e (N x.r.a.b.a (N zar (N zal (N zas (N zal (L zae) z) (L zjY)) (N zlf (N zas (L zpG) z) (L zmF))) (N ziO (N zal (N zgB (L zae) z) (L zli)) (N zas (L zal) (L zm8)))) (N znT (N zas (N zjy (N zas (L zn2) z) (L zkH)) (N zal (N zib (L zae) z) (L zl8))) (N zal (N zas (N zal (L zal) z) (L zar)) (N zlX (L zas) (L znv))))) (N b1157 (N zif (N zio (N zal (N zfT (L zae) z) (L zas)) (N zas (N zal (L zpd) z) (L zma))) (N zas (N zki (N zas (L zoV) z) (L zko)) (N zal (L ziv) (L zae)))) (N zas (N zal (N zas (N zal (L zoH) z) (L zal)) (N zlJ (L zas) (L zny))) (N zi4 (N zal (N zg2 (L zpt) z) (L zmd)) (N zas (L zal) (L znb)))))) (N x.r.a.a.g (N x.r.a.b.c (N zae (N zik (N zjp (N zfX (L zo9) z) (L zjE)) (N zk0 (N zho (L zoS) z) (L zl6))) (N ziB (N zkf (N zgx (L zoj) z) (L zkD)) (N zlR (L ziK) (L zal)))) (N zhP (N ziz (N zjq (N zgi (L zoA) z) (L zlD)) (N zlM (N zhM (L znS) z) (L zas))) (N ziT (N zlp (N zgO (L zae) z) (L zae)) (N zmC (L zjB) (L znh))))) (N zgX (N zae (N ziq (N zjH (N zfM (L zoq) z) (L zk3)) (N zlP (N zhC (L zal) z) (L zmz))) (N ziS (N zkl (N zg1 (L zpz) z) (L zk1)) (N zlW (L ziI) (L znl)))) (N zih (N zis (N zkh (N zgq (L znW) z) (L zae)) (N zlI (L ziM) (L znj))) (N zjc (N zlm (N zgV (L zae) z) (L zae)) (N zfS (L zj9) (L zar))))))))
def m1276 : W.BT := (N x.r.a.a.a (N x.r.a.a.b (N b1206 (N x.r.a.a.h (N zhX (N zae (N ziW (N zae (L zpy) z) (N zae (L zqz) z)) (N zae (N zgS (L zal) z) (N zal (L zae) z))) (N zae (N zae (N zae (L zoL) z) (N zlo (L zrd) z)) (N zlL (N zae (L zqh) z) (N znC (L zq2) z)))) (N zhp (N zin (N zae (N zgd (L zae) z) (N zae (L zpT) z)) (N zae (N zae (L zps) z) (N zl0 (L zqU) z))) (N zae (N zkj (N zae (L zae) z) (N zas (L zae) z)) (N zae (N ziy (L zrq) z) (L zm2))))) (N zae (N zal (N zae (N zae (N zae (L zpD) z) (N zjT (L zal) z)) (N zlz (N zae (L zoc) z) (N zl3 (L zae) z))) (N ziP (N zae (N zgg (L zae) z) (N zkq (L zae) z)) (N zae (N zae (L zri) z) (L znK)))) (N zhW (N zae (N zj6 (N zae (L znZ) z) (N zae (L zqr) z)) (N zae (N zhQ (L zn0) z) (N zar (L zal) z))) (N zae (N zae (N zae (L zoO) z) (N zlV (L zru) z)) (N zmb (N zae (L zp5) z) (L znJ)))))) (N x.r.a.a.f (N x.r.a.b.b (N zhj (N zij (N zar (N zgc (L zoo) z) (N zjw (L zqL) z)) (N zlj (N zar (L zae) z) (N zae (L zqe) z))) (N zix (N zkk (N zgw (L zal) z) (N zld (L zal) z)) (N zar (N ziJ (L zae) z) (L zae)))) (N zhK (N zar (N zjL (N zar (L zom) z) (N zk6 (L zae) z)) (N zlK (N zhI (L zoY) z) (N zmc (L zq9) z))) (N zi8 (N zar (N zgR (L zoF) z) (N zms (L zqX) z)) (N zmi (N zar (L zal) z) (L znA))))) (N zgU (N zhR (N zim (N zjG (N zfU (L zal) z) (N zar (L zae) z)) (N zar (N zhm (L zae) z) (N zmE (L zqO) z))) (N zar (N zkg (N zar (L zoK) z) (N zlA (L zq6) z)) (N zmB (N ziR (L zqs) z) (L znu)))) (N zar (N ziA (N zar (N zgv (L zoQ) z) (N zkZ (L zp8) z)) (N zlH (N zar (L zal) z) (N zae (L zae) z))) (N zi1 (N zly (N zgT (L zo7) z) (N zmh (L zal) z)) (N zar (N zj5 (L zae) z) (L zas))))))) (N x.r.a.a.c (N x.r.a.a.e (N x.r.a.b.a (N zar (N zal (N zas (N zal (L zae) z) (N zjY (L zqt) z)) (N zlf (N zas (L zpG) z) (N zmF (L zqC) z))) (N ziO (N zal (N zgB (L zae) z) (N zli (L zae) z)) (N zas (N zal (L zrk) z) (N zm8 (L zrw) z)))) (N znT (N zas (N zjy (N zas (L zn2) z) (N zkH (L zrc) z)) (N zal (N zib (L zae) z) (N zl8 (L zrv) z))) (N zal (N zas (N zal (L zal) z) (N zar (L zal) z)) (N zlX (N zas (L zae) z) (L znv))))) (N b1207 (N zif (N zio (N zal (N zfT (L zae) z) (N zas (L zrh) z)) (N zas (N zal (L zpd) z) (N zma (L zal) z))) (N zas (N zki (N zas (L zoV) z) (N zko (L zp9) z)) (N zal (N ziv (L zae) z) (L zae)))) (N zas (N zal (N zas (N zal (L zoH) z) (N zal (L zae) z)) (N zlJ (N zas (L zae) z) (N zny (L zqw) z))) (N zi4 (N zal (N zg2 (L zpt) z) (N zmd (L zae) z)) (N zas (N zal (L zqa) z) (L znb)))))) (N x.r.a.a.g (N x.r.a.b.c (N zae (N zik (N zjp (N zfX (L zo9) z) (N zjE (L zae) z)) (N zk0 (N zho (L zoS) z) (N zl6 (L zqx) z))) (N ziB (N zkf (N zgx (L zoj) z) (N zkD (L zqm) z)) (N zlR (N ziK (L zal) z) (L zal)))) (N zhP (N ziz (N zjq (N zgi (L zoA) z) (N zlD (L zal) z)) (N zlM (N zhM (L znS) z) (N zas (L zae) z))) (N ziT (N zlp (N zgO (L zae) z) (N zae (L zqK) z)) (N zmC (N zjB (L zrp) z) (L znh))))) (N zgX (N zae (N ziq (N zjH (N zfM (L zoq) z) (N zk3 (L zq8) z)) (N zlP (N zhC (L zal) z) (N zmz (L zae) z))) (N ziS (N zkl (N zg1 (L zpz) z) (N zk1 (L zqN) z)) (N zlW (N ziI (L zp3) z) (L znl)))) (N zih (N zis (N zkh (N zgq (L znW) z) (N zae (L zpX) z)) (N zlI (N ziM (L zqu) z) (N znj (L zq5) z))) (N zjc (N zlm (N zgV (L zae) z) (N zae (L zra) z)) (N zfS (N zj9 (L zal) z) (L zar))))))))
def m1352 : W.BT := (N x.r.a.a.a (N x.r.a.a.b (N b1277 (N x.r.a.a.h (N zhX (N zae (N ziW (N zae (L zpy) (L ztj)) (N zae (L zqz) z)) (N zae (N zgS (L zal) (L zs7)) (N zal (L zae) z))) (N zae (N zae (N zae (L zoL) (L zae)) (N zlo (L zrd) z)) (N zlL (N zae (L zqh) (L zsa)) (N znC (L zq2) z)))) (N zhp (N zin (N zae (N zgd (L zae) (L zae)) (N zae (L zpT) z)) (N zae (N zae (L zps) (L zsR)) (N zl0 (L zqU) z))) (N zae (N zkj (N zae (L zae) (L ztD)) (N zas (L zae) z)) (N zae (N ziy (L zrq) (L zae)) (N zm2 (L zal) z))))) (N zae (N zal (N zae (N zae (N zae (L zpD) (L zal)) (N zjT (L zal) z)) (N zlz (N zae (L zoc) (L zsC)) (N zl3 (L zae) z))) (N ziP (N zae (N zgg (L zae) (L zae)) (N zkq (L zae) z)) (N zae (N zae (L zri) (L zsM)) (N znK (L ztH) z)))) (N zhW (N zae (N zj6 (N zae (L znZ) (L zsl)) (N zae (L zqr) z)) (N zae (N zhQ (L zn0) (L zr7)) (N zar (L zal) z))) (N zae (N zae (N zae (L zoO) (L zal)) (N zlV (L zru) z)) (N zmb (N zae (L zp5) z) (N znJ (L zae) z)))))) (N x.r.a.a.f (N x.r.a.b.b (N zhj (N zij (N zar (N zgc (L zoo) (L zsP)) (N zjw (L zqL) z)) (N zlj (N zar (L zae) (L zae)) (N zae (L zqe) z))) (N zix (N zkk (N zgw (L zal) (L zsz)) (N zld (L zal) z)) (N zar (N ziJ (L zae) (L ztF)) (N zae (L zae) z)))) (N zhK (N zar (N zjL (N zar (L zom) (L ztw)) (N zk6 (L zae) z)) (N zlK (N zhI (L zoY) (L zal)) (N zmc (L zq9) z))) (N zi8 (N zar (N zgR (L zoF) (L zti)) (N zms (L zqX) z)) (N zmi (N zar (L zal) (L ztc)) (N znA (L zsY) z))))) (N zgU (N zhR (N zim (N zjG (N zfU (L zal) (L zr2)) (N zar (L zae) z)) (N zar (N zhm (L zae) (L zsN)) (N zmE (L zqO) z))) (N zar (N zkg (N zar (L zoK) (L zsx)) (N zlA (L zq6) z)) (N zmB (N ziR (L zqs) (L zal)) (N znu (L zsb) z)))) (N zar (N ziA (N zar (N zgv (L zoQ) (L zal)) (N zkZ (L zp8) z)) (N zlH (N zar (L zal) (L zae)) (N zae (L zae) z))) (N zi1 (N zly (N zgT (L zo7) (L zae)) (N zmh (L zal) z)) (N zar (N zj5 (L zae) z) (N zas (L ztu) z))))))) (N x.r.a.a.c (N x.r.a.a.e (N x.r.a.b.a (N zar (N zal (N zas (N zal (L zae) (L zsS)) (N zjY (L zqt) z)) (N zlf (N zas (L zpG) (L zs3)) (N zmF (L zqC) z))) (N ziO (N zal (N zgB (L zae) (L zsF)) (N zli (L zae) z)) (N zas (N zal (L zrk) (L zae)) (N zm8 (L zrw) z)))) (N znT (N zas (N zjy (N zas (L zn2) (L zal)) (N zkH (L zrc) z)) (N zal (N zib (L zae) (L zae)) (N zl8 (L zrv) z))) (N zal (N zas (N zal (L zal) (L ztp)) (N zar (L zal) z)) (N zlX (N zas (L zae) (L ztf)) (N znv (L zsI) z))))) (N b1278 (N zif (N zio (N zal (N zfT (L zae) (L ztr)) (N zas (L zrh) z)) (N zas (N zal (L zpd) (L zae)) (N zma (L zal) z))) (N zas (N zki (N zas (L zoV) (L zal)) (N zko (L zp9) z)) (N zal (N ziv (L zae) (L zae)) (N zae (L ztJ) z)))) (N zas (N zal (N zas (N zal (L zoH) (L zae)) (N zal (L zae) z)) (N zlJ (N zas (L zae) (L zs4)) (N zny (L zqw) z))) (N zi4 (N zal (N zg2 (L zpt) (L zsV)) (N zmd (L zae) z)) (N zas (N zal (L zqa) z) (N znb (L zal) z)))))) (N x.r.a.a.g (N x.r.a.b.c (N zae (N zik (N zjp (N zfX (L zo9) (L zae)) (N zjE (L zae) z)) (N zk0 (N zho (L zoS) (L zal)) (N zl6 (L zqx) z))) (N ziB (N zkf (N zgx (L zoj) (L ztv)) (N zkD (L zqm) z)) (N zlR (N ziK (L zal) (L zsA)) (N zal (L zal) z)))) (N zhP (N ziz (N zjq (N zgi (L zoA) (L zta)) (N zlD (L zal) z)) (N zlM (N zhM (L znS) (L zsv)) (N zas (L zae) z))) (N ziT (N zlp (N zgO (L zae) (L zae)) (N zae (L zqK) z)) (N zmC (N zjB (L zrp) (L zsc)) (N znh (L zr0) z))))) (N zgX (N zae (N ziq (N zjH (N zfM (L zoq) (L ztB)) (N zk3 (L zq8) z)) (N zlP (N zhC (L zal) (L zs5)) (N zmz (L zae) z))) (N ziS (N zkl (N zg1 (L zpz) (L zae)) (N zk1 (L zqN) z)) (N zlW (N ziI (L zp3) (L zr3)) (N znl (L zae) z)))) (N zih (N zis (N zkh (N zgq (L znW) (L zsn)) (N zae (L zpX) z)) (N zlI (N ziM (L zqu) (L zal)) (N znj (L zq5) z))) (N zjc (N zlm (N zgV (L zae) (L ztn)) (N zae (L zra) z)) (N zfS (N zj9 (L zal) z) (N zar (L zae) z))))))))
def m1399 : W.BT := (N x.r.a.a.a (N x.r.a.a.b (N zuj (N x.r.a.a.h (N zhX (N zae (N ziW (N zae (L zpy) (L ztj)) (N zae (L zqz) (L zud))) (N zae (N zgS (L zal) (L zs7)) (N zal (L zae) (L zal)))) (N zae (N zae (N zae (L zoL) (L zae)) (N zlo (L zrd) (L zve))) (N zlL (N zae (L zqh) (L zsa)) (N znC (L zq2) z)))) (N zhp (N zin (N zae (N zgd (L zae) (L zae)) (N zae (L zpT) (L zuf))) (N zae (N zae (L zps) (L zsR)) (N zl0 (L zqU) (L zva)))) (N zae (N zkj (N zae (L zae) (L ztD)) (N zas (L zae) (L zae))) (N zae (N ziy (L zrq) (L zae)) (N zm2 (L zal) z))))) (N zae (N zal (N zae (N zae (N zae (L zpD) (L zal)) (N zjT (L zal) (L zal))) (N zlz (N zae (L zoc) (L zsC)) (N zl3 (L zae) (L zae)))) (N ziP (N zae (N zgg (L zae) (L zae)) (N zkq (L zae) (L zae))) (N zae (N zae (L zri) (L zsM)) (N znK (L ztH) z)))) (N zhW (N zae (N zj6 (N zae (L znZ) (L zsl)) (N zae (L zqr) (L zuo))) (N zae (N zhQ (L zn0) (L zr7)) (N zar (L zal) z))) (N zae (N zae (N zae (L zoO) (L zal)) (N zlV (L zru) (L zvc))) (N zmb (N zae (L zp5) (L zae)) (N znJ (L zae) z)))))) (N x.r.a.a.f (N x.r.a.b.b (N zhj (N zij (N zar (N zgc (L zoo) (L zsP)) (N zjw (L zqL) (L zuI))) (N zlj (N zar (L zae) (L zae)) (N zae (L zqe) (L zuA)))) (N zix (N zkk (N zgw (L zal) (L zsz)) (N zld (L zal) (L zal))) (N zar (N ziJ (L zae) (L ztF)) (N zae (L zae) z)))) (N zhK (N zar (N zjL (N zar (L zom) (L ztw)) (N zk6 (L zae) (L zae))) (N zlK (N zhI (L zoY) (L zal)) (N zmc (L zq9) z))) (N zi8 (N zar (N zgR (L zoF) (L zti)) (N zms (L zqX) (L zt6))) (N zmi (N zar (L zal) (L ztc)) (N znA (L zsY) z))))) (N zgU (N zhR (N zim (N zjG (N zfU (L zal) (L zr2)) (N zar (L zae) (L zae))) (N zar (N zhm (L zae) (L zsN)) (N zmE (L zqO) (L zu0)))) (N zar (N zkg (N zar (L zoK) (L zsx)) (N zlA (L zq6) (L zuz))) (N zmB (N ziR (L zqs) (L zal)) (N znu (L zsb) z)))) (N zar (N ziA (N zar (N zgv (L zoQ) (L zal)) (N zkZ (L zp8) (L zvi))) (N zlH (N zar (L zal) (L zae)) (N zae (L zae) z))) (N zi1 (N zly (N zgT (L zo7) (L zae)) (N zmh (L zal) (L zuq))) (N zar (N zj5 (L zae) (L zuF)) (N zas (L ztu) z))))))) (N x.r.a.a.c (N x.r.a.a.e (N x.r.a.b.a (N zar (N zal (N zas (N zal (L zae) (L zsS)) (N zjY (L zqt) (L zvj))) (N zlf (N zas (L zpG) (L zs3)) (N zmF (L zqC) (L zuL)))) (N ziO (N zal (N zgB (L zae) (L zsF)) (N zli (L zae) (L zae))) (N zas (N zal (L zrk) (L zae)) (N zm8 (L zrw) z)))) (N znT (N zas (N zjy (N zas (L zn2) (L zal)) (N zkH (L zrc) (L zur))) (N zal (N zib (L zae) (L zae)) (N zl8 (L zrv) z))) (N zal (N zas (N zal (L zal) (L ztp)) (N zar (L zal) (L zal))) (N zlX (N zas (L zae) (L ztf)) (N znv (L zsI) z))))) (N zuU (N zif (N zio (N zal (N zfT (L zae) (L ztr)) (N zas (L zrh) (L zvf))) (N zas (N zal (L zpd) (L zae)) (N zma (L zal) (L zal)))) (N zas (N zki (N zas (L zoV) (L zal)) (N zko (L zp9) (L zub))) (N zal (N ziv (L zae) (L zae)) (N zae (L ztJ) z)))) (N zas (N zal (N zas (N zal (L zoH) (L zae)) (N zal (L zae) (L zae))) (N zlJ (N zas (L zae) (L zs4)) (N zny (L zqw) z))) (N zi4 (N zal (N zg2 (L zpt) (L zsV)) (N zmd (L zae) (L zuM))) (N zas (N zal (L zqa) (L zal)) (N znb (L zal) z)))))) (N x.r.a.a.g (N x.r.a.b.c (N zae (N zik (N zjp (N zfX (L zo9) (L zae)) (N zjE (L zae) (L zae))) (N zk0 (N zho (L zoS) (L zal)) (N zl6 (L zqx) (L zuu)))) (N ziB (N zkf (N zgx (L zoj) (L ztv)) (N zkD (L zqm) (L zu7))) (N zlR (N ziK (L zal) (L zsA)) (N zal (L zal) z)))) (N zhP (N ziz (N zjq (N zgi (L zoA) (L zta)) (N zlD (L zal) (L zal))) (N zlM (N zhM (L znS) (L zsv)) (N zas (L zae) z))) (N ziT (N zlp (N zgO (L zae) (L zae)) (N zae (L zqK) (L zae))) (N zmC (N zjB (L zrp) (L zsc)) (N znh (L zr0) z))))) (N zgX (N zae (N ziq (N zjH (N zfM (L zoq) (L ztB)) (N zk3 (L zq8) (L zuN))) (N zlP (N zhC (L zal) (L zs5)) (N zmz (L zae) (L zuh)))) (N ziS (N zkl (N zg1 (L zpz) (L zae)) (N zk1 (L zqN) (L zuW))) (N zlW (N ziI (L zp3) (L zr3)) (N znl (L zae) z)))) (N zih (N zis (N zkh (N zgq (L znW) (L zsn)) (N zae (L zpX) (L zuK))) (N zlI (N ziM (L zqu) (L zal)) (N znj (L zq5) z))) (N zjc (N zlm (N zgV (L zae) (L ztn)) (N zae (L zra) (L zae))) (N zfS (N zj9 (L zal) (L zae)) (N zar (L zae) z))))))))
def m1400 : Heap := ⟨⟨[x.r.a.a.a, x.r.a.a.b, x.r.a.a.c, zuj, x.r.a.a.e, x.r.a.a.f, x.r.a.a.g, x.r.a.a.h, x.r.a.b.a, x.r.a.b.b, x.r.a.b.c, zae, zuU, zgU, zgX, zhX, zar, zhj, zae, zal, zif, zhR, zae, zhp, znT, zhK, zhP, zhW, zas, zar, zih, zae, zal, zij, zik, zae, zio, zim, ziq, zin, zas, zar, ziz, zae, zal, ziA, zis, zae, ziO, zix, ziB, ziP, zas, zar, ziS, zae, zal, zi8, ziT, zae, zi4, zi1, zjc, ziW, zas, zar, zjp, zae, zal, zjG, zjH, zae, zjy, zjL, zjq, zj6, zas, zar, zkh, zae, zal, zkk, zkf, zae, zki, zkg, zkl, zkj, zas, zar, zlp, zae, zal, zly, zlm, zae, zlf, zlj, zk0, zlz, zas, zar, zlP, zae, zal, zlK, zlM, zae, zlJ, zlH, zlI, zlL, zas, zar, zlR, zae, zal, zmB, zlW, zae, zlX, zmi, zmC, zmb, zas, zar, zfS, zae, zal, zgc, zfX, zae, zfT, zfU, zfM, zgd, zas, zar, zgi, zae, zal, zgv, zgq, zae, zgB, zgw, zgx, zgg, zas, zar, zg1, zae, zal, zgR, zgO, zae, zg2, zgT, zgV, zgS, zas, zar, zho, zae, zal, zhm, zhC, zae, zib, zhI, zhM, zhQ, zas, zar, ziM, zae, zal, ziJ, ziK, zae, ziv, ziR, ziI, ziy, zas, zar, zjB, zae, zal, zj5, zj9, zae, zjY, zjw, zjE, zjT, zas, zar, zk3, zae, zkH, zk6, zlD, zae, zal, zkZ, zae, zlo, zli, zld, zkD, zkq, zko, zlA, zk1, zas, zar, zms, zae, zlV, zmd, zmh, zae, zal, zmF, zae, zl6, zl3, zma, zmE, zmz, zl0, zl8, zmc, zas, zar, zny, zae, znj, znC, zm8, zae, zal, znK, zae, znu, znl, zm2, znv, znA, znh, znJ, znb, zas, zar, zpy, zae, zoo, zo9, zpD, zae, zal, zoq, zae, zn2, zom, zoA, znZ, zoH, zoQ, znW, zoL, zae, zal, zoj, zae, zoV, zoK, zpz, zae, zal, zoF, zae, zoO, zpt, zo7, zae, zal, zpG, zae, zoS, zoc, zpd, zae, zal, zps, zae, zoY, znS, zn0, zae, zal, zqu, zqh, zrk, zae, zal, zri, zae, zqs, zp3, zrq, zae, zal, zrp, zp5, zqa, zae, zal, zqz, zqt, zqL, zae, zal, zrh, zae, zq8, zpT, zrc, zae, zal, zqr, zae, zp8, zpX, zrd, zae, zal, zqm, zae, zp9, zq6, zqN, zae, zal, zqX, zqK, zru, zae, zal, zra, zae, zqC, zqe, zqx, zae, zal, zqO, zae, zqU, zrv, zq9, zae, zal, zqw, zae, zq5, zq2, zrw, zae, zal, ztH, ztJ, zsb, zae, zal, zsI, zsY, zr0, zae, zal, ztu, zae, ztj, zsS, zsP, zae, zal, ztr, zr2, ztB, zae, zal, ztw, zta, zsl, zae, zal, zsn, zae, zsF, zsz, ztv, zae, zal, zsx, zae, ztD, ztp, zti, zae, zal, zsV, zae, ztn, zs7, zs3, zae, zal, zsC, zae, zsN, zs5, zsR, zae, zal, zsv, zr7, zs4, zae, zal, zsa, zae, ztF, zsA, zsM, zae, zal, zr3, zae, ztf, ztc, zsc, zae, zal, zuF, zae, zud, zvj, zuI, zae, zal, zvf, zae, zuN, zuf, zur, zae, zal, zuo, zae, zvi, zuK, zve, zae, zal, zu7, zae, zub, zuz, zuW, zae, zal, zt6, zae, zvc, zuM, zuq, zae, zal, zuL, zuA, zuu, zae, zal, zu0, zuh, zva]⟩, ⟨[], [], [], 0, [], [], false, #[], [], 0, false, false, false, 0, [2000, 10, 10], false, 0, true, [], [], 0, false⟩⟩
end
def m855v (p : Program) : Program := { p with main := { p.main with body := [sp p 1, sp p 2, sp p 3, sp p 4, sp p 5, sp p 6, sp p 7, sp p 8, sp p 9, sp p 10, sp p 11, sp p 12, sp p 13, sp p 14, sp p 15, sp p 16, sp p 17, sp p 18, sp p 19, sp p 21, sp p 22, sp p 24, sp p 25, sp p 26, sp p 28, sp p 29, sp p 30, sp p 31, sp p 32, sp p 33, sp p 34, sp p 35, sp p 36, sp p 38, sp p 39, sp p 40, sp p 41, sp p 42, sp p 43, sp p 44, sp p 45, sp p 46, sp p 47, sp p 49, sp p 50, sp p 51, sp p 52, sp p 53, sp p 54, sp p 55, sp p 56, sp p 57, sp p 58, sp p 59, sp p 60, sp p 61, sp p 62] } }
def m865s (p : Program) : List Stmt := [sp p 0, sp p 1]
def m880s (p : Program) : List Stmt := [sp p 2]
def m895s (p : Program) : List Stmt := [sp p 3]
def m910s (p : Program) : List Stmt := [sp p 4]
def m925s (p : Program) : List Stmt := [sp p 5]
def m940s (p : Program) : List Stmt := [sp p 6]
def m955s (p : Program) : List Stmt := [sp p 7]
def m970s (p : Program) : List Stmt := [sp p 8]
def m985s (p : Program) : List Stmt := [sp p 9]
def m1000s (p : Program) : List Stmt := [sp p 10]
def m1015s (p : Program) : List Stmt := [sp p 11]
def m1030s (p : Program) : List Stmt := [sp p 12]
def m1045s (p : Program) : List Stmt := [sp p 13]
def m1060s (p : Program) : List Stmt := [sp p 14]
def m1075s (p : Program) : List Stmt := [sp p 15]
def m1090s (p : Program) : List Stmt := [sp p 16]
def m1112s (p : Program) : List Stmt := [sp p 17]
def m1134s (p : Program) : List Stmt := [sp p 18]
def m1156s (p : Program) : List Stmt := [sp p 19, sp p 20, sp p 21, sp p 22, sp p 23, sp p 24, sp p 25]
def m1206s (p : Program) : List Stmt := [sp p 26, sp p 27, sp p 28, sp p 29, sp p 30, sp p 31, sp p 32, sp p 33, sp p 34, sp p 35, sp p 36, sp p 37, sp p 38, sp p 39, sp p 40, sp p 41, sp p 42]
def m1277s (p : Program) : List Stmt := [sp p 43, sp p 44, sp p 45, sp p 46, sp p 47, sp p 48, sp p 49, sp p 50, sp p 51, sp p 52, sp p 53, sp p 54, sp p 55]
def m1353s (p : Program) : List Stmt := [sp p 56, sp p 57, sp p 58, sp p 59, sp p 60, sp p 61, sp p 62]
def u0 : Q Str := ⟨Str.ofString "<module>", Str.ofString "/claim/cut.py", Str.ofString "__main__", Str.ofString "__name__", Str.ofString "hideworth.errors", Str.ofString "__doc__", Str.ofString "__package__", Str.ofString "__loader__"⟩
def u1 : Q Str := ⟨Str.ofString "__spec__", Str.ofString "__annotations__", Str.ofString "__builtins__", Str.ofString "__file__", Str.ofString "__cached__", Str.ofString "HideError", Str.ofString "__module__", Str.ofString "__qualname__"⟩
def u2 : Q Str := ⟨Str.ofString "__firstlineno__", Str.ofString "__static_attributes__", Str.ofString "__weakref__", Str.ofString "NoNumber", Str.ofString "NoTable", Str.ofString "NoBoxes", Str.ofString "NoBudget", Str.ofString "NoOrder"⟩
def u3 : Q Str := ⟨Str.ofString "NoWeights", Str.ofString "TooGreat", Str.ofString "NoKind", Str.ofString "NoTree", Str.ofString "NoTurns", Str.ofString "NoPlay", Str.ofString "NoRow", Str.ofString "NoName"⟩
def u4 : Q Str := ⟨Str.ofString "NoRoad", Str.ofString "NoWeb", Str.ofString "__init__", Str.ofString "self", Str.ofString "road", Str.ofString "NoWeb.__init__", Str.ofString "NoPlan", Str.ofString "at"⟩
def u5 : Q Str := ⟨Str.ofString "NoPlan.__init__", Str.ofString "NoText", Str.ofString "row", Str.ofString "NoText.__init__", Str.ofString "hideworth.checks", Str.ofString "NoPaper", Str.ofString "divisor", Str.ofString "ratio"⟩
def u6 : Q Str := ⟨Str.ofString "is_whole", Str.ofString "is_within", Str.ofString "k", Str.ofString "NoPaper.__init__", Str.ofString "one", Str.ofString "other", Str.ofString "rest", Str.ofString "hideworth.ratios"⟩
def u7 : Q Str := ⟨Str.ofString "top", Str.ofString "bottom", Str.ofString "shared", Str.ofString "thing", Str.ofString "least", Str.ofString "most", Str.ofString "hideworth.orders", Str.ofString "are_weights"⟩
def u8 : Q Str := ⟨Str.ofString "MOST_BOXES", Str.ofString "MOST_COST", Str.ofString "MOST_OF", Str.ofString "MOST_LOOKS", Str.ofString "is_box", Str.ofString "look_boxes", Str.ofString "is_plan", Str.ofString "power"⟩
def u9 : Q Str := ⟨Str.ofString "missed", Str.ofString "look_plan", Str.ofString "is_order", Str.ofString "look_order", Str.ofString "looks_bottom", Str.ofString "chance_tops", Str.ofString "cost", Str.ofString "hits"⟩
def u10 : Q Str := ⟨Str.ofString "of", Str.ofString "hideworth.boxes", Str.ofString "base", Str.ofString "count", Str.ofString "product", Str.ofString "box", Str.ofString "boxes", Str.ofString "weights"⟩
def u11 : Q Str := ⟨Str.ofString "plan", Str.ofString "order", Str.ofString "weight", Str.ofString "tops", Str.ofString "part", Str.ofString "law_hideworth_k27_orders_refused", Str.ofString "tops_by_box", Str.ofString "looks_in"⟩
def u12 : Q Str := ⟨Str.ofString "awaited", Str.ofString "is_sorted", Str.ofString "best_order", Str.ofString "_law_purse", Str.ofString "_law_draw", Str.ofString "_law_boxes", Str.ofString "_law_weights", Str.ofString "_law_plan"⟩
def u13 : Q Str := ⟨Str.ofString "_law_order", Str.ofString "_law_no_boxes", Str.ofString "paid", Str.ofString "left", Str.ofString "_law_script", Str.ofString "_law_cells", Str.ofString "_law_purse_here", Str.ofString "_law_out_of"⟩
def u14 : Q Str := ⟨Str.ofString "_law_turn", Str.ofString "_law_at", Str.ofString "_law_cell", Str.ofString "_law_number", Str.ofString "_law_most", Str.ofString "_law_found", Str.ofString "_law_k", Str.ofString "_law_cost"⟩
def u15 : Q Str := ⟨Str.ofString "_law_of", Str.ofString "_law_hits", Str.ofString "_law_many", Str.ofString "_law_plan_here", Str.ofString "_law_boxes_here", Str.ofString "_law_far", Str.ofString "_law_bent", Str.ofString "_law_way"⟩
def u16 : Q Str := ⟨Str.ofString "_law_no_numbers", Str.ofString "_law_marks", Str.ofString "_law_no_order", Str.ofString "_law_asked", Str.ofString "_law_refused", Str.ofString "_law_choices", Str.ofString "law", Str.ofString "_law_numbers"⟩
def u17 : Q Str := ⟨Str.ofString "_law_things", Str.ofString "_law_caught", Str.ofString "_law_order_here", Str.ofString "_law_some", Str.ofString "_law_place", Str.ofString "_law_other", Str.ofString "_law_weights_here", Str.ofString "e"⟩
def v0 : Q String := ⟨"tuple", "code", "frame", "dict", "__main__.__loader__#opaque", "ValueError", "builtin_function_or_method", "type.__prepare__"⟩
def v1 : Q String := ⟨"type", "Exception", "BaseException", "object", "ValueError.__new__", "getset_descriptor", "ExceptionGroup.__weakref__", "super"⟩
def v2 : Q String := ⟨"object.__init_subclass__", "function", "function", "function", "function", "function", "function", "function"⟩
def w0 (P : Params) : Q Obj := ⟨W.boot_o_0 P, W.boot_o_1 P, W.boot_o_2 P, W.boot_o_3 P, W.boot_o_4 P, W.boot_o_5 P, W.boot_o_6 P, W.boot_o_7 P⟩
def w1 (P : Params) : Q Obj := ⟨W.boot_o_8 P, W.boot_o_9 P, W.boot_o_10 P, W.boot_o_10 P, W.boot_o_10 P, W.boot_o_10 P, W.boot_o_10 P, W.boot_o_10 P⟩
lay_quick u0 u1 u2 u3 u4 u5 u6 u7 u8 u9 u10 u11 u12 u13 u14 u15 u16 u17 v0 v1 v2 w0 w1 PySem.Challenge.pw_hideworth_k27_orders_refused
def K (a' b' c' d' e' f' g' h' i' j' k' l' m' n' o' p' q' r' : Q Str) (s' t' u' : Q String) (v' w' : Params → Q Obj) (x' : Program) (P : Params) : X := ⟨⟨⟨a',b',c',d',e',f',g',h'⟩,⟨i',j',k',l',m',n',o',p'⟩,⟨q',r',r',r',r',r',r',r'⟩,⟨q',r',r',r',r',r',r',r'⟩,⟨q',r',r',r',r',r',r',r'⟩,⟨q',r',r',r',r',r',r',r'⟩,⟨q',r',r',r',r',r',r',r'⟩,⟨q',r',r',r',r',r',r',r'⟩⟩,⟨⟨s',t',u',u',u',u',u',u'⟩,⟨s',t',u',u',u',u',u',u'⟩,⟨s',t',u',u',u',u',u',u'⟩,⟨s',t',u',u',u',u',u',u'⟩,⟨s',t',u',u',u',u',u',u'⟩,⟨s',t',u',u',u',u',u',u'⟩,⟨s',t',u',u',u',u',u',u'⟩,⟨s',t',u',u',u',u',u',u'⟩⟩,⟨⟨v' P,w' P,w' P,w' P,w' P,w' P,w' P,w' P⟩,⟨v' P,w' P,w' P,w' P,w' P,w' P,w' P,w' P⟩,⟨v' P,w' P,w' P,w' P,w' P,w' P,w' P,w' P⟩,⟨v' P,w' P,w' P,w' P,w' P,w' P,w' P,w' P⟩,⟨v' P,w' P,w' P,w' P,w' P,w' P,w' P,w' P⟩,⟨v' P,w' P,w' P,w' P,w' P,w' P,w' P,w' P⟩,⟨v' P,w' P,w' P,w' P,w' P,w' P,w' P,w' P⟩,⟨v' P,w' P,w' P,w' P,w' P,w' P,w' P,w' P⟩⟩,x',P⟩
def k0 := K u0 u1 u2 u3 u4 u5 u6 u7 u8 u9 u10 u11 u12 u13 u14 u15 u16 u17 v0 v1 v2 w0 w1 PySem.Challenge.pw_hideworth_k27_orders_refused
def k1 := K tw13894225608423057668 tw17531079430653816501 tw13809737476558091540 tw2367299412457286945 tw1912701158020654693 tw2188347355606102534 tw16368670287772101220 tw14842115654739255404 tw4717311838995323452 tw594758545415977400 tw10895325593200808953 tw10037743213843438893 tw10009084784789568687 tw5084553986333570498 tw16641277437810104112 tw11875653558476324687 tw1672153094372761355 tw4580522010931877059 tw15633551313878501473 tw10735261366311057212 tw13734974896645664886 tw1278260381020688717 tw13492767390215788210 tw6200526144490950670
theorem ke : k0 = k1 := by
  unfold k0 k1
  rw [te13894225608423057668, te17531079430653816501, te13809737476558091540, te2367299412457286945, te1912701158020654693, te2188347355606102534, te16368670287772101220, te14842115654739255404, te4717311838995323452, te594758545415977400, te10895325593200808953, te10037743213843438893, te10009084784789568687, te5084553986333570498, te16641277437810104112, te11875653558476324687, te1672153094372761355, te4580522010931877059, te15633551313878501473, te10735261366311057212, te13734974896645664886, te1278260381020688717, te13492767390215788210, te6200526144490950670]
theorem kE {β : Type _} (f : X → β) : (fun P => f (k0 P)) = fun P => f (k1 P) := congrArg (fun y P => f (y P)) ke
end Hd
namespace PySem.W.Fast
def tw467750046940765896 : Program := Hd.m855v tw6200526144490950670
theorem te467750046940765896 : Hd.m855v PySem.Challenge.pw_hideworth_k27_orders_refused = tw467750046940765896 := congrArg Hd.m855v te6200526144490950670
def tw15980800987535698287 (P : Params) : Heap := @Hd.m862 (Hd.k1 P)
theorem te15980800987535698287 : (fun P => @Hd.m862 (Hd.k0 P)) = tw15980800987535698287 := Hd.kE @Hd.m862
def tw13868816665470032156 (P : Params) : BT := @Hd.m863 (Hd.k1 P)
theorem te13868816665470032156 : (fun P => @Hd.m863 (Hd.k0 P)) = tw13868816665470032156 := Hd.kE @Hd.m863
def tw13878471558434088512 : List Stmt := Hd.m865s tw6200526144490950670
theorem te13878471558434088512 : Hd.m865s PySem.Challenge.pw_hideworth_k27_orders_refused = tw13878471558434088512 := congrArg Hd.m865s te6200526144490950670
def tw1882465954763362869 (P : Params) : BT := @Hd.m879 (Hd.k1 P)
theorem te1882465954763362869 : (fun P => @Hd.m879 (Hd.k0 P)) = tw1882465954763362869 := Hd.kE @Hd.m879
def tw16605039007788186008 : List Stmt := Hd.m880s tw6200526144490950670
theorem te16605039007788186008 : Hd.m880s PySem.Challenge.pw_hideworth_k27_orders_refused = tw16605039007788186008 := congrArg Hd.m880s te6200526144490950670
def tw14529572538356912005 (P : Params) : BT := @Hd.m894 (Hd.k1 P)
theorem te14529572538356912005 : (fun P => @Hd.m894 (Hd.k0 P)) = tw14529572538356912005 := Hd.kE @Hd.m894
def tw15897099077868197573 : List Stmt := Hd.m895s tw6200526144490950670
theorem te15897099077868197573 : Hd.m895s PySem.Challenge.pw_hideworth_k27_orders_refused = tw15897099077868197573 := congrArg Hd.m895s te6200526144490950670
def tw12076685371616934815 (P : Params) : BT := @Hd.m909 (Hd.k1 P)
theorem te12076685371616934815 : (fun P => @Hd.m909 (Hd.k0 P)) = tw12076685371616934815 := Hd.kE @Hd.m909
def tw10190546310448601802 : List Stmt := Hd.m910s tw6200526144490950670
theorem te10190546310448601802 : Hd.m910s PySem.Challenge.pw_hideworth_k27_orders_refused = tw10190546310448601802 := congrArg Hd.m910s te6200526144490950670
def tw9717568170384881713 (P : Params) : BT := @Hd.m924 (Hd.k1 P)
theorem te9717568170384881713 : (fun P => @Hd.m924 (Hd.k0 P)) = tw9717568170384881713 := Hd.kE @Hd.m924
def tw2618557906014845524 : List Stmt := Hd.m925s tw6200526144490950670
theorem te2618557906014845524 : Hd.m925s PySem.Challenge.pw_hideworth_k27_orders_refused = tw2618557906014845524 := congrArg Hd.m925s te6200526144490950670
def tw508700805986781866 (P : Params) : BT := @Hd.m939 (Hd.k1 P)
theorem te508700805986781866 : (fun P => @Hd.m939 (Hd.k0 P)) = tw508700805986781866 := Hd.kE @Hd.m939
def tw13736755713234602140 : List Stmt := Hd.m940s tw6200526144490950670
theorem te13736755713234602140 : Hd.m940s PySem.Challenge.pw_hideworth_k27_orders_refused = tw13736755713234602140 := congrArg Hd.m940s te6200526144490950670
def tw5115933946320854924 (P : Params) : BT := @Hd.m954 (Hd.k1 P)
theorem te5115933946320854924 : (fun P => @Hd.m954 (Hd.k0 P)) = tw5115933946320854924 := Hd.kE @Hd.m954
def tw4372900701944734104 : List Stmt := Hd.m955s tw6200526144490950670
theorem te4372900701944734104 : Hd.m955s PySem.Challenge.pw_hideworth_k27_orders_refused = tw4372900701944734104 := congrArg Hd.m955s te6200526144490950670
def tw18324385246952231177 (P : Params) : BT := @Hd.m969 (Hd.k1 P)
theorem te18324385246952231177 : (fun P => @Hd.m969 (Hd.k0 P)) = tw18324385246952231177 := Hd.kE @Hd.m969
def tw7525503795234841098 : List Stmt := Hd.m970s tw6200526144490950670
theorem te7525503795234841098 : Hd.m970s PySem.Challenge.pw_hideworth_k27_orders_refused = tw7525503795234841098 := congrArg Hd.m970s te6200526144490950670
def tw11534043872649267957 (P : Params) : BT := @Hd.m984 (Hd.k1 P)
theorem te11534043872649267957 : (fun P => @Hd.m984 (Hd.k0 P)) = tw11534043872649267957 := Hd.kE @Hd.m984
def tw3786847059676142374 : List Stmt := Hd.m985s tw6200526144490950670
theorem te3786847059676142374 : Hd.m985s PySem.Challenge.pw_hideworth_k27_orders_refused = tw3786847059676142374 := congrArg Hd.m985s te6200526144490950670
def tw16093699595810940357 (P : Params) : BT := @Hd.m999 (Hd.k1 P)
theorem te16093699595810940357 : (fun P => @Hd.m999 (Hd.k0 P)) = tw16093699595810940357 := Hd.kE @Hd.m999
def tw574289488270011079 : List Stmt := Hd.m1000s tw6200526144490950670
theorem te574289488270011079 : Hd.m1000s PySem.Challenge.pw_hideworth_k27_orders_refused = tw574289488270011079 := congrArg Hd.m1000s te6200526144490950670
def tw15191197085492752907 (P : Params) : BT := @Hd.m1014 (Hd.k1 P)
theorem te15191197085492752907 : (fun P => @Hd.m1014 (Hd.k0 P)) = tw15191197085492752907 := Hd.kE @Hd.m1014
def tw10615699962347467150 : List Stmt := Hd.m1015s tw6200526144490950670
theorem te10615699962347467150 : Hd.m1015s PySem.Challenge.pw_hideworth_k27_orders_refused = tw10615699962347467150 := congrArg Hd.m1015s te6200526144490950670
def tw8075616374406210834 (P : Params) : BT := @Hd.m1029 (Hd.k1 P)
theorem te8075616374406210834 : (fun P => @Hd.m1029 (Hd.k0 P)) = tw8075616374406210834 := Hd.kE @Hd.m1029
def tw2420876901941535342 : List Stmt := Hd.m1030s tw6200526144490950670
theorem te2420876901941535342 : Hd.m1030s PySem.Challenge.pw_hideworth_k27_orders_refused = tw2420876901941535342 := congrArg Hd.m1030s te6200526144490950670
def tw15523543454668495736 (P : Params) : BT := @Hd.m1044 (Hd.k1 P)
theorem te15523543454668495736 : (fun P => @Hd.m1044 (Hd.k0 P)) = tw15523543454668495736 := Hd.kE @Hd.m1044
def tw12815557502054393654 : List Stmt := Hd.m1045s tw6200526144490950670
theorem te12815557502054393654 : Hd.m1045s PySem.Challenge.pw_hideworth_k27_orders_refused = tw12815557502054393654 := congrArg Hd.m1045s te6200526144490950670
def tw15049430275212480761 (P : Params) : BT := @Hd.m1059 (Hd.k1 P)
theorem te15049430275212480761 : (fun P => @Hd.m1059 (Hd.k0 P)) = tw15049430275212480761 := Hd.kE @Hd.m1059
def tw624984406494492921 : List Stmt := Hd.m1060s tw6200526144490950670
theorem te624984406494492921 : Hd.m1060s PySem.Challenge.pw_hideworth_k27_orders_refused = tw624984406494492921 := congrArg Hd.m1060s te6200526144490950670
def tw16623101956552279943 (P : Params) : BT := @Hd.m1074 (Hd.k1 P)
theorem te16623101956552279943 : (fun P => @Hd.m1074 (Hd.k0 P)) = tw16623101956552279943 := Hd.kE @Hd.m1074
def tw15341660248117287408 : List Stmt := Hd.m1075s tw6200526144490950670
theorem te15341660248117287408 : Hd.m1075s PySem.Challenge.pw_hideworth_k27_orders_refused = tw15341660248117287408 := congrArg Hd.m1075s te6200526144490950670
def tw1601779586502867022 (P : Params) : BT := @Hd.m1089 (Hd.k1 P)
theorem te1601779586502867022 : (fun P => @Hd.m1089 (Hd.k0 P)) = tw1601779586502867022 := Hd.kE @Hd.m1089
def tw7635733593362837648 : List Stmt := Hd.m1090s tw6200526144490950670
theorem te7635733593362837648 : Hd.m1090s PySem.Challenge.pw_hideworth_k27_orders_refused = tw7635733593362837648 := congrArg Hd.m1090s te6200526144490950670
def tw11151032157507107434 (P : Params) : BT := @Hd.m1111 (Hd.k1 P)
theorem te11151032157507107434 : (fun P => @Hd.m1111 (Hd.k0 P)) = tw11151032157507107434 := Hd.kE @Hd.m1111
def tw8130949522119300420 : List Stmt := Hd.m1112s tw6200526144490950670
theorem te8130949522119300420 : Hd.m1112s PySem.Challenge.pw_hideworth_k27_orders_refused = tw8130949522119300420 := congrArg Hd.m1112s te6200526144490950670
def tw14446695639618706297 (P : Params) : BT := @Hd.m1133 (Hd.k1 P)
theorem te14446695639618706297 : (fun P => @Hd.m1133 (Hd.k0 P)) = tw14446695639618706297 := Hd.kE @Hd.m1133
def tw15645671846080870575 : List Stmt := Hd.m1134s tw6200526144490950670
theorem te15645671846080870575 : Hd.m1134s PySem.Challenge.pw_hideworth_k27_orders_refused = tw15645671846080870575 := congrArg Hd.m1134s te6200526144490950670
def tw10658578701660681992 (P : Params) : BT := @Hd.m1155 (Hd.k1 P)
theorem te10658578701660681992 : (fun P => @Hd.m1155 (Hd.k0 P)) = tw10658578701660681992 := Hd.kE @Hd.m1155
def tw9801214544164298698 : List Stmt := Hd.m1156s tw6200526144490950670
theorem te9801214544164298698 : Hd.m1156s PySem.Challenge.pw_hideworth_k27_orders_refused = tw9801214544164298698 := congrArg Hd.m1156s te6200526144490950670
def tw15312252992248852955 (P : Params) : BT := @Hd.m1205 (Hd.k1 P)
theorem te15312252992248852955 : (fun P => @Hd.m1205 (Hd.k0 P)) = tw15312252992248852955 := Hd.kE @Hd.m1205
def tw3973119421098424658 : List Stmt := Hd.m1206s tw6200526144490950670
theorem te3973119421098424658 : Hd.m1206s PySem.Challenge.pw_hideworth_k27_orders_refused = tw3973119421098424658 := congrArg Hd.m1206s te6200526144490950670
def tw13709601617993061456 (P : Params) : BT := @Hd.m1276 (Hd.k1 P)
theorem te13709601617993061456 : (fun P => @Hd.m1276 (Hd.k0 P)) = tw13709601617993061456 := Hd.kE @Hd.m1276
def tw14799936798025993317 : List Stmt := Hd.m1277s tw6200526144490950670
theorem te14799936798025993317 : Hd.m1277s PySem.Challenge.pw_hideworth_k27_orders_refused = tw14799936798025993317 := congrArg Hd.m1277s te6200526144490950670
def tw16937442773807415148 (P : Params) : BT := @Hd.m1352 (Hd.k1 P)
theorem te16937442773807415148 : (fun P => @Hd.m1352 (Hd.k0 P)) = tw16937442773807415148 := Hd.kE @Hd.m1352
def tw4757402364754552749 : List Stmt := Hd.m1353s tw6200526144490950670
theorem te4757402364754552749 : Hd.m1353s PySem.Challenge.pw_hideworth_k27_orders_refused = tw4757402364754552749 := congrArg Hd.m1353s te6200526144490950670
def tw11678716497949025040 (P : Params) : BT := @Hd.m1399 (Hd.k1 P)
theorem te11678716497949025040 : (fun P => @Hd.m1399 (Hd.k0 P)) = tw11678716497949025040 := Hd.kE @Hd.m1399
def tw15885981496902766448 (P : Params) : Heap := @Hd.m1400 (Hd.k1 P)
theorem te15885981496902766448 : (fun P => @Hd.m1400 (Hd.k0 P)) = tw15885981496902766448 := Hd.kE @Hd.m1400
end PySem.W.Fast
end
open PySem PySem.W PyProof.Rows PySem.W.X PySem.W.ZRun
set_option maxRecDepth 100000 in
set_option maxHeartbeats 0 in
theorem PySem.Challenge.cw_hideworth_k27_orders_refused_holds : PySem.Challenge.rw_hideworth_k27_orders_refused.Holds := by
 w_on;o_law;z_head;(case hw=>w_witness2)
 k_fill
 intro w s0 s1 m0 m1 G Y fa o pm cd doc dV kV ho hd hc hD hm hg xs vs as L h1 h2 h3 h4 h5
 z_open Y L KX ZH ZN ZT
 refine My.walk_at (l:=PySem.Challenge.rw_hideworth_k27_orders_refused) KX (fun W=>W w s0 s1 m0 m1 G KX fa o pm cd doc dV kV ho hd hc hD hm hg xs vs as h1 h2 h3 h4 h5) (My.walk (l:=PySem.Challenge.rw_hideworth_k27_orders_refused) rfl rfl (fun _ _ h=>h) ?F)
 case F =>
  intro w mg fa h KX G hmg
  refine' My.zuZ KX G hmg (My.zt9 KX G (L2.zbG ?l0 ?c0 ?k0) (mg_of KX G ?a0) (L2.zbG ?l1 ?c1 ?k1) (mg_of KX G ?a1) (L2.zbG ?l2 ?c2 ?k2) (mg_of KX G ?a2) (L2.zbG ?l3 ?c3 ?k3) (mg_of KX G ?a3) (L2.zbG ?l4 ?c4 ?k4) (mg_of KX G ?a4) (L2.zbG ?l5 ?c5 ?k5) (mg_of KX G ?a5) (L2.zbG ?l6 ?c6 ?k6) (mg_of KX G ?a6) (L2.zbG ?l7 ?c7 ?k7) (mg_of KX G ?a7) (L2.zbG ?l8 ?c8 ?k8) (mg_of KX G ?a8) (L2.zbG ?l9 ?c9 ?k9) (mg_of KX G ?a9) (L2.zbG ?l10 ?c10 ?k10) (mg_of KX G ?a10) (L2.zbG ?l11 ?c11 ?k11) (mg_of KX G ?a11) (L2.zbG ?l12 ?c12 ?k12) (mg_of KX G ?a12) (L2.zbG ?l13 ?c13 ?k13) (mg_of KX G ?a13) (L2.zbG ?l14 ?c14 ?k14) (mg_of KX G ?a14) (L2.zbG ?l15 ?c15 ?k15) (mg_of KX G ?a15) (L2.zbG ?l16 ?c16 ?k16) (mg_of KX G ?a16) (L2.zbG ?l17 ?c17 ?k17) (mg_of KX G ?a17) (L2.zbG ?l18 ?c18 ?k18) (mg_of KX G ?a18) (L2.zbG ?l19 ?c19 ?k19) (mg_of KX G ?a19) (L2.zbG ?l20 ?c20 ?k20) (mg_of KX G ?a20) (L2.zbG ?l21 ?c21 ?k21) (mg_of KX G ?a21) (L2.zbG ?l22 ?c22 ?k22) (mg_of KX G ?a22) (L2.zbG ?l23 ?c23 ?k23) (mg_of KX G ?a23) (L2.zbG ?l24 ?c24 ?k24) (mg_of KX G ?a24) (L2.zbG ?l25 ?c25 ?k25) (mg_of KX G ?a25) (L2.zbG ?l26 ?c26 ?k26) (mg_of KX G ?a26) (L2.zbG ?l27 ?c27 ?k27) (mg_of KX G ?a27) (L2.zbG ?l28 ?c28 ?k28) (mg_of KX G ?a28) (L2.zbG ?l29 ?c29 ?k29) (mg_of KX G ?a29) (L2.zbG ?l30 ?c30 ?k30) (mg_of KX G ?a30) (L2.zbG ?l31 ?c31 ?k31) (mg_of KX G ?a31) (L2.zbG ?l32 ?c32 ?k32) (mg_of KX G ?a32) (L2.zbG ?l33 ?c33 ?k33) (mg_of KX G ?a33) (mg_none_of KX G ?z_zip) (mg_none_of KX G ?z_sum) (mg_none_of KX G ?z_list) (mg_none_of KX G ?z_range) (mg_none_of KX G ?z_len) (mg_none_of KX G ?z_all) (mg_none_of KX G ?z_max) (mg_none_of KX G ?z_abs) (mg_none_of KX G ?z_isinstance) (mg_none_of KX G ?z_int) (mg_none_of KX G ?z_bool) (mg_none_of KX G ?z_tuple) (mg_none_of KX G ?z_str) (mg_none_of KX G ?z_enumerate) (mg_none_of KX G ?z_sorted) (mg_none_of KX G ?z_ValueError) (mg_of KX G ?ac_HideError) (mg_of KX G ?ac_NoWeb) (mg_of KX G ?ac_NoPlan) (mg_of KX G ?ac_NoText) (mg_of KX G ?ac_NoKind) (mg_of KX G ?ac_TooGreat) (mg_of KX G ?ac_NoTree) (mg_of KX G ?ac_NoWeights) (mg_of KX G ?ac_NoTurns) (mg_of KX G ?ac_NoNumber) (mg_of KX G ?ac_NoBoxes) (mg_of KX G ?ac_NoBudget) (mg_of KX G ?ac_NoName) (mg_of KX G ?ac_NoOrder) (mg_of KX G ?ac_NoPlay) (mg_of KX G ?ac_NoRoad) (mg_of KX G ?ac_NoRow) (mg_of KX G ?ac_NoTable) (mg_of KX G ?ac_NoPaper) (mg_of KX G ?ak_MOST_BOXES) (mg_of KX G ?ak_MOST_COST) (mg_of KX G ?ak_MOST_OF) (mg_of KX G ?ak_MOST_LOOKS) ?xc_HideError ?xc_NoBoxes ?xc_NoWeights ?xc_NoOrder ?vsg ?vrd ?vfc ?vin_NoPlan ?vl_NoPlan ?vc_NoPlan ?vk_NoPlan ?vlk_NoPlan ?vtl_NoPlan ?vfn_NoPlan ?vkp_NoPlan ?vmo_NoPlan ?vsa_NoPlan ?vga_NoPlan ?vgn_NoPlan ?vcl_NoPlan ?vmb_NoPlan ?vhd_NoPlan ?vna_NoPlan ?i_k_NoWeb ?i_k_NoPlan ?i_k_NoText ?i_k_NoKind ?i_k_TooGreat ?i_k_NoTree ?i_k_NoWeights ?i_k_NoTurns ?i_k_NoNumber ?i_k_NoBoxes ?i_k_NoBudget ?i_k_NoName ?i_k_NoOrder ?i_k_NoPlay ?i_k_NoRoad ?i_k_NoRow ?i_k_NoTable ?i_k_NoPaper ?i_k_ValueError ?i_sub ?e_ga ?e_gn ?e_cl ?e_mb ?e_mo ?i2_k_NoWeb ?i2_k_NoPlan ?i2_k_NoText ?i2_k_NoKind ?i2_k_TooGreat ?i2_k_NoTree ?i2_k_NoWeights ?i2_k_NoTurns ?i2_k_NoNumber ?i2_k_NoBoxes ?i2_k_NoBudget ?i2_k_NoName ?i2_k_NoOrder ?i2_k_NoPlay ?i2_k_NoRoad ?i2_k_NoRow ?i2_k_NoTable ?i2_k_NoPaper ?i2_k_ValueError ?i2_sub ?e2_ga ?e2_gn ?e2_cl ?e2_mb ?e2_mo ?i3_k_NoWeb ?i3_k_NoPlan ?i3_k_NoText ?i3_k_NoKind ?i3_k_TooGreat ?i3_k_NoTree ?i3_k_NoWeights ?i3_k_NoTurns ?i3_k_NoNumber ?i3_k_NoBoxes ?i3_k_NoBudget ?i3_k_NoName ?i3_k_NoOrder ?i3_k_NoPlay ?i3_k_NoRoad ?i3_k_NoRow ?i3_k_NoTable ?i3_k_NoPaper ?i3_k_ValueError ?i3_sub ?e3_ga ?e3_gn ?e3_cl ?e3_mb ?e3_mo ?i4_k_NoWeb ?i4_k_NoPlan ?i4_k_NoText ?i4_k_NoKind ?i4_k_TooGreat ?i4_k_NoTree ?i4_k_NoWeights ?i4_k_NoTurns ?i4_k_NoNumber ?i4_k_NoBoxes ?i4_k_NoBudget ?i4_k_NoName ?i4_k_NoOrder ?i4_k_NoPlay ?i4_k_NoRoad ?i4_k_NoRow ?i4_k_NoTable ?i4_k_NoPaper ?i4_k_ValueError ?i4_sub ?e4_ga ?e4_gn ?e4_cl ?e4_mb ?e4_mo)
  (case a0=>k_is);(case l0=>k_is);(case c0=>k_is);(case k0=>k_is)
  (case a1=>k_is);(case l1=>k_is);(case c1=>k_is);(case k1=>k_is)
  (case a2=>k_is);(case l2=>k_is);(case c2=>k_is);(case k2=>k_is)
  (case a3=>k_is);(case l3=>k_is);(case c3=>k_is);(case k3=>k_is)
  (case a4=>k_is);(case l4=>k_is);(case c4=>k_is);(case k4=>k_is)
  (case a5=>k_is);(case l5=>k_is);(case c5=>k_is);(case k5=>k_is)
  (case a6=>k_is);(case l6=>k_is);(case c6=>k_is);(case k6=>k_is)
  (case a7=>k_is);(case l7=>k_is);(case c7=>k_is);(case k7=>k_is)
  (case a8=>k_is);(case l8=>k_is);(case c8=>k_is);(case k8=>k_is)
  (case a9=>k_is);(case l9=>k_is);(case c9=>k_is);(case k9=>k_is)
  (case a10=>k_is);(case l10=>k_is);(case c10=>k_is);(case k10=>k_is)
  (case a11=>k_is);(case l11=>k_is);(case c11=>k_is);(case k11=>k_is)
  (case a12=>k_is);(case l12=>k_is);(case c12=>k_is);(case k12=>k_is)
  (case a13=>k_is);(case l13=>k_is);(case c13=>k_is);(case k13=>k_is)
  (case a14=>k_is);(case l14=>k_is);(case c14=>k_is);(case k14=>k_is)
  (case a15=>k_is);(case l15=>k_is);(case c15=>k_is);(case k15=>k_is)
  (case a16=>k_is);(case l16=>k_is);(case c16=>k_is);(case k16=>k_is)
  (case a17=>k_is);(case l17=>k_is);(case c17=>k_is);(case k17=>k_is)
  (case a18=>k_is);(case l18=>k_is);(case c18=>k_is);(case k18=>k_is)
  (case a19=>k_is);(case l19=>k_is);(case c19=>k_is);(case k19=>k_is)
  (case a20=>k_is);(case l20=>k_is);(case c20=>k_is);(case k20=>k_is)
  (case a21=>k_is);(case l21=>k_is);(case c21=>k_is);(case k21=>k_is)
  (case a22=>k_is);(case l22=>k_is);(case c22=>k_is);(case k22=>k_is)
  (case a23=>k_is);(case l23=>k_is);(case c23=>k_is);(case k23=>k_is)
  (case a24=>k_is);(case l24=>k_is);(case c24=>k_is);(case k24=>k_is)
  (case a25=>k_is);(case l25=>k_is);(case c25=>k_is);(case k25=>k_is)
  (case a26=>k_is);(case l26=>k_is);(case c26=>k_is);(case k26=>k_is)
  (case a27=>k_is);(case l27=>k_is);(case c27=>k_is);(case k27=>k_is)
  (case a28=>k_is);(case l28=>k_is);(case c28=>k_is);(case k28=>k_is)
  (case a29=>k_is);(case l29=>k_is);(case c29=>k_is);(case k29=>k_is)
  (case a30=>k_is);(case l30=>k_is);(case c30=>k_is);(case k30=>k_is)
  (case a31=>k_is);(case l31=>k_is);(case c31=>k_is);(case k31=>k_is)
  (case a32=>k_is);(case l32=>k_is);(case c32=>k_is);(case k32=>k_is)
  (case a33=>k_is);(case l33=>k_is);(case c33=>k_is);(case k33=>k_is)
  (case z_zip=>k_is)
  (case z_sum=>k_is)
  (case z_list=>k_is)
  (case z_range=>k_is)
  (case z_len=>k_is)
  (case z_all=>k_is)
  (case z_max=>k_is)
  (case z_abs=>k_is)
  (case z_isinstance=>k_is)
  (case z_int=>k_is)
  (case z_bool=>k_is)
  (case z_tuple=>k_is)
  (case z_str=>k_is)
  (case z_enumerate=>k_is)
  (case z_sorted=>k_is)
  (case z_ValueError=>k_is)
  (case ac_HideError=>k_is)
  (case ac_NoWeb=>k_is)
  (case ac_NoPlan=>k_is)
  (case ac_NoText=>k_is)
  (case ac_NoKind=>k_is)
  (case ac_TooGreat=>k_is)
  (case ac_NoTree=>k_is)
  (case ac_NoWeights=>k_is)
  (case ac_NoTurns=>k_is)
  (case ac_NoNumber=>k_is)
  (case ac_NoBoxes=>k_is)
  (case ac_NoBudget=>k_is)
  (case ac_NoName=>k_is)
  (case ac_NoOrder=>k_is)
  (case ac_NoPlay=>k_is)
  (case ac_NoRoad=>k_is)
  (case ac_NoRow=>k_is)
  (case ac_NoTable=>k_is)
  (case ac_NoPaper=>k_is)
  (case ak_MOST_BOXES=>k_is)
  (case ak_MOST_COST=>k_is)
  (case ak_MOST_OF=>k_is)
  (case ak_MOST_LOOKS=>k_is)
  (case xc_HideError=>k_exc)
  (case xc_NoBoxes=>k_exc)
  (case xc_NoWeights=>k_exc)
  (case xc_NoOrder=>k_exc)
  (case vsg=>k_is)
  (case vrd=>k_is)
  (case vfc=>k_is)
  (case vin_NoPlan=>k_is)
  (case vl_NoPlan=>k_is)
  (case vc_NoPlan=>k_is)
  (case vk_NoPlan=>k_is)
  (case vlk_NoPlan=>k_is)
  (case vtl_NoPlan=>kernel_rfl)
  (case vfn_NoPlan=>k_is)
  (case vkp_NoPlan=>k_is)
  (case vmo_NoPlan=>k_is)
  (case vsa_NoPlan=>k_is)
  (case vga_NoPlan=>k_is)
  (case vgn_NoPlan=>k_is)
  (case vcl_NoPlan=>k_is)
  (case vmb_NoPlan=>k_is)
  (case vhd_NoPlan=>k_is)
  (case vna_NoPlan=>k_is)
  (case i_k_NoWeb=>kit_is)
  (case i_k_NoPlan=>kit_is)
  (case i_k_NoText=>kit_is)
  (case i_k_NoKind=>kit_is)
  (case i_k_TooGreat=>kit_is)
  (case i_k_NoTree=>kit_is)
  (case i_k_NoWeights=>kit_is)
  (case i_k_NoTurns=>kit_is)
  (case i_k_NoNumber=>kit_is)
  (case i_k_NoBoxes=>kit_is)
  (case i_k_NoBudget=>kit_is)
  (case i_k_NoName=>kit_is)
  (case i_k_NoOrder=>kit_is)
  (case i_k_NoPlay=>kit_is)
  (case i_k_NoRoad=>kit_is)
  (case i_k_NoRow=>kit_is)
  (case i_k_NoTable=>kit_is)
  (case i_k_NoPaper=>kit_is)
  (case i_k_ValueError=>kit_is)
  (case i_sub=>k_is)
  (case e_ga=>k_is)
  (case e_gn=>k_is)
  (case e_cl=>k_is)
  (case e_mb=>k_is)
  (case e_mo=>k_is)
  (case i2_k_NoWeb=>kit_is)
  (case i2_k_NoPlan=>kit_is)
  (case i2_k_NoText=>kit_is)
  (case i2_k_NoKind=>kit_is)
  (case i2_k_TooGreat=>kit_is)
  (case i2_k_NoTree=>kit_is)
  (case i2_k_NoWeights=>kit_is)
  (case i2_k_NoTurns=>kit_is)
  (case i2_k_NoNumber=>kit_is)
  (case i2_k_NoBoxes=>kit_is)
  (case i2_k_NoBudget=>kit_is)
  (case i2_k_NoName=>kit_is)
  (case i2_k_NoOrder=>kit_is)
  (case i2_k_NoPlay=>kit_is)
  (case i2_k_NoRoad=>kit_is)
  (case i2_k_NoRow=>kit_is)
  (case i2_k_NoTable=>kit_is)
  (case i2_k_NoPaper=>kit_is)
  (case i2_k_ValueError=>kit_is)
  (case i2_sub=>k_is)
  (case e2_ga=>k_is)
  (case e2_gn=>k_is)
  (case e2_cl=>k_is)
  (case e2_mb=>k_is)
  (case e2_mo=>k_is)
  (case i3_k_NoWeb=>kit_is)
  (case i3_k_NoPlan=>kit_is)
  (case i3_k_NoText=>kit_is)
  (case i3_k_NoKind=>kit_is)
  (case i3_k_TooGreat=>kit_is)
  (case i3_k_NoTree=>kit_is)
  (case i3_k_NoWeights=>kit_is)
  (case i3_k_NoTurns=>kit_is)
  (case i3_k_NoNumber=>kit_is)
  (case i3_k_NoBoxes=>kit_is)
  (case i3_k_NoBudget=>kit_is)
  (case i3_k_NoName=>kit_is)
  (case i3_k_NoOrder=>kit_is)
  (case i3_k_NoPlay=>kit_is)
  (case i3_k_NoRoad=>kit_is)
  (case i3_k_NoRow=>kit_is)
  (case i3_k_NoTable=>kit_is)
  (case i3_k_NoPaper=>kit_is)
  (case i3_k_ValueError=>kit_is)
  (case i3_sub=>k_is)
  (case e3_ga=>k_is)
  (case e3_gn=>k_is)
  (case e3_cl=>k_is)
  (case e3_mb=>k_is)
  (case e3_mo=>k_is)
  (case i4_k_NoWeb=>kit_is)
  (case i4_k_NoPlan=>kit_is)
  (case i4_k_NoText=>kit_is)
  (case i4_k_NoKind=>kit_is)
  (case i4_k_TooGreat=>kit_is)
  (case i4_k_NoTree=>kit_is)
  (case i4_k_NoWeights=>kit_is)
  (case i4_k_NoTurns=>kit_is)
  (case i4_k_NoNumber=>kit_is)
  (case i4_k_NoBoxes=>kit_is)
  (case i4_k_NoBudget=>kit_is)
  (case i4_k_NoName=>kit_is)
  (case i4_k_NoOrder=>kit_is)
  (case i4_k_NoPlay=>kit_is)
  (case i4_k_NoRoad=>kit_is)
  (case i4_k_NoRow=>kit_is)
  (case i4_k_NoTable=>kit_is)
  (case i4_k_NoPaper=>kit_is)
  (case i4_k_ValueError=>kit_is)
  (case i4_sub=>k_is)
  (case e4_ga=>k_is)
  (case e4_gn=>k_is)
  (case e4_cl=>k_is)
  (case e4_mb=>k_is)
  (case e4_mo=>k_is)
