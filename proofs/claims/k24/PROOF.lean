import PyProof.Rows.All
import Wide.All
import OpenK.AllK
import Wide.FinOn
import Lean
import PyProof.EqAt
import PyProof.EqKinds
import PyProof.TupleCall
import KE.IntBitsLaws
import PyProof.NeKinds
import KE.KIsAll
import PyProof.ExcAttrAll.ValueError
import KE.RegKIsAll
import OpenK.KOwn
import PyProof.ConsumeWalk
import PyProof.SumWalkG
import PyProof.Rows.SeqCalls
import PyProof.Rows.SeqGen
import PyProof.ZipIter
import PyProof.Rows.ZipGen
import PyProof.Rows.FactsT2
import PyProof.ListRange
import KE.KDictSum
import PyProof.Rows.SortWalk
import PyProof.Rows.SetFrom
import PyProof.TupleKey
import PyProof.SetRoads
import PyProof.FactsAll.set_1
import OpenK.ZGo
import PySem.Challenge.RW_hideworth_k24_whole_no_mix_finds_more
set_option Elab.async false
set_option linter.all false
set_option maxRecDepth 100000
namespace L2
open PySem PySem.Spec PyProof.Rows
abbrev Key:=Sum Int Str
def zqF:Key→Value→Bool
 | .inl k,v=>Value.isInt k v
 | .inr x,v=>Value.isStrOf x v
def keyH (w:World):Key→Int
 | .inl k=>hashInt k
 | .inr x=>hashStr w x
theorem zbx:∀ {k:Key} {v:Value},zqF k v=true→(∃ i t,k=Sum.inl i∧v=Value.int i t)∨(∃ x t,k=Sum.inr x∧v=Value.str x t)
 | .inl i,v,h=>by
  obtain ⟨t,e⟩:=Value.isInt_shape (k:=i) (v:=v) h
  exact .inl ⟨i,t,rfl,e⟩
 | .inr x,v,h=>by
  obtain ⟨t,e⟩:=Value.isStrOf_shape (x:=x) (v:=v) h
  exact .inr ⟨x,t,rfl,e⟩
theorem zp5 (a b:Int):decide ((Sum.inl a:Key)=Sum.inl b)=(a == b):=by
 by_cases e:a=b
 ·subst e;simp
 ·have h:¬ (Sum.inl a:Key)=Sum.inl b:=fun q=>e (Sum.inl.inj q)
  rw [decide_eq_false h]
  exact (beq_eq_false_iff_ne.mpr e).symm
theorem zre (a b:Str):decide ((Sum.inr a:Key)=Sum.inr b)=decide (a=b):=by
 by_cases e:a=b
 ·subst e;simp
 ·have h:¬ (Sum.inr a:Key)=Sum.inr b:=fun q=>e (Sum.inr.inj q)
  rw [decide_eq_false h,decide_eq_false e]
theorem zqN (a:Int) (b:Str):decide ((Sum.inl a:Key)=Sum.inr b)=false:=decide_eq_false (fun q=>nomatch q)
theorem zrG (a:Str) (b:Int):decide ((Sum.inr a:Key)=Sum.inl b)=false:=decide_eq_false (fun q=>nomatch q)
def ziE (prog:Program) (w:World):PySem.KeyKind prog w Key where
 is:=zqF
 hash:=keyH w
 inj:=fun v a b ha hb=>by
  rcases zbx ha with ⟨i,t,rfl,rfl⟩ | ⟨x,t,rfl,rfl⟩
  ·rcases zbx hb with ⟨j,u,rfl,e⟩ | ⟨y,u,rfl,e⟩
   ·injection e with e1 _;rw [e1]
   ·exact nomatch e
  ·rcases zbx hb with ⟨j,u,rfl,e⟩ | ⟨y,u,rfl,e⟩
   ·exact nomatch e
   ·injection e with e1 _;rw [e1]
 byValue:=fun k v h=>by
  rcases zbx h with ⟨i,t,rfl,rfl⟩ | ⟨x,t,rfl,rfl⟩ <;> rfl
 pyHash:=fun hv h=>by
  rcases zbx hv with ⟨i,t,rfl,rfl⟩ | ⟨x,t,rfl,rfl⟩
  ·exact wpAny_pyHash_int h
  ·exact wpAny_pyHash_str h
 eqBool:=fun hu hv h=>by
  rcases zbx hu with ⟨i,t,rfl,rfl⟩ | ⟨x,t,rfl,rfl⟩
  ·rcases zbx hv with ⟨j,u,rfl,rfl⟩ | ⟨y,u,rfl,rfl⟩
   ·rw [zp5] at h;exact wpAny_eqBool_int h
   ·rw [zqN] at h;exact SeqAt.EqAt.int_str i t y u _ _ _ _ h
  ·rcases zbx hv with ⟨j,u,rfl,rfl⟩ | ⟨y,u,rfl,rfl⟩
   ·rw [zrG] at h;exact SeqAt.EqAt.str_int x t j u _ _ _ _ h
   ·rw [zre] at h;exact wpAny_eqBool_str h
 «strs»:=fun k x t v h=>by
  rcases zbx h with ⟨i,u,rfl,e⟩ | ⟨y,u,rfl,e⟩
  ·exact nomatch e
  ·injection e with e1 _
   subst e1
   cases v <;> rfl
end L2
namespace L2
open PySem PySem.Spec PyProof.Rows
inductive V where
 | non | bl (b:Bool) | int (i:Int) | str (x:Str) | byt (b:Array UInt8) | flt (b:UInt64) | ref (a:Addr) | ty (n:String)
 deriving DecidableEq
def zcF:V→Value→Prop
 | .non,u=>u=Value.none
 | .bl b,u=>u=Value.bool b
 | .int i,u=>∃ t,u=Value.int i t
 | .str x,u=>∃ t,u=Value.str x t
 | .byt b,u=>∃ t,u=Value.bytes b t
 | .flt b,u=>∃ t,u=Value.float b t
 | .ref a,u=>u=Value.ref a
 | .ty n,u=>u=Value.type n
abbrev zbJ:List V→List Value→Prop:=Paired zcF
theorem zbJ.length {xs:List V} {us:List Value} (r:zbJ xs us):xs.length=us.length:=Paired.length r
theorem zbJ.get:∀ {xs:List V} {us:List Value} {i:Nat} {x:V},zbJ xs us→xs[i]?=some x→∃ u,us[i]?=some u∧zcF x u
 | _,_,_,_,.nil,e=>by simp at e
 | _,_,0,_,.cons r _,e=>by simp at e;subst e;exact ⟨_,rfl,r⟩
 | _,_,i+1,x,.cons _ t,e=>by
  obtain ⟨u,h1,h2⟩:=zbJ.get (i:=i) (x:=x) t (by simpa using e)
  exact ⟨u,by simpa using h1,h2⟩
theorem zbJ.set {x:V} {u:Value} (r:zcF x u):∀ {xs:List V} {us:List Value} (i:Nat),zbJ xs us→zbJ (xs.set i x) (us.set i u)
 | _,_,_,.nil=>.nil
 | _,_,0,.cons _ t=>.cons r t
 | _,_,i+1,.cons q t=>.cons q (zbJ.set r i t)
theorem zbJ.append:∀ {xs ys:List V} {us ws:List Value},zbJ xs us→zbJ ys ws→zbJ (xs++ys) (us++ws)
 | _,_,_,_,.nil,s=>s
 | _,_,_,_,.cons r t,s=>.cons r (zbJ.append t s)
theorem zbJ.take:∀ {xs:List V} {us:List Value} (n:Nat),zbJ xs us→zbJ (xs.take n) (us.take n)
 | _,_,0,_=>.nil
 | _,_,_+1,.nil=>.nil
 | _,_,n+1,.cons r t=>.cons r (zbJ.take n t)
theorem zbJ.drop:∀ {xs:List V} {us:List Value} (n:Nat),zbJ xs us→zbJ (xs.drop n) (us.drop n)
 | _,_,0,r=>r
 | _,_,_+1,.nil=>.nil
 | _,_,n+1,.cons _ t=>zbJ.drop n t
def RelO:Option V→Option Value→Prop
 | some v,some u=>zcF v u
 | none,none=>True
 | _,_=>False
def KV {κ:Type}:List (κ×V)→List (κ×Value)→Prop:=Paired fun (p:κ×V) (q:κ×Value)=>p.1=q.1∧zcF p.2 q.2
def kV:Key→V
 | .inl i=>.int i
 | .inr x=>.str x
inductive HO where
  | lst (xs:List V)
  | tup (xs:List V)
  | dK (kvs:List (Key×V)) | dT (kvs:List (List Key×V))
  | set (S:Int→Bool) (n:Nat)
  | ins (C dx:Addr) (fs:List (Str×V))
  | own (x:Addr)
  | xd (fs:List (Str×V))
  | met (f x:Addr)
  | rng (lo hi:Int)
  | frz (o:Obj) (u:HO)
  | tbl (ps:Array Value)
  | ext (φ:Heap→Prop)
abbrev Hp:=Addr→Option HO
def upd (H:Hp) (a:Addr) (o:HO):Hp:=fun b=>if b=a then some o else H b
theorem zaj {H:Hp} {a:Addr} {o:HO}:upd H a o a=some o:=by unfold upd;rw [if_pos rfl]
theorem zaX {H:Hp} {a b:Addr} {o:HO} (h:b≠a):upd H a o b=H b:=by unfold upd;rw [if_neg h]
theorem zaW {H:Hp} {a b:Addr} {o:HO} (h:H a=some o) (h':H b=none):a≠b:=by
 intro e;subst e;rw [h] at h';cases h'
section
variable (P:Program) (w:World)
def zcG (H:Hp) (h:Heap) (a:Addr):HO→Prop
 | .lst xs=>xs.length≤sizeLine∧∃ (its:List Value) (n:Nat),zbJ xs its∧h.get? a=some { cls:=.type "list",data:=.seq its.toArray n }
 | .tup xs=>xs.length≤sizeLine∧∃ its:List Value,zbJ xs its∧IsTup h a its.toArray
 | .dK kvs=>kvs.length≤sizeLine∧(a == sysModules)=false∧∃ vs,KV kvs vs∧h.DictOf (ziE P w) a vs
 | .dT kvs=>kvs.length≤sizeLine∧(a == sysModules)=false∧∃ xs:List (List Key×Addr×Value),
   Paired (fun (p:List Key×V) (q:List Key×Addr×Value)=>p.1=q.1∧H q.2.1=some (.tup (p.1.map kV))∧zcF p.2 q.2.2) kvs xs ∧
   ∃ o es ep,h.get? a=some o∧o.ExactDict∧o.data=.dict es ep∧es.toList=xs.map (entryOfKey (tupleKind (ziE P w)))∧(xs.map (·.1)).Nodup
 | .set S n=>h.SetOf (intKind P w) a S n
 | .ins C dx fs=>H dx=some (.own a)∧fs.length≤1000∧dx≠a∧h.get? a=some (PySem.W.instObj C dx) ∧
   ∃ mA,h.Ns1 dx mA∧(∀ f,RelO (fs.lookup f) (mA f))∧PySem.Within mA (fs.map (·.1))
 | .own _=>∃ o,h.get? a=some o
 | .xd fs=>∃ mA,h.Ns1 a mA∧∀ f,RelO (fs.lookup f) (mA f)
 | .rng lo hi=>∃ t u v,h.get? a=some { cls:=.type "range",data:=.fields #[.int lo t,.int hi u,.int 1 v] }
 | .frz o u=>h.get? a=some o∧zcG H h a u
 | .tbl ps=>h.get? a=some { cls:=.none,data:=.fields ps }
 | .met f x=>h.get? a=some (PySem.W.methodObj (.ref f) (.ref x))
 | .ext φ=>φ h∧(∃ o,h.get? a=some o)∧∀ h1 h2:Heap,φ h1→(∀ o,h1.get? a=some o→h2.get? a=some o)→φ h2
def HOk (H:Hp) (h:Heap):Prop:=∀ a o,H a=some o→zcG P w H h a o
end
section
variable {P:Program} {w:World} {H H':Hp} {h h':Heap} {a:Addr} {o:HO}
theorem zcG.lt (x:zcG P w H h a o):a<h.objs.size:=by
 cases o with
 | lst xs=>obtain ⟨_,_,_,_,e⟩:=x;exact Heap.lt_size e
 | tup xs=>obtain ⟨_,_,_,p⟩:=x;exact p.lt
 | dK kvs=>obtain ⟨_,_,_,_,o,_,_,e,_⟩:=x;exact Heap.lt_size e
 | dT kvs=>obtain ⟨_,_,_,_,o,_,_,e,_⟩:=x;exact Heap.lt_size e
 | set S n=>obtain ⟨o,_,_,_,e,_⟩:=x;exact Heap.lt_size e
 | ins C dx fs=>obtain ⟨_,_,_,e,_⟩:=x;exact Heap.lt_size e
 | own y=>obtain ⟨_,e⟩:=x;exact Heap.lt_size e
 | xd fs=>obtain ⟨_,⟨_,_,_,e,_⟩,_⟩:=x;exact Heap.lt_size e
 | rng lo hi=>obtain ⟨_,_,_,e⟩:=x;exact Heap.lt_size e
 | frz ob u=>obtain ⟨e,_⟩:=x;exact Heap.lt_size e
 | tbl ps=>exact Heap.lt_size (show h.get? a=some _ from x)
 | met f y=>exact Heap.lt_size (show h.get? a=some _ from x)
 | ext φ=>obtain ⟨_,⟨_,e⟩,_⟩:=x;exact Heap.lt_size e
theorem Paired.mapP {α β:Type} {F G:α→β→Prop}:∀ {l₁:List α} {l₂:List β},Paired F l₁ l₂→(∀ a b,F a b→G a b)→Paired G l₁ l₂
 | _,_,.nil,_=>.nil
 | _,_,.cons r t,f=>.cons (f _ _ r) (Paired.mapP t f)
theorem zcG.stay (x:zcG P w H h a o) (k:∀ b u,(b=a∨H b=some (.own a))→h.get? b=some u→h'.get? b=some u)
  (ho:∀ b,H b=some (.own a)→H' b=some (.own a)) (ht:∀ b xs,H b=some (.tup xs)→H' b=some (.tup xs)):zcG P w H' h' a o:=by
 induction o with
 | lst xs=>obtain ⟨z,its,n,r,e⟩:=x;exact ⟨z,its,n,r,k _ _ (.inl rfl) e⟩
 | tup xs=>obtain ⟨z,its,r,ob,e,c⟩:=x;exact ⟨z,its,r,ob,k _ _ (.inl rfl) e,c⟩
 | dK kvs=>obtain ⟨z,y,vs,r,ob,es,ep,e,c⟩:=x;exact ⟨z,y,vs,r,ob,es,ep,k _ _ (.inl rfl) e,c⟩
 | dT kvs =>
  obtain ⟨z,y,xs,r,ob,es,ep,e,c⟩:=x
  exact ⟨z,y,xs,Paired.mapP r fun p q z=>⟨z.1,ht _ _ z.2.1,z.2.2⟩,ob,es,ep,k _ _ (.inl rfl) e,c⟩
 | set S n=>obtain ⟨ob,es,ep,t,e,c⟩:=x;exact ⟨ob,es,ep,t,k _ _ (.inl rfl) e,c⟩
 | ins C dx fs =>
  obtain ⟨d,z,ne,e,mA,⟨od,es,ep,e2,c⟩,r⟩:=x
  exact ⟨ho _ d,z,ne,k _ _ (.inl rfl) e,mA,⟨od,es,ep,k _ _ (.inr d) e2,c⟩,r⟩
 | own y=>obtain ⟨ob,e⟩:=x;exact ⟨ob,k _ _ (.inl rfl) e⟩
 | xd fs=>obtain ⟨mA,⟨od,es,ep,e,c⟩,r⟩:=x;exact ⟨mA,⟨od,es,ep,k _ _ (.inl rfl) e,c⟩,r⟩
 | rng lo hi=>obtain ⟨t,u,v,e⟩:=x;exact ⟨t,u,v,k _ _ (.inl rfl) e⟩
 | frz ob u ih=>obtain ⟨e,q⟩:=x;exact ⟨k _ _ (.inl rfl) e,ih q⟩
 | tbl ps =>
  have e:h.get? a=some { cls:=.none,data:=.fields ps }:=x
  show h'.get? a=some { cls:=.none,data:=.fields ps }
  exact k a _ (.inl rfl) e
 | met f y =>
  have e:h.get? a=some (PySem.W.methodObj (.ref f) (.ref y)):=x
  show h'.get? a=some (PySem.W.methodObj (.ref f) (.ref y))
  exact k a _ (.inl rfl) e
 | ext φ=>obtain ⟨p,⟨o,e⟩,st⟩:=x;exact ⟨st _ _ p fun o q=>k _ _ (.inl rfl) q,⟨o,k _ _ (.inl rfl) e⟩,st⟩
theorem HOk.lt (x:HOk P w H h) (e:H a=some o):a<h.objs.size:=(x a o e).lt
theorem HOk.fresh (x:HOk P w H h) (e:h.objs.size≤a):H a=none:=by
 cases q:H a with
 | none=>rfl
 | some u=>exact absurd (Nat.lt_of_lt_of_le (x.lt q) e) (Nat.lt_irrefl _)
theorem HOk.kept (x:HOk P w H h) (k:∀ b u,h.get? b=some u→h'.get? b=some u):HOk P w H h':=fun a o e =>
 (x a o e).stay (fun b u _ q=>k b u q) (fun _ q=>q) fun _ _ q=>q
theorem HOk.laid (x:HOk P w H h) (k:∀ b u,h.get? b=some u→h'.get? b=some u) (hp:h.objs.size≤a) (new:zcG P w (upd H a o) h' a o):HOk P w (upd H a o) h':=fun b u e=>by
 have hn:=x.fresh hp
 by_cases hb:b=a
 ·subst hb;rw [zaj] at e;cases e;exact new
 ·rw [zaX hb] at e
  exact (x b u e).stay (fun c v _ q=>k c v q) (fun c q=>by rw [zaX (zaW q hn)];exact q) fun c xs q=>by rw [zaX (zaW q hn)];exact q
end
def Rd (H:Hp) (a:Addr) (u:HO):Prop:=H a=some u∨∃ o,H a=some (.frz o u)
theorem Rd.ok {P:Program} {w:World} {H:Hp} {h:Heap} {a:Addr} {u:HO} (r:Rd H a u) (x:HOk P w H h):zcG P w H h a u:=by
 rcases r with r | ⟨o,r⟩
 ·exact x a u r
 ·obtain ⟨_,q⟩:=x a _ r
  exact q
def Mut:Option HO→Prop
 | some (.lst _)=>True
 | some (.dK _)=>True
 | some (.dT _)=>True
 | some (.set _ _)=>True
 | some (.ins _ _ _)=>True
 | some (.ext _)=>True
 | _=>False
section
variable {P:Program} {w:World} {H:Hp} {h h':Heap} {x e:Addr} {o':HO}
theorem HOk.write (ok:HOk P w H h) (mu:Mut (H x)) (he:e=x∨H e=some (.own x)) (k:∀ b u,b≠e→h.get? b=some u→h'.get? b=some u) (heo:∃ u,h'.get? e=some u)
  (new:zcG P w (upd H x o') h' x o'):HOk P w (upd H x o') h':=fun b u q=>by
 have nown:∀ c y,H c=some (.own y)→c≠x:=fun c y r z=>by subst z;rw [r] at mu;exact mu
 have ntup:∀ c xs,H c=some (.tup xs)→c≠x:=fun c xs r z=>by subst z;rw [r] at mu;exact mu
 by_cases hb:b=x
 ·subst hb;rw [zaj] at q;cases q;exact new
 ·rw [zaX hb] at q
  by_cases hbe:b=e
  ·have q':H b=some (.own x):=by
    rcases he with z | z
    ·exact absurd (hbe.trans z) hb
    ·rw [hbe];exact z
   rw [q] at q';cases q'
   obtain ⟨v,hv⟩:=heo
   exact ⟨v,by rw [hbe];exact hv⟩
  ·refine (ok b u q).stay (fun c v hc r=>k c v ?_ r) (fun c r=>by rw [zaX (nown c b r)];exact r) fun c xs r=>by rw [zaX (ntup c xs r)];exact r
   rcases hc with rfl | hc
   ·exact hbe
   ·rintro rfl
    rcases he with z | z
    ·exact nown c b hc z
    ·rw [hc] at z;cases z;exact hb rfl
end
structure Un (fs ex:List Addr) (H H':Hp) (h h':Heap):Prop where
 keep:∀ b o,h.get? b=some o→H b=none→b∉fs→b∉ex→h'.get? b=some o
 slot:∀ b o,h.get? b=some o→H b=none→b∈fs→b∉ex→∃ sl,h'.get? b=some { o with slots:=sl }
 free:∀ b o,h.get? b=some o→H b=none→b∉ex→H' b=none
 there:∀ b o,h.get? b=some o→b∉ex→∃ o',h'.get? b=some o'
 tups:∀ b xs,H b=some (.tup xs)→H' b=some (.tup xs)
 frzs:∀ b o u,H b=some (.frz o u)→H' b=some (.frz o u)
 tbls:∀ b ps,H b=some (.tbl ps)→∃ more,H' b=some (.tbl (ps++more))
section
variable {fs fs' ex ex':List Addr} {H H1 H2:Hp} {h h1 h2 h':Heap} {a x e:Addr} {o:HO}
theorem Un.any (u:Un fs ex H H1 h h1) {b:Addr} {ob:Obj} (q:h.get? b=some ob) (n:H b=none) (hx:b∉ex):∃ sl,h1.get? b=some { ob with slots:=sl }:=by
 by_cases hb:b∈fs
 ·exact u.slot b ob q n hb hx
 ·exact ⟨ob.slots,u.keep b ob q n hb hx⟩
theorem Un.kept (k:∀ b u,h.get? b=some u→h'.get? b=some u):Un fs ex H H h h' :=
 ⟨fun b ob q _ _ _=>k b ob q,fun b ob q _ _ _=>⟨ob.slots,k b ob q⟩,fun _ _ _ n _=>n,fun b ob q _=>⟨ob,k b ob q⟩,fun _ _ q=>q,fun _ _ _ q=>q,fun _ ps q=>⟨#[],by rw [q];simp⟩⟩
theorem Un.refl:Un fs ex H H h h:=Un.kept fun _ _ q=>q
theorem Un.laid (k:∀ b u,h.get? b=some u→h'.get? b=some u) (hp:h.objs.size≤a) (hn:H a=none):Un fs ex H (upd H a o) h h' where
 keep:=fun b u q _ _ _=>k b u q
 slot:=fun b u q _ _ _=>⟨u.slots,k b u q⟩
 free:=fun b u q n _=>by rw [zaX (Nat.ne_of_lt (Nat.lt_of_lt_of_le (Heap.lt_size q) hp))];exact n
 there:=fun b u q _=>⟨u,k b u q⟩
 tups:=fun b xs q=>by rw [zaX (zaW q hn)];exact q
 frzs:=fun b u xs q=>by rw [zaX (zaW q hn)];exact q
 tbls:=fun b ps q=>⟨#[],by rw [zaX (zaW q hn),q];simp⟩
theorem Un.write (mu:Mut (H x)) (he:e=x∨H e=some (.own x)) (k:∀ b u,b≠e→h.get? b=some u→h'.get? b=some u) (heo:∃ u,h'.get? e=some u):Un fs ex H (upd H x o) h h':=by
 have hx:∀ b,H b=none→b≠x:=fun b n z=>by subst z;rw [n] at mu;exact mu
 have hb:∀ b,H b=none→b≠e:=fun b n z=>by
  subst z
  rcases he with r | r
  ·exact hx b n r
  ·rw [n] at r;cases r
 have hm:∀ b u,H b=some u→¬ Mut (some u)→b≠x:=fun b u q nm z=>by subst z;rw [q] at mu;exact nm mu
 refine ⟨fun b u q n _ _=>k b u (hb b n) q,fun b u q n _ _=>⟨u.slots,k b u (hb b n) q⟩,fun b u q n _=>by rw [zaX (hx b n)];exact n,fun b u q _=>?_,
  fun b xs q=>by rw [zaX (hm b _ q fun z=>z)];exact q,fun b u xs q=>by rw [zaX (hm b _ q fun z=>z)];exact q,fun b ps q=>⟨#[],by rw [zaX (hm b _ q fun z=>z),q];simp⟩⟩
 by_cases hbe:b=e
 ·subst hbe;exact heo
 ·exact ⟨u,k b u hbe q⟩
end
def trk (h:Heap) (H:Hp):List Addr:=(List.range h.objs.size).filter fun a=>(H a).isSome
def zmz (h:Heap) (H:Hp):Heap:=PySem.W.hideAll h (trk h H)
theorem zlv (h:Heap) (H:Hp):(zmz h H).objs.size=h.objs.size:=PySem.W.hideAll_size _ _
theorem zmw {h:Heap} {H:Hp} {b:Addr} {o:Obj} (e:h.get? b=some o) (n:H b=none):(zmz h H).get? b=some o :=
 PySem.W.hideAll_get _ e fun hm=>by
  have q:(H b).isSome=true:=(List.mem_filter.mp hm).2
  rw [n] at q;simp at q
theorem znO {h:Heap} {H:Hp} {b:Addr} {o:Obj} (e:(zmz h H).get? b=some o):h.get? b=some o∧H b=none:=by
 have e':h.get? b=some o:=PySem.W.of_hideAll (trk h H) e
 refine ⟨e',?_⟩
 cases q:H b with
 | none=>rfl
 | some x =>
  have hm:b∈trk h H:=List.mem_filter.mpr ⟨List.mem_range.mpr (Heap.lt_size e'),by simp [q]⟩
  have z:(zmz h H).get? b=none:=PySem.W.hideAll_none (trk h H) hm
  rw [z] at e;cases e
def zo3 (g h:Heap) (L:Addr):List (Addr×Obj):=(List.range h.objs.size).filterMap fun a=>if a=L∨(g.get? a).isSome=true then none else (h.get? a).map fun o=>(a,o)
def rest (g h:Heap) (L d:Addr):List (Addr×Obj):=(zo3 g h L).filter fun p=>decide (p.1≠d)
end L2
namespace L2
open PySem PySem.Spec PyProof.Rows
structure Mod (K:PySem.W.Frag) (mg:Str→Option Value) (base:Heap):Prop where
 kin:K.In base
 glob:base.Ns mainGlobals mg
 blt:∃ mb,base.Ns builtinsNs mb∧∀ x:Str,x≠"__name__"→mb x=bootBuiltins x
 nolimit:base.NoLimit
structure Cx where
 prog:Program
 w:World
 K:PySem.W.Frag
 mg:Str→Option Value
 base:Heap
 A:Around
 N:List Str
 s₀:Shared
 H₀:Hp
 env:Env
 outer:List Env
 stack:List Env
 ex:List Addr
 fn:Str→Bool
 calm:Bool
 pn:List (Addr×Obj)
 xe:Value→Shared→Prop
def frs (l:List Env):List Addr:=l.filterMap (·.frame)
abbrev Cx.fs (X:Cx):List Addr:=frs X.outer
def Vis (sc:Scope) (x:Str):Prop:=sc.names.lookup x=some .local∨sc.names.lookup x=some .cell∨sc.names.lookup x=some .free
def Loc (sc:Scope) (x:Str):Prop:=sc.names.lookup x=some .local∨sc.names.lookup x=some .cell
def Look (env:Env) (h:Heap) (m:Str→Option Value) (x:Str) (u:Value):Prop :=
 (env.kindOf x=some .local∧m x=some u)∨((env.kindOf x=some .cell∨env.kindOf x=some .free)∧∃ c,env.cells.lookup x=some c∧h.IsCell c (some u))
structure Cx.Ok (X:Cx):Prop where
 mod:Mod X.K X.mg X.base
 kind:X.env.scope.kind=.function
 glob:X.env.globals=mainGlobals
 blt:X.env.builtins=builtinsNs
 above:X.s₀.heap.objs.size≤X.env.locals
 inj:∀ x y c,X.env.cells.lookup x=some c→X.env.cells.lookup y=some c→x=y
 has:∀ x,(X.env.kindOf x=some .cell∨X.env.kindOf x=some .free)→∃ c,X.env.cells.lookup x=some c
 cab:∀ x c,X.fn x=true→X.env.cells.lookup x=some c→X.s₀.heap.objs.size≤c
 hd:X.calm=true→X.A.handled=none
 frames:X.A.frames=some X.stack
 stk:X.stack=X.outer∨(X.stack=X.env::X.outer∧X.env.frame=some X.env.locals)
 exf:∀ b∈X.ex,b≠X.env.locals∧∀ x c,X.env.cells.lookup x=some c→c≠b
 bs:∀ b o,X.base.get? b=some o→X.s₀.heap.get? b=some o∧X.H₀ b=none
 bsz:X.base.objs.size≤X.s₀.heap.objs.size
 noex:∀ b o,X.base.get? b=some o→b∉X.ex
 exfs:∀ b∈X.ex,b∉X.fs
 funs:X.s₀.heap.FunFrames X.base X.outer
 frf:∀ b∈X.fs,X.H₀ b=none
structure Inv (X:Cx) (pins:List (Addr×Obj)) (σ:List (Option V)) (H:Hp) (s:Shared):Prop where
 ok:X.Ok
 os:s.os=X.s₀.os
 bare:AllBare s.gens
 base:Un X.fs X.ex X.H₀ H X.s₀.heap s.heap
 loc:∃ m,s.heap.Ns X.env.locals m∧∀ (i:Nat) (x:Str) (v:V),X.N[i]?=some x→σ[i]?=some (some v)→Vis X.env.scope x→∃ u,zcF v u∧Look X.env s.heap m x u
 cell:∀ x c,X.env.cells.lookup x=some c→∃ v,s.heap.IsCell c v
 free:H X.env.locals=none
 freeC:∀ x c,X.env.cells.lookup x=some c→H c=none
 pin:∀ p∈X.pn++pins,s.heap.get? p.1=some p.2∧H p.1=none∧p.1≠X.env.locals∧p.1∉X.fs∧∀ v,p.2.data≠.cell v
 hok:HOk X.prog X.w H s.heap
 len:σ.length=X.N.length
section
variable {X:Cx} {pins:List (Addr×Obj)} {σ:List (Option V)} {H H':Hp} {s:Shared} {h':Heap}
theorem Cx.Ok.nofr (ok:X.Ok) {b:Addr} {o:Obj} (e:X.base.get? b=some o):b∉X.fs:=fun hb=>by
 have:=(ok.funs.mem hb).1
 rw [e] at this;cases this
theorem Inv.bs (I:Inv X pins σ H s):∀ b o,X.base.get? b=some o→s.heap.get? b=some o∧H b=none:=fun b o e =>
 ⟨I.base.keep b o (I.ok.bs b o e).1 (I.ok.bs b o e).2 (I.ok.nofr e) (I.ok.noex b o e),I.base.free b o (I.ok.bs b o e).1 (I.ok.bs b o e).2 (I.ok.noex b o e)⟩
theorem Inv.bk (I:Inv X pins σ H s):∀ b o,X.base.get? b=some o→s.heap.get? b=some o:=fun b o e=>(I.bs b o e).1
theorem Inv.mod (I:Inv X pins σ H s):Mod X.K X.mg X.base:=I.ok.mod
theorem Inv.kIn (I:Inv X pins σ H s):X.K.In s.heap:=I.ok.mod.kin.keeps I.bk
theorem Inv.lt (I:Inv X pins σ H s):X.env.locals<s.heap.objs.size:=let ⟨_,hn,_⟩:=I.loc;hn.lt
theorem Inv.sz (I:Inv X pins σ H s):X.s₀.heap.objs.size≤s.heap.objs.size:=Nat.le_trans I.ok.above (Nat.le_of_lt I.lt)
theorem Inv.nofs (I:Inv X pins σ H s) {a:Addr} (h:s.heap.objs.size≤a):a∉X.fs:=fun hb=>by
 obtain ⟨_,o,ho,_⟩:=I.ok.funs.mem hb
 exact absurd (Nat.lt_of_lt_of_le (Heap.lt_size ho) (Nat.le_trans I.sz h)) (Nat.lt_irrefl _)
theorem Inv.cne (I:Inv X pins σ H s):∀ x c,X.env.cells.lookup x=some c→c≠X.env.locals:=fun x c e z=>by
 obtain ⟨v,o,ho,hd⟩:=I.cell x c e
 obtain ⟨m,⟨o',es,ep,ho',hd',_⟩,_⟩:=I.loc
 rw [z,ho'] at ho;cases ho;rw [hd'] at hd;cases hd
theorem Inv.funs (I:Inv X pins σ H s):s.heap.FunFrames X.base X.outer:=by
 have all:∀ (l:List Env),(∀ b∈frs l,b∈X.fs)→X.s₀.heap.FunFrames X.base l→s.heap.FunFrames X.base l:=by
  intro l
  induction l with
  | nil=>intro _ _;trivial
  | cons env r ih =>
   intro hs hl
   obtain ⟨hk,⟨L,o,hf,hn,ho,hd⟩,hr⟩:=hl
   have hL:L∈X.fs:=hs L (by unfold frs;rw [List.filterMap_cons,hf];exact List.mem_cons_self)
   obtain ⟨sl,e⟩:=I.base.slot L o ho (I.ok.frf L hL) hL fun z=>I.ok.exfs L z hL
   exact ⟨hk,⟨L,_,hf,hn,e,hd⟩,ih (fun b hb=>hs b (by unfold frs;rw [List.filterMap_cons,hf];exact List.mem_cons_of_mem _ hb)) hr⟩
 exact all X.outer (fun _ hb=>hb) I.ok.funs
theorem Inv.stack (I:Inv X pins σ H s):s.heap.FunFrames X.base X.stack:=by
 rcases I.ok.stk with e | ⟨e,hf⟩
 ·rw [e];exact I.funs
 ·rw [e]
  obtain ⟨m,hn,_⟩:=I.loc
  refine .cons (by rw [I.ok.kind];decide) hf hn ?_ I.funs
  exact Heap.get?_none_of_le (Nat.le_trans I.ok.bsz I.ok.above)
theorem Inv.stkSub (I:Inv X pins σ H s):∀ b∈frs X.stack,b∈X.env.locals::X.fs:=fun b hb=>by
 rcases I.ok.stk with e | ⟨e,hf⟩
 ·rw [e] at hb;exact List.mem_cons_of_mem _ hb
 ·rw [e] at hb
  unfold frs at hb
  rw [List.filterMap_cons,hf] at hb
  exact hb
theorem Inv.stkFree (I:Inv X pins σ H s):∀ b∈frs X.stack,H b=none:=fun b hb=>by
 rcases List.mem_cons.mp (I.stkSub b hb) with e | hb
 ·rw [e];exact I.free
 ·obtain ⟨_,o,ho,_⟩:=I.ok.funs.mem hb
  exact I.base.free b o ho (I.ok.frf b hb) fun z=>I.ok.exfs b z hb
theorem Inv.step {g':Array GenState} {t':Nat} {d':Drawn} {ch:List Addr} (I:Inv X pins σ H s)
  (hch:∀ b∈ch,(b∈X.ex∨X.s₀.heap.objs.size≤b)∧b≠X.env.locals∧(∀ x c,X.env.cells.lookup x=some c→c≠b)∧∀ p∈X.pn++pins,p.1≠b)
  (keep:∀ b o,b≠X.env.locals→b∉X.fs→b∉ch→s.heap.get? b=some o→H b=none→h'.get? b=some o)
  (slot:∀ b o,b≠X.env.locals→b∈X.fs→b∉ch→s.heap.get? b=some o→H b=none→∃ sl,h'.get? b=some { o with slots:=sl }) (free:∀ b o,b∉ch→s.heap.get? b=some o→H b=none→H' b=none)
  (there:∀ b o,b∉ch→s.heap.get? b=some o→∃ o',h'.get? b=some o')
  (tups:∀ b xs,H b=some (.tup xs)→H' b=some (.tup xs)) (frzs:∀ b o u,H b=some (.frz o u)→H' b=some (.frz o u)) (tbls:∀ b ps,H b=some (.tbl ps)→∃ more,H' b=some (.tbl (ps++more)))
  (ns:∀ m,s.heap.Ns X.env.locals m→h'.Ns X.env.locals m) (hok:HOk X.prog X.w H' h') (hg:AllBare g') :
  Inv X pins σ H' { s with heap:=h',gens:=g',drawn:=d',toks:=t' }:=by
 have neL:∀ b o,X.s₀.heap.get? b=some o→b≠X.env.locals:=fun b o e=>Nat.ne_of_lt (Nat.lt_of_lt_of_le (Heap.lt_size e) I.ok.above)
 have neC:∀ b o,X.s₀.heap.get? b=some o→b∉X.ex→b∉ch:=fun b o e hx hb=>by
  rcases (hch b hb).1 with z | z
  ·exact hx z
  ·exact absurd (Nat.lt_of_lt_of_le (Heap.lt_size e) z) (Nat.lt_irrefl _)
 have cellK:∀ x c,X.env.cells.lookup x=some c→∀ v,s.heap.IsCell c v→h'.IsCell c v:=fun x c e v ⟨o,ho,hd⟩=>by
  have nch:c∉ch:=fun z=>(hch c z).2.2.1 x c e rfl
  by_cases hc:c∈X.fs
  ·obtain ⟨sl,q⟩:=slot c o (I.cne x c e) hc nch ho (I.freeC x c e)
   exact ⟨_,q,hd⟩
  ·exact ⟨o,keep c o (I.cne x c e) hc nch ho (I.freeC x c e),hd⟩
 refine ⟨I.ok,I.os,hg,⟨fun b o e n hb hx=>?_,fun b o e n hb hx=>?_,fun b o e n hx=>?_,fun b o e hx=>?_,fun b xs e=>tups b xs (I.base.tups b xs e),fun b o xs e=>frzs b o xs (I.base.frzs b o xs e),fun b ps e=>?_⟩,?_,fun x c e=>?_,?_,fun x c e=>?_,fun p hp=>?_,hok,I.len⟩
 ·exact keep b o (neL b o e) hb (neC b o e hx) (I.base.keep b o e n hb hx) (I.base.free b o e n hx)
 ·obtain ⟨sl,e1⟩:=I.base.slot b o e n hb hx
  obtain ⟨sl',e2⟩:=slot b _ (neL b o e) hb (neC b o e hx) e1 (I.base.free b o e n hx)
  exact ⟨sl',e2⟩
 ·obtain ⟨o',e1⟩:=I.base.there b o e hx
  exact free b o' (neC b o e hx) e1 (I.base.free b o e n hx)
 ·obtain ⟨o',e1⟩:=I.base.there b o e hx
  exact there b o' (neC b o e hx) e1
 ·obtain ⟨m1,e1⟩:=I.base.tbls b ps e
  obtain ⟨m2,e2⟩:=tbls b _ e1
  exact ⟨m1++m2,by rw [e2,Array.append_assoc]⟩
 ·obtain ⟨m,hn,hl⟩:=I.loc
  refine ⟨m,ns m hn,fun i x v e1 e2 e3=>?_⟩
  obtain ⟨u,r,l⟩:=hl i x v e1 e2 e3
  refine ⟨u,r,?_⟩
  rcases l with l | ⟨k,c,e,z⟩
  ·exact .inl l
  ·exact .inr ⟨k,c,e,cellK x c e _ z⟩
 ·obtain ⟨v,z⟩:=I.cell x c e
  exact ⟨v,cellK x c e v z⟩
 ·obtain ⟨m,⟨o,_,_,ho,_⟩,_⟩:=I.loc
  exact free _ o (fun z=>(hch _ z).2.1 rfl) ho I.free
 ·obtain ⟨v,o,ho,hd⟩:=I.cell x c e
  exact free c o (fun z=>(hch c z).2.2.1 x c e rfl) ho (I.freeC x c e)
 ·obtain ⟨e,n,ne,nf,d⟩:=I.pin p hp
  have nch:p.1∉ch:=fun z=>(hch p.1 z).2.2.2 p hp rfl
  exact ⟨keep p.1 p.2 ne nf nch e n,free p.1 p.2 nch e n,ne,nf,d⟩
theorem Inv.un {t':Nat} (I:Inv X pins σ H s) (u:Un X.fs [] H H' s.heap h') (hok:HOk X.prog X.w H' h'):Inv X pins σ H' { s with heap:=h',toks:=t' }:=by
 obtain ⟨m,⟨o,es,ep,ho,r⟩,_⟩:=id I.loc
 obtain ⟨sl,hL⟩:=u.any ho I.free (by simp)
 exact I.step (g':=s.gens) (d':=s.drawn) (ch:=[]) (fun _ z=>nomatch z) (fun b o _ hb _ e n=>u.keep b o e n hb (by simp)) (fun b o _ hb _ e n=>u.slot b o e n hb (by simp)) (fun b o _ e n=>u.free b o e n (by simp)) (fun b o _ e=>u.there b o e (by simp)) u.tups u.frzs u.tbls (fun m' hm=>by
  obtain ⟨o',es',ep',ho',r'⟩:=hm
  rw [ho] at ho';cases ho'
  exact ⟨_,es',ep',hL,r'⟩) hok I.bare
theorem Inv.call {g':Array GenState} {t':Nat} {d':Drawn} {ch:List Addr} (I:Inv X pins σ H s) (u:Un (frs X.stack) ch H H' s.heap h') (hok:HOk X.prog X.w H' h') (hg:AllBare g')
  (hch:∀ b∈ch,(b∈X.ex∨X.s₀.heap.objs.size≤b)∧b≠X.env.locals∧(∀ x c,X.env.cells.lookup x=some c→c≠b)∧∀ p∈X.pn++pins,p.1≠b) :
  Inv X pins σ H' { s with heap:=h',gens:=g',drawn:=d',toks:=t' }:=by
 obtain ⟨m,⟨o,es,ep,ho,r⟩,_⟩:=id I.loc
 obtain ⟨sl,hL⟩:=u.any ho I.free fun z=>(hch _ z).2.1 rfl
 exact I.step (ch:=ch) hch (fun b o hL hb hc e n=>u.keep b o e n (fun z=>(List.mem_cons.mp (I.stkSub b z)).elim hL hb) hc) (fun b o _ _ hc e n=>u.any e n hc) (fun b o hc e n=>u.free b o e n hc) (fun b o hc e=>u.there b o e hc) u.tups u.frzs u.tbls (fun m' hm=>by
  obtain ⟨o',es',ep',ho',r'⟩:=hm
  rw [ho] at ho';cases ho'
  exact ⟨_,es',ep',hL,r'⟩) hok hg
theorem Inv.turned {t':Nat} {it:Addr} (I:Inv X pins σ H s) (k:∀ b o,b≠it→s.heap.get? b=some o→h'.get? b=some o) (hn:H it=none) (hL:it≠X.env.locals)
  (h1:it∈X.ex∨X.s₀.heap.objs.size≤it) (h2:∀ x c,X.env.cells.lookup x=some c→c≠it) (h3:∀ p∈X.pn++pins,p.1≠it):Inv X pins σ H { s with heap:=h',toks:=t' }:=by
 have nit:∀ b u,H b=some u→b≠it:=fun b u e z=>by rw [z,hn] at e;cases e
 refine I.step (g':=s.gens) (d':=s.drawn) (ch:=[it]) (fun b hb=>?_) (fun b o _ _ hc e _=>k b o (fun z=>hc (by simp [z])) e) (fun b o _ _ hc e _=>⟨o.slots,k b o (fun z=>hc (by simp [z])) e⟩) (fun _ _ _ _ n=>n)
  (fun b o hc e=>⟨o,k b o (fun z=>hc (by simp [z])) e⟩) (fun _ _ e=>e) (fun _ _ _ e=>e) (fun b ps e=>⟨#[],by rw [e];simp⟩) (fun m hm=>?_) (fun b u e=>?_) I.bare
 ·have e:b=it:=by simpa using hb
  subst e
  exact ⟨h1,hL,h2,h3⟩
 ·obtain ⟨o,es,ep,ho,r⟩:=hm
  exact ⟨o,es,ep,k _ o (Ne.symm hL) ho,r⟩
 ·refine (I.hok b u e).stay (fun c v hc q=>k c v ?_ q) (fun _ q=>q) fun _ _ q=>q
  rcases hc with z | z
  ·rw [z];exact nit b u e
  ·exact nit c _ z
theorem Inv.tok (I:Inv X pins σ H s) (t:Nat):Inv X pins σ H { s with toks:=t }:=I.un (h':=s.heap) (t':=t) Un.refl I.hok
theorem Inv.kept {t':Nat} (I:Inv X pins σ H s) (k:∀ b u,s.heap.get? b=some u→h'.get? b=some u):Inv X pins σ H { s with heap:=h',toks:=t' }:=I.un (Un.kept k) (I.hok.kept k)
theorem Inv.laid {a:Addr} {o:HO} {t':Nat} (I:Inv X pins σ H s) (k:∀ b u,s.heap.get? b=some u→h'.get? b=some u) (hp:s.heap.objs.size≤a) (new:zcG X.prog X.w (upd H a o) h' a o) :
  Inv X pins σ (upd H a o) { s with heap:=h',toks:=t' }:=I.un (Un.laid k hp (I.hok.fresh hp)) (I.hok.laid k hp new)
theorem Inv.write {x e:Addr} {o:HO} {t':Nat} (I:Inv X pins σ H s) (mu:Mut (H x)) (he:e=x∨H e=some (.own x)) (k:∀ b u,b≠e→s.heap.get? b=some u→h'.get? b=some u) (heo:∃ u,h'.get? e=some u)
  (new:zcG X.prog X.w (upd H x o) h' x o):Inv X pins σ (upd H x o) { s with heap:=h',toks:=t' }:=I.un (Un.write mu he k heo) (I.hok.write mu he k heo new)
theorem Inv.pins_of {pins':List (Addr×Obj)} (I:Inv X pins σ H s) (h:∀ p∈pins',s.heap.get? p.1=some p.2∧H p.1=none∧p.1≠X.env.locals∧p.1∉X.fs∧∀ v,p.2.data≠.cell v):Inv X pins' σ H s :=
 ⟨I.ok,I.os,I.bare,I.base,I.loc,I.cell,I.free,I.freeC,fun p hp=>(List.mem_append.mp hp).elim (fun z=>I.pin p (List.mem_append_left _ z)) (h p),I.hok,I.len⟩
theorem zjb {N:List Str} (hN:N.Nodup) {i j:Nat} {x:Str} (a:N[i]?=some x) (b:N[j]?=some x):i=j:=by
 obtain ⟨h1,e1⟩:=List.getElem?_eq_some_iff.mp a
 obtain ⟨h2,e2⟩:=List.getElem?_eq_some_iff.mp b
 exact (List.getElem_inj hN).mp (e1.trans e2.symm)
theorem zh9 {M:Model} {A:Around} {E:Value→Shared→Prop} {i:Nat} {x:Str} {v:V} {u:Value} {Q:Unit→Shared→Prop} (I:Inv X pins σ H s) (hN:X.N.Nodup) (hi:X.N[i]?=some x) (hx:Loc X.env.scope x) (r:zcF v u)
  (h:∀ s',Inv X pins (σ.set i (some v)) H s'→(∃ a,Heap.SameBut a s.heap s'.heap∧(a=X.env.locals∨X.env.cells.lookup x=some a))→Q () s') (hf:X.fn x=true∨X.env.scope.names.lookup x=some .local:=by first | exact .inl rfl | exact .inr rfl | assumption):wpAny M A (storeName X.env x u) Q E s:=by
 obtain ⟨m,hn,hl⟩:=id I.loc
 have hcls:(X.env.scope.kind == .class || (X.env.scope.kind == .module&&X.env.locals != X.env.globals))=false:=by rw [I.ok.kind];rfl
 have hiσ:i<σ.length:=by rw [I.len];exact (List.getElem?_eq_some_iff.mp hi).1
 have cne:=I.cne
 have tracked:∀ {a:Addr} {h':Heap},(∃ o,s.heap.get? a=some o∧H a=none)→Heap.SameBut a s.heap h'→HOk X.prog X.w H h':=fun {a h'} ha hs b ob e=>by
  obtain ⟨_,_,hfree⟩:=ha
  refine (I.hok b ob e).stay (fun c w' hc q=>(hs.2 c ?_).trans q) (fun _ q=>q) fun _ _ q=>q
  rintro rfl
  rcases hc with rfl | hc
  ·rw [hfree] at e;cases e
  ·rw [hfree] at hc;cases hc
 rcases hx with hk | hk
 ·refine wpAny_storeName_local hk hn (fun h' hn' hs=>?_) hcls
  obtain ⟨oL,_,_,hoL,_⟩:=id hn
  refine h _ ⟨I.ok,I.os,I.bare,⟨fun b o e n hb hx=>?_,fun b o e n hb hx=>?_,I.base.free,fun b o e hx=>?_,I.base.tups,I.base.frzs,I.base.tbls⟩,⟨_,hn',fun j y v' e1 e2 e3=>?_⟩,fun y c e=>?_,I.free,I.freeC,fun p hp=>?_,tracked ⟨oL,hoL,I.free⟩ hs,by simpa using I.len⟩ ⟨_,hs,.inl rfl⟩
  ·exact (hs.2 b (Nat.ne_of_lt (Nat.lt_of_lt_of_le (Heap.lt_size e) I.ok.above))).trans (I.base.keep b o e n hb hx)
  ·obtain ⟨sl,e1⟩:=I.base.slot b o e n hb hx
   exact ⟨sl,(hs.2 b (Nat.ne_of_lt (Nat.lt_of_lt_of_le (Heap.lt_size e) I.ok.above))).trans e1⟩
  ·obtain ⟨o',e1⟩:=I.base.there b o e hx
   exact ⟨o',(hs.2 b (Nat.ne_of_lt (Nat.lt_of_lt_of_le (Heap.lt_size e) I.ok.above))).trans e1⟩
  ·by_cases hj:j=i
   ·subst hj
    rw [hi] at e1;cases e1
    rw [List.getElem?_set_self hiσ] at e2
    cases e2
    exact ⟨u,r,.inl ⟨hk,by simp⟩⟩
   ·rw [List.getElem?_set_ne (Ne.symm hj)] at e2
    obtain ⟨u',r',q⟩:=hl j y v' e1 e2 e3
    refine ⟨u',r',?_⟩
    rcases q with ⟨k,e⟩ | ⟨k,c,e,z⟩
    ·refine .inl ⟨k,?_⟩
     have:y≠x:=fun e=>hj (zjb hN e1 (e ▸ hi))
     simp [this,e]
    ·exact .inr ⟨k,c,e,z.sameBut hs (cne y c e)⟩
  ·obtain ⟨w',z⟩:=I.cell y c e
   exact ⟨w',z.sameBut hs (cne y c e)⟩
  ·obtain ⟨e,n,ne,nf,d⟩:=I.pin p hp
   exact ⟨(hs.2 p.1 ne).trans e,n,ne,nf,d⟩
 ·have hfn:X.fn x=true:=by
   rcases hf with z | z
   ·exact z
   ·rw [z] at hk;cases hk
  obtain ⟨c,hc⟩:=I.ok.has x (.inl hk)
  obtain ⟨w',z⟩:=I.cell x c hc
  refine wpAny_storeName_cell I.ok.kind hk hc z (fun h' hc' hs=>?_)
  obtain ⟨oc,hoc,hocd⟩:=id z
  refine h { s with heap:=h' } ⟨I.ok,I.os,I.bare,⟨fun b o e n hb hx=>?_,fun b o e n hb hx=>?_,I.base.free,fun b o e hx=>?_,I.base.tups,I.base.frzs,I.base.tbls⟩,⟨m,hn.sameBut hs (Ne.symm (cne x c hc)),fun j y v' e1 e2 e3=>?_⟩,fun y c' e=>?_,I.free,I.freeC,fun p hp=>?_,tracked ⟨oc,hoc,I.freeC x c hc⟩ hs,by simpa using I.len⟩ ⟨c,hs,.inr hc⟩
  ·exact (hs.2 b (Nat.ne_of_lt (Nat.lt_of_lt_of_le (Heap.lt_size e) (I.ok.cab x c hfn hc)))).trans (I.base.keep b o e n hb hx)
  ·obtain ⟨sl,e1⟩:=I.base.slot b o e n hb hx
   exact ⟨sl,(hs.2 b (Nat.ne_of_lt (Nat.lt_of_lt_of_le (Heap.lt_size e) (I.ok.cab x c hfn hc)))).trans e1⟩
  ·obtain ⟨o',e1⟩:=I.base.there b o e hx
   exact ⟨o',(hs.2 b (Nat.ne_of_lt (Nat.lt_of_lt_of_le (Heap.lt_size e) (I.ok.cab x c hfn hc)))).trans e1⟩
  ·by_cases hj:j=i
   ·subst hj
    rw [hi] at e1;cases e1
    rw [List.getElem?_set_self hiσ] at e2
    cases e2
    exact ⟨u,r,.inr ⟨.inl hk,c,hc,hc'⟩⟩
   ·rw [List.getElem?_set_ne (Ne.symm hj)] at e2
    obtain ⟨u',r',q⟩:=hl j y v' e1 e2 e3
    refine ⟨u',r',?_⟩
    rcases q with q | ⟨k,c',e,z'⟩
    ·exact .inl q
    ·refine .inr ⟨k,c',e,z'.sameBut hs ?_⟩
     rintro rfl
     exact hj (zjb hN e1 (I.ok.inj _ _ _ e hc ▸ hi))
  ·by_cases hcc:c'=c
   ·subst hcc;exact ⟨_,hc'⟩
   ·obtain ⟨w2,z2⟩:=I.cell y c' e
    exact ⟨w2,z2.sameBut hs hcc⟩
  ·obtain ⟨e,n,ne,nf,d⟩:=I.pin p hp
   refine ⟨(hs.2 p.1 ?_).trans e,n,ne,nf,d⟩
   intro q
   rw [q,hoc] at e
   have q':oc=p.2:=Option.some.inj e
   exact d w' (by rw [← q'];exact hocd)
theorem zfl {M:Model} {A:Around} {E:Value→Shared→Prop} {i:Nat} {x:Str} {v:V} {u:Value} {Q:Unit→Shared→Prop} (I:Inv X pins σ H s) (hN:X.N.Nodup) (hi:X.N[i]?=some x) (hx:Loc X.env.scope x) (r:zcF v u)
  (h:∀ s',Inv X pins (σ.set i (some v)) H s'→Q () s') (hf:X.fn x=true∨X.env.scope.names.lookup x=some .local:=by first | exact .inl rfl | exact .inr rfl | assumption):wpAny M A (storeName X.env x u) Q E s :=
 zh9 I hN hi hx r (fun s' I' _=>h s' I') hf
theorem Inv.call' {s':Shared} {ch:List Addr} (I:Inv X pins σ H s) (ho:s'.os=s.os) (u:Un (frs X.stack) ch H H' s.heap s'.heap) (hok:HOk X.prog X.w H' s'.heap) (hg:AllBare s'.gens)
  (hch:∀ b∈ch,(b∈X.ex∨X.s₀.heap.objs.size≤b)∧b≠X.env.locals∧(∀ x c,X.env.cells.lookup x=some c→c≠b)∧∀ p∈X.pn++pins,p.1≠b):Inv X pins σ H' s':=by
 obtain ⟨h',g',d',t',o'⟩:=s'
 have e:o'=s.os:=ho
 subst e
 exact I.call (g':=g') (t':=t') (d':=d') u hok hg hch
end
abbrev XK:=Value→Option Addr→Hp→Prop
abbrev St:=List (Option V)
abbrev VK:=V→Hp→Prop
abbrev TE:=St→Hp→VK→Prop
abbrev TT:=St→Hp→(Bool→Hp→Prop)→Prop
abbrev TA:=St→Hp→(List V→Hp→Prop)→Prop
structure zch where
 nx:St→Hp→Prop
 rt:VK
 bk:St→Hp→Prop:=fun _ _=>False
 ct:St→Hp→Prop:=fun _ _=>False
abbrev TS:=zch→St→Hp→Prop
def EP (X:Cx) (pins:List (Addr×Obj)) (σ:St) (Q:VK) (u:Value) (s':Shared):Prop:=∃ v H',Inv X pins σ H' s'∧zcF v u∧Q v H'
def TP (X:Cx) (pins:List (Addr×Obj)) (σ:St) (Q:Bool→Hp→Prop) (b:Bool) (s':Shared):Prop:=∃ H',Inv X pins σ H' s'∧Q b H'
def AP (X:Cx) (pins:List (Addr×Obj)) (σ:St) (Q:List V→Hp→Prop) (us:List Value) (s':Shared):Prop:=∃ vs H',Inv X pins σ H' s'∧zbJ vs us∧Q vs H'
def SP (X:Cx) (pins:List (Addr×Obj)) (D:zch) (f:Flow) (s':Shared):Prop :=
 match f with
 | .next=>∃ σ' H',Inv X pins σ' H' s'∧D.nx σ' H'
 | .brk=>∃ σ' H',Inv X pins σ' H' s'∧D.bk σ' H'
 | .cont=>∃ σ' H',Inv X pins σ' H' s'∧D.ct σ' H'
 | .ret u=>∃ v σ' H',Inv X pins σ' H' s'∧zcF v u∧D.rt v H'
def PE (X:Cx) (e:Expr) (t:TE):Prop :=
 ∀ (pins:List (Addr×Obj)) (s:Shared) (σ:St) (H:Hp) (Q:VK),Inv X pins σ H s→t σ H Q→wpAny (model X.prog X.w) X.A (eval e X.env) (EP X pins σ Q) X.xe s
def PT (X:Cx) (e:Expr) (t:TT):Prop :=
 ∀ (pins:List (Addr×Obj)) (s:Shared) (σ:St) (H:Hp) (Q:Bool→Hp→Prop),Inv X pins σ H s→t σ H Q→wpAny (model X.prog X.w) X.A (isTrue e X.env (eval e X.env)) (TP X pins σ Q) X.xe s
def PW (X:Cx) (e:Expr) (t:TT):Prop :=
 ∀ (whole:Sem Value) (pins:List (Addr×Obj)) (s:Shared) (σ:St) (H:Hp) (Q:Bool→Hp→Prop),Inv X pins σ H s→t σ H Q→wpAny (model X.prog X.w) X.A (isTrue e X.env whole) (TP X pins σ Q) X.xe s
theorem PW.pt {X:Cx} {e:Expr} {t:TT} (h:PW X e t):PT X e t:=h _
def PA (X:Cx) (es:List Expr) (t:TA):Prop :=
 ∀ (pos:Pos) (pins:List (Addr×Obj)) (s:Shared) (σ:St) (H:Hp) (Q:List V→Hp→Prop),Inv X pins σ H s→t σ H Q→wpAny (model X.prog X.w) X.A (spliced (backTo pos (starEach es X.env))) (AP X pins σ Q) X.xe s
def PS (X:Cx) (st:Stmt) (t:TS):Prop :=
 ∀ (pins:List (Addr×Obj)) (s:Shared) (σ:St) (H:Hp) (D:zch),Inv X pins σ H s→t D σ H→wpAny (model X.prog X.w) X.A (exec st X.env) (SP X pins D) X.xe s
def PSs (X:Cx) (st:List Stmt) (t:TS):Prop :=
 ∀ (pins:List (Addr×Obj)) (s:Shared) (σ:St) (H:Hp) (D:zch),Inv X pins σ H s→t D σ H→wpAny (model X.prog X.w) X.A (execs st X.env) (SP X pins D) X.xe s
theorem thn {α:Type} {t:Sem α} {Q Q':α→Shared→Prop} {M:Model} {A:Around} {E:Value→Shared→Prop} {s:Shared} (h:wpAny M A t Q E s) (hQ:∀ a s,Q a s→Q' a s):wpAny M A t Q' E s:=wpAny_mono h hQ fun _ _ x=>x
end L2
namespace L2
open PySem PySem.Spec PyProof.Rows
section
variable {X:Cx}
def zac (i:Nat):TE:=fun σ H Q=>∃ v,σ[i]?=some (some v)∧Q v H
def tC (v:V):TE:=fun _ H Q=>Q v H
theorem zp7 {i:Nat} {x:Str} {pos:Pos} (hN:X.N[i]?=some x) (hv:Vis X.env.scope x) (hd:(x == ("__debug__":Str))=false:=by decide) (hcd:(x == ("__classdict__":Str))=false:=by decide):PE X (.Name x pos) (zac i):=by
 intro pins s σ H Q I h
 obtain ⟨v,e,h⟩:=h
 obtain ⟨m,hn,hl⟩:=I.loc
 obtain ⟨u,r,l⟩:=hl i x v hN e hv
 have fin:EP X pins σ Q u s:=⟨v,H,I,r,h⟩
 rcases l with ⟨hk,hm⟩ | ⟨hk,c,hc,hcell⟩
 ·exact wpAny_Name (wpAny_loadName_local I.ok.kind hk hn hm fin) hd
 ·rcases hk with hk | hk
  ·exact wpAny_Name (wpAny_loadName_cell I.ok.kind hk hc hcell fin) hd
  ·exact wpAny_Name (wpAny_loadName_free I.ok.kind hk hc hcell fin hcd) hd
theorem zag {i j pos}:PE X (.Constant (.int i) j pos) (tC (.int i)):=fun _ _ _ H _ I h=>wpAny_Constant_int ⟨.int i,H,I.tok _,⟨_,rfl⟩,h⟩
theorem zgI {b j pos}:PE X (.Constant (.bool b) j pos) (tC (.bl b)):=fun _ _ _ H _ I h=>Constant_bool ⟨.bl b,H,I,rfl,h⟩
def Gl (X:Cx) (x:Str):Prop:=X.env.kindOf x=some .globalImplicit
theorem zlB {E:Value→Shared→Prop} {pins:List (Addr×Obj)} {s:Shared} {σ:St} {H:Hp} {x:Str} {u:Value} {pos:Pos} {Q:Value→Shared→Prop} (I:Inv X pins σ H s) (hg:Gl X x) (hm:X.mg x=some u) (h:Q u s)
  (hd:(x == ("__debug__":Str))=false:=by decide):wpAny (model X.prog X.w) X.A (eval (.Name x pos) X.env) Q E s :=
 Calls.Name_function_global I.ok.kind hg (Calls.loadGlobal_global (by rw [I.ok.glob];exact I.mod.glob.keeps I.bk) hm h) hd
theorem zfW {E:Value→Shared→Prop} {pins:List (Addr×Obj)} {s:Shared} {σ:St} {H:Hp} {x:Str} {u:Value} {pos:Pos} {Q:Value→Shared→Prop} (I:Inv X pins σ H s) (hg:Gl X x) (hm:X.mg x=none) (hv:bootBuiltins x=some u) (h:Q u s)
  (hn:x≠"__name__":=by decide) (hd:(x == ("__debug__":Str))=false:=by decide):wpAny (model X.prog X.w) X.A (eval (.Name x pos) X.env) Q E s:=by
 obtain ⟨mb,h1,h2⟩:=I.mod.blt
 exact Calls.Name_function_global I.ok.kind hg (Calls.loadGlobal_builtin (by rw [I.ok.glob];exact I.mod.glob.keeps I.bk) hm (by rw [I.ok.blt];exact h1.keeps I.bk) ((h2 x hn).trans hv) h) hd
theorem zg6 {x:Str} {v:V} {u:Value} {pos:Pos} (hg:Gl X x) (hm:X.mg x=some u) (r:zcF v u) (hd:(x == ("__debug__":Str))=false:=by decide):PE X (.Name x pos) (tC v) :=
 fun _ _ _ H _ I h=>zlB I hg hm ⟨v,H,I,r,h⟩ hd
theorem zdh {x:Str} {v:V} {u:Value} {pos:Pos} (hg:Gl X x) (hm:X.mg x=none) (hv:bootBuiltins x=some u) (r:zcF v u) (hn:x≠"__name__":=by decide) (hd:(x == ("__debug__":Str))=false:=by decide):PE X (.Name x pos) (tC v) :=
 fun _ _ _ H _ I h=>zfW I hg hm hv ⟨v,H,I,r,h⟩ hn hd
variable {a b:Expr} {ta tb:TE} {pos:Pos}
def tB (t:TE):TT:=fun σ H Q=>t σ H fun x H1=>∃ c,x=.bl c∧Q c H1
theorem zb1 {e:Expr} {t:TE} (h:PE X e t) (he:∀ whole,isTrue e X.env whole=(do let v ← whole;standAt e.pos;holding [v] (truthy v)):=by intro _;rfl):PT X e (tB t):=by
 intro pins s σ H Q I hw
 refine isTrue_plain (thn (h pins s σ H _ I hw) fun v s1 hQ'=>?_) (he _)
 obtain ⟨x,H1,I1,r1,q1⟩:=hQ'
 obtain ⟨d,rfl,q⟩:=q1
 cases r1
 exact wpAny_truthy_bool ⟨H1,I1,q⟩
variable {tA tB':TT} {rest:List Expr}
def zpz (t u:TT):TT:=fun σ H Q=>t σ H fun c H1=>if c=true then u σ H1 Q else Q false H1
def tOr (t u:TT):TT:=fun σ H Q=>t σ H fun c H1=>if c=true then Q true H1 else u σ H1 Q
def zfn (t:TT):TT:=fun σ H Q=>t σ H fun c H1=>Q (!c) H1
theorem zj9 (ha:PT X a tA):PW X (.BoolOp .And [a] pos) tA:=by
 intro wh pins s σ H Q I h
 refine isTrue_and (thn (ha pins s σ H Q I h) fun c s1 e=>?_)
 cases c with
 | true=>exact isTrue_and_nil e
 | false=>exact e
theorem zfh (ha:PT X a tA):PW X (.BoolOp .Or [a] pos) tA:=by
 intro wh pins s σ H Q I h
 refine isTrue_or (thn (ha pins s σ H Q I h) fun c s1 e=>?_)
 cases c with
 | false=>exact isTrue_or_nil e
 | true=>exact e
theorem zni (ha:PT X a tA) (hb:PW X (.BoolOp .And (b::rest) pos) tB'):PW X (.BoolOp .And (a::b::rest) pos) (zpz tA tB'):=by
 intro wh pins s σ H Q I h
 refine isTrue_and (thn (ha pins s σ H _ I h) fun c s1 hQ'=>?_)
 obtain ⟨H1,I1,q1⟩:=hQ'
 cases c with
 | true=>exact hb wh pins s1 σ H1 Q I1 q1
 | false=>exact ⟨H1,I1,q1⟩
theorem zfO (ha:PT X a tA) (hb:PW X (.BoolOp .Or (b::rest) pos) tB'):PW X (.BoolOp .Or (a::b::rest) pos) (tOr tA tB'):=by
 intro wh pins s σ H Q I h
 refine isTrue_or (thn (ha pins s σ H _ I h) fun c s1 hQ'=>?_)
 obtain ⟨H1,I1,q1⟩:=hQ'
 cases c with
 | true=>exact ⟨H1,I1,q1⟩
 | false=>exact hb wh pins s1 σ H1 Q I1 q1
theorem zcY (ha:PT X a tA):PT X (.UnaryOp .Not a pos) (zfn tA):=by
 intro pins s σ H Q I h
 exact isTrue_not (ha pins s σ H (fun c H1=>Q (!c) H1) I h)
def zge (ta tb:TE):TE:=fun σ H Q=>ta σ H fun x H1=>∃ c,x=.bl c∧if c=true then tb σ H1 Q else Q (.bl false) H1
def zmj (ta:TE):TE:=fun σ H Q=>ta σ H fun x H1=>∃ c,x=.bl c∧Q (.bl (!c)) H1
theorem zh6 {op} {t:TE} (h:PE X a t):PE X (.BoolOp op [a] pos) t:=fun pins s σ H Q I hw=>BoolOp_one (h pins s σ H Q I hw)
theorem zgv (ha:PE X a ta) (hb:PE X (.BoolOp .And (b::rest) pos) tb):PE X (.BoolOp .And (a::b::rest) pos) (zge ta tb):=by
 intro pins s σ H Q I h
 refine BoolOp_and (thn (ha pins s σ H _ I h) fun v s1 hQ'=>?_)
 obtain ⟨x,H1,I1,r1,q1⟩:=hQ'
 obtain ⟨c,rfl,q1⟩:=q1
 cases r1
 refine wpAny_truthy_bool ?_
 cases c with
 | true=>exact hb pins s1 σ H1 Q I1 q1
 | false=>exact ⟨.bl false,H1,I1,rfl,q1⟩
theorem znm (ha:PE X a ta):PE X (.UnaryOp .Not a pos) (zmj ta):=by
 intro pins s σ H Q I h
 refine UnaryOp_ (thn (ha pins s σ H _ I h) fun v s1 hQ'=>?_)
 obtain ⟨x,H1,I1,r1,q1⟩:=hQ'
 obtain ⟨c,rfl,q1⟩:=q1
 cases r1
 exact not_of (wpAny_truthy_bool ⟨.bl (!c),H1,I1,rfl,q1⟩)
def tIf (t:TT) (ta tb:TE):TE:=fun σ H Q=>t σ H fun c H1=>if c=true then ta σ H1 Q else tb σ H1 Q
theorem zjt {c:Expr} (hc:PT X c tA) (ha:PE X a ta) (hb:PE X b tb):PE X (.IfExp c a b pos) (tIf tA ta tb):=by
 intro pins s σ H Q I h
 refine wpAny_IfExp (thn (hc pins s σ H _ I h) fun d s1 hQ'=>?_)
 obtain ⟨H1,I1,q1⟩:=hQ'
 cases d with
 | true=>exact ha pins s1 σ H1 Q I1 q1
 | false=>exact hb pins s1 σ H1 Q I1 q1
end
end L2
namespace L2
open PySem PySem.Spec PyProof.Rows
def SqL (K:PySem.W.Frag) (H:Hp) (a:Addr) (xs:List V):Prop :=
 Rd H a (.lst xs) ∨
  ∃ (o:Obj) (its:Array Value) (n:Nat),K.lookup a=some o∧o.cls=.type "list"∧o.dict=none∧o.data=.seq its n∧its.size≤sizeLine∧zbJ xs its.toList
def SqT (K:PySem.W.Frag) (H:Hp) (a:Addr) (xs:List V):Prop :=
 Rd H a (.tup xs) ∨
  ∃ (o:Obj) (its:Array Value) (n:Nat),K.lookup a=some o∧o.cls=.type "tuple"∧o.data=.seq its n∧its.size≤sizeLine∧zbJ xs its.toList
def absV:Value→Option V
 | .none=>some .non
 | .bool b=>some (.bl b)
 | .int i _=>some (.int i)
 | .str x _=>some (.str x)
 | .bytes b _=>some (.byt b)
 | .float b _=>some (.flt b)
 | .ref a=>some (.ref a)
 | .type n=>some (.ty n)
 | _=>none
theorem zcF.abs {x:V} {u:Value} (r:zcF x u):absV u=some x:=by
 cases x with
 | non=>cases r;rfl
 | bl _=>cases r;rfl
 | int _=>obtain ⟨t,rfl⟩:=r;rfl
 | str _=>obtain ⟨t,rfl⟩:=r;rfl
 | byt _=>obtain ⟨t,rfl⟩:=r;rfl
 | flt _=>obtain ⟨t,rfl⟩:=r;rfl
 | ref _=>cases r;rfl
 | ty _=>cases r;rfl
theorem zcF.inj {x y:V} {u:Value} (r:zcF x u) (q:zcF y u):x=y:=Option.some.inj (r.abs.symm.trans q.abs)
theorem zbJ.inj:∀ {xs ys:List V} {us:List Value},zbJ xs us→zbJ ys us→xs=ys
 | _,_,_,.nil,.nil=>rfl
 | _,_,_,.cons r t,.cons r' t'=>by rw [r.inj r',zbJ.inj t t']
section
variable {X:Cx} {pins:List (Addr×Obj)} {σ:St} {H:Hp} {s:Shared} {a:Addr} {xs ys:List V}
theorem SqL.of {K:PySem.W.Frag} (h:H a=some (.lst xs)):SqL K H a xs:=.inl (.inl h)
theorem SqT.of {K:PySem.W.Frag} (h:H a=some (.tup xs)):SqT K H a xs:=.inl (.inl h)
theorem Inv.list (I:Inv X pins σ H s) (h:SqL X.K H a xs):∃ its:List Value,zbJ xs its∧PlainL s.heap a its.toArray∧xs.length≤sizeLine:=by
 rcases h with h | ⟨o,its,n,hk,hc,hd,hs,hz,r⟩
 ·obtain ⟨z,its,n,r,e⟩:=h.ok I.hok
  exact ⟨its,r,⟨_,n,e,rfl,rfl,rfl⟩,z⟩
 ·refine ⟨its.toList,r,⟨o,n,I.kIn a o hk,hc,hd,by simpa using hs⟩,?_⟩
  have e:=r.length
  simp only [Array.length_toList] at e
  (first|lia|omega)
theorem Inv.tuple (I:Inv X pins σ H s) (h:SqT X.K H a xs):∃ its:List Value,zbJ xs its∧IsTup s.heap a its.toArray∧xs.length≤sizeLine:=by
 rcases h with h | ⟨o,its,n,hk,hc,hs,hz,r⟩
 ·obtain ⟨z,its,r,p⟩:=h.ok I.hok
  exact ⟨its,r,p,z⟩
 ·refine ⟨its.toList,r,⟨o,I.kIn a o hk,hc,n,by simpa using hs⟩,?_⟩
  have e:=r.length
  simp only [Array.length_toList] at e
  (first|lia|omega)
theorem Inv.list_inj (I:Inv X pins σ H s) (h:SqL X.K H a xs) (h':SqL X.K H a ys):xs=ys:=by
 obtain ⟨its,r,⟨o,n,e,_,_,d⟩,_⟩:=I.list h
 obtain ⟨its',r',⟨o',n',e',_,_,d'⟩,_⟩:=I.list h'
 rw [e] at e';cases e'
 rw [d] at d'
 injection d' with d1 _
 have:its=its':=by simpa using congrArg Array.toList d1
 subst this
 exact r.inj r'
end
abbrev Cx.wish (X:Cx) (E:Value→Shared→Prop):Cx:={ X with xe:=E }
abbrev Cx.nox (X:Cx):Cx:=X.wish fun _ _=>False
theorem Cx.Ok.wish {X:Cx} (ok:X.Ok) (E:Value→Shared→Prop):(X.wish E).Ok :=
 ⟨ok.mod,ok.kind,ok.glob,ok.blt,ok.above,ok.inj,ok.has,ok.cab,ok.hd,ok.frames,ok.stk,ok.exf,ok.bs,ok.bsz,ok.noex,ok.exfs,ok.funs,ok.frf⟩
theorem Cx.Ok.unwish {X:Cx} {E:Value→Shared→Prop} (ok:(X.wish E).Ok):X.Ok :=
 ⟨ok.mod,ok.kind,ok.glob,ok.blt,ok.above,ok.inj,ok.has,ok.cab,ok.hd,ok.frames,ok.stk,ok.exf,ok.bs,ok.bsz,ok.noex,ok.exfs,ok.funs,ok.frf⟩
section
variable {X:Cx} {pins:List (Addr×Obj)} {σ:St} {H:Hp} {s:Shared} {E:Value→Shared→Prop}
theorem Inv.wish (I:Inv X pins σ H s) (E:Value→Shared→Prop):Inv (X.wish E) pins σ H s:=⟨I.ok.wish E,I.os,I.bare,I.base,I.loc,I.cell,I.free,I.freeC,I.pin,I.hok,I.len⟩
theorem Inv.unwish (I:Inv (X.wish E) pins σ H s):Inv X pins σ H s:=⟨I.ok.unwish,I.os,I.bare,I.base,I.loc,I.cell,I.free,I.freeC,I.pin,I.hok,I.len⟩
theorem SP.unwish {D:zch} {f:Flow} {s':Shared} (h:SP (X.wish E) pins D f s'):SP X pins D f s':=by
 cases f with
 | next=>obtain ⟨σ',H',I,q⟩:=h;exact ⟨σ',H',I.unwish,q⟩
 | brk=>obtain ⟨σ',H',I,q⟩:=h;exact ⟨σ',H',I.unwish,q⟩
 | cont=>obtain ⟨σ',H',I,q⟩:=h;exact ⟨σ',H',I.unwish,q⟩
 | ret u=>obtain ⟨v,σ',H',I,r,q⟩:=h;exact ⟨v,σ',H',I.unwish,r,q⟩
theorem PSs.nox {st:List Stmt} {t:TS} (h:PSs X.nox st t):PSs X st t:=fun pins s σ H D I hw =>
 wpAny_mono (h pins s σ H D (I.wish _) hw) (fun _ _ q=>q.unwish) fun _ _ z=>False.elim z
end
section
variable {X:Cx} {st:Stmt} {rest:List Stmt} {t u:TS} {e:Expr} {te:TE} {pos:Pos}
def zbF:TS:=fun D σ H=>D.nx σ H
def zaR (t u:TS):TS:=fun D σ H=>t { D with nx:=u D } σ H
theorem zbq:PSs X [] zbF:=fun _ _ σ H _ I h=>wpAny_execs_nil ⟨σ,H,I,h⟩
theorem zaf (h1:PS X st t) (h2:PSs X rest u):PSs X (st::rest) (zaR t u):=by
 intro pins s σ H D I h
 refine wpAny_execs_cons (thn (h1 pins s σ H { D with nx:=u D } I h) fun f s1 q=>?_)
 cases f with
 | next =>
  obtain ⟨σ',H',I',q⟩:=q
  exact h2 pins s1 σ' H' D I' q
 | ret v=>exact q
 | brk=>exact q
 | cont=>exact q
theorem zal (h1:PS X st t):PSs X [st] t:=by
 intro pins s σ H D I h
 refine wpAny_execs_cons (thn (h1 pins s σ H D I h) fun f s1 q=>?_)
 cases f with
 | next=>exact wpAny_execs_nil q
 | ret v=>exact q
 | brk=>exact q
 | cont=>exact q
theorem Inv.quiet {pins:List (Addr×Obj)} {σ:St} {H:Hp} {s:Shared} (I:Inv X pins σ H s):interactive X.env=false:=by simp [interactive,I.ok.kind]
def zeB (te:TE):TS:=fun D σ H=>te σ H fun _ H1=>D.nx σ H1
theorem zej (he:PE X e te) (hs:swapsWith e none pos.line X.env=pure false:=by rfl):PS X (.Expr e pos) (zeB te):=by
 intro pins s σ H D I h
 exact wpAny_Expr_any (thn (he pins s σ H _ I h) fun v s1 ⟨x,H1,I1,r1,q1⟩=>⟨σ,H1,I1,q1⟩) I.quiet hs
def zbo (te:TE):TS:=fun D σ H=>te σ H D.rt
theorem zaK (he:PE X e te):PS X (.Return (some e) pos) (zbo te):=by
 intro pins s σ H D I h
 exact wpAny_Return_some (thn (he pins s σ H _ I h) fun v s1 ⟨x,H1,I1,r1,q1⟩=>⟨x,σ,H1,I1,r1,q1⟩)
def zdt (c:TT) (t u:TS):TS:=fun D σ H=>c σ H fun b H1=>if b=true then t D σ H1 else u D σ H1
theorem zc3 {c:Expr} {a b:List Stmt} {tc:TT} (hc:PT X c tc) (ha:PSs X a t) (hb:PSs X b u):PS X (.If c a b pos) (zdt tc t u):=by
 intro pins s σ H D I h
 refine wpAny_If (thn (hc pins s σ H _ I h) fun d s1 hQ'=>?_)
 obtain ⟨H1,I1,q1⟩:=hQ'
 cases d with
 | true=>exact ha pins s1 σ H1 D I1 q1
 | false=>exact hb pins s1 σ H1 D I1 q1
def zjy:TS:=fun _ _ _=>False
theorem zhh:PS X st zjy:=fun _ _ _ _ _ _ h=>h.elim
end
abbrev TG:=V→St→Hp→(St→Hp→Prop)→Prop
abbrev TGs:=List V→St→Hp→(St→Hp→Prop)→Prop
def PG (X:Cx) (target:Expr) (t:TG):Prop :=
 ∀ (pins:List (Addr×Obj)) (s:Shared) (σ:St) (H:Hp) (v:V) (u:Value) (Q:St→Hp→Prop),Inv X pins σ H s→zcF v u→t v σ H Q →
  wpAny (model X.prog X.w) X.A (assign target X.env u) (fun _ s'=>∃ σ' H',Inv X pins σ' H' s'∧Q σ' H') X.xe s
def PGs (X:Cx) (ts:List Expr) (t:TGs):Prop :=
 ∀ (pins:List (Addr×Obj)) (s:Shared) (σ:St) (H:Hp) (vs:List V) (us:List Value) (Q:St→Hp→Prop),Inv X pins σ H s→zbJ vs us→t vs σ H Q →
  wpAny (model X.prog X.w) X.A (assignInOrder ((assignEach ts X.env).map (·.2)) us) (fun _ s'=>∃ σ' H',Inv X pins σ' H' s'∧Q σ' H') X.xe s
abbrev TSet:=V→V→V→Hp→(Hp→Prop)→Prop
def PSet (X:Cx) (t:TSet):Prop :=
 ∀ (pins:List (Addr×Obj)) (s:Shared) (σ:St) (H:Hp) (o i v:V) (ov iv u:Value) (Q:Hp→Prop),Inv X pins σ H s→zcF o ov→zcF i iv→zcF v u→t o i v H Q →
  wpAny (model X.prog X.w) X.A (setItem ov iv u) (fun _ s'=>∃ H',Inv X pins σ H' s'∧Q H') X.xe s
section
variable {X:Cx} {pos:Pos}
def zae (i:Nat):TG:=fun v σ H Q=>Q (σ.set i (some v)) H
theorem zam {i:Nat} {x:Str} (hN:X.N.Nodup) (hi:X.N[i]?=some x) (hx:Loc X.env.scope x) (hf:X.fn x=true∨X.env.scope.names.lookup x=some .local:=by first | exact .inl rfl | exact .inr rfl | assumption):PG X (.Name x pos) (zae i):=by
 intro pins s σ H v u Q I r h
 exact wpAny_assign_Name (zfl I hN hi hx r (fun s' I'=>⟨_,H,I',h⟩) hf)
def zcy:TGs:=fun vs σ H Q=>vs=[]∧Q σ H
def zaz (t:TG) (u:TGs):TGs:=fun vs σ H Q=>∃ v r,vs=v::r∧t v σ H fun σ' H'=>u r σ' H' Q
theorem za3:PGs X [] zcy:=by
 intro pins s σ H vs us Q I r h
 obtain ⟨e,h⟩:=h
 subst e
 cases r
 exact assignInOrder_nil ⟨σ,H,I,h⟩
theorem zat {e:Expr} {es:List Expr} {t:TG} {u:TGs} (h1:PG X e t) (h2:PGs X es u)
  (hs:(assignEach (e::es) X.env).map (·.2)=assign e X.env::(assignEach es X.env).map (·.2):=by rfl):PGs X (e::es) (zaz t u):=by
 intro pins s σ H vs us Q I r h
 obtain ⟨v,vr,e1,h⟩:=h
 subst e1
 cases r with
 | cons r rr =>
  rw [hs]
  refine assignInOrder_cons (thn (h1 pins s σ H _ _ _ I r h) fun _ s1 hQ'=>?_)
  obtain ⟨σ1,H1,I1,q1⟩:=hQ'
  exact h2 pins s1 σ1 H1 _ _ Q I1 rr q1
def zcA (K:PySem.W.Frag) (n:Nat) (t:TGs):TG:=fun v σ H Q=>∃ a xs,v=.ref a∧SqT K H a xs∧xs.length=n∧t xs σ H Q
theorem zbm {es:List Expr} {k:Nat} {t:TGs} {n:Nat} (hc:X.calm=true) (h:PGs X es t)
  (hn:(assignEach es X.env).length=n:=by rfl) (hst:(assignEach es X.env).findIdx? (·.1)=none:=by rfl):PG X (.Tuple es k pos) (zcA X.K n t):=by
 intro pins s σ H v u Q I r hw
 obtain ⟨a,xs,e1,hq,hl,hw⟩:=hw
 subst e1
 cases r
 obtain ⟨its,rv,ht,hz⟩:=I.tuple hq
 refine assign_Tuple_tuple (I.ok.hd hc) ht (by simp [hn,← hl,rv.length]) hst fun h' hx=>?_
 have I1:Inv X pins σ H { s with heap:=h' }:=I.kept (t':=s.toks) fun b o e=>hx b o (Nat.ne_of_lt (Heap.lt_size e)) e
 exact h pins _ σ H xs _ Q I1 (by simpa using rv) hw
def zqo (to ti:TE) (t:TSet):TG:=fun v σ H Q=>to σ H fun o H1=>ti σ H1 fun i H2=>t o i v H2 fun H3=>Q σ H3
theorem znn {o i:Expr} {to ti:TE} {t:TSet} (ho:PE X o to) (hi:PE X i ti) (hs:PSet X t)
  (ha:∀ v,assign (.Subscript o i pos) X.env v=(do
   let ov ← holding [v] (eval o X.env)
   let iv ← holding [v,ov] (eval i X.env)
   standAt pos
   holding [v,ov,iv] (setItem ov iv v)
   release [v,ov,iv] []):=by intro _;rfl):PG X (.Subscript o i pos) (zqo to ti t):=by
 intro pins s σ H v u Q I r h
 rw [ha]
 refine wpAny_bind (wpAny_holding (thn (ho pins s σ H _ I h) fun ov s1 hQ'=>?_))
 obtain ⟨x,H1,I1,r1,q1⟩:=hQ'
 refine wpAny_bind (wpAny_holding (thn (hi pins s1 σ H1 _ I1 q1) fun iv s2 hQ'=>?_))
 obtain ⟨y,H2,I2,r2,q2⟩:=hQ'
 refine wpAny_bind (wpAny_standAt (wpAny_bind (wpAny_holding (thn (hs pins s2 σ H2 x y v ov iv u _ I2 r1 r2 r q2) fun _ s3 hQ'=>?_))))
 obtain ⟨H3,I3,q3⟩:=hQ'
 exact wpAny_release ⟨σ,H3,I3,q3⟩
def zaZ (te:TE) (g:TG):TS:=fun D σ H=>te σ H fun x H1=>g x σ H1 D.nx
theorem zdq {tg e:Expr} {te:TE} {g:TG} (he:PE X e te) (hg:PG X tg g) (hs:swapsWithSole [tg] e pos.line X.env=pure false:=by rfl) (hw:swappedStores [tg] e X.env=pure none:=by rfl)
  (h1:(assignEach [tg] X.env).map (·.2)=[assign tg X.env]:=by rfl):PS X (.Assign [tg] e pos) (zaZ te g):=by
 intro pins s σ H D I h
 refine wpAny_Assign_stores (thn (he pins s σ H _ I h) fun v s1 hQ'=>?_) hs hw
 obtain ⟨x,H1,I1,r1,q1⟩:=hQ'
 rw [h1]
 exact thn (hg pins s1 σ H1 x v _ I1 r1 q1) fun _ s2 q=>q
theorem zaE {i:Nat} {x:Str} {e:Expr} {te:TE} {pos':Pos} (hN:X.N.Nodup) (hi:X.N[i]?=some x) (hx:Loc X.env.scope x) (he:PE X e te) (hs:swapsWith e (some (.Name x pos')) pos.line X.env=pure false:=by rfl) (hf:X.fn x=true∨X.env.scope.names.lookup x=some .local:=by first | exact .inl rfl | exact .inr rfl | assumption) :
  PS X (.Assign [.Name x pos'] e pos) (zaZ te (zae i)):=by
 intro pins s σ H D I h
 refine wpAny_Assign_Name (thn (he pins s σ H _ I h) fun v s1 hQ'=>?_) hs
 obtain ⟨y,H1,I1,r1,q1⟩:=hQ'
 exact zfl I1 hN hi hx r1 (fun s2 I2=>⟨_,H1,I2,q1⟩) hf
def tPar (i j:Nat) (ta:TA):TS:=fun D σ H=>ta σ H fun vs H1=>∃ v w,vs=[v,w]∧D.nx ((σ.set i (some v)).set j (some w)) H1
theorem zrO {i j:Nat} {x y:Str} {a b:Expr} {ta:TA} {px py pt:Pos} {kt k2 pt2} (hc:X.calm=true) (hN:X.N.Nodup) (hi:X.N[i]?=some x) (hj:X.N[j]?=some y) (hij:i≠j)
  (hx:X.env.scope.names.lookup x=some .local) (hy:X.env.scope.names.lookup y=some .local) (ha:PA X [a,b] ta)
  (hw:swappedStores [.Tuple [.Name x px,.Name y py] kt pt] (.Tuple [a,b] k2 pt2) X.env=pure (some [x,y]))
  (hs:swapsWithSole [.Tuple [.Name x px,.Name y py] kt pt] (.Tuple [a,b] k2 pt2) pos.line X.env=pure false:=by rfl) :
  PS X (.Assign [.Tuple [.Name x px,.Name y py] kt pt] (.Tuple [a,b] k2 pt2) pos) (tPar i j ta):=by
 intro pins s σ H D I h
 rw [exec_Assign_arm]
 refine wpAny_bind (wpAny_standAt ?_)
 rw [hs]
 refine wpAny_bind (wpAny_pure ?_)
 rw [if_neg (by decide)]
 refine wpAny_bind (Tuple_ (thn (ha _ pins s σ H _ I h) fun us s1 hQ'=>?_))
 obtain ⟨vs,H1,I1,r1,q1⟩:=hQ'
 obtain ⟨v,w,e1,q1⟩:=q1
 subst e1
 obtain ⟨u1,u2,rfl,rv,rw'⟩:∃ u1 u2,us=[u1,u2]∧zcF v u1∧zcF w u2:=by
  cases r1 with
  | cons p q =>
   cases q with
   | cons p' q' =>
    cases q'
    exact ⟨_,_,rfl,p,p'⟩
 refine wpAny_newObj_type ?_ (by show 2≤sizeLine;decide)
 have I2:Inv X pins σ H1 { s1 with heap:=s1.heap.push { cls:=.type "tuple",data:=.seq [u1,u2].toArray } }:=I1.kept (t':=s1.toks) fun b o e=>Heap.get?_push_of_some _ e
 rw [hw]
 refine wpAny_bind (wpAny_pure ?_)
 show wpAny (model X.prog X.w) X.A (do rule "assign.swapped-stores";let items ← unpackItems (.ref s1.heap.objs.size) 2 none;assignInOrder [fun v=>bindName X.env y v,fun v=>bindName X.env x v] items.reverse;pure Flow.next) _ _ _
 refine wpAny_bind (wpAny_rule (wpAny_bind (unpackItems_tuple (items:=#[u1,u2]) (I.ok.hd hc) (IsTup.new s1.heap _) fun h' hx'=>?_)))
 have I3:=I2.kept (h':=h') (t':=s1.toks) fun b o e=>hx' b o (Nat.ne_of_lt (Heap.lt_size e)) e
 show wpAny _ _ (assignInOrder [fun v=>bindName X.env y v,fun v=>bindName X.env x v] [u2,u1] >>= fun _=>pure Flow.next) _ _ _
 refine wpAny_bind (assignInOrder_cons (wpAny_bindName (zfl I3 hN hj (.inl hy) rw' (fun s2 I4=>?_) (.inr hy))))
 refine assignInOrder_cons (wpAny_bindName (zfl I4 hN hi (.inl hx) rv (fun s3 I5=>assignInOrder_nil (wpAny_pure ?_)) (.inr hx)))
 rw [List.set_comm _ _ (Ne.symm hij)] at I5
 exact ⟨_,H1,I5,q1⟩
end
section
variable {X:Cx} {pos:Pos}
def zhQ (c:TT) (tb:TS):TS:=fun D σ H=>∃ W:Nat→St→Hp→Prop,(∃ m,W m σ H)∧∀ m σ H,W m σ H →
 c σ H fun b H1=>if b=true then ∃ N:St→Hp→Prop,(∀ σ' H',N σ' H'→∃ m',m'<m∧W m' σ' H')∧tb { D with nx:=N,ct:=N,bk:=D.nx } σ H1 else D.nx σ H1
theorem zgY {c:Expr} {body:List Stmt} {tc:TT} {tb:TS} (hp:PassesOwn (model X.prog X.w) X.A X.env X.xe) (hc:PT X c tc) (hb:PSs X body tb):PS X (.While c body [] pos) (zhQ tc tb):=by
 intro pins s σ H D I h
 obtain ⟨W,⟨m0,w0⟩,zlH⟩:=h
 refine wpAny_While (codeAny_whileLoop (fun n s'=>∃ σ' H',Inv X pins σ' H' s'∧W n σ' H') ?_ m0 ⟨σ,H,I,w0⟩)
 rintro n s1 ⟨σ1,H1,I1,w1⟩
 refine wpAny_passesOwn hp (thn (hc pins s1 σ1 H1 _ I1 (zlH n σ1 H1 w1)) fun b s2 hQ'=>?_)
 obtain ⟨H2,I2,q2⟩:=hQ'
 cases b with
 | true =>
  obtain ⟨N,hN,q2⟩:=q2
  rw [if_pos rfl]
  refine wpAny_passesOwn hp (thn (hb pins s2 σ1 H2 _ I2 q2) fun f s3 q3=>?_)
  cases f with
  | next =>
   obtain ⟨σ3,H3,I3,n3⟩:=q3
   obtain ⟨m',hm,w3⟩:=hN σ3 H3 n3
   exact ⟨m',hm,σ3,H3,I3,w3⟩
  | cont =>
   obtain ⟨σ3,H3,I3,n3⟩:=q3
   obtain ⟨m',hm,w3⟩:=hN σ3 H3 n3
   exact ⟨m',hm,σ3,H3,I3,w3⟩
  | brk=>exact q3
  | ret v=>exact q3
 | false =>
  rw [if_neg Bool.false_ne_true]
  exact wpAny_execs_nil ⟨σ1,H2,I2,q2⟩
end
structure It where
 go:Nat→Hp→Prop
 yld:Nat→Hp→V→Hp→Prop
 stop:Nat→Hp→Prop
def zj5 (X:Cx) (pins:List (Addr×Obj)) (H:Hp) (b:Addr):Prop :=
 H b=none∧b≠X.env.locals∧b∉X.fs∧(b∈X.ex∨X.s₀.heap.objs.size≤b)∧(∀ x c,X.env.cells.lookup x=some c→c≠b)∧∀ p∈X.pn++pins,p.1≠b
theorem Inv.fpOk {X:Cx} {pins:List (Addr×Obj)} {σ:St} {H H':Hp} {s:Shared} {b:Addr} (I:Inv X pins σ H s) (hb:s.heap.objs.size≤b) (hn:H' b=none):zj5 X pins H' b:=by
 refine ⟨hn,Nat.ne_of_gt (Nat.lt_of_lt_of_le I.lt hb),I.nofs hb,.inr (Nat.le_trans I.sz hb),fun x c e z=>?_,fun p hp z=>?_⟩
 ·obtain ⟨v,q⟩:=I.cell x c e
  exact absurd (Nat.lt_of_lt_of_le q.lt (by rw [z];exact hb)) (Nat.lt_irrefl _)
 ·exact absurd (Nat.lt_of_lt_of_le (Heap.lt_size (I.pin p hp).1) (by rw [z];exact hb)) (Nat.lt_irrefl _)
structure Turn (P:Program) (w:World) (K:PySem.W.Frag) (tg:Expr) (J:It) (fp:List Addr) (it:Addr) (tn:Nat→Heap→Prop):Prop where
 mem:it∈fp
 obj:∀ i h,tn i h→∀ b∈fp,∃ o,h.get? b=some o∧∀ v,o.data≠.cell v
 keep:∀ i h h',tn i h→(∀ b∈fp,∀ o,h.get? b=some o→h'.get? b=some o)→tn i h'
 item:∀ (X:Cx),X.prog=P→X.w=w→X.K=K→X.calm=true→∀ (i:Nat) (pins:List (Addr×Obj)) (s:Shared) (σ:St) (H:Hp) (E:Value→Shared→Prop),Inv X pins σ H s→(∀ b∈fp,zj5 X pins H b)→tn i s.heap→J.go i H →
  wpAny (model P w) X.A (pyNext (.ref it)) (fun r s1=>∃ u,r=some u ∧
   wpAny (model P w) X.A (letOwnedTupleGo tg (.ref it) u) (fun _ s2=>∃ x H',Inv X pins σ H' s2∧zcF x u∧J.yld i H x H'∧tn (i+1) s2.heap∧∀ b∈fp,H' b=none) E s1) E s
 done:∀ (X:Cx),X.prog=P→X.w=w→X.K=K→X.calm=true→∀ (i:Nat) (pins:List (Addr×Obj)) (s:Shared) (σ:St) (H:Hp) (E:Value→Shared→Prop),Inv X pins σ H s→(∀ b∈fp,zj5 X pins H b)→tn i s.heap→J.stop i H →
  wpAny (model P w) X.A (pyNext (.ref it)) (fun r s1=>r=none∧Inv X pins σ H s1) E s
 self:∀ (A:Around) (i:Nat) (s:Shared) (Q:Value→Shared→Prop) (E:Value→Shared→Prop),tn i s.heap→Q (.ref it) s→wpAny (model P w) A (pyIter (.ref it)) Q E s
abbrev TI:=St→Hp→(It→Hp→Prop)→Prop
def PIE (X:Cx) (pins:List (Addr×Obj)) (σ:St) (tg:Expr) (R:It→Hp→Prop) (itv:Value) (s2:Shared):Prop :=
 ∃ (it:Addr) (fp:List Addr) (tn:Nat→Heap→Prop) (J:It) (H':Hp),itv=.ref it∧Inv X pins σ H' s2∧Turn X.prog X.w X.K tg J fp it tn∧tn 0 s2.heap∧(∀ b∈fp,zj5 X pins H' b)∧R J H'
def PI (X:Cx) (tg iter:Expr) (wi:TI):Prop :=
 ∀ (pins:List (Addr×Obj)) (s:Shared) (σ:St) (H:Hp) (R:It→Hp→Prop),Inv X pins σ H s→wi σ H R →
  wpAny (model X.prog X.w) X.A (eval iter X.env) (fun v s1=>wpAny (model X.prog X.w) X.A (pyIter v) (PIE X pins σ tg R) X.xe s1) X.xe s
theorem zq2 {M:Model} {A:Around} {E:Value→Shared→Prop} {s:Shared} {tg:Expr} {it:Addr} {u:Value} {o:Obj} {n:String} {vs:Array Value} {Q:Unit→Shared→Prop} (ho:s.heap.get? it=some o) (hc:o.cls=.type n) (hd:o.data=.fields vs)
  (hn:["enumerate","zip","dict_itemiterator","dict_reverseitemiterator","odict_iterator","itertools.zip_longest","itertools.pairwise"].contains n=false) (hQ:Q () s):wpAny M A (letOwnedTupleGo tg (.ref it) u) Q E s:=by
 unfold letOwnedTupleGo
 cases tg <;> first
  | exact wpAny_pure hQ
  | (cases u <;> first
    | exact wpAny_pure hQ
    | (refine wpAny_bind (wpAny_load ho ?_)
       rw [hc,hd]
       show wpAny M A (if (["enumerate","zip","dict_itemiterator","dict_reverseitemiterator","odict_iterator","itertools.zip_longest","itertools.pairwise"].contains n&&vs[0]? == some (rawInt _))=true then _ else _) Q E s
       rw [if_neg (by intro h;rw [hn,Bool.false_and] at h;cases h)]
       exact wpAny_pure hQ))
def Itl (K:PySem.W.Frag) (a:Addr):It :=
 ⟨fun i H=>∃ xs x,SqL K H a xs∧xs[i]?=some x,fun i H x H'=>H'=H∧∀ xs,SqL K H a xs→xs[i]?=some x,fun i H=>∃ xs,SqL K H a xs∧xs.length≤i⟩
def Itr (lo:Int) (n:Nat):It:=⟨fun i _=>i<n,fun i H x H'=>H'=H∧x=.int (lo+i),fun i _=>n≤i⟩
theorem zly {P:Program} {w:World} {K:PySem.W.Frag} {tg:Expr} (a it:Addr):Turn P w K tg (Itl K a) [it] it (fun i h=>h.IsListIter it a i) where
 mem:=by simp
 obj:=fun i h st b hb=>by
  have e:b=it:=by simpa using hb
  subst e
  obtain ⟨o,e,c,d⟩:=st
  exact ⟨o,e,fun v z=>by rw [d] at z;cases z⟩
 keep:=fun i h h' st k=>st.at fun o e=>k it (by simp) o e
 item:=by
  intro X hP hw hK hc i pins s σ H E I hf st hg
  subst hP hw hK
  obtain ⟨xs,x,hq,hx⟩:=hg
  obtain ⟨its,rv,p,hz⟩:=I.list hq
  obtain ⟨u,hu,ru⟩:=rv.get hx
  obtain ⟨f0,f1,f2,f3,f4,f5⟩:=hf it (by simp)
  refine wpAny_pyNext_list_item st p.isList (x:=u) (by simpa using hu) fun h' st' sb=>?_
  have I1:Inv X pins σ H { s with heap:=h' }:=I.turned (t':=s.toks) (fun b o hb e=>(sb.2 b hb).trans e) f0 f1 f3 f4 f5
  obtain ⟨o,e,c,d⟩:=id st'
  exact ⟨u,rfl,zq2 (s:={ s with heap:=h' }) e c d (by decide) ⟨x,H,I1,ru,⟨rfl,fun ys hy=>by rw [I.list_inj hy hq];exact hx⟩,st',fun b hb=>(hf b hb).1⟩⟩
 done:=by
  intro X hP hw hK hc i pins s σ H E I hf st hg
  subst hP hw hK
  obtain ⟨xs,hq,hx⟩:=hg
  obtain ⟨its,rv,p,hz⟩:=I.list hq
  obtain ⟨f0,f1,f2,f3,f4,f5⟩:=hf it (by simp)
  have hl:=rv.length
  exact wpAny_pyNext_list_end (I.ok.hd hc) st p.isList (by simp;(first|lia|omega)) fun h' eb=>⟨rfl,I.turned (t':=s.toks) (fun b o hb e=>eb b o hb e) f0 f1 f3 f4 f5⟩
 self:=fun _ _ _ _ _ st h=>wpAny_pyIter_listiter st h
theorem zjO {P:Program} {w:World} {K:PySem.W.Frag} {tg:Expr} (it:Addr) (lo:Int) (n:Nat):Turn P w K tg (Itr lo n) [it] it (fun i h=>IsRangeIter h it (lo+(i:Nat)*1) ((n:Int) - (i:Nat)) 1) where
 mem:=by simp
 obj:=fun i h st b hb=>by
  have e:b=it:=by simpa using hb
  subst e
  exact ⟨_,st,fun v z=>by
   have z':Data.fields _=Data.cell v:=z
   cases z'⟩
 keep:=fun i h h' st k=>k it (by simp) _ st
 item:=by
  intro X hP hw hK hc i pins s σ H E I hf st hg
  subst hP hw hK
  obtain ⟨f0,f1,f2,f3,f4,f5⟩:=hf it (by simp)
  have W:=Walks.range (prog:=X.prog) (w:=X.w) (I.ok.hd hc) it lo 1 n
  refine W.item i s _ _ hg st fun v h' tk hv st' kk=>?_
  obtain ⟨t,rfl⟩:=hv
  have I1:Inv X pins σ H { s with heap:=h',toks:=tk }:=I.turned (fun b o hb e=>kk b o (by simpa using hb) e) f0 f1 f3 f4 f5
  refine ⟨_,rfl,zq2 (s:={ s with heap:=h',toks:=tk }) (n:="range_iterator") st' rfl rfl (by decide) ⟨.int (lo+i),H,I1,⟨t,?_⟩,⟨rfl,rfl⟩,st',fun b hb=>(hf b hb).1⟩⟩
  rw [Int.mul_one]
 done:=by
  intro X hP hw hK hc i pins s σ H E I hf st hg
  subst hP hw hK
  obtain ⟨f0,f1,f2,f3,f4,f5⟩:=hf it (by simp)
  exact wpAny_pyNext_range_end (I.ok.hd hc) st (by have:n≤i:=hg;(first|lia|omega)) fun h' eb=>⟨rfl,I.turned (t':=s.toks) (fun b o hb e=>eb b o hb e) f0 f1 f3 f4 f5⟩
 self:=fun _ _ _ _ _ st h=>wpAny_pyIter_rangeiter st h
end L2
namespace L2
open PySem PySem.Spec PyProof.Rows
section
variable {X:Cx} {tg:Expr}
def zbN (K:PySem.W.Frag) (tl:TE):TI:=fun σ H R=>tl σ H fun x H1=>∃ a,x=.ref a∧(∃ xs,SqL K H1 a xs)∧R (Itl K a) H1
theorem zbe {l:Expr} {tl:TE} (hl:PE X l tl):PI X tg l (zbN X.K tl):=by
 intro pins s σ H R I h
 refine thn (hl pins s σ H _ I h) fun v s1 hQ'=>?_
 obtain ⟨x,H1,I1,r1,q1⟩:=hQ'
 obtain ⟨a,e,⟨xs,hq⟩,q⟩:=q1
 subst e
 cases r1
 obtain ⟨its,rv,p,hz⟩:=I1.list hq
 refine wpAny_pyIter_list p.isList ?_
 refine ⟨s1.heap.objs.size,[s1.heap.objs.size],_,_,H1,rfl,I1.kept (t':=s1.toks) fun b o e=>Heap.get?_push_of_some _ e,zly a _,⟨_,Heap.get?_push_size _ rfl,rfl,rfl⟩,fun b hb=>?_,q⟩
 have e:b=s1.heap.objs.size:=by simpa using hb
 subst e
 exact I1.fpOk (Nat.le_refl _) (I1.hok.fresh (Nat.le_refl _))
theorem zmi {pins:List (Addr×Obj)} {σ:St} {H:Hp} {s:Shared} {R:It→Hp→Prop} {E:Value→Shared→Prop} {lo hi:Int} {t u v:Tok} {tk:Nat} (I:Inv X pins σ H s) (h1:-(2 ^ 62)≤lo) (h2:lo<2 ^ 62) (h3:-(2 ^ 62)≤hi) (h4:hi<2 ^ 62)
  (q:R (Itr lo (hi - lo).toNat) H):wpAny (model X.prog X.w) X.A (pyIter (.ref s.heap.objs.size)) (PIE X pins σ tg R) E { s with heap:=s.heap.push { cls:=.type "range",data:=.fields #[.int lo t,.int hi u,.int 1 v] },toks:=tk }:=by
 refine wpAny_pyIter_range (IsRange.new ..) (small_one h1 h2 h3 h4) ?_
 have I1:Inv X pins σ H { s with heap:=s.heap.push { cls:=.type "range",data:=.fields #[.int lo t,.int hi u,.int 1 v] },toks:=tk }:=I.kept fun b o e=>Heap.get?_push_of_some _ e
 refine ⟨(s.heap.push { cls:=.type "range",data:=.fields #[.int lo t,.int hi u,.int 1 v] }).objs.size,[(s.heap.push { cls:=.type "range",data:=.fields #[.int lo t,.int hi u,.int 1 v] }).objs.size],_,_,H,rfl,
  I1.kept (t':=tk) fun b o e=>Heap.get?_push_of_some _ e,zjO _ lo (hi - lo).toNat,?_,fun b hb=>?_,q⟩
 ·have e1:lo+((0:Nat):Int)*1=lo:=by simp
  have e2:(((hi - lo).toNat:Nat):Int) - ((0:Nat):Int)=Builtin.Range.rangeSize lo hi 1:=by rw [rangeSize_one];split <;> (first|lia|omega)
  show IsRangeIter _ _ (lo+((0:Nat):Int)*1) ((((hi - lo).toNat:Nat):Int) - ((0:Nat):Int)) 1
  rw [e1,e2]
  exact Heap.get?_push_size _ rfl
 ·have e:b=(s.heap.push { cls:=.type "range",data:=.fields #[.int lo t,.int hi u,.int 1 v] }).objs.size:=by simpa using hb
  subst e
  exact I1.fpOk (Nat.le_refl _) (I1.hok.fresh (Nat.le_refl _))
def zfV (ta:TA):TI:=fun σ H R=>ta σ H fun vs H1=>∃ j:Int,vs=[.int j]∧-(2 ^ 62)≤j∧j<2 ^ 62∧R (Itr 0 j.toNat) H1
theorem zcb {a:Expr} {ta:TA} {p pos:Pos} (hg:Gl X "range") (hm:X.mg "range"=none) (ha:PA X [a] ta) (hs:starEach [a] X.env=[(false,eval a X.env)]:=by rfl):PI X tg (.Call (.Name "range" p) [a] [] pos) (zfV ta):=by
 intro pins s σ H R I h
 refine Call_ (zfW I hg hm boot_range (PyProof.Rows.callWith_type1 (thn (ha pos pins s σ H _ I h) fun us s1 hQ'=>?_) hs rfl))
 obtain ⟨vs,H1,I1,r1,q1⟩:=hQ'
 obtain ⟨j,e,q1,q2,q⟩:=q1
 subst e
 cases r1 with
 | cons r rr =>
  cases rr
  obtain ⟨t,rfl⟩:=r
  exact call_range_1 (zmi I1 (by (first|lia|omega)) (by (first|lia|omega)) q1 q2 (by simpa using q))
def zgr (wi:TI) (g:TG) (tb:TS):TS:=fun D σ H=>wi σ H fun J H1=>∃ W:Nat→Nat→St→Hp→Prop,(∃ m,W 0 m σ H1)∧∀ i m σ H,W i m σ H →
 (J.stop i H∧D.nx σ H)∨(J.go i H∧∃ N:St→Hp→Prop,(∀ σ' H',N σ' H'→∃ m',m'<m∧W (i+1) m' σ' H')∧∀ x H',J.yld i H x H'→g x σ H' fun σ2 H2=>tb { D with nx:=N,ct:=N,bk:=D.nx } σ2 H2)
def zig (fp:List Addr) (h:Heap):List (Addr×Obj):=fp.filterMap fun b=>(h.get? b).map fun o=>(b,o)
theorem zdV {fp:List Addr} {h:Heap} {b:Addr} {o:Obj} (hb:b∈fp) (e:h.get? b=some o):(b,o)∈zig fp h:=List.mem_filterMap.mpr ⟨b,hb,by rw [e];rfl⟩
theorem zk2 {fp:List Addr} {h:Heap} {p:Addr×Obj} (hp:p∈zig fp h):p.1∈fp∧h.get? p.1=some p.2:=by
 obtain ⟨b,hb,e⟩:=List.mem_filterMap.mp hp
 cases q:h.get? b with
 | none=>rw [q] at e;cases e
 | some o =>
  rw [q] at e
  have e':(b,o)=p:=Option.some.inj e
  subst e'
  exact ⟨hb,q⟩
theorem Inv.pinned {pins:List (Addr×Obj)} {σ:St} {H:Hp} {s:Shared} {fp:List Addr} (I:Inv X pins σ H s) (hf:∀ b∈fp,zj5 X pins H b) (ho:∀ b∈fp,∃ o,s.heap.get? b=some o∧∀ v,o.data≠.cell v):Inv X (pins++zig fp s.heap) σ H s :=
 I.pins_of fun p hp=>(List.mem_append.mp hp).elim (fun z=>I.pin p (List.mem_append_right _ z)) fun z=>by
  obtain ⟨hb,e⟩:=zk2 z
  obtain ⟨f0,f1,f2,_⟩:=hf p.1 hb
  obtain ⟨o,e',d⟩:=ho p.1 hb
  rw [e] at e';cases e'
  exact ⟨e,f0,f1,f2,d⟩
theorem Inv.unpinned {pins pl:List (Addr×Obj)} {σ:St} {H:Hp} {s:Shared} (I:Inv X (pins++pl) σ H s):Inv X pins σ H s:=I.pins_of fun p hp=>I.pin p (List.mem_append_right _ (List.mem_append_left _ hp))
theorem zcq {iter:Expr} {body:List Stmt} {wi:TI} {g:TG} {tb:TS} {pos:Pos} (hp:PassesOwn (model X.prog X.w) X.A X.env X.xe) (hc:X.calm=true) (hi:PI X tg iter wi) (hg:PG X tg g) (hb:PSs X body tb)
  (hs:∀ x,foldedSetIterable iter X.env x=pure x:=by intro _;rfl):PS X (.For tg iter body [] pos) (zgr wi g tb):=by
 intro pins s σ H D I h
 refine wpAny_For (thn (hi pins s σ H _ I h) fun v s1 h1=>thn h1 fun itv s2 h2=>?_) hs
 obtain ⟨it,fp,tn,J,H2,e,I2,T,st2,f2,W,⟨m0,w0⟩,zlH⟩:=h2
 subst e
 have stat:∀ {H':Hp},(∀ b∈fp,H' b=none)→∀ b∈fp,zj5 X pins H' b:=fun hn b hb=>⟨hn b hb,(f2 b hb).2⟩
 refine codeAny_forLoop_any (fun n s'=>∃ i σ' H',Inv X pins σ' H' s'∧tn i s'.heap∧(∀ b∈fp,H' b=none)∧W i n σ' H') ?_ m0 ⟨0,σ,H2,I2,st2,fun b hb=>(f2 b hb).1,w0⟩
 rintro n s3 ⟨i,σ3,H3,I3,st3,fr3,w3⟩
 rcases zlH i n σ3 H3 w3 with ⟨stop,qn⟩ | ⟨go,N,hN,step⟩
 ·refine wpAny_passesOwn hp (thn (T.done X rfl rfl rfl hc i pins s3 σ3 H3 X.xe I3 (stat fr3) st3 stop) fun r s4 hQ'=>?_)
  obtain ⟨hr,I4⟩:=hQ'
  subst hr
  exact wpAny_execs_nil ⟨σ3,H3,I4,qn⟩
 ·refine wpAny_passesOwn hp (thn (T.item X rfl rfl rfl hc i pins s3 σ3 H3 X.xe I3 (stat fr3) st3 go) fun r s4 hQ'=>?_)
  obtain ⟨u,hr,h4⟩:=hQ'
  subst hr
  refine wpAny_passesOwn hp (thn h4 fun _ s5 hQ'=>?_)
  obtain ⟨x,H5,I5,r5,y5,st5,fr5⟩:=hQ'
  have I5':=I5.pinned (stat fr5) (T.obj _ _ st5)
  refine wpAny_passesOwn hp (thn (hg _ s5 σ3 H5 x u _ I5' r5 (step x H5 y5)) fun _ s6 hQ'=>?_)
  obtain ⟨σ6,H6,I6,q6⟩:=hQ'
  refine wpAny_passesOwn hp (thn (hb _ s6 σ6 H6 _ I6 q6) fun f s7 q7=>?_)
  have again:∀ {σ7:St} {H7:Hp},Inv X (pins++zig fp s5.heap) σ7 H7 s7→N σ7 H7→∃ m,m<n∧∃ i σ' H',Inv X pins σ' H' s7∧tn i s7.heap∧(∀ b∈fp,H' b=none)∧W i m σ' H':=fun {σ7 H7} I7 n7=>by
   obtain ⟨m',hm,w7⟩:=hN σ7 H7 n7
   refine ⟨m',hm,i+1,σ7,H7,I7.unpinned,T.keep _ _ _ st5 fun b hb o e=>(I7.pin (b,o) (List.mem_append_right _ (List.mem_append_right _ (zdV hb e)))).1,fun b hb=>?_,w7⟩
   obtain ⟨o,e,d⟩:=T.obj _ _ st5 b hb
   exact (I7.pin (b,o) (List.mem_append_right _ (List.mem_append_right _ (zdV hb e)))).2.1
  cases f with
  | next=>obtain ⟨σ7,H7,I7,n7⟩:=q7;exact again I7 n7
  | cont=>obtain ⟨σ7,H7,I7,n7⟩:=q7;exact again I7 n7
  | brk=>obtain ⟨σ7,H7,I7,q7⟩:=q7;exact ⟨σ7,H7,I7.unpinned,q7⟩
  | ret v=>obtain ⟨x7,σ7,H7,I7,r7,q7⟩:=q7;exact ⟨x7,σ7,H7,I7.unpinned,r7,q7⟩
end
theorem zmL {K:PySem.W.Frag} {a:Addr} {xs:List V} {g:TG} {tb:TS} {D:zch} {σ:St} {H:Hp} (Pv:Nat→St→Hp→Prop) (h0:Pv 0 σ H) (hl:∀ i σ H,i≤xs.length→Pv i σ H→SqL K H a xs)
  (hs:∀ i x σ H,xs[i]?=some x→Pv i σ H→g x σ H fun σ2 H2=>tb { D with nx:=Pv (i+1),ct:=Pv (i+1),bk:=D.nx } σ2 H2) (hd:∀ σ H,Pv xs.length σ H→D.nx σ H) :
  ∃ W:Nat→Nat→St→Hp→Prop,(∃ m,W 0 m σ H)∧∀ i m σ H,W i m σ H →
   ((Itl K a).stop i H∧D.nx σ H)∨((Itl K a).go i H∧∃ N:St→Hp→Prop,(∀ σ' H',N σ' H'→∃ m',m'<m∧W (i+1) m' σ' H')∧∀ x H',(Itl K a).yld i H x H'→g x σ H' fun σ2 H2=>tb { D with nx:=N,ct:=N,bk:=D.nx } σ2 H2):=by
 refine ⟨fun i m σ H=>m=xs.length - i∧i≤xs.length∧Pv i σ H,⟨xs.length,by simp,Nat.zero_le _,h0⟩,?_⟩
 rintro i m σ H ⟨rfl,hi,p⟩
 have q:=hl i σ H hi p
 by_cases hlt:i<xs.length
 ·refine .inr ⟨⟨xs,xs[i],q,by simp [hlt]⟩,Pv (i+1),fun σ' H' p'=>⟨xs.length - (i+1),by (first|lia|omega),rfl,hlt,p'⟩,fun x H' y=>?_⟩
  obtain ⟨e,y⟩:=y
  subst e
  exact hs i x σ _ (y xs q) p
 ·have e:i=xs.length:=by (first|lia|omega)
  subst e
  exact .inl ⟨⟨xs,q,Nat.le_refl _⟩,hd σ H p⟩
theorem zkJ {lo:Int} {n:Nat} {g:TG} {tb:TS} {D:zch} {σ:St} {H:Hp} (Pv:Nat→St→Hp→Prop) (h0:Pv 0 σ H)
  (hs:∀ i σ H,i<n→Pv i σ H→g (.int (lo+i)) σ H fun σ2 H2=>tb { D with nx:=Pv (i+1),ct:=Pv (i+1),bk:=D.nx } σ2 H2) (hd:∀ σ H,Pv n σ H→D.nx σ H) :
  ∃ W:Nat→Nat→St→Hp→Prop,(∃ m,W 0 m σ H)∧∀ i m σ H,W i m σ H →
   ((Itr lo n).stop i H∧D.nx σ H)∨((Itr lo n).go i H∧∃ N:St→Hp→Prop,(∀ σ' H',N σ' H'→∃ m',m'<m∧W (i+1) m' σ' H')∧∀ x H',(Itr lo n).yld i H x H'→g x σ H' fun σ2 H2=>tb { D with nx:=N,ct:=N,bk:=D.nx } σ2 H2):=by
 refine ⟨fun i m σ H=>m=n - i∧i≤n∧Pv i σ H,⟨n,by simp,Nat.zero_le _,h0⟩,?_⟩
 rintro i m σ H ⟨rfl,hi,p⟩
 by_cases hlt:i<n
 ·refine .inr ⟨hlt,Pv (i+1),fun σ' H' p'=>⟨n - (i+1),by (first|lia|omega),rfl,hlt,p'⟩,fun x H' y=>?_⟩
  obtain ⟨e,y⟩:=y
  subst e y
  exact hs i σ _ hlt p
 ·have e:i=n:=by (first|lia|omega)
  subst e
  exact .inl ⟨Nat.le_refl _,hd σ H p⟩
theorem zhc {c:TT} {tb:TS} {D:zch} {σ:St} {H:Hp} (Pv:St→Hp→Prop) (μ:St→Hp→Nat) (h0:Pv σ H)
  (hs:∀ σ H,Pv σ H→c σ H fun b H1=>if b=true then tb { D with nx:=fun σ' H'=>Pv σ' H'∧μ σ' H'<μ σ H,ct:=fun σ' H'=>Pv σ' H'∧μ σ' H'<μ σ H,bk:=D.nx } σ H1 else D.nx σ H1)
  (mono:∀ σ H Q Q',(∀ b H1,Q b H1→Q' b H1)→c σ H Q→c σ H Q'):zhQ c tb D σ H:=by
 refine ⟨fun m σ H=>m=μ σ H∧Pv σ H,⟨_,rfl,h0⟩,?_⟩
 rintro m σ H ⟨rfl,p⟩
 refine mono σ H _ _ (fun b H1 q=>?_) (hs σ H p)
 cases b with
 | true=>exact ⟨_,fun σ' H' ⟨p',l⟩=>⟨_,l,rfl,p'⟩,q⟩
 | false=>exact q
end L2
namespace L2
open PySem PySem.Spec PyProof.Rows
abbrev R2:=V→V→Hp→VK→Prop
def OpR (X:Cx) (f:Value→Value→Sem Value) (r:R2):Prop :=
 ∀ (pins:List (Addr×Obj)) (s:Shared) (σ:St) (H:Hp) (x y:V) (v u:Value) (Q:VK),Inv X pins σ H s→zcF x v→zcF y u→r x y H Q →
  wpAny (model X.prog X.w) X.A (f v u) (EP X pins σ Q) X.xe s
def UnR (X:Cx) (f:Value→Sem Value) (r:V→Hp→VK→Prop):Prop :=
 ∀ (pins:List (Addr×Obj)) (s:Shared) (σ:St) (H:Hp) (x:V) (v:Value) (Q:VK),Inv X pins σ H s→zcF x v→r x H Q →
  wpAny (model X.prog X.w) X.A (f v) (EP X pins σ Q) X.xe s
def zhW (X:Cx) (f:Value) (r:List V→Hp→VK→Prop):Prop :=
 ∀ (pins:List (Addr×Obj)) (s:Shared) (σ:St) (H:Hp) (xs:List V) (us:List Value) (Q:VK),Inv X pins σ H s→zbJ xs us→r xs H Q →
  wpAny (model X.prog X.w) X.A (call f us) (EP X pins σ Q) X.xe s
def TruR (X:Cx) (r:V→Hp→(Bool→Hp→Prop)→Prop):Prop :=
 ∀ (pins:List (Addr×Obj)) (s:Shared) (σ:St) (H:Hp) (x:V) (v:Value) (Q:Bool→Hp→Prop),Inv X pins σ H s→zcF x v→r x H Q →
  wpAny (model X.prog X.w) X.A (truthy v) (TP X pins σ Q) X.xe s
def tOp (r:R2) (ta tb:TE):TE:=fun σ H Q=>ta σ H fun x H1=>tb σ H1 fun y H2=>r x y H2 Q
def tUn (r:V→Hp→VK→Prop) (ta:TE):TE:=fun σ H Q=>ta σ H fun x H1=>r x H1 Q
def rI (C:Int→Int→Prop) (g:Int→Int→V):R2:=fun x y H Q=>∃ i j,x=.int i∧y=.int j∧C i j∧Q (g i j) H
def rI0 (g:Int→Int→V):R2:=fun x y H Q=>∃ i j,x=.int i∧y=.int j∧Q (g i j) H
def rU (g:Int→V):V→Hp→VK→Prop:=fun x H Q=>∃ i,x=.int i∧Q (g i) H
section
variable {X:Cx} {a b c:Expr} {ta tb tc:TE} {pos:Pos}
theorem binT (ha:PE X a ta) (hb:PE X b tb) {pins:List (Addr×Obj)} {s:Shared} {σ:St} {H:Hp} {R:V→V→Hp→Prop} (I:Inv X pins σ H s)
  (h:ta σ H fun x H1=>tb σ H1 fun y H2=>R x y H2) {Q:Value→Shared→Prop} {f:Value→Value→Sem Value}
  (hf:∀ v u s2 x y H2,Inv X pins σ H2 s2→zcF x v→zcF y u→R x y H2→wpAny (model X.prog X.w) X.A (f v u) Q X.xe s2) :
  wpAny (model X.prog X.w) X.A (eval a X.env) (fun v s₁=>wpAny (model X.prog X.w) X.A (eval b X.env) (fun u s₂=>wpAny (model X.prog X.w) X.A (f v u) Q X.xe s₂) X.xe s₁) X.xe s:=by
 refine thn (ha pins s σ H _ I h) fun v s1 hQ'=>?_
 obtain ⟨x,H1,I1,r1,q1⟩:=hQ'
 refine thn (hb pins s1 σ H1 _ I1 q1) fun u s2 hQ'=>?_
 obtain ⟨y,H2,I2,r2,q2⟩:=hQ'
 exact hf v u s2 x y H2 I2 r1 r2 q2
theorem zaA {op:Operator} {r:R2} (ho:OpR X (binaryOp op) r) (ha:PE X a ta) (hb:PE X b tb):PE X (.BinOp a op b pos) (tOp r ta tb):=by
 intro pins s σ H Q I h
 exact wpAny_BinOp (binT ha hb I h fun v u s2 x y H2 I2 rx ry q=>ho pins s2 σ H2 x y v u Q I2 rx ry q)
theorem zrQ {op:UnaryOp} {r:V→Hp→VK→Prop} (ho:UnR X (unaryOp op) r) (ha:PE X a ta):PE X (.UnaryOp op a pos) (tUn r ta):=by
 intro pins s σ H Q I h
 exact UnaryOp_ (thn (ha pins s σ H _ I h) fun v s1 ⟨x,H1,I1,r1,q1⟩=>ho pins s1 σ H1 x v Q I1 r1 q1)
theorem opI {f:Value→Value→Sem Value} {C:Int→Int→Prop} {g:Int→Int→Int}
  (rule:∀ (i j:Int) (t u:Tok) (s:Shared) (Q:Value→Shared→Prop) (E:Value→Shared→Prop),C i j→Q (.int (g i j) s.toks) { s with toks:=s.toks+1 }→wpAny (model X.prog X.w) X.A (f (.int i t) (.int j u)) Q E s) :
  OpR X f (rI C fun i j=>.int (g i j)):=by
 intro pins s σ H x y v u Q I rx ry h
 obtain ⟨i,j,rfl,rfl,hc,q⟩:=h
 obtain ⟨t,rfl⟩:=rx
 obtain ⟨t',rfl⟩:=ry
 exact rule i j t t' s _ _ hc ⟨.int (g i j),H,I.tok _,⟨_,rfl⟩,q⟩
theorem opI0 {f:Value→Value→Sem Value} {g:Int→Int→Int}
  (rule:∀ (i j:Int) (t u:Tok) (s:Shared) (Q:Value→Shared→Prop) (E:Value→Shared→Prop),Q (.int (g i j) s.toks) { s with toks:=s.toks+1 }→wpAny (model X.prog X.w) X.A (f (.int i t) (.int j u)) Q E s) :
  OpR X f (rI0 fun i j=>.int (g i j)):=by
 intro pins s σ H x y v u Q I rx ry h
 obtain ⟨i,j,rfl,rfl,q⟩:=h
 obtain ⟨t,rfl⟩:=rx
 obtain ⟨t',rfl⟩:=ry
 exact rule i j t t' s _ _ ⟨.int (g i j),H,I.tok _,⟨_,rfl⟩,q⟩
theorem opB0 {f:Value→Value→Sem Value} {g:Int→Int→Bool}
  (rule:∀ (i j:Int) (t u:Tok) (s:Shared) (Q:Value→Shared→Prop) (E:Value→Shared→Prop),Q (.bool (g i j)) s→wpAny (model X.prog X.w) X.A (f (.int i t) (.int j u)) Q E s) :
  OpR X f (rI0 fun i j=>.bl (g i j)):=by
 intro pins s σ H x y v u Q I rx ry h
 obtain ⟨i,j,rfl,rfl,q⟩:=h
 obtain ⟨t,rfl⟩:=rx
 obtain ⟨t',rfl⟩:=ry
 exact rule i j t t' s _ _ ⟨.bl (g i j),H,I,rfl,q⟩
def zpI (i j:Int):Prop:=0≤j∧j≤1000000∧i.natAbs<2 ^ 64
theorem zcp:OpR X (binaryOp .Add) (rI0 fun i j=>.int (i+j)):=opI0 fun _ _ _ _ _ _ _ q=>add_int q
theorem zcD:OpR X (binaryOp .Sub) (rI0 fun i j=>.int (i - j)):=opI0 fun _ _ _ _ _ _ _ q=>sub_int q
theorem zhX:OpR X (binaryOp .Mod) (rI (fun _ j=>0<j) fun i j=>.int (i % j)):=opI fun i j _ _ _ _ _ hc q=>by
 have h1:(0:Int)<j:=hc
 exact mod_int' (by (first|lia|omega)) (by rw [Int.fmod_eq_emod_of_nonneg i (by (first|lia|omega))];exact q)
theorem zoI:OpR X (binaryOp .Mod) (rI (fun _ j=>j≠0) fun i j=>.int (i.fmod j)):=opI fun _ _ _ _ _ _ _ hc q=>mod_int' hc q
theorem znq:OpR X (binaryOp .Pow) (rI zpI fun i j=>.int (i ^ j.toNat)):=opI fun _ _ _ _ _ _ _ hc q=>pow_int_small hc.1 hc.2.1 hc.2.2 q
theorem unI {f:Value→Sem Value} {g:Int→Int}
  (rule:∀ (i:Int) (t:Tok) (s:Shared) (Q:Value→Shared→Prop) (E:Value→Shared→Prop),Q (.int (g i) s.toks) { s with toks:=s.toks+1 }→wpAny (model X.prog X.w) X.A (f (.int i t)) Q E s) :
  UnR X f (rU fun i=>.int (g i)):=by
 intro pins s σ H x v Q I rx h
 obtain ⟨i,rfl,q⟩:=h
 obtain ⟨t,rfl⟩:=rx
 exact rule i t s _ _ ⟨.int (g i),H,I.tok _,⟨_,rfl⟩,q⟩
theorem zne:UnR X (unaryOp .USub) (rU fun i=>.int (-i)):=unI fun _ _ _ _ _ q=>neg_int q
end
def scal:V→V→Bool
 | .non,.non=>true | .non,.int _=>true | .int _,.non=>true | .non,.bl _=>true | .bl _,.non=>true | .non,.str _=>true | .str _,.non=>true
 | .int _,.int _=>true | .bl _,.bl _=>true | .str _,.str _=>true | .byt _,.byt _=>true
 | .int _,.str _=>true | .str _,.int _=>true | .bl _,.str _=>true | .str _,.bl _=>true
 | _,_=>false
def rEq:R2:=fun x y H Q=>scal x y=true∧Q (.bl (decide (x=y))) H
def rNe:R2:=fun x y H Q=>scal x y=true∧Q (.bl (!decide (x=y))) H
theorem zkq {i j:Int}:decide (V.int i=V.int j)=(i == j):=by
 rw [Bool.eq_iff_iff]
 simp
theorem znc {i j:Bool}:decide (V.bl i=V.bl j)=(i == j):=by
 rw [Bool.eq_iff_iff]
 simp
theorem zkL {i j:Str}:decide (V.str i=V.str j)=(i == j):=by
 rw [Bool.eq_iff_iff]
 simp
theorem zkp {i j:Array UInt8}:decide (V.byt i=V.byt j)=(i.toList == j.toList):=by
 rw [Bool.eq_iff_iff]
 cases i
 cases j
 simp
section
variable {X:Cx} {a b c:Expr} {ta tb tc:TE} {pos:Pos}
theorem zbg {pins:List (Addr×Obj)} {σ:St} {H:Hp} {s:Shared} {Q:VK} {k k':Bool} (I:Inv X pins σ H s) (q:Q (.bl k) H) (e:k=k'):EP X pins σ Q (.bool k') s:=by
 subst e
 exact ⟨.bl k,H,I,rfl,q⟩
theorem zjU:OpR X (compareOp .Eq) rEq:=by
 intro pins s σ H x y v u Q I rx ry h
 obtain ⟨hs,q⟩:=h
 cases x with
 | non =>
  cases rx
  cases y with
  | non=>cases ry;exact PySem.EqNone.eq_none_none (zbg I q (by simp))
  | bl j=>cases ry;exact PySem.EqNone.eq_none_bool (zbg I q (by simp))
  | int j=>obtain ⟨t',rfl⟩:=ry;exact PySem.EqNone.eq_none_int (zbg I q (by simp))
  | str j=>obtain ⟨t',rfl⟩:=ry;exact PySem.EqNone.eq_none_str (zbg I q (by simp))
  | _=>exact absurd (show false=true from hs) Bool.false_ne_true
 | bl i =>
  cases rx
  cases y with
  | non=>cases ry;exact PySem.EqNone.eq_bool_none (zbg I q (by simp))
  | bl j=>cases ry;exact eq_bool (zbg I q znc)
  | str j=>obtain ⟨t',rfl⟩:=ry;exact PySem.EqMixed.eq_bool_str (zbg I q (by simp))
  | _=>exact absurd (show false=true from hs) Bool.false_ne_true
 | int i =>
  obtain ⟨t,rfl⟩:=rx
  cases y with
  | non=>cases ry;exact PySem.EqNone.eq_int_none (zbg I q (by simp))
  | int j=>obtain ⟨t',rfl⟩:=ry;exact eq_int (zbg I q zkq)
  | str j=>obtain ⟨t',rfl⟩:=ry;exact PySem.EqMixed.eq_int_str (zbg I q (by simp))
  | _=>exact absurd (show false=true from hs) Bool.false_ne_true
 | str i =>
  obtain ⟨t,rfl⟩:=rx
  cases y with
  | non=>cases ry;exact PySem.EqNone.eq_str_none (zbg I q (by simp))
  | bl j=>cases ry;exact PySem.EqMixed.eq_str_bool (zbg I q (by simp))
  | int j=>obtain ⟨t',rfl⟩:=ry;exact PySem.EqMixed.eq_str_int (zbg I q (by simp))
  | str j=>obtain ⟨t',rfl⟩:=ry;exact eq_str (zbg I q zkL)
  | _=>exact absurd (show false=true from hs) Bool.false_ne_true
 | byt i =>
  obtain ⟨t,rfl⟩:=rx
  cases y with
  | byt j=>obtain ⟨t',rfl⟩:=ry;exact PySem.W.eq_bytes (zbg I q zkp)
  | _=>exact absurd (show false=true from hs) Bool.false_ne_true
 | _=>cases y <;> exact absurd (show false=true from hs) Bool.false_ne_true
theorem zoH:OpR X (compareOp .NotEq) rNe:=by
 intro pins s σ H x y v u Q I rx ry h
 obtain ⟨hs,q⟩:=h
 cases x with
 | non =>
  cases rx
  cases y with
  | non=>cases ry;exact PySem.EqNone.ne_none_none (zbg I q (by simp))
  | bl j=>cases ry;exact PySem.EqNone.ne_none_bool (zbg I q (by simp))
  | int j=>obtain ⟨t',rfl⟩:=ry;exact PySem.EqNone.ne_none_int (zbg I q (by simp))
  | str j=>obtain ⟨t',rfl⟩:=ry;exact PySem.EqNone.ne_none_str (zbg I q (by simp))
  | _=>exact absurd (show false=true from hs) Bool.false_ne_true
 | bl i =>
  cases rx
  cases y with
  | non=>cases ry;exact PySem.EqNone.ne_bool_none (zbg I q (by simp))
  | bl j=>cases ry;exact ne_bool (zbg I q (congrArg not znc))
  | str j=>obtain ⟨t',rfl⟩:=ry;exact PySem.EqMixed.ne_bool_str (zbg I q (by simp))
  | _=>exact absurd (show false=true from hs) Bool.false_ne_true
 | int i =>
  obtain ⟨t,rfl⟩:=rx
  cases y with
  | non=>cases ry;exact PySem.EqNone.ne_int_none (zbg I q (by simp))
  | int j=>obtain ⟨t',rfl⟩:=ry;exact ne_int (zbg I q (congrArg not zkq))
  | str j=>obtain ⟨t',rfl⟩:=ry;exact PySem.EqMixed.ne_int_str (zbg I q (by simp))
  | _=>exact absurd (show false=true from hs) Bool.false_ne_true
 | str i =>
  obtain ⟨t,rfl⟩:=rx
  cases y with
  | non=>cases ry;exact PySem.EqNone.ne_str_none (zbg I q (by simp))
  | bl j=>cases ry;exact PySem.EqMixed.ne_str_bool (zbg I q (by simp))
  | int j=>obtain ⟨t',rfl⟩:=ry;exact PySem.EqMixed.ne_str_int (zbg I q (by simp))
  | str j=>obtain ⟨t',rfl⟩:=ry;exact ne_str (zbg I q (congrArg not zkL))
  | _=>exact absurd (show false=true from hs) Bool.false_ne_true
 | byt i =>
  obtain ⟨t,rfl⟩:=rx
  cases y with
  | byt j=>obtain ⟨t',rfl⟩:=ry;exact PySem.W.ne_bytes (zbg I q (congrArg not zkp))
  | _=>exact absurd (show false=true from hs) Bool.false_ne_true
 | _=>cases y <;> exact absurd (show false=true from hs) Bool.false_ne_true
theorem zhT:OpR X (compareOp .Lt) (rI0 fun i j=>.bl (decide (i<j))):=opB0 fun _ _ _ _ _ _ _ q=>lt_int q
theorem zjY:OpR X (compareOp .LtE) (rI0 fun i j=>.bl (decide (i≤j))):=opB0 fun _ _ _ _ _ _ _ q=>le_int q
theorem zkH:OpR X (compareOp .Gt) (rI0 fun i j=>.bl (decide (j<i))):=opB0 fun _ _ _ _ _ _ _ q=>gt_int q
theorem zbD (b:Expr) {op:CmpOp} (h:op≠.In:=by decide) (h2:op≠.NotIn:=by decide):behindInMarks op b=false:=by
 have e1:(op == CmpOp.In)=false:=by cases op <;> first | rfl | exact absurd rfl h
 have e2:(op == CmpOp.NotIn)=false:=by cases op <;> first | rfl | exact absurd rfl h2
 cases b <;> simp [behindInMarks,e1,e2]
theorem zep {op:CmpOp} {r:R2} (ho:OpR X (compareOp op) r) (ha:PE X a ta) (hb:PE X b tb) (hm:behindInMarks op b=false):PE X (.Compare a [op] [b] pos) (tOp r ta tb):=by
 intro pins s σ H Q I h
 exact wpAny_Compare1 (binT ha hb I h fun v u s2 x y H2 I2 rx ry q=>ho pins s2 σ H2 x y v u Q I2 rx ry q) hm
def zbE (t:TE):TT:=fun σ H Q=>t σ H fun x H'=>∃ k,x=.bl k∧Q k H'
theorem zbH {op:CmpOp} {r:R2} (ho:OpR X (compareOp op) r) (ha:PE X a ta) (hb:PE X b tb) (hm:behindInMarks op b=false):PT X (.Compare a [op] [b] pos) (zbE (tOp r ta tb)):=by
 intro pins s σ H Q I h
 refine wpAny_isTrue_Compare1 (thn (ha pins s σ H _ I h) fun v s1 ⟨x,H1,I1,r1,q1⟩=>thn (hb pins s1 σ H1 _ I1 q1) fun u s2 ⟨y,H2,I2,r2,q2⟩ =>
  thn (ho pins s2 σ H2 x y v u _ I2 r1 r2 q2) fun c s3 ⟨z,H3,I3,r3,k,e,q3⟩=>?_) hm
 subst e
 cases r3
 exact wpAny_truthy_bool ⟨H3,I3,q3⟩
def zia (r r':R2) (ta tb tc:TE):TE:=fun σ H Q=>ta σ H fun x H1=>tb σ H1 fun y H2=>r x y H2 fun z H3=>∃ k,z=.bl k ∧
 (if k=true then tc σ H3 fun w' H4=>r' y w' H4 Q else Q (.bl false) H3)
theorem zlO {op op':CmpOp} {r r':R2} (ho:OpR X (compareOp op) r) (ho':OpR X (compareOp op') r') (ha:PE X a ta) (hb:PE X b tb) (hc:PE X c tc)
  (hm:lastMarks [op,op'] [b,c]=false:=by with_unfolding_all rfl):PE X (.Compare a [op,op'] [b,c] pos) (zia r r' ta tb tc):=by
 intro pins s σ H Q I h
 refine Compare_chain (thn (ha pins s σ H _ I h) fun v s1 ⟨x,H1,I1,r1,q1⟩=>chain_link (thn (hb pins s1 σ H1 _ I1 q1) fun u s2 ⟨y,H2,I2,r2,q2⟩ =>
  thn (ho pins s2 σ H2 x y v u _ I2 r1 r2 q2) fun d s3 ⟨z,H3,I3,r3,k,e,q3⟩=>?_)) hm
 subst e
 cases r3
 refine wpAny_truthy_bool ?_
 cases k with
 | false=>exact ite_ff ⟨.bl false,H3,I3,rfl,q3⟩
 | true=>exact ite_tt (chain_last (thn (hc pins s3 σ H3 _ I3 q3) fun w' s4 ⟨z',H4,I4,r4,q4⟩=>ho' pins s4 σ H4 y z' u w' Q I4 r2 r4 q4))
theorem zmu {op op':CmpOp} {r r':R2} (ho:OpR X (compareOp op) r) (ho':OpR X (compareOp op') r') (ha:PE X a ta) (hb:PE X b tb) (hc:PE X c tc)
  (hm:lastMarks [op,op'] [b,c]=false:=by with_unfolding_all rfl):PT X (.Compare a [op,op'] [b,c] pos) (zbE (zia r r' ta tb tc)):=by
 intro pins s σ H Q I h
 refine isTrue_chain (thn (ha pins s σ H _ I h) fun v s1 ⟨x,H1,I1,r1,q1⟩=>test_link (thn (hb pins s1 σ H1 _ I1 q1) fun u s2 ⟨y,H2,I2,r2,q2⟩ =>
  thn (ho pins s2 σ H2 x y v u _ I2 r1 r2 q2) fun d s3 ⟨z,H3,I3,r3,k,e,q3⟩=>?_)) hm
 subst e
 cases r3
 refine wpAny_truthy_bool ?_
 cases k with
 | false =>
  obtain ⟨k',e',q'⟩:=q3
  cases e'
  exact ite_ff ⟨H3,I3,q'⟩
 | true =>
  refine ite_tt (test_last (thn (hc pins s3 σ H3 _ I3 q3) fun w' s4 ⟨z',H4,I4,r4,q4⟩=>thn (ho' pins s4 σ H4 y z' u w' _ I4 r2 r4 q4) fun d' s5 hQ'=>?_))
  obtain ⟨z2,H5,I5,r5,k2,e2,q5⟩:=hQ'
  subst e2
  cases r5
  exact wpAny_truthy_bool ⟨H5,I5,q5⟩
def zro (K:PySem.W.Frag) (x:V) (H:Hp) (k:Bool):Prop :=
 match x with
 | .non=>k=false
 | .bl b=>k=b
 | .int i=>k=(i != 0)
 | .str y=>y.length≤sizeLine∧k=((y.length:Int) != 0)
 | .byt y=>y.size≤sizeLine∧k=((y.size:Int) != 0)
 | .ref p=>(∃ xs,SqL K H p xs∧k=!xs.isEmpty)∨(∃ xs,SqT K H p xs∧k=!xs.isEmpty)∨∃ kvs,H p=some (.dK kvs)∧k=!kvs.isEmpty
 | _=>False
theorem zjJ {κ:Type} {kvs:List (κ×V)} {vs:List (κ×Value)} (r:KV kvs vs):(!vs.isEmpty)=!kvs.isEmpty:=by
 cases r <;> rfl
theorem zgk {xs:List V} {its:List Value} (r:zbJ xs its):(!its.toArray.isEmpty)=!xs.isEmpty:=by
 cases r <;> simp
theorem zhO:(sizeLine:Nat)<2 ^ 63:=by rw [sizeLine_eq];decide
theorem zqw:TruR X (fun x H Q=>∃ k,zro X.K x H k∧Q k H):=by
 intro pins s σ H x v Q I rx h
 obtain ⟨k,e,q⟩:=h
 have hl:=zhO
 have hs:sizeLine=16777216:=sizeLine_eq
 cases x with
 | non =>
  cases rx
  have e':k=false:=e
  subst e'
  exact truthy_none ⟨H,I,q⟩
 | bl b =>
  cases rx
  have e':k=b:=e
  subst e'
  exact wpAny_truthy_bool ⟨H,I,q⟩
 | int i =>
  obtain ⟨t,rfl⟩:=rx
  have e':k=(i != 0):=e
  subst e'
  exact PySem.P.truthy_int ⟨H,I,q⟩
 | str y =>
  obtain ⟨t,rfl⟩:=rx
  obtain ⟨hy,e'⟩:y.length≤sizeLine∧k=((y.length:Int) != 0):=e
  subst e'
  exact PySem.P.truthy_str (by (first|lia|omega)) ⟨H,I.tok _,q⟩
 | byt y =>
  obtain ⟨t,rfl⟩:=rx
  obtain ⟨hy,e'⟩:y.size≤sizeLine∧k=((y.size:Int) != 0):=e
  subst e'
  exact PySem.W.truthy_bytes (by (first|lia|omega)) ⟨H,I.tok _,q⟩
 | ref p =>
  cases rx
  have e':(∃ xs,SqL X.K H p xs∧k=!xs.isEmpty)∨(∃ xs,SqT X.K H p xs∧k=!xs.isEmpty)∨∃ kvs,H p=some (.dK kvs)∧k=!kvs.isEmpty:=e
  rcases e' with ⟨xs,hx,e'⟩ | ⟨xs,hx,e'⟩ | ⟨kvs,hx,e'⟩
  ·subst e'
   obtain ⟨its,r,pl,hz⟩:=I.list hx
   have hlen:=r.length
   exact wpAny_truthy_list pl.isList (by simp only [List.size_toArray];(first|lia|omega)) ⟨H,I.tok _,by rw [zgk r];exact q⟩
  ·subst e'
   obtain ⟨its,r,pl,hz⟩:=I.tuple hx
   have hlen:=r.length
   exact truthy_tuple pl (by simp only [List.size_toArray];(first|lia|omega)) ⟨H,I.tok _,by rw [zgk r];exact q⟩
  ·subst e'
   obtain ⟨hz,hS,vs,r,m⟩:kvs.length≤sizeLine∧(p == sysModules)=false∧∃ vs,KV kvs vs∧s.heap.DictOf (ziE X.prog X.w) p vs:=I.hok p _ hx
   have hlen:kvs.length=vs.length:=Paired.length r
   exact wpAny_truthy_dict hS m (by (first|lia|omega)) ⟨H,I.tok _,by rw [zjJ r];exact q⟩
 | _=>exact (show False from e).elim
theorem zjC (ha:PE X a ta) (he:∀ whole,isTrue a X.env whole=(do let v ← whole;standAt a.pos;holding [v] (truthy v))) :
  PT X a (fun σ H Q=>ta σ H fun x H'=>∃ k,zro X.K x H' k∧Q k H'):=by
 intro pins s σ H Q I h
 exact isTrue_plain (thn (ha pins s σ H _ I h) fun v s1 ⟨x,H1,I1,r1,q1⟩=>zqw pins s1 σ H1 x v Q I1 r1 q1) (he _)
theorem zmS {x:V} {us:List Value} (r:zbJ [x] us):∃ u,us=[u]∧zcF x u:=by
 cases r with
 | cons r1 r2=>cases r2;exact ⟨_,rfl,r1⟩
theorem zrL {x y:V} {us:List Value} (r:zbJ [x,y] us):∃ u w',us=[u,w']∧zcF x u∧zcF y w':=by
 cases r with
 | cons r1 r2 =>
  cases r2 with
  | cons r3 r4=>cases r4;exact ⟨_,_,rfl,r1,r3⟩
theorem zi5:zhW X (.builtin "abs") (fun xs H Q=>∃ i,xs=[.int i]∧Q (.int (if i<0 then -i else i)) H):=by
 intro pins s σ H xs us Q I r h
 obtain ⟨i,rfl,q⟩:=h
 obtain ⟨u,rfl,t,rfl⟩:=zmS r
 exact call_abs_int fun u tk=>⟨.int (if i<0 then -i else i),H,I.tok _,⟨_,rfl⟩,q⟩
end
end L2
namespace L2
open PySem PySem.Spec PyProof.Rows
structure ObjM (h:Heap) (x dx C:Addr) (mA:Str→Option Value):Prop where
 obj:h.get? x=some (PySem.W.instObj C dx)
 ns:h.Ns1 dx mA
 ne:dx≠x
theorem zkr {h:Heap} {dx:Addr} {mA:Str→Option Value} (n:h.Ns1 dx mA):∃ od,h.get? dx=some od∧∀ name,PySem.W.lookIn name od=some (mA name):=by
 obtain ⟨o,es,ep,ho,hd,hk,_,hm⟩:=n
 refine ⟨o,ho,fun name=>?_⟩
 have e:=hm name
 unfold nsFind findBy at e
 rw [← Array.find?_toList] at e
 unfold PySem.W.lookIn
 rw [hd]
 dsimp only
 split
 ·rename_i y q
  rw [q] at e
  exact congrArg some e
 ·rename_i q
  rw [q] at e
  have a:es.toList.any (·.refKey)=false:=by
   rw [List.any_eq_false]
   intro y hy
   obtain ⟨z,t,hkey⟩:=hk y (Array.mem_toList_iff.mp hy)
   simp [DictEntry.refKey,hkey]
  have a':¬ es.toList.any (·.refKey)=true:=by rw [a];exact Bool.false_ne_true
  rw [if_neg a']
  exact congrArg some e
theorem ObjM.look {h:Heap} {x dx C:Addr} {mA:Str→Option Value} (I:ObjM h x dx C mA):∃ od,PySem.W.InstAt h x (PySem.W.instObj C dx) C (some od)∧∀ name,PySem.W.lookIn name od=some (mA name) :=
 let ⟨od,ho,hl⟩:=zkr I.ns
 ⟨od,⟨I.obj,rfl,rfl,ho⟩,hl⟩
section
variable {prog:Program} {w:World} {A:Around} {E:Value→Shared→Prop} {s:Shared} {K:PySem.W.Frag} {x dx C f:Addr} {mA:Str→Option Value} {name:Str} {v:Value}
end
section
variable {P:Program} {w:World} {H H':Hp} {h h':Heap} {a C dx:Addr} {fs fs':List (Str×V)}
theorem zoB (hok:HOk P w H h) (e:H a=some (.ins C dx fs)):∃ mA,ObjM h a dx C mA∧(∀ f,RelO (fs.lookup f) (mA f))∧PySem.Within mA (fs.map (·.1))∧fs.length≤1000∧H dx=some (.own a):=by
 obtain ⟨d,z,ne,ob,mA,n,r,q⟩:=(show zcG P w H h a (.ins C dx fs) from hok a _ e)
 exact ⟨mA,⟨ob,n,ne⟩,r,q,z,d⟩
end
structure Cls (K:PySem.W.Frag) (C:Addr):Prop where
 pg:PySem.W.plainGet K C Str.empty=true
 hd:PySem.W.hasDictIn K C=true
 po:PySem.W.plainOver K C=true
 sa:PySem.W.findIn K (.ref C) "__setattr__"=some (some (.builtin "object.__setattr__"))
theorem Cls.get {K:PySem.W.Frag} {C:Addr} (c:Cls K C) (f:Str):PySem.W.plainGet K C f=true:=c.pg
section
variable {X:Cx} {pins:List (Addr×Obj)} {σ:St} {H:Hp} {s:Shared} {a C dx:Addr} {fs:List (Str×V)} {f:Str} {v:V} {A:Around} {E:Value→Shared→Prop}
end
section
variable {X:Cx} {o e value:Expr} {f:Str} {pos pos' tpos:Pos} {ta tv:TE}
end
section
variable {X:Cx} {pins:List (Addr×Obj)} {σ:St} {H:Hp} {s:Shared} {A:Around} {E:Value→Shared→Prop} {Q:Value→Shared→Prop} {c:Value} {b:Bool}
inductive zjK (K:PySem.W.Frag) (H:Hp):V→Value→Prop where
 | non:zjK K H .non (.type "NoneType")
 | bl (x:Bool):zjK K H (.bl x) (.type "bool")
 | int (i:Int):zjK K H (.int i) (.type "int")
 | str (x:Str):zjK K H (.str x) (.type "str")
 | flt (x:UInt64):zjK K H (.flt x) (.type "float")
 | lst {a:Addr} {xs:List V} (e:H a=some (.lst xs)):zjK K H (.ref a) (.type "list")
 | frz {a:Addr} {o:Obj} {xs:List V} (e:H a=some (.frz o (.lst xs))):zjK K H (.ref a) (.type "list")
 | tup {a:Addr} {xs:List V} (e:H a=some (.tup xs)):zjK K H (.ref a) (.type "tuple")
 | dK {a:Addr} {kvs:List (Key×V)} (e:H a=some (.dK kvs)):zjK K H (.ref a) (.type "dict")
 | dT {a:Addr} {kvs:List (List Key×V)} (e:H a=some (.dT kvs)):zjK K H (.ref a) (.type "dict")
 | ins {a C dx:Addr} {fs:List (Str×V)} (e:H a=some (.ins C dx fs)) (cl:Cls K C) (ha:PySem.W.findIn K (.ref C) "__class__"=some (some (.builtin "object.__class__")))
   (hn:PySem.W.specialIn K (.builtin "object.__class__") "__get__"=some (some (.builtin "getset_descriptor.__get__"))) (htk:PySem.W.takesIn K (.builtin "object.__class__")=some true)
   (hm:PySem.W.mroIn K C (.type "object")=some true):zjK K H (.ref a) (.ref C)
theorem zkz {x:V} {u t:Value} (I:Inv X pins σ H s) (rx:zcF x u) (ty:zjK X.K H x t) (e:PySem.W.kitOne X.K t c=some b) (h:∀ tk,Q (.bool b) { s with toks:=tk }) :
  wpAny (model X.prog X.w) A (call (.builtin "isinstance") [u,c]) Q E s:=by
 cases ty with
 | non=>cases (show u=Value.none from rx);exact PySem.W.kia_one PySem.W.kitx_none I.kIn True.intro e (fun z=>nomatch z) h
 | bl y=>cases (show u=Value.bool y from rx);exact PySem.W.kia_one PySem.W.kitx_bool I.kIn True.intro e (fun z=>nomatch z) h
 | int i=>obtain ⟨t,q⟩:=(show ∃ t,u=Value.int i t from rx);cases q;exact PySem.W.kia_one PySem.W.kitx_int I.kIn True.intro e (fun z=>nomatch z) h
 | str y=>obtain ⟨t,q⟩:=(show ∃ t,u=Value.str y t from rx);cases q;exact PySem.W.kia_one PySem.W.kitx_str I.kIn True.intro e (fun z=>nomatch z) h
 | flt y=>obtain ⟨t,q⟩:=(show ∃ t,u=Value.float y t from rx);cases q;exact PySem.W.kia_one PySem.W.kitx_float I.kIn True.intro e (fun z=>nomatch z) h
 | @lst a xs ea =>
  cases (show u=Value.ref a from rx)
  obtain ⟨_,_,n,_,h1⟩:=(show zcG X.prog X.w H s.heap a (.lst xs) from I.hok a _ ea)
  exact PySem.W.kia_one PySem.W.kitx_list I.kIn ⟨_,h1,rfl⟩ e (fun z=>nomatch z) h
 | @frz a ob xs ea =>
  cases (show u=Value.ref a from rx)
  obtain ⟨_,_,_,n,_,h1⟩:=(show zcG X.prog X.w H s.heap a (.frz ob (.lst xs)) from I.hok a _ ea)
  exact PySem.W.kia_one PySem.W.kitx_list I.kIn ⟨_,h1,rfl⟩ e (fun z=>nomatch z) h
 | @tup a xs ea =>
  cases (show u=Value.ref a from rx)
  obtain ⟨_,_,_,p⟩:=(show zcG X.prog X.w H s.heap a (.tup xs) from I.hok a _ ea)
  obtain ⟨o,h1,h2,_⟩:=p
  exact PySem.W.kia_one PySem.W.kitx_tuple I.kIn ⟨o,h1,h2⟩ e (fun z=>nomatch z) h
 | @dK a kvs ea =>
  cases (show u=Value.ref a from rx)
  obtain ⟨_,_,vs,_,p⟩:=(show zcG X.prog X.w H s.heap a (.dK kvs) from I.hok a _ ea)
  obtain ⟨o,es,ep,h1,h2,_⟩:=p
  exact PySem.W.kia_one PySem.W.kitx_dict I.kIn ⟨o,h1,h2.1⟩ e (fun z=>nomatch z) h
 | @dT a kvs ea =>
  cases (show u=Value.ref a from rx)
  obtain ⟨_,_,xs,_,o,es,ep,h1,h2,_⟩:=(show zcG X.prog X.w H s.heap a (.dT kvs) from I.hok a _ ea)
  exact PySem.W.kia_one PySem.W.kitx_dict I.kIn ⟨o,h1,h2.1⟩ e (fun z=>nomatch z) h
 | @ins a C dx fs ea cl ha hn htk hm =>
  cases (show u=Value.ref a from rx)
  obtain ⟨mA,O,_⟩:=zoB I.hok ea
  obtain ⟨od,J,_⟩:=O.look
  exact PySem.W.kia_one (PySem.W.kitx_own (cl.get _) cl.hd ha hn htk hm) I.kIn J e (fun z=>nomatch z) h
end
end L2
namespace L2
open PySem PySem.Spec PyProof.Rows
structure zhH (k:Nat) (A:Around):Prop where
 hd:A.handled=none
 dp:A.depth+3*k+5<recursionLimit
 un:A.units+16*k+200<cLine
theorem zhH.mono {j k:Nat} {A:Around} (r:zhH k A) (h:j≤k):zhH j A:=⟨r.hd,by have:=r.dp;(first|lia|omega),by have:=r.un;(first|lia|omega)⟩
theorem zhH.deeper {k:Nat} {A:Around} (r:zhH (k+1) A) (env:Env):zhH k (A.deeper env) :=
 ⟨r.hd,by have:=r.dp;show A.depth+1+3*k+5<_;(first|lia|omega),by have:=r.un;show A.units+3+16*k+200<_;(first|lia|omega)⟩
theorem zhH.depth {k:Nat} {A:Around} (r:zhH k A):A.depth<recursionLimit:=by have:=r.dp;(first|lia|omega)
theorem zhH.units0 {k:Nat} {A:Around} (r:zhH k A):A.units<cLine:=by have:=r.un;(first|lia|omega)
def zan:TA:=fun _ H Q=>Q [] H
def zab (ta:TE) (tr:TA):TA:=fun σ H Q=>ta σ H fun x H1=>tr σ H1 fun xs H2=>Q (x::xs) H2
section
variable {X:Cx} {e:Expr} {es:List Expr} {te:TE} {t:TA} {pos:Pos}
theorem zad:PA X [] zan:=fun _ _ _ _ H Q I h=>Calls.spliced_nil ⟨[],H,I,.nil,h⟩
theorem zaa (ha:PE X e te) (hr:PA X es t) (hs:starEach (e::es) X.env=(false,eval e X.env)::starEach es X.env:=by rfl):PA X (e::es) (zab te t):=by
 intro pos pins s σ H Q I h
 rw [hs]
 show wpAny _ _ (spliced ((false,eval e X.env)::backTo pos (starEach es X.env))) _ _ s
 refine Calls.spliced_cons (thn (ha pins s σ H _ I h) fun u s1 hQ'=>?_)
 obtain ⟨x,H1,I1,r1,q1⟩:=hQ'
 exact thn (hr pos pins s1 σ H1 _ I1 q1) fun us s2 ⟨xs,H2,I2,r2,q2⟩=>⟨x::xs,H2,I2,.cons r1 r2,q2⟩
def zcJ (t:TA):TE:=fun σ H Q=>t σ H fun xs H1=>xs.length≤sizeLine∧∀ p,H1 p=none→Q (.ref p) (upd H1 p (.tup xs))
def zeo (t:TA):TE:=fun σ H Q=>t σ H fun xs H1=>xs.length≤sizeLine∧∀ p,H1 p=none→Q (.ref p) (upd H1 p (.lst xs))
theorem zbk {x1} (h:PA X es t):PE X (.Tuple es x1 pos) (zcJ t):=by
 intro pins s σ H Q I hq
 refine wpAny_Tuple_spliced (thn (h pos pins s σ H _ I hq) fun us s1 ⟨xs,H1,I1,r,z,q⟩=>⟨by rw [← r.length];exact z,?_⟩)
 have hf:H1 s1.heap.objs.size=none:=I1.hok.fresh (Nat.le_refl _)
 refine ⟨.ref s1.heap.objs.size,upd H1 s1.heap.objs.size (.tup xs),I1.laid (t':=s1.toks) (fun b u e=>Heap.get?_push_of_some _ e) (Nat.le_refl _) ?_,rfl,q _ hf⟩
 exact ⟨z,us,r,⟨_,Heap.get?_push_size _ rfl,rfl,_,rfl⟩⟩
theorem zb9 (h:PA X es t):PE X (.List es pos) (zeo t):=by
 intro pins s σ H Q I hq
 refine wpAny_List_spliced (thn (h pos pins s σ H _ I hq) fun us s1 ⟨xs,H1,I1,r,z,q⟩=>⟨by rw [← r.length];exact z,?_⟩)
 have hf:H1 s1.heap.objs.size=none:=I1.hok.fresh (Nat.le_refl _)
 refine ⟨.ref s1.heap.objs.size,upd H1 s1.heap.objs.size (.lst xs),I1.laid (t':=s1.toks) (fun b u e=>Heap.get?_push_of_some _ e) (Nat.le_refl _) ?_,rfl,q _ hf⟩
 exact ⟨z,us,0,r,Heap.get?_push_size _ rfl⟩
end
abbrev Sp:=List V→Hp→VK→XK→Prop
abbrev CXT:=List Env→Hp→Shared→XK→Value→Shared→Prop
structure Env0 (P:Program) (w:World) (K:PySem.W.Frag) (mg:Str→Option Value) (base:Heap) (A:Around) (outer:List Env) (s:Shared) (H:Hp):Prop where
 frames:A.frames=some outer
 mod:Mod K mg base
 bs:∀ b o,base.get? b=some o→s.heap.get? b=some o∧H b=none
 bsz:base.objs.size≤s.heap.objs.size
 funs:s.heap.FunFrames base outer
 frf:∀ b∈frs outer,H b=none
 hok:HOk P w H s.heap
 bare:AllBare s.gens
def CE (outer:List Env) (P:Program) (w:World) (H:Hp) (s:Shared) (Q:VK) (u:Value) (s':Shared):Prop :=
 ∃ v H',s'.os=s.os∧AllBare s'.gens∧Un (frs outer) [] H H' s.heap s'.heap∧HOk P w H' s'.heap∧zcF v u∧Q v H'
def CR (CX:CXT) (outer:List Env) (P:Program) (w:World) (H:Hp) (s:Shared) (Q:VK) (E:XK) (r:Result) (s':Shared):Prop :=
 match r with
 | .ok (.ret u)=>CE outer P w H s Q u s'
 | .ok _=>False
 | .error e=>CX outer H s E e s'
structure zb0 (P:Program) (w:World) (K:PySem.W.Frag) (mg:Str→Option Value) (base:Heap) (CX:CXT) (k:Nat) (f:Addr) (fd:FuncData) (ps:List Str) (sp:Sp):Prop where
 len:∀ vs H Q E,sp vs H Q E→vs.length=ps.length
 run:∀ (A:Around) (outer:List Env) (s:Shared) (H:Hp) (args:Args) (us:List Value) (vs:List V) (Q:VK) (E:XK),zhH k A→Env0 P w K mg base A outer s H→BindsTo s fd args (ps.zip us)→zbJ vs us→sp vs H Q E →
  codeAny (model P w) A (.call (.ref f) args) (CR CX outer P w H s Q E) s
section
variable {X:Cx} {pins:List (Addr×Obj)} {σ:St} {H:Hp} {s s':Shared}
theorem Inv.env0 (I:Inv X pins σ H s):Env0 X.prog X.w X.K X.mg X.base X.A X.stack s H :=
 ⟨I.ok.frames,I.ok.mod,I.bs,Nat.le_trans I.ok.bsz I.sz,I.stack,I.stkFree,I.hok,I.bare⟩
theorem Inv.after {Q:VK} {u:Value} (I:Inv X pins σ H s) (h:CE X.stack X.prog X.w H s Q u s'):EP X pins σ Q u s':=by
 obtain ⟨v,H',os,bare,un,hok,r,q⟩:=h
 obtain ⟨hh,g,d,t,os'⟩:=s'
 obtain rfl:os'=s.os:=os
 exact ⟨v,H',I.call (h':=hh) (g':=g) (d':=d) (t':=t) (ch:=[]) un hok bare (fun b z=>absurd z (by simp)),r,q⟩
end
def zau (sp:Sp) (dvs:List V) (E:XK) (t:TA):TE:=fun σ H Q=>t σ H fun vs H1=>sp (vs++dvs) H1 Q E
def za6 (K:PySem.W.Frag) (fd:FuncData) (ps:List Str) (ds:List Value):Prop :=
 ∀ (s:Shared) (us:List Value),K.In s.heap→(us++ds).length=ps.length→BindsTo s fd ⟨us,[]⟩ (ps.zip (us++ds))
theorem za6.all {K:PySem.W.Frag} {fd:FuncData} {ps:List Str} (h:∀ us:List Value,us.length=ps.length→bindArgs fd ⟨us,[]⟩=pure (ps.zip us)):za6 K fd ps []:=fun s us _ hl=>by
 rw [List.append_nil] at hl ⊢
 exact .of_eq (h us hl)
def zlp (CX:CXT) (X:Cx) (E:XK):Prop:=∀ (pins:List (Addr×Obj)) (σ:St) (H:Hp) (s:Shared) (e:Value) (s':Shared),Inv X pins σ H s→CX X.stack H s E e s'→X.xe e s'
section
variable {X:Cx} {CX:CXT} {k:Nat} {f C:Addr} {fd:FuncData} {ps:List Str} {sp:Sp} {dvs:List V} {ds:List Value} {E:XK} {x m:Str} {p pos apos:Pos} {e o:Expr} {es:List Expr} {ta:TE} {t:TA}
theorem zrr {pins:List (Addr×Obj)} {σ:St} {H:Hp} {s:Shared} {Q:VK} {us:List Value} {vs:List V} (F:zb0 X.prog X.w X.K X.mg X.base CX k f fd ps sp) (hr:zhH k X.A) (hb:za6 X.K fd ps ds) (hd:zbJ dvs ds) (hx:zlp CX X E)
  (I:Inv X pins σ H s) (r:zbJ vs us) (h:sp (vs++dvs) H Q E):wpAny (model X.prog X.w) X.A (call (.ref f) us) (EP X pins σ Q) X.xe s:=by
 have r2:zbJ (vs++dvs) (us++ds):=r.append hd
 have hl:(us++ds).length=ps.length:=by rw [← r2.length];exact F.len _ _ _ _ h
 refine wpAny_call (codeAny_mono (F.run X.A X.stack s H ⟨us,[]⟩ (us++ds) (vs++dvs) Q E hr I.env0 (hb s us I.kIn hl) r2 h) fun r s' hq=>?_)
 cases r with
 | error e=>exact hx pins σ H s e s' I hq
 | ok fl =>
  cases fl with
  | ret u=>exact I.after hq
  | next=>exact False.elim hq
  | brk=>exact False.elim hq
  | cont=>exact False.elim hq
theorem zak (F:zb0 X.prog X.w X.K X.mg X.base CX k f fd ps sp) (hr:zhH k X.A) (hg:Gl X x) (hm:X.mg x=some (.ref f)) (hk:PySem.W.keepIn X.K (.ref f)=true) (hb:za6 X.K fd ps ds) (hd:zbJ dvs ds) (hx:zlp CX X E)
  (ha:PA X (e::es) t) (hdb:(x == ("__debug__":Str))=false:=by decide) (he:starEach (e::es) X.env=(false,eval e X.env)::starEach es X.env:=by rfl) (hpl:(backTo pos (starEach es X.env)).any (·.1)=false:=by rfl) :
  PE X (.Call (.Name x p) (e::es) [] pos) (zau sp dvs E t):=by
 intro pins s σ H Q I h
 refine wpAny_Call_Name_kw (zlB I hg hm ?_ hdb)
 refine PySem.W.callWith_K (h₀:=X.base) I.ok.mod.kin hk (thn (ha pos pins s σ H _ I h) fun us s1 ⟨vs,H1,I1,r,q⟩=>⟨I1.kIn,?_⟩) he hpl
 exact zrr F hr hb hd hx I1 r q
end
section
variable {X:Cx} {CX:CXT} {k:Nat} {f C:Addr} {fd:FuncData} {ps ks:List Str} {sp:Sp} {E:XK} {x m:Str} {p pos apos kpos:Pos} {e o:Expr} {es:List Expr} {kws:List Keyword} {te ta:TE} {t tk:TA} {nm:Option Str}
variable {g:List Value→List Value→List Value} {gV:List V→List V→List V}
end
structure zay (N P:List Str) (sc:Scope):Prop where
 kind:sc.kind=.function
 co:sc.isCoroutine=false
 gen:sc.isGenerator=false
 nd:N.Nodup
 pre:N.take P.length=P
 par:∀ x∈P,sc.names.lookup x=some .local∨sc.names.lookup x=some .cell
 nofree:∀ y∈sc.names,y.2≠.free
theorem zhw {kindOf:Str→Option NameKind} {x:Str}:∀ {binds:List (Str×Value)} {m:Str→Option Value},(∀ v,(x,v)∉binds)→bindL kindOf binds m x=m x
 | [],_,_=>rfl
 | (n,v)::r,m,h=>by
  unfold bindL
  rw [zhw fun w hw=>h w (List.mem_cons_of_mem _ hw)]
  split
  ·have:x≠n:=by rintro rfl;exact h v List.mem_cons_self
   simp [this]
  ·rfl
theorem zhC {kindOf:Str→Option NameKind} {x:Str}:∀ {binds:List (Str×Value)} {m:Str→Option Value},(∀ v,(x,v)∉binds)→bindC kindOf binds m x=m x
 | [],_,_=>rfl
 | (n,v)::r,m,h=>by
  unfold bindC
  rw [zhC fun w hw=>h w (List.mem_cons_of_mem _ hw)]
  split
  ·rfl
  ·have:x≠n:=by rintro rfl;exact h v List.mem_cons_self
   simp [this]
theorem zif {kindOf:Str→Option NameKind} {x:Str} {v:Value}:∀ {P:List Str} {vs:List Value} {i:Nat} {m:Str→Option Value},P.Nodup→P[i]?=some x→vs[i]?=some v→kindOf x=some .local →
  bindL kindOf (P.zip vs) m x=some v
 | [],_,_,_,_,h,_,_=>by simp at h
 | _::_,[],_,_,_,_,h,_=>by simp at h
 | p::P,w::vs,0,m,nd,h1,h2,hk=>by
  simp at h1 h2;subst h1;subst h2
  show bindL kindOf ((p,w)::P.zip vs) m p=_
  unfold bindL
  rw [zhw fun v hv=>(List.nodup_cons.mp nd).1 (List.of_mem_zip hv).1,if_pos hk]
  simp
 | p::P,w::vs,i+1,m,nd,h1,h2,hk=>by
  show bindL kindOf ((p,w)::P.zip vs) m x=_
  unfold bindL
  exact zif (i:=i) (List.nodup_cons.mp nd).2 (by simpa using h1) (by simpa using h2) hk
theorem zhF {kindOf:Str→Option NameKind} {x:Str} {v:Value}:∀ {P:List Str} {vs:List Value} {i:Nat} {m:Str→Option Value},P.Nodup→P[i]?=some x→vs[i]?=some v→kindOf x≠some .local →
  bindC kindOf (P.zip vs) m x=some v
 | [],_,_,_,_,h,_,_=>by simp at h
 | _::_,[],_,_,_,_,h,_=>by simp at h
 | p::P,w::vs,0,m,nd,h1,h2,hk=>by
  simp at h1 h2;subst h1;subst h2
  show bindC kindOf ((p,w)::P.zip vs) m p=_
  unfold bindC
  rw [zhC fun v hv=>(List.nodup_cons.mp nd).1 (List.of_mem_zip hv).1,if_neg hk]
  simp
 | p::P,w::vs,i+1,m,nd,h1,h2,hk=>by
  show bindC kindOf ((p,w)::P.zip vs) m x=_
  unfold bindC
  exact zhF (i:=i) (List.nodup_cons.mp nd).2 (by simpa using h1) (by simpa using h2) hk
def start (N:List Str) (vs:List V):St:=vs.map some++List.replicate (N.length - vs.length) none
def zpJ (CX:CXT) (P:Program) (w:World) (K:PySem.W.Frag) (mg:Str→Option Value) (base:Heap) (N:List Str) (qual:Str) (scope:Scope) (f:Addr) (cd:Value) (A:Around) (outer:List Env) (s:Shared) (H:Hp) (E:XK):Cx where
 prog:=P
 w:=w
 K:=K
 mg:=mg
 base:=base
 A:=A.deeper (envOfC qual scope s.heap.objs.size f cd)
 N:=N
 s₀:=s
 H₀:=H
 env:=envOfC qual scope s.heap.objs.size f cd
 outer:=outer
 stack:=envOfC qual scope s.heap.objs.size f cd::outer
 ex:=[]
 calm:=true
 fn:=fun _=>true
 pn:=[]
 xe:=fun e s'=>wpAny (model P w) (A.deeper (envOfC qual scope s.heap.objs.size f cd)) (leaving (envOfC qual scope s.heap.objs.size f cd) e) (fun _ s''=>CX outer H s E e s'') (fun e' s''=>CX outer H s E e' s'') s'
theorem zi6 {sc:Scope} {n:Nat} {x:Str} (h:sc.names.lookup x=some .cell):∃ c,(cellsFrom n sc.names []).lookup x=some c:=by
 have q:=PySem.W.cellsFrom_some sc.names n [] (.inl h)
 exact Option.isSome_iff_exists.mp q
theorem zkW {CX:CXT} {P:Program} {w:World} {K:PySem.W.Frag} {mg:Str→Option Value} {base:Heap} {N ps:List Str} {qual:Str} {scope:Scope} {f:Addr} {cd:Value} {A:Around} {outer:List Env} {s s1:Shared} {H:Hp} {E:XK} {us:List Value} {vs:List V}
  (S:zay N ps scope) (hd:A.handled=none) (e0:Env0 P w K mg base A outer s H) (hl:vs.length=ps.length) (r:zbJ vs us)
  (x:InCallC s s.heap.objs.size (bindL (envOfC qual scope s.heap.objs.size f cd).kindOf (ps.zip us) fun _=>none) (cellsFrom (s.heap.objs.size+1) scope.names []) (bindC (envOfC qual scope s.heap.objs.size f cd).kindOf (ps.zip us) fun _=>none) s1) :
  Inv (zpJ CX P w K mg base N qual scope f cd A outer s H E) [] (start N vs) H s1:=by
 have hpl:ps.length≤N.length:=by have:=congrArg List.length S.pre;rw [List.length_take] at this;(first|lia|omega)
 obtain ⟨h1,tk,rfl,hk⟩:=x.done
 have noA:∀ b:Addr,b∉(zpJ CX P w K mg base N qual scope f cd A outer s H E).ex:=fun b z=>absurd (show b∈([]:List Addr) from z) (by simp)
 refine ⟨⟨e0.mod,S.kind,rfl,rfl,Nat.le_refl _,fun y z c h1 h2=>?_,fun y hy=>?_,fun y c _ h=>?_,fun _=>hd,Around.frames_deeper e0.frames,.inr ⟨rfl,rfl⟩,fun b z=>absurd z (noA b),e0.bs,e0.bsz,fun b _ _=>noA b,fun b z=>absurd z (noA b),e0.funs,e0.frf⟩,
  rfl,e0.bare,Un.kept hk,⟨_,x.toInCall.ns,fun i y v h1 h2 h3=>?_⟩,fun y c h=>⟨_,x.cell y c h⟩,e0.hok.fresh (Nat.le_refl _),fun y c h=>?_,fun p hp=>absurd (show p∈([]:List (Addr×Obj)) from hp) (by simp),e0.hok.kept hk,?_⟩
 ·exact name_of_addr x.apart (PySem.mem_of_lookup h1) (PySem.mem_of_lookup h2)
 ·have hy:scope.names.lookup y=some .cell∨scope.names.lookup y=some .free:=hy
  rcases hy with hy | hy
  ·exact zi6 hy
  ·exact absurd rfl (S.nofree _ (PySem.mem_of_lookup hy))
 ·exact Nat.le_of_lt (x.above y c (PySem.mem_of_lookup h))
 ·have hi:i<vs.length:=by
   unfold start at h2
   by_cases hi:i<vs.length
   ·exact hi
   ·rw [List.getElem?_append_right (by simpa using hi)] at h2
    rw [List.getElem?_replicate] at h2
    split at h2 <;> cases h2
  have ha:vs[i]?=some v:=by
   unfold start at h2
   rw [List.getElem?_append_left (by simpa using hi),List.getElem?_map] at h2
   cases e:vs[i]? with
   | none=>rw [e] at h2;cases h2
   | some a=>rw [e] at h2;cases h2;rfl
  obtain ⟨u,hu,rv⟩:=r.get ha
  have hp:ps[i]?=some y:=by
   rw [← S.pre,List.getElem?_take_of_lt (by (first|lia|omega))];exact h1
  have ndP:ps.Nodup:=by rw [← S.pre];exact S.nd.sublist (List.take_sublist _ _)
  refine ⟨u,rv,?_⟩
  rcases S.par y (List.mem_of_getElem? hp) with k | k
  ·exact .inl ⟨k,zif ndP hp hu k⟩
  ·obtain ⟨c,e⟩:=zi6 (n:=s.heap.objs.size+1) k
   refine .inr ⟨.inl k,c,e,?_⟩
   have q:=x.cell y c e
   rw [zhF ndP hp hu (by show scope.names.lookup y≠_;rw [k];decide)] at q
   exact q
 ·exact e0.hok.fresh (Nat.le_of_lt (x.above y c (PySem.mem_of_lookup h)))
 ·unfold start
  show _=N.length
  rw [List.length_append,List.length_map,List.length_replicate]
  (first|lia|omega)
theorem fn_of {CX:CXT} {P:Program} {w:World} {K:PySem.W.Frag} {mg:Str→Option Value} {base:Heap} {k:Nat} {f:Addr} {name qual:Str} {params:Arguments} {body:List Stmt} {scope:Scope} {dV kV doc pm cdv ct oc:Value} {an od:Option Addr}
  {osl:Array (Option Value)} {N ps:List Str} {sp:Sp} (lk:K.lookup f=some ⟨oc,od,.func (PySem.W.fnOf name qual params body scope dV kV doc pm an cdv ct),osl⟩) (hcd:PySem.W.codeIn K cdv qual=true) (S:zay N ps scope)
  (len:∀ vs H Q E,sp vs H Q E→vs.length=ps.length)
  (hbody:∀ (A:Around) (outer:List Env) (s:Shared) (H:Hp) (vs:List V) (Q:VK) (E:XK),zhH k (A.deeper (envOfC qual scope s.heap.objs.size f cdv))→sp vs H Q E →
   ∃ t,PSs (zpJ CX P w K mg base N qual scope f cdv A outer s H E) body t∧t { nx:=fun _ H'=>Q .non H',rt:=Q } (start N vs) H) :
  zb0 P w K mg base CX (k+1) f (PySem.W.fnOf name qual params body scope dV kV doc pm an cdv ct) ps sp:=by
 refine ⟨len,fun A outer s H args us vs Q E hr e0 hb r hsp=>?_⟩
 have hl:=len _ _ _ _ hsp
 have KX:K.In s.heap:=e0.mod.kin.keeps fun b o e=>(e0.bs b o e).1
 have lim:s.heap.NoLimit:=e0.mod.nolimit.keeps fun b o e=>(e0.bs b o e).1
 have hkind:∀ y∈ps.zip us,scope.names.lookup y.1=some .local∨(scope.names.lookup y.1=some .cell∧((cellsFrom (s.heap.objs.size+1) scope.names []).lookup y.1).isSome=true):=fun ⟨n,v⟩ hy=>by
  rcases S.par n (List.of_mem_zip hy).1 with q | q
  ·exact .inl q
  ·exact .inr ⟨q,PySem.W.cellsFrom_some _ _ _ (.inl q)⟩
 refine codeAny_call_function hr.depth (KX _ _ lk) rfl S.co S.gen rfl (PySem.W.codeRec_of KX hcd) (hb _ _ _ _ ?_)
 refine wpAny_newFunctionEnv_cells S.kind hkind fun env he s1 x=>?_
 subst he
 refine ⟨lim.keeps x.toInCall.keep,codeAny_func ?_⟩
 obtain ⟨t,ht,hq⟩:=hbody A outer s H vs Q E (hr.deeper _) hsp
 have I:Inv (zpJ CX P w K mg base N qual scope f cdv A outer s H E) [] (start N vs) H s1:=zkW S hr.hd e0 hl r x
 refine wpAny_mono (ht [] s1 (start N vs) H _ I hq) (fun fl s' hs=>?_) fun e s' hs=>hs
 have fin:∀ {σ':St} {H':Hp} {v:V} {u:Value},Inv (zpJ CX P w K mg base N qual scope f cdv A outer s H E) [] σ' H' s'→zcF v u→Q v H'→CE outer P w H s Q u s' :=
  fun {σ' H' v u} J rv q=>⟨v,H',J.os,J.bare,J.base,J.hok,rv,q⟩
 cases fl with
 | ret u =>
  obtain ⟨v,σ',H',J,rv,q⟩:=hs
  exact fin J rv q
 | next =>
  obtain ⟨σ',H',J,q⟩:=hs
  exact fin (v:=V.non) (u:=Value.none) J rfl q
 | brk =>
  obtain ⟨_,_,_,q⟩:=hs
  exact False.elim q
 | cont =>
  obtain ⟨_,_,_,q⟩:=hs
  exact False.elim q
end L2
namespace L2
open PySem PySem.Spec PyProof.Rows
section
variable {X:Cx} {x:Str} {p pos:Pos} {e:Expr} {es:List Expr} {t:TA} {id T:String} {r:List V→Hp→VK→Prop}
def tCB (r:List V→Hp→VK→Prop) (t:TA):TE:=fun σ H Q=>t σ H fun vs H1=>r vs H1 Q
theorem zaJ (hc:zhW X (.builtin id) r) (hg:Gl X x) (hm:X.mg x=none) (hv:bootBuiltins x=some (.builtin id)) (ha:PA X (e::es) t) (hn:x≠"__name__":=by decide) (hdb:(x == ("__debug__":Str))=false:=by decide)
  (he:starEach (e::es) X.env=(false,eval e X.env)::starEach es X.env:=by rfl) (hpl:(backTo pos (starEach es X.env)).any (·.1)=false:=by rfl):PE X (.Call (.Name x p) (e::es) [] pos) (tCB r t):=by
 intro pins s σ H Q I h
 refine wpAny_Call_Name_kw (zfW I hg hm hv ?_ hn hdb)
 exact PyProof.Rows.callWith_builtin1 (thn (ha pos pins s σ H _ I h) fun us s1 ⟨vs,H1,I1,r1,q1⟩=>hc pins s1 σ H1 vs us Q I1 r1 q1) he hpl
theorem zdC (hc:zhW X (.type T) r) (hg:Gl X x) (hm:X.mg x=none) (hv:bootBuiltins x=some (.type T)) (ha:PA X (e::es) t) (hn:x≠"__name__":=by decide) (hdb:(x == ("__debug__":Str))=false:=by decide)
  (he:starEach (e::es) X.env=(false,eval e X.env)::starEach es X.env:=by rfl) (hpl:(backTo pos (starEach es X.env)).any (·.1)=false:=by rfl):PE X (.Call (.Name x p) (e::es) [] pos) (tCB r t):=by
 intro pins s σ H Q I h
 refine wpAny_Call_Name_kw (zfW I hg hm hv ?_ hn hdb)
 exact PyProof.Rows.callWith_type1 (thn (ha pos pins s σ H _ I h) fun us s1 ⟨vs,H1,I1,r1,q1⟩=>hc pins s1 σ H1 vs us Q I1 r1 q1) he hpl
end
end L2
namespace HT
open PySem PyProof.Rows
section
open PySem.SeqAt
open PySem.AutoSeq1 (wpAny_loadPart')
open PySem.MeetsSeq PySem.MeetsSeq2 PySem.MeetsSeq3
end
section
variable {prog:Program} {w:World} {A:Around} {E:Value→Shared→Prop} {s:Shared}
def sIx (n d:Nat):Option Int→Nat
 | none=>d
 | some v=>if v<0 then (v+(n:Int)).toNat else min v.toNat n
theorem zi8 (n d:Nat):sIx n d none=d:=rfl
theorem zll (n d k:Nat):sIx n d (some (k:Int))=min k n:=by
 show (if (k:Int)<0 then ((k:Int)+(n:Int)).toNat else min (k:Int).toNat n)=min k n
 rw [if_neg (by (first|lia|omega)),Int.toNat_natCast]
end
end HT
namespace L2
open PySem PySem.Spec PyProof.Rows
abbrev TO:=St→Hp→(Option Int→Hp→Prop)→Prop
def PO (X:Cx) (e:Option Expr) (t:TO):Prop :=
 ∀ (pins:List (Addr×Obj)) (s:Shared) (σ:St) (H:Hp) (Q:Option Int→Hp→Prop),Inv X pins σ H s→t σ H Q →
  wpAny (model X.prog X.w) X.A (evalPart e X.env) (fun u s'=>∃ o H',Inv X pins σ H' s'∧IsPart u o∧Q o H') X.xe s
def zfQ:TO:=fun _ H Q=>Q none H
def zlG (t:TE):TO:=fun σ H Q=>t σ H fun x H1=>∃ i,x=.int i∧Q (some i) H1
section
variable {X:Cx} {e:Expr} {te:TE} {lo hi:Option Expr} {tl th:TO} {pos p2:Pos}
theorem zkG:PO X none zfQ:=by
 intro pins s σ H Q I h
 rw [evalPart_none]
 exact wpAny_pure ⟨none,H,I,.none,h⟩
theorem zlw (h:PE X e te):PO X (some e) (zlG te):=by
 intro pins s σ H Q I hw
 rw [evalPart_some]
 refine thn (h pins s σ H _ I hw) fun u s1 hQ'=>?_
 obtain ⟨x,H1,I1,r1,q1⟩:=hQ'
 obtain ⟨i,rfl,q⟩:=q1
 obtain ⟨t,rfl⟩:=r1
 exact ⟨some i,H1,I1,.int i t,q⟩
def SlR (X:Cx) (r:V→Option Int→Option Int→Hp→VK→Prop):Prop :=
 ∀ (pins:List (Addr×Obj)) (s:Shared) (σ:St) (H:Hp) (x:V) (v vl vu:Value) (lo hi:Option Int) (sl:Addr) (Q:VK),Inv X pins σ H s→zcF x v→s.heap.IsSliceOf sl vl vu .none→IsPart vl lo→IsPart vu hi→r x lo hi H Q →
  ∃ T id,typeLookup (.type T) "__getitem__"=pure (some (.builtin id))∧s.TypeIs v T∧wpAny (model X.prog X.w) X.A (getItem v (.ref sl)) (EP X pins σ Q) X.xe s
def tSl (r:V→Option Int→Option Int→Hp→VK→Prop) (te:TE) (tl th:TO):TE:=fun σ H Q=>te σ H fun x H1=>tl σ H1 fun l H2=>th σ H2 fun u H3=>r x l u H3 Q
theorem zjs {r:V→Option Int→Option Int→Hp→VK→Prop} (hr:SlR X r) (he:PE X e te) (hl:PO X lo tl) (hu:PO X hi th):PE X (.Subscript e (.Slice lo hi none p2) pos) (tSl r te tl th):=by
 intro pins s σ H Q I h
 refine Subscript_ (thn (he pins s σ H _ I h) fun v s1 hQ'=>?_)
 obtain ⟨x,H1,I1,r1,q1⟩:=hQ'
 refine wpAny_Slice (thn (hl pins s1 σ H1 _ I1 q1) fun vl s2 ⟨l,H2,I2,pl,q2⟩=>thn (hu pins s2 σ H2 _ I2 q2) fun vu s3 hQ'=>?_)
 obtain ⟨u,H3,I3,pu,q3⟩:=hQ'
 rw [evalPart_none]
 refine wpAny_pure ?_
 have I4:Inv X pins σ H3 { s3 with heap:=s3.heap.push { cls:=.type "slice",data:=.fields #[vl,vu,.none] } }:=I3.kept (t':=s3.toks) fun b ob q=>Heap.get?_push_of_some _ q
 obtain ⟨T,id,hT,ht,hg⟩:=hr pins { s3 with heap:=s3.heap.push { cls:=.type "slice",data:=.fields #[vl,vu,.none] } } σ H3 x v vl vu l u s3.heap.objs.size Q I4 r1 (Heap.IsSliceOf.new ..) pl pu q3
 show wpAny (model X.prog X.w) X.A (subscriptTail e (.Slice lo hi none p2) v (.ref s3.heap.objs.size)) (EP X pins σ Q) X.xe { s3 with heap:=s3.heap.push { cls:=.type "slice",data:=.fields #[vl,vu,.none] } }
 exact tail_any (ops:=[.ref s3.heap.objs.size,v]) ht hT hg (by with_unfolding_all rfl)
def zj3 (xs:List V) (lo hi:Option Int):List V:=(xs.drop (HT.sIx xs.length 0 lo)).take (HT.sIx xs.length xs.length hi - HT.sIx xs.length 0 lo)
theorem zi1 (xs:List V) (lo hi:Option Int):(zj3 xs lo hi).length≤xs.length:=by
 unfold zj3
 rw [List.length_take,List.length_drop]
 (first|lia|omega)
end
end L2
namespace L2
open PySem PySem.Spec PyProof.Rows
def ixN (n:Nat) (i:Int):Option Nat:=if 0≤i then (if i<n then some i.toNat else none) else if -(n:Int)≤i then some (i+n).toNat else none
def atI {α:Type} (xs:List α) (i:Int):Option α:=(ixN xs.length i).bind fun j=>xs[j]?
theorem zlk {n:Nat} {i:Int} {j:Nat} (h:ixN n i=some j):seqIndex? i n=some j∧j<n∧-(n:Int)≤i∧i<n:=by
 unfold ixN at h
 by_cases h0:0≤i
 ·rw [if_pos h0] at h
  by_cases h1:i<n
  ·rw [if_pos h1] at h
   have e:i.toNat=j:=Option.some.inj h
   exact ⟨by rw [seqIndex_of h0 h1,e],by (first|lia|omega),by (first|lia|omega),h1⟩
  ·rw [if_neg h1] at h;cases h
 ·rw [if_neg h0] at h
  by_cases h1:-(n:Int)≤i
  ·rw [if_pos h1] at h
   have e:(i+n).toNat=j:=Option.some.inj h
   exact ⟨by rw [seqIndex_neg (by (first|lia|omega)) h1,e],by (first|lia|omega),h1,by (first|lia|omega)⟩
  ·rw [if_neg h1] at h;cases h
theorem zlF {α:Type} {xs:List α} {i:Int} {v:α} (h:atI xs i=some v):∃ j,seqIndex? i xs.length=some j∧xs[j]?=some v∧j<xs.length∧-(xs.length:Int)≤i∧i<xs.length:=by
 unfold atI at h
 cases e:ixN xs.length i with
 | none=>rw [e] at h;cases h
 | some j =>
  rw [e] at h
  obtain ⟨h1,h2,h3,h4⟩:=zlk e
  exact ⟨j,h1,h,h2,h3,h4⟩
theorem zec {α:Type} {xs:List α} {j:Nat} {v:α} (h:xs[j]?=some v):atI xs (j:Int)=some v:=by
 have hj:j<xs.length:=(List.getElem?_eq_some_iff.mp h).1
 have e:ixN xs.length (j:Int)=some j:=by
  unfold ixN
  rw [if_pos (by (first|lia|omega)),if_pos (by (first|lia|omega))];simp
 unfold atI;rw [e];exact h
theorem zmP {α:Type} (xs:List α) (v:α):atI (xs++[v]) (-1)=some v:=by
 have hl:(xs++[v]).length=xs.length+1:=by simp
 have e:ixN (xs++[v]).length (-1)=some xs.length:=by
  unfold ixN
  rw [hl,if_neg (by decide),if_pos (by (first|lia|omega))]
  congr 1
  (first|lia|omega)
 unfold atI
 rw [e]
 show (xs++[v])[xs.length]?=some v
 simp
def zpc (b:Expr):Prop:=∀ o i,subscripted b false o i=operate [o,i] (getItem o i)
def IxR (X:Cx) (r:R2):Prop :=
 ∀ (value slice:Expr) (pins:List (Addr×Obj)) (s:Shared) (σ:St) (H:Hp) (x y:V) (v u:Value) (Q:VK),Inv X pins σ H s→zcF x v→zcF y u→r x y H Q →
  subscripted slice false v u=operate [v,u] (getItem v u)→wpAny (model X.prog X.w) X.A (subscriptTail value slice v u) (EP X pins σ Q) X.xe s
def MtR (X:Cx) (id:String) (r:V→List V→Hp→VK→Prop):Prop :=
 ∀ (pins:List (Addr×Obj)) (s:Shared) (σ:St) (H:Hp) (x:V) (xs:List V) (v:Value) (us:List Value) (Q:VK),Inv X pins σ H s→zcF x v→zbJ xs us→r x xs H Q →
  wpAny (model X.prog X.w) X.A (call (.builtin id) (v::us)) (EP X pins σ Q) X.xe s
section
variable {X:Cx} {a b:Expr} {ta tb:TE} {pos:Pos}
theorem zaN {r:R2} (hr:IxR X r) (ha:PE X a ta) (hb:PE X b tb) (hs:zpc b):PE X (.Subscript a b pos) (tOp r ta tb):=by
 intro pins s σ H Q I h
 exact Subscript_ (binT ha hb I h fun v u s2 x y H2 I2 rx ry q=>hr a b pins s2 σ H2 x y v u Q I2 rx ry q (hs _ _))
def zcX (K:PySem.W.Frag):R2:=fun x y H Q=>∃ p xs i v,x=.ref p∧y=.int i∧SqL K H p xs∧atI xs i=some v∧Q v H
def zbu (K:PySem.W.Frag):R2:=fun x y H Q=>∃ p xs i v,x=.ref p∧y=.int i∧SqT K H p xs∧atI xs i=some v∧Q v H
theorem zbj:IxR X (zcX X.K):=by
 intro value slice pins s σ H x y v u Q I rx ry h hs
 obtain ⟨p,xs,i,z,rfl,rfl,hq,he,q⟩:=h
 cases rx
 obtain ⟨t,rfl⟩:=ry
 obtain ⟨its,r,pl,hz⟩:=I.list hq
 obtain ⟨j,h1,h2,h3,h4,h5⟩:=zlF he
 obtain ⟨w,ew,rw'⟩:=r.get h2
 have hl:=r.length
 have hn:=zhO
 have fin:EP X pins σ Q w s:=⟨z,H,I,rw',q⟩
 by_cases h0:0≤i
 ·have hj:i.toNat=j:=by
   rw [seqIndex_of h0 h5] at h1
   exact Option.some.inj h1
  exact item_listR pl.isList h0 (by (first|lia|omega)) (by rw [hj];simpa using ew) fin hs
 ·have hj:(i+(its.toArray.size:Int)).toNat=j:=by
   rw [seqIndex_neg (by (first|lia|omega)) h4] at h1
   rw [List.size_toArray,← hl]
   exact Option.some.inj h1
  exact subscriptTail_builtinR (x:=w) pl.isList.typeIs slot_list_getitem.lookup
   (wpAny_getItem_list_neg (Q:=fun r s'=>r=w∧EP X pins σ Q r s') pl.isList (by (first|lia|omega)) (by rw [List.size_toArray] <;> (first|lia|omega)) (by (first|lia|omega)) (by rw [hj];simpa using ew) ⟨rfl,fin⟩) hs
theorem zaD:IxR X (zbu X.K):=by
 intro value slice pins s σ H x y v u Q I rx ry h hs
 obtain ⟨p,xs,i,z,rfl,rfl,hq,he,q⟩:=h
 cases rx
 obtain ⟨t,rfl⟩:=ry
 obtain ⟨its,r,pl,hz⟩:=I.tuple hq
 obtain ⟨j,h1,h2,h3,h4,h5⟩:=zlF he
 obtain ⟨w,ew,rw'⟩:=r.get h2
 have hl:=r.length
 have hn:=zhO
 have fin:EP X pins σ Q w s:=⟨z,H,I,rw',q⟩
 exact subscriptTail_builtinR (x:=w) pl.typeIs slot_tuple_getitem.lookup
  (getItem_tuple (j:=j) (Q:=fun r s'=>r=w∧EP X pins σ Q r s') pl (by (first|lia|omega)) (by (first|lia|omega)) (by rw [List.size_toArray,← hl];exact h1) (by simpa using ew) ⟨rfl,fin⟩) hs
theorem zjX (its:List Value) (n j:Nat) (u:Value):Obj.mapSeq (·.setIfInBounds j u) { cls:=.type "list",data:=.seq its.toArray n }={ cls:=.type "list",data:=.seq (its.set j u).toArray n }:=by
 simp [Obj.mapSeq]
theorem Inv.lst {pins:List (Addr×Obj)} {σ:St} {H:Hp} {s:Shared} {p:Addr} {xs:List V} (I:Inv X pins σ H s) (h:H p=some (.lst xs)) :
  ∃ (its:List Value) (n:Nat),zbJ xs its∧s.heap.get? p=some { cls:=.type "list",data:=.seq its.toArray n }∧xs.length≤sizeLine:=by
 obtain ⟨z,its,n,r,e⟩:=I.hok p _ h
 exact ⟨its,n,r,e,z⟩
theorem Inv.lstUpd {pins:List (Addr×Obj)} {σ:St} {H:Hp} {s:Shared} {p:Addr} {xs ys:List V} {its its':List Value} {n n':Nat} {f:Obj→Obj} (I:Inv X pins σ H s) (h:H p=some (.lst xs))
  (ho:s.heap.get? p=some { cls:=.type "list",data:=.seq its.toArray n }) (hf:f { cls:=.type "list",data:=.seq its.toArray n }={ cls:=.type "list",data:=.seq its'.toArray n' }) (r:zbJ ys its') (hz:ys.length≤sizeLine) (t:Nat) :
  Inv X pins σ (upd H p (.lst ys)) { s with heap:=s.heap.update p f,toks:=t }:=by
 have e:(s.heap.update p f).get? p=some { cls:=.type "list",data:=.seq its'.toArray n' }:=by
  rw [Heap.get?_update_self f ho (by rw [hf] <;> rfl),hf]
 refine I.write (x:=p) (e:=p) (by rw [h];trivial) (.inl rfl) (fun b u hb q=>(Heap.get?_update_other _ _ (Ne.symm hb)).trans q) ⟨_,e⟩ ?_
 exact ⟨hz,its',n',r,e⟩
def zj8:V→V→V→Hp→(Hp→Prop)→Prop:=fun o i v H Q=>∃ p xs k j,o=.ref p∧i=.int k∧H p=some (.lst xs)∧ixN xs.length k=some j∧Q (upd H p (.lst (xs.set j v)))
theorem zjd:PSet X zj8:=by
 intro pins s σ H o i v ov iv u Q I ro ri rv h
 obtain ⟨p,xs,k,j,rfl,rfl,hp,hj,q⟩:=h
 cases ro
 obtain ⟨t,rfl⟩:=ri
 obtain ⟨its,n,r,ho,hz⟩:=I.lst hp
 obtain ⟨h1,h2,h3,h4⟩:=zlk hj
 have hl:=r.length
 have hn:=zhO
 have I':Inv X pins σ (upd H p (.lst (xs.set j v))) { s with heap:=s.heap.update p (Obj.mapSeq (·.setIfInBounds j u)) } :=
  I.lstUpd hp ho (zjX its n j u) (r.set rv j) (by rw [List.length_set];exact hz) s.toks
 by_cases h0:0≤k
 ·have hk:k.toNat=j:=by
   rw [seqIndex_of h0 h4] at h1
   exact Option.some.inj h1
  exact PySem.W.ki_setAt ho h0 (by (first|lia|omega)) (by rw [List.size_toArray,← hl];exact h4) (by rw [hk];exact ⟨_,I',q⟩)
 ·have hk:(k+(its.toArray.size:Int)).toNat=j:=by
   rw [seqIndex_neg (by (first|lia|omega)) h3] at h1
   rw [List.size_toArray,← hl]
   exact Option.some.inj h1
  exact PySem.W.ki_setBack ho (by (first|lia|omega)) (by rw [List.size_toArray,← hl];exact h3) (by (first|lia|omega)) (by rw [hk];exact ⟨_,I',q⟩)
theorem zhZ (lo hi:Option Int) (n:Nat):(sliceBounds lo hi none n).1=((HT.sIx n 0 lo:Nat):Int)∧(sliceBounds lo hi none n).2.1=((HT.sIx n n hi:Nat):Int)∧(sliceBounds lo hi none n).2.2=1:=by
 refine ⟨?_,?_,rfl⟩
 ·cases lo with
  | none=>simp [sliceBounds,HT.sIx]
  | some i =>
   simp only [sliceBounds,HT.sIx,Option.getD_none,show (1:Int) > 0 by decide,if_true]
   by_cases h:i<0
   ·simp only [h,if_true] <;> (first|lia|omega)
   ·simp only [h,if_false] <;> (first|lia|omega)
 ·cases hi with
  | none=>simp [sliceBounds,HT.sIx]
  | some i =>
   simp only [sliceBounds,HT.sIx,Option.getD_none,show (1:Int) > 0 by decide,if_true]
   by_cases h:i<0
   ·simp only [h,if_true] <;> (first|lia|omega)
   ·simp only [h,if_false] <;> (first|lia|omega)
theorem zgX (its:List Value) (lo hi:Option Int):slicePick its.toArray lo hi none=((its.drop (HT.sIx its.length 0 lo)).take (HT.sIx its.length its.length hi - HT.sIx its.length 0 lo)).toArray:=by
 obtain ⟨h1,h2,h3⟩:=zhZ lo hi its.toArray.size
 unfold slicePick
 rw [h1,h2,h3]
 simp only [sliceRange_one,pick_run,List.size_toArray] <;> rfl
def zra (K:PySem.W.Frag):V→Option Int→Option Int→Hp→VK→Prop:=fun x lo hi H Q=>∃ a xs,x=.ref a∧SqL K H a xs∧∀ p,H p=none→Q (.ref p) (upd H p (.lst (zj3 xs lo hi)))
theorem zkf:SlR X (zra X.K):=by
 intro pins s σ H x v vl vu lo hi sl Q I rx hs pl pu h
 obtain ⟨a,xs,rfl,hx,q⟩:=h
 cases rx
 obtain ⟨its,r,ht,hz⟩:=I.list hx
 have hlen:=r.length
 refine ⟨"list",_,slot_list_getitem.lookup,ht.isList.typeIs,?_⟩
 refine wpAny_getItem_list_slice ht.isList hs pl pu .none (by simp) ?_ (by rw [List.size_toArray] <;> (first|lia|omega))
 rw [zgX,← hlen]
 refine ⟨.ref s.heap.objs.size,_,I.laid (t':=s.toks) (o:=.lst (zj3 xs lo hi)) (fun b ob q=>Heap.get?_push_of_some _ q) (Nat.le_refl _) ?_,rfl,q _ (I.hok.fresh (Nat.le_refl _))⟩
 exact ⟨Nat.le_trans (zi1 xs lo hi) hz,_,0,(r.drop (HT.sIx xs.length 0 lo)).take (HT.sIx xs.length xs.length hi - HT.sIx xs.length 0 lo),Heap.get?_push_size _ rfl⟩
theorem za0:zhW X (.builtin "len") (fun xs H Q=>∃ p ys,xs=[.ref p]∧(SqL X.K H p ys∨SqT X.K H p ys)∧Q (.int ys.length) H):=by
 intro pins s σ H xs us Q I r h
 obtain ⟨p,ys,rfl,hq,q⟩:=h
 obtain ⟨u,rfl,rx⟩:=zmS r
 cases rx
 have hn:=zhO
 rcases hq with hq | hq
 ·obtain ⟨its,r',pl,hz⟩:=I.list hq
  have hlen:=r'.length
  exact Calls.call_len_list pl.isList (by simp only [List.size_toArray] <;> (first|lia|omega)) ⟨.int ys.length,H,I.tok _,⟨s.toks+1,by rw [List.size_toArray,hlen]⟩,q⟩
 ·obtain ⟨its,r',pl,hz⟩:=I.tuple hq
  have hlen:=r'.length
  exact len_tuple pl (by simp only [List.size_toArray] <;> (first|lia|omega)) ⟨.int ys.length,H,I.tok _,⟨s.toks+1,by rw [List.size_toArray,hlen]⟩,q⟩
theorem zcc:zhW X (.type "list") (fun xs H Q=>∃ p ys,xs=[.ref p]∧(SqL X.K H p ys∨SqT X.K H p ys)∧∀ l,H l=none→Q (.ref l) (upd H l (.lst ys))):=by
 intro pins s σ H xs us Q I r h
 obtain ⟨p,ys,rfl,hq,q⟩:=h
 obtain ⟨u,rfl,rx⟩:=zmS r
 cases rx
 have fin:∀ (its:List Value),zbJ ys its→ys.length≤sizeLine→∀ (h':Heap) (c':Nat),(∀ b o',s.heap.get? b=some o'→h'.get? b=some o') →
   h'.get? s.heap.objs.size=some { cls:=.type "list",dict:=none,data:=.seq its.toArray c',slots:=#[] }→EP X pins σ Q (.ref s.heap.objs.size) { s with heap:=h' }:=fun its r' hz h' c' kp e =>
  ⟨.ref s.heap.objs.size,_,I.laid (t':=s.toks) kp (Nat.le_refl _) (show zcG X.prog X.w _ h' _ (.lst ys) from ⟨hz,its,c',r',e⟩),rfl,q _ (I.hok.fresh (Nat.le_refl _))⟩
 rcases hq with hq | hq
 ·obtain ⟨its,r',pl,hz⟩:=I.list hq
  have hlen:=r'.length
  obtain ⟨o,ho,hc,n,hd⟩:=pl.isList
  exact call_list_seq p (.inl rfl) ho hc hd (fun h' c' kp e=>fin its r' hz h' c' kp e) (by simp only [List.size_toArray] <;> (first|lia|omega))
 ·obtain ⟨its,r',pl,hz⟩:=I.tuple hq
  have hlen:=r'.length
  obtain ⟨o,ho,hc,n,hd⟩:=pl
  exact call_list_seq p (.inr rfl) ho hc hd (fun h' c' kp e=>fin its r' hz h' c' kp e) (by simp only [List.size_toArray] <;> (first|lia|omega))
def tyV (K:PySem.W.Frag) (T:String) (x:V) (H:Hp):Prop:=match x with
 | .str _=>T="str"
 | .int _=>T="int"
 | .ref p=>(T="list"∧∃ xs,SqL K H p xs)∨(T="tuple"∧∃ o,K.lookup p=some o∧o.cls=.type "tuple"∧o.dict=none) ∨
   (T="dict"∧((∃ kvs,H p=some (.dK kvs))∨∃ kvs,H p=some (.dT kvs)))∨(T="set"∧∃ S n,H p=some (.set S n))
 | _=>False
theorem zrD {pins:List (Addr×Obj)} {σ:St} {H:Hp} {s:Shared} {T:String} {x:V} {v:Value} (I:Inv X pins σ H s) (r:zcF x v) (ty:tyV X.K T x H) :
  s.TypeIs v T∧∀ a,v=.ref a→∃ ob,s.heap.get? a=some ob∧ob.dict=none:=by
 cases x with
 | str z =>
  obtain ⟨t,rfl⟩:=r
  cases (show T="str" from ty)
  exact ⟨typeIs_str s z t,fun _ e=>nomatch e⟩
 | int i =>
  obtain ⟨t,rfl⟩:=r
  cases (show T="int" from ty)
  exact ⟨typeIs_int s i t,fun _ e=>nomatch e⟩
 | ref p =>
  cases r
  rcases ty with ⟨rfl,xs,hq⟩ | ⟨rfl,o,hk,hc,hd⟩ | ⟨rfl,hk⟩ | ⟨rfl,S,n,hk⟩
  ·obtain ⟨its,_,pl,_⟩:=I.list hq
   refine ⟨pl.isList.typeIs,fun a e=>?_⟩
   cases e
   obtain ⟨o,n,e,c,hd,_⟩:=pl
   exact ⟨o,e,hd⟩
  ·refine ⟨⟨o,I.kIn p o hk,hc⟩,fun a e=>?_⟩
   cases e
   exact ⟨o,I.kIn _ o hk,hd⟩
  ·have z:∃ o,s.heap.get? p=some o∧o.ExactDict:=by
    rcases hk with ⟨kvs,hk⟩ | ⟨kvs,hk⟩
    ·obtain ⟨_,_,_,_,o,_,_,e,ex,_⟩:=I.hok p _ hk
     exact ⟨o,e,ex⟩
    ·obtain ⟨_,_,_,_,o,_,_,e,ex,_⟩:=I.hok p _ hk
     exact ⟨o,e,ex⟩
   obtain ⟨o,e,ex⟩:=z
   refine ⟨⟨o,e,ex.1⟩,fun a e2=>?_⟩
   cases e2
   exact ⟨o,e,ex.2.1⟩
  ·obtain ⟨o,_,_,_,e,ex,_⟩:=I.hok p _ hk
   refine ⟨⟨o,e,ex.1⟩,fun a e2=>?_⟩
   cases e2
   exact ⟨o,e,ex.2.1⟩
 | _=>exact False.elim ty
def tBM (K:PySem.W.Frag) (T:String) (r:V→List V→Hp→VK→Prop) (to:TE) (t:TA):TE:=fun σ H Q=>to σ H fun x H1=>tyV K T x H1∧t σ H1 fun xs H2=>r x xs H2 Q
variable {o e:Expr} {es:List Expr} {to:TE} {t:TA} {name:Str} {apos cpos:Pos} {T id:String} {r:V→List V→Hp→VK→Prop}
theorem zk8 (pa:PlainAttrs T) (slot:Slot T name id) (hty:typeOf (.builtin id)=pure (.type "method_descriptor")) (hm:MtR X id r) (ho:PE X o to) (ha:PA X (e::es) t)
  (hbase:attributeBase o name X.env (eval o X.env)=eval o X.env:=by rfl)
  (hfew:((backTo cpos (starEach (e::es) X.env)).all (fun x=>!x.1)&&(backToKw cpos (keywordEach [] X.env)).all (fun x=>x.1.isSome)
   && decide ((e::es).length+([]:List Keyword).length+(if ([]:List Keyword).isEmpty then 0 else 1)<30))=true:=by rfl)
  (hline:(apos.endLine == cpos.line)=true:=by rfl) (hs:starEach (e::es) X.env=(false,eval e X.env)::starEach es X.env:=by rfl) (hplain:(backTo cpos (starEach es X.env)).any (·.1)=false:=by rfl) :
  PE X (.Call (.Attribute o name apos) (e::es) [] cpos) (tBM X.K T r to t):=by
 intro pins s σ H Q I h
 refine wpAny_Call_method_late hbase hfew hline rfl (thn (ho pins s σ H _ I h) fun v s1 hQ'=>?_)
 obtain ⟨x,H1,I1,r1,ty,q1⟩:=hQ'
 obtain ⟨h1,h2⟩:=zrD I1 r1 ty
 refine ⟨T,id,pa,slot,hty,h1,h2,?_⟩
 have hA:=ha cpos pins s1 σ H1 _ I1 q1
 rw [hs] at hA ⊢
 refine Calls.callWith_builtin (by show (false || (backTo cpos (starEach es X.env)).any (·.1))=false;rw [hplain] <;> rfl) (Calls.evalArgs_plain ?_)
 exact thn hA fun us s2 ⟨vs,H2,I2,r2,q2⟩=>hm pins s2 σ H2 x vs v us Q I2 r1 r2 q2
end
end L2
namespace L2
open PySem PySem.Spec PyProof.Rows
def MtM (X:Cx) (id:String) (r:V→List V→Hp→VK→Prop):Prop :=
 ∀ (pins:List (Addr×Obj)) (s:Shared) (σ:St) (H:Hp) (x:V) (xs:List V) (v:Value) (us:List Value) (Q:VK),Inv X pins σ H s→zcF x v→zbJ xs us→r x xs H Q →
  wpAny (model X.prog X.w) X.A (call (.builtin id) (v::us)) (EP X pins σ Q) X.xe s
theorem zbJ.one:∀ {x:V} {us:List Value},zbJ [x] us→∃ u,us=[u]∧zcF x u
 | _,_,.cons r .nil=>⟨_,rfl,r⟩
theorem zbJ.rep {xs:List V} {us:List Value} (h:zbJ xs us):∀ k:Nat,zbJ (List.replicate k xs).flatten (List.replicate k us).flatten
 | 0=>.nil
 | k+1=>by
  rw [List.replicate_succ,List.replicate_succ,List.flatten_cons,List.flatten_cons]
  exact zbJ.append h (zbJ.rep h k)
theorem zib (its:List Value):∀ (k:Nat) (acc:List Value),
  List.foldl (fun x1 x2=>x1++x2) acc.toArray (List.replicate k its.toArray)=(acc++(List.replicate k its).flatten).toArray
 | 0,acc=>by simp
 | k+1,acc=>by
  have e:acc.toArray++its.toArray=(acc++its).toArray:=by simp
  have e2:(acc++its)++(List.replicate k its).flatten=acc++(List.replicate (k+1) its).flatten:=by
   rw [List.replicate_succ,List.flatten_cons,List.append_assoc]
  rw [← e2,← zib its k (acc++its),← e,List.replicate_succ,List.foldl_cons]
section
variable {X:Cx} {pins:List (Addr×Obj)} {σ:St} {H:Hp} {s:Shared} {l b:Addr} {xs ys zs:List V}
theorem Inv.lset {its its':List Value} {n:Nat} {f:Array Value→Array Value} {t':Nat} (I:Inv X pins σ H s) (hH:H l=some (.lst xs))
  (e:s.heap.get? l=some { cls:=.type "list",data:=.seq its.toArray n }) (hf:f its.toArray=its'.toArray) (hv:zbJ ys its') (hz:ys.length≤sizeLine) :
  Inv X pins σ (upd H l (.lst ys)) { s with heap:=s.heap.update l (Obj.mapSeq f),toks:=t' }:=by
 have q:=PySem.IsL.update e f
 rw [hf] at q
 refine I.write (x:=l) (e:=l) (by rw [hH];exact trivial) (.inl rfl) (fun b' u hb hu=>(Heap.get?_update_other s.heap (Obj.mapSeq f) (Ne.symm hb)).trans hu) ⟨_,q⟩ ?_
 exact ⟨hz,its',_,hv,q⟩
theorem Inv.lnew {its:List Value} {t':Nat} (I:Inv X pins σ H s) (hv:zbJ ys its) (hz:ys.length≤sizeLine) :
  Inv X pins σ (upd H s.heap.objs.size (.lst ys)) { s with heap:=s.heap.push { cls:=.type "list",data:=.seq its.toArray },toks:=t' } :=
 I.laid (fun _ _ q=>Heap.get?_push_of_some _ q) (Nat.le_refl _) ⟨hz,its,0,hv,Heap.get?_push_size _ rfl⟩
theorem Inv.fresh (I:Inv X pins σ H s):H s.heap.objs.size=none:=I.hok.fresh (Nat.le_refl _)
theorem Inv.lstM (I:Inv X pins σ H s) (hH:H l=some (.lst xs)):xs.length≤sizeLine∧∃ (its:List Value) (n:Nat),zbJ xs its∧xs.length=its.length∧s.heap.get? l=some { cls:=.type "list",data:=.seq its.toArray n }:=by
 obtain ⟨z,its,n,r,e⟩:=I.hok l _ hH
 exact ⟨z,its,n,r,r.length,e⟩
theorem zl1 {n:Nat} (h:n≤sizeLine):Builtin.List.listTooLong n=false:=by
 unfold Builtin.List.listTooLong
 exact decide_eq_false (by (first|lia|omega))
end
section
variable {X:Cx}
def zbf:V→List V→Hp→VK→Prop:=fun x vs H Q=>∃ l xs y,x=.ref l∧vs=[y]∧H l=some (.lst xs)∧xs.length<sizeLine∧Q .non (upd H l (.lst (xs++[y])))
theorem zc1:MtM X "list.append" zbf:=by
 intro pins s σ H x vs v us Q I rx rv h
 obtain ⟨l,xs,y,rfl,rfl,hH,hz,q⟩:=h
 cases rx
 obtain ⟨u,rfl,ru⟩:=rv.one
 obtain ⟨z,its,n,r,hl,e⟩:=I.lstM hH
 refine call_meets F.slot_list_append ⟨_,e,rfl⟩ F.entry_list_append (F.args_list_append_2 _ _) (PySem.list_append l its.toArray n u (by rw [List.size_toArray];(first|lia|omega))) ⟨e,?_⟩
 refine ⟨.non,_,I.lset (its':=its++[u]) hH e (by simp) (r.append (.cons ru .nil)) ?_,rfl,q⟩
 rw [List.length_append,List.length_singleton]
 (first|lia|omega)
def zq0:R2:=fun x y H Q=>∃ l b xs zs,x=.ref l∧y=.ref b∧H l=some (.lst xs)∧H b=some (.lst zs)∧xs.length+zs.length≤sizeLine∧∀ p,H p=none→Q (.ref p) (upd H p (.lst (xs++zs)))
theorem zng:OpR X (binaryOp .Add) zq0:=by
 intro pins s σ H x y v u Q I rx ry h
 obtain ⟨l,b,xs,zs,rfl,rfl,hH,hB,hz,q⟩:=h
 cases rx
 cases ry
 obtain ⟨z,its,n,r,hl,e⟩:=I.lstM hH
 obtain ⟨z2,its2,n2,r2,hl2,e2⟩:=I.lstM hB
 refine PySem.P.add_list e e2 ?_ (by rw [List.size_toArray,List.size_toArray];(first|lia|omega))
 have ea:its.toArray++its2.toArray=(its++its2).toArray:=by simp
 rw [ea]
 exact ⟨.ref _,_,I.lnew (t':=s.toks) (r.append r2) (by rw [List.length_append];(first|lia|omega)),rfl,q _ I.fresh⟩
def zpp:R2:=fun x y H Q=>∃ l k xs,x=.ref l∧y=.int k∧H l=some (.lst xs)∧-(2 ^ 63)≤k∧k<2 ^ 63∧xs.length*k.toNat≤sizeLine ∧
 ∀ p,H p=none→Q (.ref p) (upd H p (.lst (List.replicate k.toNat xs).flatten))
theorem znS {α:Type} (xs:List α) (k:Nat):(List.replicate k xs).flatten.length=k*xs.length:=by
 induction k with
 | zero=>simp
 | succ k ih=>rw [List.replicate_succ,List.flatten_cons,List.length_append,ih,Nat.succ_mul,Nat.add_comm]
theorem zna:OpR X (binaryOp .Mult) zpp:=by
 intro pins s σ H x y v u Q I rx ry h
 obtain ⟨l,k,xs,rfl,rfl,hH,h1,h2,hz,q⟩:=h
 cases rx
 obtain ⟨t,rfl⟩:=ry
 obtain ⟨z,its,n,r,hl,e⟩:=I.lstM hH
 have hlen:its.toArray.size*k.toNat≤sizeLine:=by rw [List.size_toArray,← hl];exact hz
 have hcap:¬ its.toArray.size*k.toNat > (2 ^ 63 - 1) / 8:=by
  have:(sizeLine:Nat)≤(2 ^ 63 - 1) / 8:=by decide
  (first|lia|omega)
 have hfit:¬ (!Builtin.List.listFitsIndex k)=true:=by
  rw [fitsIndex_both h1 h2]
  exact Bool.false_ne_true
 have hlong:¬ Builtin.List.listTooLong (its.toArray.size*k.toNat)=true:=by
  rw [zl1 hlen]
  exact Bool.false_ne_true
 have hnew:List.foldl (fun x1 x2=>x1++x2) #[] (List.replicate (if its.toArray.isEmpty=true then 0 else k.toNat) its.toArray)=(List.replicate k.toNat its).flatten.toArray:=by
  have f0:∀ m:Nat,List.foldl (fun x1 x2=>x1++x2) #[] (List.replicate m its.toArray)=(List.replicate m its).flatten.toArray:=fun m=>by
   have:=zib its m []
   rw [List.nil_append] at this
   exact this
  rw [f0]
  cases its with
  | nil=>simp
  | cons a r'=>rw [if_neg (by simp)]
 refine wpAny_binaryOp_repeat_ref (T:="list") (U:="int") (by decide) ⟨_,e,rfl⟩ (fun s'=>typeIs_int s' k t) noFill_list_mul F.fills_int_mul F.slot_int_rmul repeat_list F.slot_int_index.lookup
  (call_meets F.slot_int_rmul (typeIs_int s k t) F.entry_int_rmul (F.args_int_rmul_2 _ _) (int___rmul___int_list k t l its.toArray n)
   ⟨e,rfl,⟨_,e,rfl⟩,call_meets F.slot_list_mul ⟨_,e,rfl⟩ F.entry_list_mul (F.args_list_mul_2 _ _) (AutoListH.list___mul___list_int_3 l its.toArray n k t hfit hcap hlong) ⟨e,?_⟩⟩)
 rw [hnew]
 exact ⟨.ref _,_,I.lnew (t':=s.toks) (r.rep k.toNat) (by rw [znS,Nat.mul_comm];exact hz),rfl,q _ I.fresh⟩
end
section
variable {prog:Program} {w:World} {A:Around} {E:Value→Shared→Prop} {s:Shared}
end
section
variable {X:Cx}
end
end L2
namespace Att
open PySem PySem.W PySem.Calls PyProof.Rows
theorem zfY {P:Params} {h:Heap}:∀ (ns:List Int) (vs:List Value),WellAll P h vs (ns.map WData.int)→IntsAre vs ns:=by
 intro ns
 induction ns with
 | nil =>
  intro vs w
  rw [List.map_nil] at w
  cases w
  exact .nil
 | cons n ns ih =>
  intro vs w
  rw [List.map_cons] at w
  cases w with
  | cons a b =>
   cases a
   exact .cons _ _ (ih _ b)
theorem zkk {l:OpenLaw} {n:Nat} (hn:l.most=some n) {P:Params} {h:Heap} {args:List WData} {vals:List Value}
  (hpre:l.row.toRowW.claim.pre args=true) (hwl:WellAll P h vals args) :
  ∃ a vs ns,vals=[Value.ref a]∧args=[WData.list (ns.map WData.int)]∧h.get? a=some { cls:=.type "list",data:=.seq vs.toArray }∧IntsAre vs ns∧ns.length≤n:=by
 have hsh:WShape.hasAll [] args [.list .int]=true:=(pre_splitW hpre).1
 have hc:l.pre.holds [] { args:=args }=true:=(pre_splitW hpre).2
 obtain ⟨d,r,rfl,h1,h2⟩:=hasAllW_cons hsh
 obtain rfl:=hasAllW_nil h2
 obtain ⟨xs,rfl,h3⟩:=hasW_list h1
 obtain ⟨ns,rfl⟩:=items_int h3
 have hlen:ns.length≤n:=by
  unfold OpenLaw.pre at hc
  have h4:(WTm.not (.lt (.lit (.int (n:Int))) (.len (.arg 0)))).holds [] { args:=[.list (ns.map .int)] }=true:=by
   have h4:=(holds_andW hc).1
   rw [hn] at h4
   exact h4
  have h5:=condW_of h4 (w_not (w_lt w_lit (w_len_list (w_arg rfl))))
  rw [List.length_map] at h5
  refine Nat.le_of_not_lt fun q=>?_
  have q':(n:Int)<((ns.length:Nat):Int):=by (first|lia|omega)
  first
   | (rw [decide_eq_true q'] at h5;exact absurd h5 (by decide))
   | (simp at h5;(first|lia|omega))
 cases hwl with
 | cons w1 w2 =>
  cases w2
  cases w1 with
  | list ho hall=>exact ⟨_,_,ns,rfl,rfl,ho,zfY ns _ hall,hlen⟩
theorem zkv (l:OpenLaw) (args:List WData):l.row.toRowW.claim.post args (.bool true) args=true :=
 postW_of (r:=l.row.toRowW) (X:=(true == true))
  (show WShape.has [] (.bool true) .bool=true by first | rfl | decide | simp [WShape.has,WShape.arms,WShape.armsAll])
  (show (WTm.eq .res (.lit (.bool true))).value [] { args:=args,res:=some (.bool true),after:=args }=some (.bool (true == true)) from w_eq_bool (w_res rfl) w_lit) rfl
section
variable {prog:Program} {w:World} {A:Around} {E:Value→Shared→Prop} {s:Shared} {K:Frag}
end
end Att
namespace L2
open PySem PySem.Spec PyProof.Rows
theorem zhE:∀ {vs:List Value} {ns:List Int},IntsAre vs ns→zbJ (ns.map V.int) vs
 | _,_,.nil=>.nil
 | _,_,.cons n t h=>.cons ⟨t,rfl⟩ (zhE h)
def Only (H:Hp):Prop:=∀ b,H b=none∨∃ o xs,H b=some (.frz o (.lst xs))
theorem zlN {P:Program} {w:World} {K:PySem.W.Frag} {mg mb:Str→Option Value} {CX:CXT} {k:Nat} {fa a:Addr} {fd:FuncData} {x:Str} {sp:Sp} {s₁:Shared} {vs:List Value} {ns:List Int}
  (KX:K.In s₁.heap) (hns:s₁.heap.Ns mainGlobals mg) (hb:s₁.heap.Ns builtinsNs mb) (hbb:∀ x:Str,x≠"__name__"→mb x=bootBuiltins x) (hlim:s₁.heap.NoLimit) (hg:s₁.gens=#[])
  (ha:s₁.heap.get? a=some { cls:=.type "list",data:=.seq vs.toArray }) (hi:IntsAre vs ns) (hl:ns.length≤sizeLine) (hr:zhH k callerA)
  (F:∀ base:Heap,K.In base→base.Ns mainGlobals mg→zb0 P w K mg base CX k fa fd [x] sp) (hbind:∀ (s:Shared) (u:Value),BindsTo s fd ⟨[u],[]⟩ [(x,u)])
  (hsp:∀ H:Hp,Only H→SqL K H a (ns.map V.int)→sp [.ref a] H (fun v _=>v=.bl true) fun _ _ _=>False)
  (hCX:∀ H e s',CX [] H s₁ (fun _ _ _=>False) e s'→False) :
  codeAny (model P w) callerA (.call (.ref fa) ⟨[.ref a],[]⟩) (fun r s'=>r=.ok (.ret (.bool true))∧OldK s₁.heap s'.heap∧s'.os=s₁.os∧AllBare s'.gens) s₁:=by
 have rv:=zhE hi
 have lenV:=hi.length
 have core:∀ H:Hp,Only H→SqL K H a (ns.map V.int)→HOk P w H s₁.heap→(∀ b,H b≠none→b=a)→(H a≠none→K.lookup a=none) →
   codeAny (model P w) callerA (.call (.ref fa) ⟨[.ref a],[]⟩) (fun r s'=>r=.ok (.ret (.bool true))∧OldK s₁.heap s'.heap∧s'.os=s₁.os∧AllBare s'.gens) s₁:=by
  intro H hO hS hok hA hK
  have base_of:∀ {b:Addr} {o:Obj},s₁.heap.get? b=some o→H b=none→(zmz s₁.heap H).get? b=some o:=fun e n=>zmw e n
  have noA:∀ {b:Addr} {o:Obj} {es:Array DictEntry} {ep:Nat},s₁.heap.get? b=some o→o.data=.dict es ep→H b=none:=fun {b o es ep} e d=>by
   cases q:H b with
   | none=>rfl
   | some u =>
    have e':b=a:=hA b (by rw [q];simp)
    subst e'
    rw [ha] at e;cases e
    have d':Data.seq vs.toArray _=Data.dict es ep:=d
    cases d'
  have nsK:∀ {b:Addr} {m:Str→Option Value},s₁.heap.Ns b m→(zmz s₁.heap H).Ns b m:=fun {b m} ⟨o,es,ep,e,d,r⟩=>⟨o,es,ep,base_of e (noA e d),d,r⟩
  have hKb:K.In (zmz s₁.heap H):=fun b o e=>base_of (KX b o e) (by
   cases q:H b with
   | none=>rfl
   | some u =>
    have e':b=a:=hA b (by rw [q];simp)
    subst e'
    rw [hK (by rw [q];simp)] at e;cases e)
  have hM:Mod K mg (zmz s₁.heap H):=⟨hKb,nsK hns,⟨mb,nsK hb,hbb⟩,let ⟨mc,h1,h2⟩:=hlim;⟨mc,nsK h1,h2⟩⟩
  have e0:Env0 P w K mg (zmz s₁.heap H) callerA [] s₁ H:=⟨rfl,hM,fun b o e=>znO e,Nat.le_of_eq (zlv _ _),trivial,fun b hb=>absurd (show b∈([]:List Addr) from hb) (by simp),hok,.of_eq hg⟩
  refine codeAny_mono ((F _ hKb (nsK hns)).run callerA [] s₁ H ⟨[.ref a],[]⟩ [.ref a] [.ref a] _ _ hr e0 (hbind s₁ (.ref a)) (.cons rfl .nil) (hsp H hO hS)) fun r s' h=>?_
  cases r with
  | error e=>exact (hCX H e s' h).elim
  | ok fl =>
   cases fl with
   | next=>exact False.elim h
   | brk=>exact False.elim h
   | cont=>exact False.elim h
   | ret u =>
    obtain ⟨v,H',os,bare,un,hok',r',q⟩:=h
    have q':v=.bl true:=q
    subst q'
    obtain rfl:u=Value.bool true:=r'
    refine ⟨rfl,OldK.of_keep fun b o e=>?_,os,bare⟩
    cases q:H b with
    | none=>exact un.keep b o e q (by intro z;exact absurd (show b∈([]:List Addr) from z) (by simp)) (by simp)
    | some u =>
     rcases hO b with z | ⟨ob,xs,z⟩
     ·rw [q] at z;cases z
     ·have z2:=un.frzs b ob _ z
      obtain ⟨e1,_⟩:=hok b _ z
      obtain ⟨e2,_⟩:=hok' b _ z2
      rw [e] at e1;cases e1
      exact e2
 cases hk:K.lookup a with
 | some o =>
  have e:=KX a o hk
  rw [ha] at e
  cases e
  refine core (fun _=>none) (fun _=>.inl rfl) (.inr ⟨_,vs.toArray,_,hk,rfl,rfl,rfl,by rw [List.size_toArray,lenV];exact hl,by simpa using rv⟩) (fun b u z=>by have z':(none:Option HO)=some u:=z;cases z') (fun b z=>absurd rfl z) fun z=>absurd rfl z
 | none =>
  refine core (fun b=>if b=a then some (.frz { cls:=.type "list",data:=.seq vs.toArray } (.lst (ns.map V.int))) else none) (fun b=>?_) (.inl (.inr ⟨{ cls:=.type "list",data:=.seq vs.toArray },if_pos rfl⟩)) (fun b u z=>?_) (fun b z=>?_) fun _=>hk
  ·by_cases hb:b=a
   ·exact .inr ⟨_,_,if_pos hb⟩
   ·exact .inl (if_neg hb)
  ·by_cases hb:b=a
   ·have z':=(if_pos hb).symm.trans z
    cases z'
    subst hb
    exact ⟨ha,by rw [List.length_map];exact hl,vs,_,rv,ha⟩
   ·have z':=(if_neg hb).symm.trans z
    cases z'
  ·by_cases hb:b=a
   ·exact hb
   ·exact absurd (if_neg hb) z
end L2
namespace L2
open PySem PySem.Spec PyProof.Rows
end L2
namespace L2
open PySem PySem.Spec PyProof.Rows
def zgR (s:Stmt):Arguments:=match s with
 | .FunctionDef _ a _ _ _ _ _ _ _ _=>a
 | _=>{ posonlyargs:=[],args:=[],vararg:=none,kwonlyargs:=[],kw_defaults:=[],kwarg:=none,defaults:=[] }
def zfD (s:Stmt):List Stmt:=match s with
 | .FunctionDef _ _ b _ _ _ _ _ _ _=>b
 | _=>[]
def zah (s:Stmt):Scope:=match s with
 | .FunctionDef _ _ _ _ _ _ sc _ _ _=>sc
 | _=>{ kind:=.function,names:=[],isGenerator:=false,isCoroutine:=false }
abbrev CX0:CXT:=fun _ _ _ _ _ _=>False
abbrev E0:XK:=fun _ _ _=>False
theorem zaC {X:Cx}:zlp CX0 X E0:=fun _ _ _ _ _ _ _ h=>h.elim
structure Fun (K:PySem.W.Frag) (x qual:Str) (st:Stmt) (f:Addr) (fd:FuncData):Prop where
 ex:∃ (oc:Value) (od:Option Addr) (kV doc pm:Value) (an:Option Addr) (cdv ct:Value) (osl:Array (Option Value)),
  fd=PySem.W.fnOf x qual (zgR st) (zfD st) (zah st) .none kV doc pm an cdv ct∧K.lookup f=some ⟨oc,od,.func fd,osl⟩∧PySem.W.codeIn K cdv qual=true
 kp:PySem.W.keepIn K (.ref f)=true
section
variable {P:Program} {w:World} {K:PySem.W.Frag} {mg:Str→Option Value} {base:Heap}
theorem Fun.ok {x qual:Str} {st:Stmt} {f:Addr} {fd:FuncData} {N ps:List Str} {k:Nat} {sp:Sp} (F:Fun K x qual st f fd) (S:zay N ps (zah st)) (len:∀ vs H Q E,sp vs H Q E→vs.length=ps.length)
  (hbody:∀ (cdv:Value) (A:Around) (outer:List Env) (s:Shared) (H:Hp) (vs:List V) (Q:VK) (E:XK),zhH k (A.deeper (envOfC qual (zah st) s.heap.objs.size f cdv))→sp vs H Q E →
   ∃ t,PSs (zpJ CX0 P w K mg base N qual (zah st) f cdv A outer s H E).nox (zfD st) t∧t { nx:=fun _ H'=>Q .non H',rt:=Q } (start N vs) H):zb0 P w K mg base CX0 (k+1) f fd ps sp:=by
 obtain ⟨oc,od,kV,doc,pm,an,cdv,ct,osl,rfl,lk,hcd⟩:=F.ex
 refine fn_of lk hcd S len fun A outer s H vs Q E hr hsp=>?_
 obtain ⟨t,h,q⟩:=hbody cdv A outer s H vs Q E hr hsp
 exact ⟨t,h.nox,q⟩
theorem Fun.binds {x qual:Str} {st:Stmt} {f:Addr} {fd:FuncData} {ps:List Str} (F:Fun K x qual st f fd)
  (h:∀ (kV doc pm:Value) (an:Option Addr) (cdv ct:Value) (us:List Value),us.length=ps.length→bindArgs (PySem.W.fnOf x qual (zgR st) (zfD st) (zah st) .none kV doc pm an cdv ct) ⟨us,[]⟩=pure (ps.zip us)):za6 K fd ps []:=by
 obtain ⟨oc,od,kV,doc,pm,an,cdv,ct,osl,rfl,lk,hcd⟩:=F.ex
 exact .all (h kV doc pm an cdv ct)
theorem zaP {x qual:Str} {st:Stmt} {f:Addr} {oc:Value} {od an:Option Addr} {osl:Array (Option Value)} {kV doc pm cdv ct:Value} (l:K.lookup f=some ⟨oc,od,.func (PySem.W.fnOf x qual (zgR st) (zfD st) (zah st) .none kV doc pm an cdv ct),osl⟩)
  (c:PySem.W.codeIn K cdv qual=true) (k:PySem.W.keepIn K (.ref f)=true):Fun K x qual st f (PySem.W.fnOf x qual (zgR st) (zfD st) (zah st) .none kV doc pm an cdv ct):=⟨⟨oc,od,kV,doc,pm,an,cdv,ct,osl,rfl,l,c⟩,k⟩
end
theorem za4 {n:Nat} (h:n≤1000):n<sizeLine:=Nat.lt_of_le_of_lt h (by decide)
section
variable {X:Cx}
theorem pv (i:Nat) {x:Str} {pos:Pos} (hN:X.N[i]?=some x:=by rfl) (hv:Vis X.env.scope x:=by first | exact Or.inl rfl | exact Or.inr (Or.inl rfl) | exact Or.inr (Or.inr rfl)) (hd:(x == ("__debug__":Str))=false:=by decide)
  (hcd:(x == ("__classdict__":Str))=false:=by decide):PE X (.Name x pos) (zac i):=zp7 hN hv hd hcd
end
theorem iteF {A B:Prop} (h:B):if false=true then A else B:=by
 rw [if_neg Bool.false_ne_true]
 exact h
theorem zn5 {A B:Prop} (h:A):if true=true then A else B:=by
 rw [if_pos rfl]
 exact h
theorem zez {c A B:Prop} [Decidable c] (h1:c→A) (h2:¬ c→B):if c then A else B:=by
 by_cases h:c
 ·rw [if_pos h]
  exact h1 h
 ·rw [if_neg h]
  exact h2 h
def zaO (H H':Hp):Prop:=∀ b o,H b=some o→H' b=some o
theorem zaO.refl (H:Hp):zaO H H:=fun _ _ h=>h
theorem zaO.trans {H H1 H2:Hp} (a:zaO H H1) (b:zaO H1 H2):zaO H H2:=fun c o h=>b c o (a c o h)
theorem zaO.free {H H':Hp} (e:zaO H H') {l:Addr} (h:H' l=Option.none):H l=Option.none:=by
 cases q:H l with
 | none=>rfl
 | some o =>
  rw [e l o q] at h
  cases h
theorem zaO.seq {K:PySem.W.Frag} {H H':Hp} {a:Addr} {xs:List V} (e:zaO H H') (h:SqL K H a xs):SqL K H' a xs:=by
 rcases h with (h | ⟨o,h⟩) | h
 ·exact .inl (.inl (e _ _ h))
 ·exact .inl (.inr ⟨o,e _ _ h⟩)
 ·exact .inr h
end L2
namespace L2
open PySem PySem.Spec PyProof.Rows
section
variable {X:Cx}
theorem zmm:OpR X (binaryOp .FloorDiv) (rI (fun _ j=>0<j∧j.natAbs.log2<9000) fun i j=>.int (i / j)):=opI fun i j _ _ _ _ _ hc q=>by
 have h1:(0:Int)<j:=hc.1
 exact floordiv_int (by (first|lia|omega)) (by rw [Int.fdiv_eq_ediv_of_nonneg i (by (first|lia|omega))];exact q) (.inl (PyProof.noPylong_of_log2 hc.2))
theorem zct:OpR X (binaryOp .FloorDiv) (rI (fun _ j=>j≠0∧j.natAbs.log2<9000) fun i j=>.int (i.fdiv j)):=opI fun _ _ _ _ _ _ _ hc q=>floordiv_int hc.1 q (.inl (PyProof.noPylong_of_log2 hc.2))
theorem zfH:OpR X (binaryOp .Mod) (rI (fun _ j=>j≠0) fun i j=>.int (i.fmod j)):=zoI
theorem zaL:OpR X (binaryOp .Mult) (rI IntMulOk fun i j=>.int (i*j)):=opI fun _ _ _ _ _ _ _ hc q=>mul_int q hc
theorem ziO {i j:Int} (h1:-(2 ^ 64)<j) (h2:j<2 ^ 64):IntMulOk i j:=.of_right (intBits_le_64 h1 h2)
theorem zqB {i j:Int} (h1:-(2 ^ 64)<i) (h2:i<2 ^ 64):IntMulOk i j:=.of_left (intBits_le_64 h1 h2)
theorem zf4 {i j:Int} (m n:Nat) (h1:i.natAbs<2 ^ m) (h2:j.natAbs<2 ^ n) (h:m+n≤134217728:=by decide):IntMulOk i j:=.of_le (intBits_le_iff.mpr h1) (intBits_le_iff.mpr h2) h
theorem zfa {j:Int} (m:Nat) (h0:j≠0) (h:j.natAbs<2 ^ m) (hm:m≤9000:=by decide):j.natAbs.log2<9000 :=
 Nat.lt_of_lt_of_le ((Nat.log2_lt (by (first|lia|omega))).mpr h) hm
theorem zjo:bootBuiltins "int"=some (.type "int"):=by decide +kernel
theorem zh4:bootBuiltins "bool"=some (.type "bool"):=by decide +kernel
theorem zcd:bootBuiltins "list"=some (.type "list"):=by decide +kernel
theorem zgn:bootBuiltins "tuple"=some (.type "tuple"):=by decide +kernel
theorem zhN (K:PySem.W.Frag):PySem.W.kitOne K (.type "int") (.type "bool")=some false:=by first | rfl | kernel_rfl
def zrM (a:Addr) (c:Value) (h:Heap):Prop:=∃ oe vs,h.get? a=some oe∧oe.cls=c∧oe.data=.fields vs
def excO (a:Addr) (c:Value):HO:=.ext (zrM a c)
structure zqV (K:PySem.W.Frag) (c:Value):Prop where
 kit:∀ a:Addr,PySem.W.KitX K (.ref a) c (zrM a c)
inductive TyX (K:PySem.W.Frag) (H:Hp):V→Value→Prop where
 | of {x:V} {t:Value} (h:zjK K H x t):TyX K H x t
 | exc {a:Addr} {c:Value} (h:H a=some (excO a c)) (k:zqV K c):TyX K H (.ref a) c
def clsV:V→Option Value
 | .ty n=>some (.type n)
 | .ref c=>some (.ref c)
 | _=>none
def zho (K:PySem.W.Frag):List V→Hp→VK→Prop:=fun xs H Q=>∃ x c t cv b,xs=[x,c]∧clsV c=some cv∧TyX K H x t∧PySem.W.kitOne K t cv=some b∧Q (.bl b) H
theorem zfM {K:PySem.W.Frag} {H:Hp} {Q:VK} {i:Int} (q:Q (.bl true) H):zho K [.int i,.ty "int"] H Q:=⟨_,_,_,_,true,rfl,rfl,.of (.int i),rfl,q⟩
theorem zfd {K:PySem.W.Frag} {H:Hp} {Q:VK} {i:Int} (q:Q (.bl false) H):zho K [.int i,.ty "bool"] H Q:=⟨_,_,_,_,false,rfl,rfl,.of (.int i),zhN K,q⟩
theorem zfA {K:PySem.W.Frag} {H:Hp} {Q:VK} {r:Addr} {xs:List V} (h:H r=some (.tup xs)) (q:Q (.bl true) H):zho K [.ref r,.ty "tuple"] H Q:=⟨_,_,_,_,true,rfl,rfl,.of (.tup h),rfl,q⟩
theorem zm1 {c:V} {u cv:Value} (r:zcF c u) (h:clsV c=some cv):u=cv:=by
 cases c with
 | ty n=>cases r;exact Option.some.inj h
 | ref a=>cases r;exact Option.some.inj h
 | _=>cases h
theorem zbv:zhW X (.builtin "isinstance") (zho X.K):=by
 intro pins s σ H xs us Q I r h
 obtain ⟨x,c,t,cv,b,rfl,hc,ty,e,q⟩:=h
 obtain ⟨u,w',rfl,rx,rw'⟩:=zrL r
 obtain rfl:=zm1 rw' hc
 cases ty with
 | of ty=>exact zkz I rx ty e fun tk=>⟨.bl b,H,I.tok tk,rfl,q⟩
 | @exc a c h k =>
  cases (show u=Value.ref a from rx)
  obtain ⟨p,_,_⟩:=(show zcG X.prog X.w H s.heap a (excO a t) from I.hok a _ h)
  exact PySem.W.kia_one (k.kit a) I.kIn p e (fun z=>nomatch z) fun tk=>⟨.bl b,H,I.tok tk,rfl,q⟩
def rEqT (K:PySem.W.Frag):R2:=fun x y H Q=>∃ (a b:Addr) (ns ms:List Int),x=.ref a∧y=.ref b∧SqT K H a (ns.map V.int)∧SqT K H b (ms.map V.int)∧Q (.bl (decide (ns=ms))) H
theorem ziR:∀ {ns:List Int} {us:List Value},zbJ (ns.map V.int) us→∀ {j:Nat} (h:j<us.length),∃ (h':j<ns.length) (t:Tok),us[j]=.int ns[j] t
 | [],_,.nil,j,h=>absurd h (Nat.not_lt_zero _)
 | n::ns,_,.cons r t,0,h=>by
  obtain ⟨t',rfl⟩:=r
  exact ⟨Nat.succ_pos _,t',rfl⟩
 | n::ns,_,.cons r t,j+1,h=>by
  obtain ⟨h',t',e⟩:=ziR t (j:=j) (Nat.lt_of_succ_lt_succ h)
  exact ⟨Nat.succ_lt_succ h',t',e⟩
theorem zgP {l:List Int} {j:Nat} (h:j<l.length):l.getD j 0=l[j]:=by
 rw [List.getD_eq_getElem?_getD,List.getElem?_eq_getElem h]
 rfl
theorem zl4 {ns ms:List Int}:((List.range (min ns.length ms.length)).all (fun j=>ns.getD j 0 == ms.getD j 0)&&ns.length == ms.length)=decide (ns=ms):=by
 by_cases h:ns=ms
 ·subst h
  rw [decide_eq_true rfl,Bool.and_eq_true]
  refine ⟨List.all_eq_true.mpr fun j _=>beq_self_eq_true _,beq_self_eq_true _⟩
 ·rw [decide_eq_false h]
  refine Bool.eq_false_iff.mpr fun z=>h ?_
  obtain ⟨z1,z2⟩:=(Bool.and_eq_true _ _).mp z
  have hl:ns.length=ms.length:=beq_iff_eq.mp z2
  refine List.ext_getElem hl fun j h1 h2=>?_
  have q:=List.all_eq_true.mp z1 j (List.mem_range.mpr (by (first|lia|omega)))
  have q':ns.getD j 0=ms.getD j 0:=beq_iff_eq.mp q
  rw [zgP h1,zgP h2] at q'
  exact q'
theorem zlh {A:Around} {s:Shared} {ns ms:List Int} {us ws:List Value} (r1:zbJ (ns.map V.int) us) (r2:zbJ (ms.map V.int) ws) :
  ∀ j (h1:j<us.toArray.size) (h2:j<ws.toArray.size),SeqAt.EqAt A s us.toArray[j] ws.toArray[j] (ns.getD j 0 == ms.getD j 0):=by
 intro j h1 h2
 rw [List.size_toArray] at h1 h2
 obtain ⟨k1,t1,e1⟩:=ziR r1 h1
 obtain ⟨k2,t2,e2⟩:=ziR r2 h2
 rw [List.getElem_toArray,List.getElem_toArray,e1,e2,zgP k1,zgP k2]
 exact SeqAt.EqAt.int_int _ _ _ _
theorem zqM (hu:X.A.units<cLine):OpR X (compareOp .Eq) (rEqT X.K):=by
 intro pins s σ H x y v u Q I rx ry h
 obtain ⟨a,b,ns,ms,rfl,rfl,ha,hb,q⟩:=h
 cases rx
 cases ry
 obtain ⟨us,r1,p1,_⟩:=I.tuple ha
 obtain ⟨ws,r2,p2,_⟩:=I.tuple hb
 have l1:=r1.length
 have l2:=r2.length
 rw [List.length_map] at l1 l2
 refine SeqAt.RcAt.tuples p1 p2 hu (e:=fun j=>ns.getD j 0 == ms.getD j 0) (zlh r1 r2) X.prog X.w X.xe _ ⟨.bl _,H,I,rfl,?_⟩
 rw [List.size_toArray,List.size_toArray,← l1,← l2,zl4]
 exact q
def tTru (K:PySem.W.Frag) (ta:TE):TT:=fun σ H Q=>ta σ H fun x H'=>∃ k,zro K x H' k∧Q k H'
def zf5 (t:TS):TS:=fun D σ H=>∃ R:St→Hp→Prop,t { D with nx:=R } σ H∧∀ σ' H',R σ' H'→D.nx σ' H'
theorem zcI {st:Stmt} {t:TS} (h:PS X st t):PS X st (zf5 t):=by
 intro pins s σ H D I hw
 obtain ⟨R,hw,hR⟩:=hw
 refine thn (h pins s σ H _ I hw) fun f s' q=>?_
 cases f with
 | next=>obtain ⟨σ',H',I',q⟩:=q;exact ⟨σ',H',I',hR _ _ q⟩
 | brk=>exact q
 | cont=>exact q
 | ret u=>exact q
end
theorem zao {H:Hp} {p:Addr} (h:H p=none) (o:HO):zaO H (upd H p o):=fun b u q=>by rw [zaX (zaW q h)];exact q
theorem zaO.add {H0 H:Hp} {p:Addr} {o:HO} (s:zaO H0 H) (h:H p=none):zaO H0 (upd H p o):=s.trans (zao h o)
theorem zaO.put {H0 H:Hp} {p:Addr} {o:HO} (s:zaO H0 H) (h:H0 p=none):zaO H0 (upd H p o):=fun b u q=>by rw [zaX (zaW q h)];exact s _ _ q
theorem zmN {K:PySem.W.Frag} {i:Int} {H:Hp} {k:Bool}:zro K (.int i) H k=(k=(i != 0)):=rfl
theorem zoj {K:PySem.W.Frag} {i:Bool} {H:Hp} {k:Bool}:zro K (.bl i) H k=(k=i):=rfl
theorem zmA (a b:Int):scal (.int a) (.int b)=true:=rfl
theorem zo4 (a b:Bool):scal (.bl a) (.bl b)=true:=rfl
def zml (J:It) (g:TG) (tb:TS):TS:=fun D σ H=>∃ W:Nat→Nat→St→Hp→Prop,(∃ m,W 0 m σ H)∧∀ i m σ H,W i m σ H →
 (J.stop i H∧D.nx σ H)∨(J.go i H∧∃ N:St→Hp→Prop,(∀ σ' H',N σ' H'→∃ m',m'<m∧W (i+1) m' σ' H')∧∀ x H',J.yld i H x H'→g x σ H' fun σ2 H2=>tb { D with nx:=N,ct:=N,bk:=D.nx } σ2 H2)
theorem znW {wi:TI} {g:TG} {tb:TS} {D:zch} {σ:St} {H:Hp}:zgr wi g tb D σ H=wi σ H fun J H1=>zml J g tb D σ H1:=rfl
theorem zb3 {lo:Int} {n:Nat} {g:TG} {tb:TS} {D:zch} {σ:St} {H:Hp} (Pv:Nat→St→Hp→Prop) (h0:Pv 0 σ H)
  (hs:∀ i σ H,i<n→Pv i σ H→g (.int (lo+i)) σ H fun σ2 H2=>tb { D with nx:=Pv (i+1),ct:=Pv (i+1),bk:=D.nx } σ2 H2) (hd:∀ σ H,Pv n σ H→D.nx σ H):zml (Itr lo n) g tb D σ H:=zkJ Pv h0 hs hd
theorem zce {K:PySem.W.Frag} {a:Addr} {xs:List V} {g:TG} {tb:TS} {D:zch} {σ:St} {H:Hp} (Pv:Nat→St→Hp→Prop) (h0:Pv 0 σ H) (hl:∀ i σ H,i≤xs.length→Pv i σ H→SqL K H a xs)
  (hs:∀ i x σ H,xs[i]?=some x→Pv i σ H→g x σ H fun σ2 H2=>tb { D with nx:=Pv (i+1),ct:=Pv (i+1),bk:=D.nx } σ2 H2) (hd:∀ σ H,Pv xs.length σ H→D.nx σ H):zml (Itl K a) g tb D σ H:=zmL Pv h0 hl hs hd
end L2
namespace L2
open PySem PySem.Spec PyProof.Rows
section
variable {P:Program} {w:World}
end
section
variable {P:Program} {w:World} {K:PySem.W.Frag} {mg:Str→Option Value} {base:Heap} {N:List Str} {qual:Str} {scope:Scope} {f:Addr} {cd:Value} {A:Around} {outer:List Env} {s₀:Shared} {H₀:Hp} {E:XK}
end
section
variable {P:Program} {w:World} {K:PySem.W.Frag} {mg:Str→Option Value} {base:Heap} {N:List Str} {qual:Str} {scope:Scope} {f:Addr} {cd:Value} {A:Around} {outer:List Env} {s₀:Shared} {H₀:Hp} {E:XK}
end
abbrev zjG:List Value:=[.type "ValueError",.type "Exception",.type "BaseException",.type "object"]
section
variable {X:Cx} {CX:CXT} {k:Nat} {f:Addr} {fd:FuncData} {ps:List Str} {sp:Sp} {dvs:List V} {ds:List Value} {E:St→XK} {x:Str} {p pos:Pos} {e:Expr} {es:List Expr} {t:TA}
end
theorem Inv.track {X:Cx} {pins:List (Addr×Obj)} {σ:St} {H:Hp} {s:Shared} {a:Addr} {o:HO} (I:Inv X pins σ H s) (hn:H a=none) (h0:X.s₀.heap.get? a=none) (hL:a≠X.env.locals) (hc:∀ x c,X.env.cells.lookup x=some c→c≠a)
  (hp:∀ p∈X.pn++pins,p.1≠a) (new:zcG X.prog X.w (upd H a o) s.heap a o):Inv X pins σ (upd H a o) s:=by
 refine ⟨I.ok,I.os,I.bare,⟨I.base.keep,I.base.slot,fun b u q n hx=>?_,I.base.there,fun b xs q=>?_,fun b u xs q=>?_,fun b ps q=>?_⟩,I.loc,I.cell,?_,fun x c e=>?_,fun p q=>?_,fun b u e=>?_,I.len⟩
 ·have nb:b≠a:=fun z=>by rw [z,h0] at q;cases q
  rw [zaX nb]
  exact I.base.free b u q n hx
 ·have q2:=I.base.tups b xs q
  rw [zaX (zaW q2 hn)]
  exact q2
 ·have q2:=I.base.frzs b u xs q
  rw [zaX (zaW q2 hn)]
  exact q2
 ·obtain ⟨m,q2⟩:=I.base.tbls b ps q
  exact ⟨m,by rw [zaX (zaW q2 hn)];exact q2⟩
 ·rw [zaX hL.symm]
  exact I.free
 ·rw [zaX (hc x c e)]
  exact I.freeC x c e
 ·obtain ⟨e,n,r⟩:=I.pin p q
  exact ⟨e,by rw [zaX (hp p q)];exact n,r⟩
 ·by_cases hb:b=a
  ·subst hb
   rw [zaj] at e
   cases e
   exact new
  ·rw [zaX hb] at e
   exact (I.hok b u e).stay (fun c v _ q=>q) (fun c q=>by rw [zaX (zaW q hn)];exact q) fun c xs q=>by rw [zaX (zaW q hn)];exact q
section
open Builtin Builtin.ObjectAttr Builtin.Getset_descriptor PySem.W
variable {K:PySem.W.Frag} {prog:Program} {w:World} {A:Around} {E:Value→Shared→Prop} {h:Heap} {g:Array GenState} {d:Drawn} {t:Nat} {os:OsState} {a C:Addr} {o:Obj}
end
end L2
namespace L2
open PySem PySem.Spec PyProof.Rows
theorem zky {env:Env} {x:Str} {c:Addr} (h:env.cells.lookup x=some c):cellOf env x=pure c:=by
 unfold cellOf
 rw [h]
theorem ze7 {env:Env}:∀ (l:List (Str×NameKind)) (cs:List (Str×Addr)),(∀ y∈l,y.2=.free→∃ c,env.cells.lookup y.1=some c)→(∀ x c,cs.lookup x=some c→env.cells.lookup x=some c) →
  ∃ cl,(forIn l cs fun (y:Str×NameKind) r=>(if (y.2 == .free)=true then do let c ← cellOf env y.1;pure (ForInStep.yield ((y.1,c)::r)) else pure (ForInStep.yield r):Sem (ForInStep (List (Str×Addr)))))=pure cl ∧
   (∀ x c,cl.lookup x=some c→env.cells.lookup x=some c)∧(∀ y∈l,y.2=.free→∃ c,cl.lookup y.1=some c)∧∀ x,(∃ c,cs.lookup x=some c)→∃ c,cl.lookup x=some c
 | [],cs,_,hc=>⟨cs,by simp,hc,by simp,fun _ h=>h⟩
 | y::l,cs,hf,hc=>by
  have hf':∀ z∈l,z.2=.free→∃ c,env.cells.lookup z.1=some c:=fun z hz=>hf z (List.mem_cons_of_mem _ hz)
  by_cases hy:y.2=.free
  ·obtain ⟨c,e⟩:=hf y List.mem_cons_self hy
   have hc':∀ x d,List.lookup x ((y.1,c)::cs)=some d→env.cells.lookup x=some d:=fun x d q=>by
    rw [List.lookup_cons] at q
    split at q
    ·rename_i b
     cases q
     rw [beq_iff_eq.mp b,e]
    ·exact hc x d q
   obtain ⟨cl,e1,e2,e3,e4⟩:=ze7 l ((y.1,c)::cs) hf' hc'
   refine ⟨cl,?_,e2,fun z hz q=>?_,fun x ⟨d,q⟩=>e4 x ?_⟩
   ·rw [List.forIn_cons,if_pos (by rw [hy];rfl),zky e]
    simpa using e1
   ·rcases List.mem_cons.mp hz with r | r
    ·exact e4 z.1 ⟨c,by rw [r,List.lookup_cons];simp⟩
    ·exact e3 z r q
   ·rw [List.lookup_cons]
    split
    ·exact ⟨_,rfl⟩
    ·exact ⟨d,q⟩
  ·obtain ⟨cl,e1,e2,e3,e4⟩:=ze7 l cs hf' hc
   refine ⟨cl,?_,e2,fun z hz q=>?_,e4⟩
   ·rw [List.forIn_cons,if_neg (by simpa using hy)]
    simpa using e1
   ·rcases List.mem_cons.mp hz with r | r
    ·rw [r] at q;exact absurd q hy
    ·exact e3 z r q
theorem zjM {scope:Scope} {env:Env} (h:∀ y∈scope.names,y.2=.free→∃ c,env.cells.lookup y.1=some c) :
  ∃ cl,closureFor scope env=pure cl∧(∀ x c,cl.lookup x=some c→env.cells.lookup x=some c)∧∀ y∈scope.names,y.2=.free→∃ c,cl.lookup y.1=some c:=by
 obtain ⟨cl,e1,e2,e3,_⟩:=ze7 scope.names [] h (by simp)
 refine ⟨cl,?_,e2,e3⟩
 unfold closureFor
 simp only [bind_pure]
 exact e1
theorem zhG {P:Program} {w:World} {A:Around} {R:Result→Shared→Prop} {s:Shared} {elt target iter:Expr} {ifs:List Expr} {scope:Scope} {pos:Pos} {it acc:Value} {env:Env} {Z:Value→Shared→Prop} (J:Nat→Shared→Prop)
  (hZ:Z=notedBy (model P w) A env fun e s'=>R (.error e) s')
  (zlH:∀ n s,J n s→wpAny (model P w) A (pyNext it) (fun r s1=>match r with
   | none=>R (.ok .next) s1
   | some v=>wpAny (model P w) A (letOwnedTupleGo target it v) (fun _ s2=>wpAny (model P w) A (assign target env v) (fun _ s3 =>
     wpAny (model P w) A (forIn ifs true fun c r=>if r=true then do let ok ← isTrue c env (eval c env);pure (ForInStep.yield ok) else pure (ForInStep.yield r)) (fun ok s4 =>
      if ok=true then wpAny (model P w) A (eval elt env) (fun x s5=>wpAny (model P w) A (call (.builtin "list.append") [acc,x]) (fun _ s6=>∃ m,m<n∧J m s6) Z s5) Z s4
      else ∃ m,m<n∧J m s4) Z s3) Z s2) Z s1) Z s)
  (n:Nat) (h:J n s):codeAny (model P w) A (.compLoop (.ListComp elt [⟨target,iter,ifs,0⟩] scope pos) 0 it acc env) R s:=by
 subst hZ
 refine codeAny_loop rfl J (fun n s hJ=>?_) n h
 show wpAny _ _ (Sem.onRaise (compTurn (.ListComp elt [⟨target,iter,ifs,0⟩] scope pos) 0 it acc env) fun x=>do noteFrame x env;theTreesLotGoes x) _ _ s
 refine wpAny_noted ?_
 rw [compTurn_list]
 refine wpAny_bind (wpAny_standAt (wpAny_bind (thn (zlH n s hJ) fun r s1 h1=>?_)))
 cases r with
 | none=>exact wpAny_pure h1
 | some v =>
  refine wpAny_bind (thn h1 fun _ s2 h2=>wpAny_bind (thn h2 fun _ s3 h3=>wpAny_bind (thn h3 fun ok s4 h4=>?_)))
  cases ok with
  | false=>exact wpAny_pure ⟨rfl,h4⟩
  | true=>exact wpAny_bind (wpAny_bind (thn h4 fun x s5 h5=>wpAny_bind (thn h5 fun _ s6 h6=>wpAny_pure (wpAny_pure ⟨rfl,h6⟩))))
def PTs (X:Cx) (ifs:List Expr) (t:TT):Prop:=∀ (pins:List (Addr×Obj)) (s:Shared) (σ:St) (H:Hp) (Q:Bool→Hp→Prop),Inv X pins σ H s→t σ H Q →
 wpAny (model X.prog X.w) X.A (forIn ifs true fun c r=>if r=true then do let ok ← isTrue c X.env (eval c X.env);pure (ForInStep.yield ok) else pure (ForInStep.yield r)) (TP X pins σ Q) X.xe s
def zaM:TT:=fun _ H Q=>Q true H
theorem zbb {X:Cx}:PTs X [] zaM:=fun _ _ _ H _ I h=>wpAny_tests_nil ⟨H,I,h⟩
theorem znX {X:Cx} {c:Expr} {t:TT} (h:PT X c t):PTs X [c] t:=fun pins s σ H Q I q=>wpAny_tests_one (h pins s σ H Q I q)
def zpD (cap:List (Option Nat)) (σ:St):St:=cap.map fun o=>o.bind fun j=>(σ[j]?).join
def zbn (wi:TI) (g:TG) (tt:TT) (te:TE) (cap:List (Option Nat)):TE:=fun σ H Q=>wi σ H fun J H1=>∀ D,H1 D=none→∃ W:Nat→Nat→St→Hp→Prop,(∃ m,W 0 m (zpD cap σ) (upd H1 D (.lst [])))∧∀ i m σc Hc,W i m σc Hc →
 (J.stop i Hc∧Q (.ref D) Hc)∨(J.go i Hc∧∃ N:St→Hp→Prop,(∀ σ' H',N σ' H'→∃ m',m'<m∧W (i+1) m' σ' H')∧∀ x H',J.yld i Hc x H'→g x σc H' fun σ2 H2=>tt σ2 H2 fun b H3=>if b=true then te σ2 H3 fun y H4=>zbf (.ref D) [y] H4 fun _ H5=>N σ2 H5 else N σ2 H3)
def Cx.blk (X:Cx) (Nc:List Str) (scope:Scope) (cl:List (Str×Addr)) (s:Shared) (H:Hp) (fp:List Addr):Cx:={ X with
 N:=Nc,s₀:=s,H₀:=H,env:=compEnvC scope cl s.heap.objs.size X.env,outer:=X.stack,stack:=X.stack,ex:=fp,fn:=fun _=>false,pn:=[],xe:=fun _ _=>False }
structure zjR (sc:Scope) (N Nc:List Str) (cap:List (Option Nat)) (scope:Scope):Prop where
 kind:scope.kind=.function
 nocell:∀ y∈scope.names,y.2≠.cell
 free:∀ y∈scope.names,y.2=.free→sc.names.lookup y.1=some .cell∨sc.names.lookup y.1=some .free
 once:∀ y∈scope.names,scope.names.lookup y.1=some y.2
 nd:Nc.Nodup
 len:cap.length=Nc.length
 cap:∀ (i:Nat) (y:Str) (j:Nat),Nc[i]?=some y→cap[i]?=some (some j)→N[j]?=some y∧scope.names.lookup y=some .free
def znv (sc:Scope) (N Nc:List Str) (cap:List (Option Nat)) (scope:Scope):Bool :=
 scope.kind == .function&&scope.names.all (fun y=>y.2 != .cell&&scope.names.lookup y.1 == some y.2&&(y.2 != .free || sc.names.lookup y.1 == some .cell || sc.names.lookup y.1 == some .free))&&decide Nc.Nodup&&cap.length == Nc.length
  && (Nc.zip cap).all fun p=>p.2.all fun j=>N[j]? == some p.1&&scope.names.lookup p.1 == some .free
theorem zjR.of {sc:Scope} {N Nc:List Str} {cap:List (Option Nat)} {scope:Scope} (h:znv sc N Nc cap scope=true):zjR sc N Nc cap scope:=by
 unfold znv at h
 simp only [Bool.and_eq_true,beq_iff_eq,List.all_eq_true,bne_iff_ne,ne_eq,Bool.or_eq_true,decide_eq_true_eq] at h
 obtain ⟨⟨⟨⟨h1,h2⟩,h3⟩,h4⟩,h5⟩:=h
 refine ⟨h1,fun y hy=>(h2 y hy).1.1,fun y hy hf=>?_,fun y hy=>(h2 y hy).1.2,h3,h4,fun i y j e1 e2=>?_⟩
 ·rcases (h2 y hy).2 with (q | q) | q
  ·exact absurd hf q
  ·exact .inl q
  ·exact .inr q
 ·have m:(y,some j)∈Nc.zip cap:=by
   refine List.mem_of_getElem? (i:=i) ?_
   rw [List.getElem?_zip_eq_some]
   exact ⟨e1,e2⟩
  have z:=h5 _ m
  simpa using z
theorem zcV {env:Env} {x:Str}:∀ {names:List (Str×NameKind)} {k:NameKind},((names.map fun (n,k)=>if (k == NameKind.free&&env.scope.kind == .function&&env.kindOf n == some .cell) then (n,NameKind.cell) else (n,k)).lookup x=some k)→k≠.cell∧names.lookup x=some k∨(k=.cell∧(names.lookup x=some .cell∨names.lookup x=some .free))
 | [],_,h=>by simp at h
 | (n,q)::r,k,h=>by
  have ih:=@zcV env x r k
  rw [List.map_cons] at h
  dsimp only at h
  by_cases hx:(x == n)=true
  ·by_cases hc:(q == NameKind.free&&env.scope.kind == .function&&env.kindOf n == some .cell)=true
   ·rw [if_pos hc,List.lookup_cons,hx] at h
    cases h
    rw [Bool.and_eq_true,Bool.and_eq_true] at hc
    refine .inr ⟨rfl,.inr ?_⟩
    rw [List.lookup_cons,hx]
    exact congrArg some (beq_iff_eq.mp hc.1.1)
   ·rw [if_neg hc,List.lookup_cons,hx] at h
    cases h
    rw [List.lookup_cons,hx]
    by_cases z:q=.cell
    ·exact .inr ⟨z,.inl (congrArg some z)⟩
    ·exact .inl ⟨z,rfl⟩
  ·have hx':(x == n)=false:=by simpa using hx
   rw [List.lookup_cons,hx']
   refine ih ?_
   by_cases hc:(q == NameKind.free&&env.scope.kind == .function&&env.kindOf n == some .cell)=true
   ·rw [if_pos hc,List.lookup_cons,hx'] at h
    exact h
   ·rw [if_neg hc,List.lookup_cons,hx'] at h
    exact h
section
variable {X:Cx} {pins:List (Addr×Obj)} {σ:St} {H:Hp} {s:Shared}
theorem znE {Nc:List Str} {cap:List (Option Nat)} {scope:Scope} {cl:List (Str×Addr)} {fp:List Addr} {h1:Heap} {tk:Nat} {m1:Str→Option Value} (I:Inv X pins σ H s) (B:zjR X.env.scope X.N Nc cap scope)
  (hsub:∀ x c,cl.lookup x=some c→X.env.cells.lookup x=some c) (hfr:∀ y∈scope.names,y.2=.free→∃ c,cl.lookup y.1=some c) (hf:∀ b∈fp,zj5 X pins H b) (hin:∀ b∈fp,b<s.heap.objs.size)
  (hk:∀ b o,s.heap.get? b=some o→h1.get? b=some o) (hn:h1.Ns s.heap.objs.size m1):Inv (X.blk Nc scope cl s H fp) [] (zpD cap σ) H { s with heap:=h1,toks:=tk }:=by
 have ok:=I.ok
 have bsz:X.base.objs.size≤s.heap.objs.size:=Nat.le_trans ok.bsz I.sz
 refine ⟨⟨ok.mod,B.kind,ok.glob,ok.blt,Nat.le_refl _,fun x y c h1 h2=>ok.inj x y c (hsub x c h1) (hsub y c h2),fun x hx=>?_,(by intro x c z;cases z),ok.hd,ok.frames,.inl rfl,fun b hb=>⟨Nat.ne_of_lt (hin b hb),fun x c e=>(hf b hb).2.2.2.2.1 x c (hsub x c e)⟩,
  I.bs,bsz,fun b o e hb=>?_,fun b hb z=>?_,I.stack,I.stkFree⟩,rfl,I.bare,Un.kept hk,⟨m1,hn,fun i y v e1 e2 e3=>?_⟩,fun x c e=>?_,I.hok.fresh (Nat.le_refl _),fun x c e=>I.freeC x c (hsub x c e),(by intro p hp;cases hp),I.hok.kept hk,?_⟩
 ·have look:∀ k,(relabel scope X.env).names.lookup x=some k→k=.cell∨k=.free→∃ c,cl.lookup x=some c:=fun k q hk=>by
   rcases zcV q with ⟨n1,n2⟩ | ⟨_,n2 | n2⟩
   ·rcases hk with r | r
    ·exact absurd r n1
    ·exact hfr (x,k) (PySem.mem_of_lookup n2) r
   ·exact absurd rfl (B.nocell _ (PySem.mem_of_lookup n2))
   ·exact hfr (x,.free) (PySem.mem_of_lookup n2) rfl
  rcases hx with q | q
  ·exact look _ q (.inl rfl)
  ·exact look _ q (.inr rfl)
 ·rcases (hf b hb).2.2.2.1 with q | q
  ·exact ok.noex b o e q
  ·exact absurd (Nat.lt_of_lt_of_le (Heap.lt_size e) (Nat.le_trans ok.bsz q)) (Nat.lt_irrefl _)
 ·rcases List.mem_cons.mp (I.stkSub b z) with q | q
  ·exact (hf b hb).2.1 q
  ·exact (hf b hb).2.2.1 q
 ·have e2':(cap[i]?).map (fun o=>o.bind fun j=>(σ[j]?).join)=some (some v):=by rw [← List.getElem?_map];exact e2
  obtain ⟨o,ho,eo⟩:=Option.map_eq_some_iff.mp e2'
  obtain ⟨j,rfl,ej⟩:=Option.bind_eq_some_iff.mp eo
  have ej':σ[j]?=some (some v):=by
   cases q:σ[j]? with
   | none=>rw [q] at ej;cases ej
   | some z=>rw [q] at ej;cases ej;rfl
  obtain ⟨c1,c2⟩:=B.cap i y j e1 ho
  have vis:=B.free (y,.free) (PySem.mem_of_lookup c2) rfl
  obtain ⟨m,_,hl⟩:=I.loc
  obtain ⟨u,r,lk⟩:=hl j y v c1 ej' (.inr vis)
  obtain ⟨c',ec⟩:=hfr (y,.free) (PySem.mem_of_lookup c2) rfl
  have ec2:=hsub _ _ ec
  rcases lk with ⟨kl,_⟩ | ⟨_,c,e,z⟩
  ·have kl':X.env.scope.names.lookup y=some .local:=kl
   rcases vis with q | q
   ·have q':X.env.scope.names.lookup y=some .cell:=q
    rw [kl'] at q';cases q'
   ·have q':X.env.scope.names.lookup y=some .free:=q
    rw [kl'] at q';cases q'
  ·have ecc:X.env.cells.lookup y=some c':=ec2
   rw [e] at ecc
   cases ecc
   refine ⟨u,r,.inr ⟨?_,_,ec,?_⟩⟩
   ·rcases e3 with q | q | q
    ·rcases zcV q with ⟨_,n2⟩ | ⟨n1,_⟩
     ·rw [c2] at n2;cases n2
     ·cases n1
    ·exact .inl q
    ·exact .inr q
   ·obtain ⟨o,ho,hd⟩:=z
    exact ⟨o,hk _ _ ho,hd⟩
 ·obtain ⟨v,o,ho,hd⟩:=I.cell x c (hsub x c e)
  exact ⟨v,o,hk _ _ ho,hd⟩
 ·show (zpD cap σ).length=Nc.length
  rw [zpD,List.length_map,B.len]
theorem zkK {Nc:List Str} {scope:Scope} {cl:List (Str×Addr)} {fp:List Addr} {σc:St} {Hc:Hp} {s':Shared} {h':Heap} (I:Inv X pins σ H s) (hf:∀ b∈fp,zj5 X pins H b) (J:Inv (X.blk Nc scope cl s H fp) [] σc Hc s')
  (hs:Heap.SameBut s.heap.objs.size s'.heap h'):Inv X pins σ Hc { s' with heap:=h' }:=by
 have ne:∀ b o,s.heap.get? b=some o→b≠s.heap.objs.size:=fun b o e=>Nat.ne_of_lt (Heap.lt_size e)
 have u:=J.base
 refine I.call' (ch:=fp) J.os ⟨fun b o e n hb hx=>(hs.2 b (ne b o e)).trans (u.keep b o e n hb hx),fun b o e n hb hx=>?_,u.free,fun b o e hx=>?_,u.tups,u.frzs,u.tbls⟩ (fun b ob e=>?_) J.bare fun b hb=>⟨(hf b hb).2.2.2.1,(hf b hb).2.1,(hf b hb).2.2.2.2.1,(hf b hb).2.2.2.2.2⟩
 ·obtain ⟨sl,q⟩:=u.slot b o e n hb hx
  exact ⟨sl,(hs.2 b (ne b o e)).trans q⟩
 ·obtain ⟨o',q⟩:=u.there b o e hx
  exact ⟨o',(hs.2 b (ne b o e)).trans q⟩
 ·have hC:Hc s.heap.objs.size=none:=J.free
  refine (J.hok b ob e).stay (fun c w' hc q=>(hs.2 c ?_).trans q) (fun _ q=>q) fun _ _ q=>q
  rintro rfl
  rcases hc with z | hc
  ·rw [← z,hC] at e;cases e
  ·rw [hC] at hc;cases hc
end
theorem Inv.turns {X:Cx} {pins:List (Addr×Obj)} {σ:St} {H:Hp} {s:Shared} {h':Heap} {t':Nat} {ch:List Addr} (I:Inv X pins σ H s) (k:∀ b o,b∉ch→s.heap.get? b=some o→h'.get? b=some o) (hf:∀ b∈ch,zj5 X pins H b):Inv X pins σ H { s with heap:=h',toks:=t' }:=by
 refine I.call (g':=s.gens) (d':=s.drawn) (ch:=ch) ⟨fun b o e _ _ hx=>k b o hx e,fun b o e _ _ hx=>⟨o.slots,k b o hx e⟩,fun _ _ _ n _=>n,fun b o e hx=>⟨o,k b o hx e⟩,fun _ _ q=>q,fun _ _ _ q=>q,fun _ ps q=>⟨#[],by rw [q];simp⟩⟩ (fun b u e=>?_) I.bare
  fun b hb=>⟨(hf b hb).2.2.2.1,(hf b hb).2.1,(hf b hb).2.2.2.2.1,(hf b hb).2.2.2.2.2⟩
 refine (I.hok b u e).stay (fun c v hc q=>k c v (fun z=>?_) q) (fun _ q=>q) fun _ _ q=>q
 have n:=(hf c z).1
 rcases hc with r | r
 ·rw [r,e] at n;cases n
 ·rw [r] at n;cases n
theorem zhP {X:Cx} {pins:List (Addr×Obj)} {s:Shared} {σ:St} {H:Hp} {Q:VK} {sc:Scope} {N Nc:List Str} {cap:List (Option Nat)} {elt tg iter:Expr} {ifs:List Expr} {scope:Scope} {pos pos':Pos} {wi:TI} {g:TG} {tt:TT} {te:TE} {use:Option (Value→Sem Unit)} {QQ:Value→Shared→Prop}
  (hc:X.calm=true) (hsc:X.env.scope=sc) (hN:X.N=N) (B:zjR sc N Nc cap scope) (hi:PI X tg iter wi)
  (hg:∀ cl s H fp,PG (X.blk Nc scope cl s H fp) tg g) (ht:∀ cl s H fp,PTs (X.blk Nc scope cl s H fp) ifs tt) (he:∀ cl s H fp,PE (X.blk Nc scope cl s H fp) elt te)
  (hs:∀ x,foldedSetIterable iter X.env x=pure x) (I:Inv X pins σ H s) (h:zbn wi g tt te cap σ H Q)
  (fin:∀ (s3:Shared) (H3:Hp) (cl:List (Str×Addr)) (fp:List Addr) (D:Addr) (σc:St) (Hc:Hp) (s6:Shared),Inv X pins σ H3 s3→(∀ b∈fp,zj5 X pins H3 b)→Inv (X.blk Nc scope cl s3 H3 fp) [] σc Hc s6→Q (.ref D) Hc→compPost (model X.prog X.w) X.A X.xe use QQ (.ref D) s3.heap.objs.size (.ok .next) s6) :
  wpAny (model X.prog X.w) X.A (comprehension (.ListComp elt [⟨tg,iter,ifs,0⟩] scope pos) scope X.env pos' (newList []) false (eval iter X.env) use) QQ X.xe s:=by
 subst hsc hN
 obtain ⟨cl,hclos,hsub,hfr⟩:=zjM (scope:=scope) (env:=X.env) fun y hy hf=>I.ok.has y.1 (B.free y hy hf)
 refine wpAny_comprehension_free (use:=use) rfl hs hclos B.kind (fun y hy hl=>by rw [B.once y hy,hl]) (thn (hi pins s σ H _ I h) fun v s1 h1=>thn h1 fun itv s2 h2=>?_)
 obtain ⟨it,fp,tn,J,H2,rfl,I2,T,st2,f2,hw⟩:=h2
 refine wpAny_newObj_type ?_
 have hfree:H2 s2.heap.objs.size=none:=I2.hok.fresh (Nat.le_refl _)
 have I3:=I2.laid (t':=s2.toks) (o:=.lst []) (fun b u e=>Heap.get?_push_of_some { cls:=.type "list",dict:=none,data:=.seq ([]:List Value).toArray } e) (Nat.le_refl _) ⟨by decide,[],0,.nil,Heap.get?_push_size _ rfl⟩
 obtain ⟨W,⟨m0,w0⟩,zlH⟩:=hw _ hfree
 have keep23:∀ b o,s2.heap.get? b=some o→(s2.heap.push { cls:=.type "list",dict:=none,data:=.seq ([]:List Value).toArray }).get? b=some o:=fun b o e=>Heap.get?_push_of_some _ e
 have hin:∀ b∈fp,b<s2.heap.objs.size:=fun b hb=>let ⟨o,e,_⟩:=T.obj 0 _ st2 b hb;Heap.lt_size e
 have f3:∀ b∈fp,zj5 X pins (upd H2 s2.heap.objs.size (.lst [])) b:=fun b hb=>⟨by rw [zaX (Nat.ne_of_lt (hin b hb))];exact (f2 b hb).1,(f2 b hb).2⟩
 have st3:=T.keep 0 _ _ st2 fun b _ o e=>keep23 b o e
 have hin3:∀ b∈fp,b<(s2.heap.push { cls:=.type "list",dict:=none,data:=.seq ([]:List Value).toArray }).objs.size:=fun b hb=>let ⟨o,e,_⟩:=T.obj 0 _ st3 b hb;Heap.lt_size e
 clear keep23 hin
 generalize s2.heap.push { cls:=.type "list",dict:=none,data:=.seq ([]:List Value).toArray }=h3 at I3 st3 hin3 ⊢
 generalize upd H2 s2.heap.objs.size (.lst [])=H3 at I3 f3 w0
 generalize s2.heap.objs.size=D at hfree w0 zlH ⊢
 refine wpAny_newFunctionEnv B.nocell (by intro y hy;cases hy) (fun h1 hns hsb=>?_) B.kind
 have keep:∀ b o,h3.get? b=some o→h1.get? b=some o:=fun b o e=>(hsb.2 b (Nat.ne_of_lt (Heap.lt_size e))).trans (Heap.get?_push_of_some _ e)
 have I4:=znE (tk:=s2.toks+([]:List (Str×Value)).length) I3 B hsub hfr f3 hin3 keep hns
 have st4:=T.keep 0 _ _ st3 fun b _ o e=>keep b o e
 have stat:∀ {H':Hp},(∀ b∈fp,H' b=none)→∀ b∈fp,zj5 (X.blk Nc scope cl { s2 with heap:=h3,toks:=s2.toks } H3 fp) [] H' b:=fun hn b hb =>
  ⟨hn b hb,Nat.ne_of_lt (hin3 b hb),fun z=>by
   rcases List.mem_cons.mp (I3.stkSub b z) with q | q
   ·exact (f3 b hb).2.1 q
   ·exact (f3 b hb).2.2.1 q,.inl hb,fun x c e=>(f3 b hb).2.2.2.2.1 x c (hsub x c e),by intro p hp;cases hp⟩
 have hcb:(X.blk Nc scope cl { s2 with heap:=h3,toks:=s2.toks } H3 fp).calm=true:=hc
 have loop:codeAny (model X.prog X.w) X.A (.compLoop (.ListComp elt [⟨tg,iter,ifs,0⟩] scope pos) 0 (.ref it) (.ref D) (compEnvC scope cl h3.objs.size X.env)) (compPost (model X.prog X.w) X.A X.xe use QQ (.ref D) h3.objs.size) { s2 with heap:=h1,toks:=s2.toks+([]:List (Str×Value)).length }:=by
  refine zhG (fun n s'=>∃ i σ' H',Inv (X.blk Nc scope cl { s2 with heap:=h3,toks:=s2.toks } H3 fp) [] σ' H' s'∧tn i s'.heap∧(∀ b∈fp,H' b=none)∧W i n σ' H') rfl ?_ m0 ⟨0,_,H3,I4,st4,fun b hb=>(f3 b hb).1,w0⟩
  rintro n s5 ⟨i,σ5,H5,I5,st5,fr5,w5⟩
  rcases zlH i n σ5 H5 w5 with ⟨stop,qn⟩ | ⟨go,N',hN',step⟩
  ·refine thn (T.done (X.blk Nc scope cl { s2 with heap:=h3,toks:=s2.toks } H3 fp) rfl rfl rfl hcb i [] s5 σ5 H5 _ I5 (stat fr5) st5 stop) fun r s6 hQ'=>?_
   obtain ⟨hr,I6⟩:=hQ'
   subst hr
   exact fin { s2 with heap:=h3,toks:=s2.toks } H3 cl fp D σ5 H5 s6 I3 f3 I6 qn
  ·refine thn (T.item (X.blk Nc scope cl { s2 with heap:=h3,toks:=s2.toks } H3 fp) rfl rfl rfl hcb i [] s5 σ5 H5 _ I5 (stat fr5) st5 go) fun r s6 hQ'=>?_
   obtain ⟨u,hr,h6⟩:=hQ'
   subst hr
   refine thn h6 fun _ s7 hQ'=>?_
   obtain ⟨x,H7,I7,r7,y7,st7,fr7⟩:=hQ'
   have I7':=I7.pinned (stat fr7) (T.obj _ _ st7)
   refine wpAny_mono (hg cl _ H3 fp _ s7 σ5 H7 x u _ I7' r7 (step x H7 y7)) (fun _ s8 hQ'=>?_) fun _ _ z=>z.elim
   obtain ⟨σ8,H8,I8,q8⟩:=hQ'
   have again:∀ {H9:Hp} {s9:Shared} {m:Nat},Inv (X.blk Nc scope cl { s2 with heap:=h3,toks:=s2.toks } H3 fp) ([]++zig fp s7.heap) σ8 H9 s9→m<n→W (i+1) m σ8 H9→∃ m,m<n∧∃ i σ' H',Inv (X.blk Nc scope cl { s2 with heap:=h3,toks:=s2.toks } H3 fp) [] σ' H' s9∧tn i s9.heap∧(∀ b∈fp,H' b=none)∧W i m σ' H':=fun {H9 s9 m} I9 hm w9=>by
    refine ⟨m,hm,i+1,σ8,H9,I9.unpinned,T.keep _ _ _ st7 fun b hb o e=>(I9.pin (b,o) (List.mem_append_right _ (List.mem_append_right _ (zdV hb e)))).1,fun b hb=>?_,w9⟩
    obtain ⟨o,e,d⟩:=T.obj _ _ st7 b hb
    exact (I9.pin (b,o) (List.mem_append_right _ (List.mem_append_right _ (zdV hb e)))).2.1
   refine wpAny_mono (ht cl _ H3 fp _ s8 σ8 H8 _ I8 q8) (fun b s9 hQ'=>?_) fun _ _ z=>z.elim
   obtain ⟨H9,I9,q9⟩:=hQ'
   cases b with
   | false =>
    rw [if_neg (by decide)] at q9
    obtain ⟨m',hm,w9⟩:=hN' _ _ q9
    exact again I9 hm w9
   | true =>
    rw [if_pos rfl] at q9
    refine wpAny_mono (he cl _ H3 fp _ s9 σ8 H9 _ I9 q9) (fun u s10 hQ'=>?_) fun _ _ z=>z.elim
    obtain ⟨y,H10,I10,r10,q10⟩:=hQ'
    refine wpAny_mono (zc1 (X:=X.blk Nc scope cl { s2 with heap:=h3,toks:=s2.toks } H3 fp) _ s10 σ8 H10 (.ref D) [y] (.ref D) [u] _ I10 rfl (.cons r10 .nil) q10) (fun _ s11 hQ'=>?_) fun _ _ z=>z.elim
    obtain ⟨_,H11,I11,_,q11⟩:=hQ'
    obtain ⟨m',hm,w11⟩:=hN' _ _ q11
    exact again I11 hm w11
 exact codeAny_compStart_list loop (T.self _ 0 _ _ _ st4 loop)
theorem zbG {X:Cx} {sc:Scope} {N Nc:List Str} {cap:List (Option Nat)} {elt tg iter:Expr} {ifs:List Expr} {scope:Scope} {pos:Pos} {wi:TI} {g:TG} {tt:TT} {te:TE} (hc:X.calm=true) (hsc:X.env.scope=sc) (hN:X.N=N) (B:zjR sc N Nc cap scope) (hi:PI X tg iter wi)
  (hg:∀ cl s H fp,PG (X.blk Nc scope cl s H fp) tg g) (ht:∀ cl s H fp,PTs (X.blk Nc scope cl s H fp) ifs tt) (he:∀ cl s H fp,PE (X.blk Nc scope cl s H fp) elt te)
  (hs:∀ x,foldedSetIterable iter X.env x=pure x:=by intro _;rfl):PE X (.ListComp elt [⟨tg,iter,ifs,0⟩] scope pos) (zbn wi g tt te cap):=by
 intro pins s σ H Q I h
 rw [eval_ListComp]
 refine zhP hc hsc hN B hi hg ht he hs I h fun s3 H3 cl fp D σc Hc s6 I3 f3 I6 q=>?_
 obtain ⟨m,hn,_⟩:=id I6.loc
 exact ⟨m,hn,fun h' hs'=>⟨.ref D,Hc,zkK I3 f3 I6 hs',rfl,q⟩⟩
theorem zbR {X:Cx} {i:Nat} {y:Str} {py spos:Pos} {sc:Scope} {N Nc:List Str} {cap:List (Option Nat)} {elt tg iter:Expr} {ifs:List Expr} {scope:Scope} {pos:Pos} {wi:TI} {g:TG} {tt:TT} {te:TE} (hnd:X.N.Nodup) (hix:X.N[i]?=some y) (hl:X.env.scope.names.lookup y=some .local)
  (hc:X.calm=true) (hsc:X.env.scope=sc) (hN:X.N=N) (B:zjR sc N Nc cap scope) (hi:PI X tg iter wi)
  (hg:∀ cl s H fp,PG (X.blk Nc scope cl s H fp) tg g) (ht:∀ cl s H fp,PTs (X.blk Nc scope cl s H fp) ifs tt) (he:∀ cl s H fp,PE (X.blk Nc scope cl s H fp) elt te)
  (hsw:swapsWith (.ListComp elt [⟨tg,iter,ifs,0⟩] scope pos) (some (.Name y py)) spos.line X.env=pure true:=by rfl)
  (hs:∀ x,foldedSetIterable iter X.env x=pure x:=by intro _;rfl):PS X (.Assign [.Name y py] (.ListComp elt [⟨tg,iter,ifs,0⟩] scope pos) spos) (zaZ (zbn wi g tt te cap) (zae i)):=by
 intro pins s σ H D0 I h
 rw [exec_Assign_Name_used _ _ _ _ hsw]
 refine wpAny_bind (wpAny_standAt (wpAny_bind (wpAny_bind (thn (zhP (use:=some (assign (.Name y py) X.env)) (QQ:=fun _ s'=>SP X pins D0 .next s') hc hsc hN B hi hg ht he hs I h fun s3 H3 cl fp D σc Hc s6 I3 f3 I6 q=>?_) fun _ s' hq=>wpAny_pure (wpAny_pure hq)))))
 have I6x:Inv X pins σ Hc s6:=zkK I3 f3 I6 (Heap.SameBut.refl ..)
 obtain ⟨m,hn,_⟩:=id I6.loc
 have hC:Hc s3.heap.objs.size=none:=I6.free
 have fpC:=I3.fpOk (b:=s3.heap.objs.size) (Nat.le_refl _) hC
 refine wpAny_assign_Name (zh9 I6x hnd hix (.inl hl) (v:=.ref D) rfl (fun s7 I7 ch=>?_) (.inr hl))
 obtain ⟨a,same,ha⟩:=ch
 have nC:s3.heap.objs.size≠a:=by
  rcases ha with r | r
  ·rw [r];exact fpC.2.1
  ·exact (fpC.2.2.2.2.1 _ _ r).symm
 refine ⟨m,hn.sameBut same nC,fun h' hs'=>⟨_,_,I7.turns (t':=s7.toks) (ch:=[s3.heap.objs.size]) (fun b o hb e=>(hs'.2 b (by simpa using hb)).trans e) fun b hb=>?_,q⟩⟩
 have e:b=s3.heap.objs.size:=by simpa using hb
 rw [e]
 exact fpC
theorem zkt {K:PySem.W.Frag} {a:Addr} {xs:List V} {g:TG} {tt:TT} {te:TE} {σ:St} {H:Hp} {D:Addr} {Q:VK} (Pv:Nat→List V→St→Hp→Prop) (h0:Pv 0 [] σ (upd H D (.lst []))) (hl:∀ i ys σ H,i≤xs.length→Pv i ys σ H→SqL K H a xs)
  (hs:∀ i x ys σ H,xs[i]?=some x→H D=some (.lst ys)→Pv i ys σ H→g x σ H fun σ2 H2=>tt σ2 H2 fun b H3=>if b=true then te σ2 H3 fun y H4=>zbf (.ref D) [y] H4 fun _ H5=>∃ ys,H5 D=some (.lst ys)∧Pv (i+1) ys σ2 H5 else ∃ ys,H3 D=some (.lst ys)∧Pv (i+1) ys σ2 H3)
  (hd:∀ ys σ H,H D=some (.lst ys)→Pv xs.length ys σ H→Q (.ref D) H) :
  ∃ W:Nat→Nat→St→Hp→Prop,(∃ m,W 0 m σ (upd H D (.lst [])))∧∀ i m σc Hc,W i m σc Hc →
   ((Itl K a).stop i Hc∧Q (.ref D) Hc)∨((Itl K a).go i Hc∧∃ N:St→Hp→Prop,(∀ σ' H',N σ' H'→∃ m',m'<m∧W (i+1) m' σ' H')∧∀ x H',(Itl K a).yld i Hc x H'→g x σc H' fun σ2 H2=>tt σ2 H2 fun b H3=>if b=true then te σ2 H3 fun y H4=>zbf (.ref D) [y] H4 fun _ H5=>N σ2 H5 else N σ2 H3):=by
 refine ⟨fun i m σ H=>m=xs.length - i∧i≤xs.length∧∃ ys,H D=some (.lst ys)∧Pv i ys σ H,⟨_,rfl,Nat.zero_le _,[],zaj,h0⟩,?_⟩
 rintro i m σ H ⟨rfl,hi,ys,hD,pv⟩
 have q:=hl i ys σ H hi pv
 by_cases hlt:i<xs.length
 ·refine .inr ⟨⟨xs,xs[i],q,by simp [hlt]⟩,fun σ H=>∃ ys,H D=some (.lst ys)∧Pv (i+1) ys σ H,fun σ' H' p'=>⟨_,by (first|lia|omega),rfl,hlt,p'⟩,fun x H' yl=>?_⟩
  obtain ⟨e,yl⟩:=yl
  subst e
  exact hs i x ys σ _ (yl xs q) hD pv
 ·have e:i=xs.length:=by (first|lia|omega)
  subst e
  exact .inl ⟨⟨xs,q,Nat.le_refl _⟩,hd ys σ H hD pv⟩
theorem zjI {lo:Int} {n:Nat} {g:TG} {tt:TT} {te:TE} {σ:St} {H:Hp} {D:Addr} {Q:VK} (Pv:Nat→List V→St→Hp→Prop) (h0:Pv 0 [] σ (upd H D (.lst [])))
  (hs:∀ i ys σ H,i<n→H D=some (.lst ys)→Pv i ys σ H→g (.int (lo+i)) σ H fun σ2 H2=>tt σ2 H2 fun b H3=>if b=true then te σ2 H3 fun y H4=>zbf (.ref D) [y] H4 fun _ H5=>∃ ys,H5 D=some (.lst ys)∧Pv (i+1) ys σ2 H5 else ∃ ys,H3 D=some (.lst ys)∧Pv (i+1) ys σ2 H3)
  (hd:∀ ys σ H,H D=some (.lst ys)→Pv n ys σ H→Q (.ref D) H) :
  ∃ W:Nat→Nat→St→Hp→Prop,(∃ m,W 0 m σ (upd H D (.lst [])))∧∀ i m σc Hc,W i m σc Hc →
   ((Itr lo n).stop i Hc∧Q (.ref D) Hc)∨((Itr lo n).go i Hc∧∃ N:St→Hp→Prop,(∀ σ' H',N σ' H'→∃ m',m'<m∧W (i+1) m' σ' H')∧∀ x H',(Itr lo n).yld i Hc x H'→g x σc H' fun σ2 H2=>tt σ2 H2 fun b H3=>if b=true then te σ2 H3 fun y H4=>zbf (.ref D) [y] H4 fun _ H5=>N σ2 H5 else N σ2 H3):=by
 refine ⟨fun i m σ H=>m=n - i∧i≤n∧∃ ys,H D=some (.lst ys)∧Pv i ys σ H,⟨_,rfl,Nat.zero_le _,[],zaj,h0⟩,?_⟩
 rintro i m σ H ⟨rfl,hi,ys,hD,pv⟩
 by_cases hlt:i<n
 ·refine .inr ⟨hlt,fun σ H=>∃ ys,H D=some (.lst ys)∧Pv (i+1) ys σ H,fun σ' H' p'=>⟨_,by (first|lia|omega),rfl,hlt,p'⟩,fun x H' yl=>?_⟩
  obtain ⟨e,yl⟩:=yl
  subst e yl
  exact hs i ys σ _ hlt hD pv
 ·have e:i=n:=by (first|lia|omega)
  subst e
  exact .inl ⟨Nat.le_refl _,hd ys σ H hD pv⟩
end L2
namespace L2
open PySem PySem.Spec PyProof.Rows
theorem zkX (bs:List Bool):(List.range bs.length).all (fun i=>bs.getD i false)=bs.all id:=by
 rw [Bool.eq_iff_iff,List.all_eq_true,List.all_eq_true]
 constructor
 ·intro h x hx
  obtain ⟨i,hi,e⟩:=List.getElem_of_mem hx
  have:=h i (List.mem_range.mpr hi)
  rw [List.getD_eq_getElem?_getD,List.getElem?_eq_getElem hi] at this
  rw [← e]
  exact this
 ·intro h i hi
  have hi:=List.mem_range.mp hi
  rw [List.getD_eq_getElem?_getD,List.getElem?_eq_getElem hi]
  exact h _ (List.getElem_mem hi)
def rAll (K:PySem.W.Frag):List V→Hp→VK→Prop:=fun xs H Q=>∃ (p:Addr) (bs:List Bool),xs=[.ref p]∧SqL K H p (bs.map V.bl)∧Q (.bl (bs.all id)) H
def zij (K:PySem.W.Frag):List V→Hp→VK→Prop:=fun xs H Q=>∃ (p:Addr) (ns:List Int),xs=[.ref p]∧SqL K H p (ns.map V.int)∧Q (.int ns.sum) H
theorem zqP {bs:List Bool} {its:List Value} {i:Nat} {v:Value} (r:zbJ (bs.map V.bl) its) (e:its.toArray[i]?=some v):v=.bool (bs.getD i false):=by
 have l:=r.length
 rw [List.length_map] at l
 have e':its[i]?=some v:=by simpa using e
 have hi:i<bs.length:=by rw [l];exact (List.getElem?_eq_some_iff.mp e').1
 obtain ⟨u,hu,ru⟩:=r.get (i:=i) (x:=.bl bs[i]) (by rw [List.getElem?_map,List.getElem?_eq_getElem hi];rfl)
 rw [e'] at hu
 cases hu
 cases ru
 rw [List.getD_eq_getElem?_getD,List.getElem?_eq_getElem hi]
 rfl
theorem zmX {P:Program} {w:World} {A:Around} {bs:List Bool} {its:List Value} (r:zbJ (bs.map V.bl) its):TruthOf P w A (fun i v=>its.toArray[i]?=some v) fun i=>bs.getD i false:=fun i v s Q E hP hQ=>by
 rw [zqP r hP]
 exact wpAny_pure hQ
section
variable {X:Cx}
theorem zje (hc:X.calm=true):zhW X (.builtin "all") (rAll X.K):=by
 intro pins s σ H xs us Q I r h
 obtain ⟨p,bs,rfl,hl,q⟩:=h
 obtain ⟨u,rfl,ru⟩:=r.one
 cases ru
 obtain ⟨its,rv,pl,_⟩:=I.list hl
 have l:=rv.length
 rw [List.length_map] at l
 obtain ⟨o,n,e,_⟩:=id pl
 have hne:p≠s.heap.objs.size:=Nat.ne_of_lt (Heap.lt_size e)
 refine call_all_walk (wpAny_pyIter_list pl.isList ?_)
 refine ⟨s.heap.objs.size,_,_,_,_,_,fun i=>bs.getD i false,rfl,Walks.list (A:=X.A.in1) (I.ok.hd hc) _ p hne its.toArray,⟨⟨_,Heap.get?_push_size _ rfl,rfl,rfl⟩,?_⟩,zmX rv,fun h' tk hk=>⟨.bl _,H,I.kept fun b u eb=>?_,rfl,?_⟩⟩
 ·exact pl.isList.at fun o e=>Heap.get?_push_of_some _ e
 ·exact hk b u (fun z=>Nat.ne_of_lt (Heap.lt_size eb) (by simpa using z)) (Heap.get?_push_of_some _ eb)
 ·rw [List.size_toArray,← l,zkX]
  exact q
theorem zog {ns:List Int} {its:List Value} {i:Nat} {v:Value} (r:zbJ (ns.map V.int) its) (e:its.toArray[i]?=some v):∃ t,v=.int (ns.getD i 0) t:=by
 have l:=r.length
 rw [List.length_map] at l
 have e':its[i]?=some v:=by simpa using e
 have hi:i<ns.length:=by rw [l];exact (List.getElem?_eq_some_iff.mp e').1
 obtain ⟨u,hu,ru⟩:=r.get (i:=i) (x:=.int ns[i]) (by rw [List.getElem?_map,List.getElem?_eq_getElem hi];rfl)
 rw [e'] at hu
 cases hu
 obtain ⟨t,rfl⟩:=ru
 refine ⟨t,?_⟩
 rw [List.getD_eq_getElem?_getD,List.getElem?_eq_getElem hi]
 rfl
theorem zgs (ns:List Int):∀ k,k≤ns.length→preSum (fun i=>ns.getD i 0) k=(ns.take k).sum
 | 0,_=>by simp [preSum]
 | k+1,h=>by
  rw [preSum,zgs ns k (by (first|lia|omega)),List.take_add_one,List.getElem?_eq_getElem (by (first|lia|omega)),List.sum_append,List.getD_eq_getElem?_getD,List.getElem?_eq_getElem (by (first|lia|omega))]
  simp
theorem zcs (hc:X.calm=true):zhW X (.builtin "sum") (zij X.K):=by
 intro pins s σ H xs us Q I r h
 obtain ⟨p,ns,rfl,hl,q⟩:=h
 obtain ⟨u,rfl,ru⟩:=r.one
 cases ru
 obtain ⟨its,rv,pl,_⟩:=I.list hl
 have l:=rv.length
 rw [List.length_map] at l
 obtain ⟨o,n,e,_⟩:=id pl
 have hlt:=Heap.lt_size e
 have hne:p≠s.heap.objs.size:=Nat.ne_of_lt hlt
 refine call_sum_walkG (wpAny_pyIter_list pl.isList ?_)
 refine ⟨s.heap.objs.size,_,_,_,_,_,fun i=>ns.getD i 0,rfl,Walks.list (A:=X.A.in1) (I.ok.hd hc) _ p hne its.toArray,⟨⟨_,Heap.get?_push_size _ rfl,rfl,rfl⟩,?_⟩,fun b hb=>?_,fun i v hv=>zog rv hv,fun h' tk t' hk=>⟨.int _,H,I.kept fun b u eb=>?_,⟨t',rfl⟩,?_⟩⟩
 ·exact pl.isList.at fun o e=>Heap.get?_push_of_some _ e
 ·rw [Heap.size_push]
  rcases List.mem_cons.mp hb with z | z
  ·rw [z];exact Nat.lt_succ_self _
  ·have z':b=p:=by simpa using z
   rw [z'];exact Nat.lt_succ_of_lt hlt
 ·exact hk b u (fun z=>Nat.ne_of_lt (Heap.lt_size eb) (by simpa using z)) (Heap.get?_push_of_some _ eb)
 ·rw [List.size_toArray,← l,zgs _ _ (Nat.le_refl _),List.take_length]
  exact q
end
end L2
namespace L2
open PySem PySem.Spec PyProof.Rows
def Itz (K:PySem.W.Frag) (p q:Addr):It where
 go:=fun i H=>∃ xs ys a b,SqL K H p xs∧SqL K H q ys∧xs[i]?=some a∧ys[i]?=some b
 yld:=fun i H x H'=>∃ t a b,x=.ref t∧H t=none∧H'=upd H t (.tup [a,b])∧(∀ xs,SqL K H p xs→xs[i]?=some a)∧∀ ys,SqL K H q ys→ys[i]?=some b
 stop:=fun i H=>∃ xs ys,SqL K H p xs∧SqL K H q ys∧i=min xs.length ys.length
def tnZ (z TI TO i1 i2 p q:Addr) (i:Nat) (h:Heap):Prop:=IsZip h z TI TO .none∧IsPair h TI (.ref i1) (.ref i2)∧(∃ a b,IsPair h TO a b)∧h.IsListIter i1 p i∧h.IsListIter i2 q i
theorem zmD {z TI TO i1 i2 p q:Addr} {i:Nat} {h h':Heap} (st:tnZ z TI TO i1 i2 p q i h) (k:∀ b∈[z,TI,TO,i1,i2],∀ o,h.get? b=some o→h'.get? b=some o):tnZ z TI TO i1 i2 p q i h':=by
 obtain ⟨a1,a2,⟨x,y,a3⟩,a4,a5⟩:=st
 exact ⟨k z (by simp) _ a1,k TI (by simp) _ a2,⟨x,y,k TO (by simp) _ a3⟩,a4.at fun o e=>k i1 (by simp) o e,a5.at fun o e=>k i2 (by simp) o e⟩
theorem zdg {o:Obj} {vs:Array Value} (h:o.data=.fields vs):∀ v,o.data≠.cell v:=fun v z=>by rw [h] at z;cases z
theorem zm3 {P:Program} {w:World} {K:PySem.W.Frag} {elts:List Expr} {k:Nat} {pos:Pos} {z TI TO i1 i2 p q:Addr} (D:ZipApart z TI TO i1 i2 p q):Turn P w K (.Tuple elts k pos) (Itz K p q) [z,TI,TO,i1,i2] z (tnZ z TI TO i1 i2 p q) where
 mem:=by simp
 obj:=fun i h st b hb=>by
  obtain ⟨a1,a2,⟨x,y,a3⟩,⟨o4,a4,_,d4⟩,⟨o5,a5,_,d5⟩⟩:=st
  simp only [List.mem_cons,List.not_mem_nil,or_false] at hb
  rcases hb with rfl | rfl | rfl | rfl | rfl
  ·exact ⟨_,a1,zdg rfl⟩
  ·exact ⟨_,a2,fun v z=>nomatch (show Data.seq _ _=Data.cell v from z)⟩
  ·exact ⟨_,a3,fun v z=>nomatch (show Data.seq _ _=Data.cell v from z)⟩
  ·exact ⟨_,a4,zdg d4⟩
  ·exact ⟨_,a5,zdg d5⟩
 keep:=fun i h h' st kk=>zmD st kk
 item:=by
  intro X hP hw hK hc i pins s σ H E I hf st hg
  subst hP hw hK
  obtain ⟨xs,ys,a,b,hx,hy,ea,eb⟩:=hg
  obtain ⟨its1,r1,pl1,z1⟩:=I.list hx
  obtain ⟨its2,r2,pl2,z2⟩:=I.list hy
  obtain ⟨ua,eua,rua⟩:=r1.get ea
  obtain ⟨ub,eub,rub⟩:=r2.get eb
  obtain ⟨s1,s2,s3,s4,s5⟩:=st
  have W:=WalksT.zip2 (prog:=X.prog) (w:=X.w) (A:=X.A) (I.ok.hd hc) z TI TO i1 i2 p q D its1.toArray its2.toArray
  have hi:i<min its1.toArray.size its2.toArray.size:=by
   have h1:=(List.getElem?_eq_some_iff.mp eua).1
   have h2:=(List.getElem?_eq_some_iff.mp eub).1
   simp only [List.size_toArray]
   (first|lia|omega)
  refine W.item i s _ _ hi ⟨s1,s2,s3,s4,s5,pl1.isList,pl2.isList⟩ fun T vals h' tk hp hT hTup mid kk=>⟨_,rfl,?_⟩
  obtain ⟨u,v,e1,e2,rfl⟩:=hp
  have e1':u=ua:=by
   have:its1[i]?=some u:=by simpa using e1
   rw [eua] at this;cases this;rfl
  have e2':v=ub:=by
   have:its2[i]?=some v:=by simpa using e2
   rw [eub] at this;cases this;rfl
  subst e1' e2'
  refine W.go elts k pos i T { s with heap:=h',toks:=tk } _ _ mid fun h2 st2 kk2=>?_
  obtain ⟨t1,t2,t3,t4,t5,_,_⟩:=st2
  have sub:∀ b∈[z,TO,i1,i2],b∈[z,TI,TO,i1,i2]:=fun b hb=>by
   simp only [List.mem_cons,List.not_mem_nil,or_false] at hb ⊢
   rcases hb with h | h | h | h <;> simp [h]
  have I1:Inv X pins σ H { s with heap:=h2,toks:=tk }:=I.turns (ch:=[z,TO,i1,i2]) (fun b o hb e=>kk2 b o hb (kk b o hb e)) fun b hb=>hf b (sub b hb)
  have nT:H T=none:=I.hok.fresh hT
  have I2:=I1.track (a:=T) (o:=.tup [a,b]) nT (Heap.get?_none_of_le (Nat.le_trans I.sz hT)) (Nat.ne_of_gt (Nat.lt_of_lt_of_le I.lt hT)) (fun x c e=>by
   obtain ⟨v,q⟩:=I.cell x c e
   exact Nat.ne_of_lt (Nat.lt_of_lt_of_le q.lt hT)) (fun p hp=>Nat.ne_of_lt (Nat.lt_of_lt_of_le (Heap.lt_size (I.pin p hp).1) hT)) (by
   refine ⟨by show 2≤sizeLine;decide,[u,v],.cons rua (.cons rub .nil),?_⟩
   obtain ⟨o,ho,hcl,hd⟩:=hTup
   exact ⟨o,kk2 T o (W.apart i T h' mid) ho,hcl,hd⟩)
  refine ⟨.ref T,_,I2,rfl,⟨T,a,b,rfl,nT,rfl,fun xs' h'=>?_,fun ys' h'=>?_⟩,⟨t1,t2,t3,t4,t5⟩,fun b hb=>?_⟩
  ·rw [I.list_inj h' hx];exact ea
  ·rw [I.list_inj h' hy];exact eb
  ·have hb2:∃ o,s.heap.get? b=some o:=by
    obtain ⟨x3,y3,s3⟩:=s3
    obtain ⟨o4,s4,_⟩:=s4
    obtain ⟨o5,s5,_⟩:=s5
    simp only [List.mem_cons,List.not_mem_nil,or_false] at hb
    rcases hb with h | h | h | h | h <;> rw [h] <;> first | exact ⟨_,s1⟩ | exact ⟨_,s2⟩ | exact ⟨_,s3⟩ | exact ⟨_,s4⟩ | exact ⟨_,s5⟩
   obtain ⟨o,e⟩:=hb2
   rw [zaX (Nat.ne_of_lt (Nat.lt_of_lt_of_le (Heap.lt_size e) hT))]
   exact (hf b hb).1
 done:=by
  intro X hP hw hK hc i pins s σ H E I hf st hg
  subst hP hw hK
  obtain ⟨xs,ys,hx,hy,rfl⟩:=hg
  obtain ⟨its1,r1,pl1,z1⟩:=I.list hx
  obtain ⟨its2,r2,pl2,z2⟩:=I.list hy
  obtain ⟨s1,s2,s3,s4,s5⟩:=st
  have W:=WalksT.zip2 (prog:=X.prog) (w:=X.w) (A:=X.A) (I.ok.hd hc) z TI TO i1 i2 p q D its1.toArray its2.toArray
  have sub:∀ b∈[z,TO,i1,i2],b∈[z,TI,TO,i1,i2]:=fun b hb=>by
   simp only [List.mem_cons,List.not_mem_nil,or_false] at hb ⊢
   rcases hb with h | h | h | h <;> simp [h]
  refine W.done s _ _ ?_ fun h' tk kk=>⟨rfl,I.turns (ch:=[z,TO,i1,i2]) (fun b o hb e=>kk b o hb e) fun b hb=>hf b (sub b hb)⟩
  rw [List.size_toArray,List.size_toArray,← r1.length,← r2.length]
  exact ⟨s1,s2,s3,s4,s5,pl1.isList,pl2.isList⟩
 self:=fun A i s Q E st h=>wpAny_pyIter_zip st.1 h
def zhe (K:PySem.W.Frag) (ta:TA):TI:=fun σ H R=>ta σ H fun vs H1=>∃ p q,vs=[.ref p,.ref q]∧(∃ xs,SqL K H1 p xs)∧(∃ ys,SqL K H1 q ys)∧R (Itz K p q) H1
theorem zdv {X:Cx} {a b:Expr} {elts:List Expr} {k:Nat} {tp p pos:Pos} {ta:TA} (hg:Gl X "zip") (hm:X.mg "zip"=none) (ha:PA X [a,b] ta) (hs:starEach [a,b] X.env=[(false,eval a X.env),(false,eval b X.env)]:=by rfl) (hs2:starEach [b] X.env=[(false,eval b X.env)]:=by rfl) :
  PI X (.Tuple elts k tp) (.Call (.Name "zip" p) [a,b] [] pos) (zhe X.K ta):=by
 intro pins s σ H R I h
 refine Call_ (zfW I hg hm boot_zip (PyProof.Rows.callWith_type1 (thn (ha pos pins s σ H _ I h) fun us s1 hQ'=>?_) (by rw [hs,hs2]) (by rw [hs2];rfl)))
 obtain ⟨vs,H1,I1,r1,q1⟩:=hQ'
 obtain ⟨p1,p2,rfl,⟨xs,hx⟩,⟨ys,hy⟩,q⟩:=q1
 obtain ⟨u,v,rfl,ru,rv⟩:=zrL r1
 cases ru
 cases rv
 obtain ⟨its1,_,pl1,_⟩:=I1.list hx
 obtain ⟨its2,_,pl2,_⟩:=I1.list hy
 have a1:p1<s1.heap.objs.size:=by obtain ⟨_,e,_⟩:=pl1.isList;exact Heap.lt_size e
 have a2:p2<s1.heap.objs.size:=by obtain ⟨_,e,_⟩:=pl2.isList;exact Heap.lt_size e
 refine call_zip_2 pl1.isList pl2.isList fun h' hz hTI hTO hi1 hi2 hsz hk=>?_
 refine wpAny_pyIter_zip hz ?_
 refine ⟨_,_,_,_,H1,rfl,I1.kept (t':=s1.toks) hk,zm3 (zipApart_new a1 a2),⟨hz,hTI,⟨_,_,hTO⟩,hi1,hi2⟩,fun b hb=>?_,q⟩
 have hb':s1.heap.objs.size≤b:=by
  simp only [List.mem_cons,List.not_mem_nil,or_false] at hb
  rcases hb with h | h | h | h | h <;> rw [h] <;> first | exact Nat.le_refl _ | exact Nat.le_add_right _ _
 exact I1.fpOk hb' (I1.hok.fresh hb')
theorem znG {K:PySem.W.Frag} {p q:Addr} {xs ys:List V} {g:TG} {tb:TS} {D:zch} {σ:St} {H:Hp} (Pv:Nat→St→Hp→Prop) (h0:Pv 0 σ H) (hl:∀ i σ H,i≤min xs.length ys.length→Pv i σ H→SqL K H p xs∧SqL K H q ys)
  (hs:∀ i x y t σ H,xs[i]?=some x→ys[i]?=some y→Pv i σ H→H t=none→g (.ref t) σ (upd H t (.tup [x,y])) fun σ2 H2=>tb { D with nx:=Pv (i+1),ct:=Pv (i+1),bk:=D.nx } σ2 H2) (hd:∀ σ H,Pv (min xs.length ys.length) σ H→D.nx σ H) :
  ∃ W:Nat→Nat→St→Hp→Prop,(∃ m,W 0 m σ H)∧∀ i m σ H,W i m σ H →
   ((Itz K p q).stop i H∧D.nx σ H)∨((Itz K p q).go i H∧∃ N:St→Hp→Prop,(∀ σ' H',N σ' H'→∃ m',m'<m∧W (i+1) m' σ' H')∧∀ x H',(Itz K p q).yld i H x H'→g x σ H' fun σ2 H2=>tb { D with nx:=N,ct:=N,bk:=D.nx } σ2 H2):=by
 refine ⟨fun i m σ H=>m=min xs.length ys.length - i∧i≤min xs.length ys.length∧Pv i σ H,⟨_,rfl,Nat.zero_le _,h0⟩,?_⟩
 rintro i m σ H ⟨rfl,hi,pv⟩
 obtain ⟨hx,hy⟩:=hl i σ H hi pv
 by_cases hlt:i<min xs.length ys.length
 ·have l1:i<xs.length:=by (first|lia|omega)
  have l2:i<ys.length:=by (first|lia|omega)
  refine .inr ⟨⟨xs,ys,xs[i],ys[i],hx,hy,by simp [l1],by simp [l2]⟩,Pv (i+1),fun σ' H' p'=>⟨_,by (first|lia|omega),rfl,hlt,p'⟩,fun x H' yl=>?_⟩
  obtain ⟨t,a,b,rfl,ht,rfl,e1,e2⟩:=yl
  exact hs i a b t σ H (e1 xs hx) (e2 ys hy) pv ht
 ·have e:i=min xs.length ys.length:=by (first|lia|omega)
  subst e
  exact .inl ⟨⟨xs,ys,hx,hy,rfl⟩,hd σ H pv⟩
theorem zlW {K:PySem.W.Frag} {p q:Addr} {xs zs:List V} {g:TG} {tt:TT} {te:TE} {σ:St} {H:Hp} {D:Addr} {Q:VK} (Pv:Nat→List V→St→Hp→Prop) (h0:Pv 0 [] σ (upd H D (.lst [])))
  (hl:∀ i ys σ H,i≤min xs.length zs.length→Pv i ys σ H→SqL K H p xs∧SqL K H q zs)
  (hs:∀ i x z t ys σ H,xs[i]?=some x→zs[i]?=some z→H D=some (.lst ys)→Pv i ys σ H→H t=none→g (.ref t) σ (upd H t (.tup [x,z])) fun σ2 H2=>tt σ2 H2 fun b H3=>if b=true then te σ2 H3 fun y H4=>zbf (.ref D) [y] H4 fun _ H5=>∃ ys,H5 D=some (.lst ys)∧Pv (i+1) ys σ2 H5 else ∃ ys,H3 D=some (.lst ys)∧Pv (i+1) ys σ2 H3)
  (hd:∀ ys σ H,H D=some (.lst ys)→Pv (min xs.length zs.length) ys σ H→Q (.ref D) H) :
  ∃ W:Nat→Nat→St→Hp→Prop,(∃ m,W 0 m σ (upd H D (.lst [])))∧∀ i m σc Hc,W i m σc Hc →
   ((Itz K p q).stop i Hc∧Q (.ref D) Hc)∨((Itz K p q).go i Hc∧∃ N:St→Hp→Prop,(∀ σ' H',N σ' H'→∃ m',m'<m∧W (i+1) m' σ' H')∧∀ x H',(Itz K p q).yld i Hc x H'→g x σc H' fun σ2 H2=>tt σ2 H2 fun b H3=>if b=true then te σ2 H3 fun y H4=>zbf (.ref D) [y] H4 fun _ H5=>N σ2 H5 else N σ2 H3):=by
 refine ⟨fun i m σ H=>m=min xs.length zs.length - i∧i≤min xs.length zs.length∧∃ ys,H D=some (.lst ys)∧Pv i ys σ H,⟨_,rfl,Nat.zero_le _,[],zaj,h0⟩,?_⟩
 rintro i m σ H ⟨rfl,hi,ys,hD,pv⟩
 obtain ⟨hx,hz⟩:=hl i ys σ H hi pv
 by_cases hlt:i<min xs.length zs.length
 ·have l1:i<xs.length:=by (first|lia|omega)
  have l2:i<zs.length:=by (first|lia|omega)
  refine .inr ⟨⟨xs,zs,xs[i],zs[i],hx,hz,by simp [l1],by simp [l2]⟩,fun σ H=>∃ ys,H D=some (.lst ys)∧Pv (i+1) ys σ H,fun σ' H' p'=>⟨_,by (first|lia|omega),rfl,hlt,p'⟩,fun x H' yl=>?_⟩
  obtain ⟨t,a,b,rfl,ht,rfl,e1,e2⟩:=yl
  exact hs i a b t ys σ H (e1 xs hx) (e2 zs hz) hD pv ht
 ·have e:i=min xs.length zs.length:=by (first|lia|omega)
  subst e
  exact .inl ⟨⟨xs,zs,hx,hz,rfl⟩,hd ys σ H hD pv⟩
end L2
namespace L2
open PySem PySem.Spec PyProof.Rows
section
variable {X:Cx}
end
def zfc (J:It) (g:TG) (tt:TT) (te:TE) (D:Addr) (Q:VK) (σ:St) (H:Hp):Prop:=∃ W:Nat→Nat→St→Hp→Prop,(∃ m,W 0 m σ H)∧∀ i m σc Hc,W i m σc Hc →
 (J.stop i Hc∧Q (.ref D) Hc)∨(J.go i Hc∧∃ N:St→Hp→Prop,(∀ σ' H',N σ' H'→∃ m',m'<m∧W (i+1) m' σ' H')∧∀ x H',J.yld i Hc x H'→g x σc H' fun σ2 H2=>tt σ2 H2 fun b H3=>if b=true then te σ2 H3 fun y H4=>zbf (.ref D) [y] H4 fun _ H5=>N σ2 H5 else N σ2 H3)
theorem zm2 {wi:TI} {g:TG} {tt:TT} {te:TE} {cap:List (Option Nat)} {σ:St} {H:Hp} {Q:VK}:zbn wi g tt te cap σ H Q=wi σ H fun J H1=>∀ D,H1 D=none→zfc J g tt te D Q (zpD cap σ) (upd H1 D (.lst [])):=rfl
theorem zb4 {K:PySem.W.Frag} {a:Addr} {xs:List V} {g:TG} {tt:TT} {te:TE} {σ:St} {H:Hp} {D:Addr} {Q:VK} (Pv:Nat→List V→St→Hp→Prop) (h0:Pv 0 [] σ (upd H D (.lst []))) (hl:∀ i ys σ H,i≤xs.length→Pv i ys σ H→SqL K H a xs)
  (hs:∀ i x ys σ H,xs[i]?=some x→H D=some (.lst ys)→Pv i ys σ H→g x σ H fun σ2 H2=>tt σ2 H2 fun b H3=>if b=true then te σ2 H3 fun y H4=>zbf (.ref D) [y] H4 fun _ H5=>∃ ys,H5 D=some (.lst ys)∧Pv (i+1) ys σ2 H5 else ∃ ys,H3 D=some (.lst ys)∧Pv (i+1) ys σ2 H3)
  (hd:∀ ys σ H,H D=some (.lst ys)→Pv xs.length ys σ H→Q (.ref D) H):zfc (Itl K a) g tt te D Q σ (upd H D (.lst [])):=zkt Pv h0 hl hs hd
theorem zis {lo:Int} {n:Nat} {g:TG} {tt:TT} {te:TE} {σ:St} {H:Hp} {D:Addr} {Q:VK} (Pv:Nat→List V→St→Hp→Prop) (h0:Pv 0 [] σ (upd H D (.lst [])))
  (hs:∀ i ys σ H,i<n→H D=some (.lst ys)→Pv i ys σ H→g (.int (lo+i)) σ H fun σ2 H2=>tt σ2 H2 fun b H3=>if b=true then te σ2 H3 fun y H4=>zbf (.ref D) [y] H4 fun _ H5=>∃ ys,H5 D=some (.lst ys)∧Pv (i+1) ys σ2 H5 else ∃ ys,H3 D=some (.lst ys)∧Pv (i+1) ys σ2 H3)
  (hd:∀ ys σ H,H D=some (.lst ys)→Pv n ys σ H→Q (.ref D) H):zfc (Itr lo n) g tt te D Q σ (upd H D (.lst [])):=zjI Pv h0 hs hd
theorem zc7 {K:PySem.W.Frag} {p q:Addr} {xs zs:List V} {g:TG} {tt:TT} {te:TE} {σ:St} {H:Hp} {D:Addr} {Q:VK} (Pv:Nat→List V→St→Hp→Prop) (h0:Pv 0 [] σ (upd H D (.lst [])))
  (hl:∀ i ys σ H,i≤min xs.length zs.length→Pv i ys σ H→SqL K H p xs∧SqL K H q zs)
  (hs:∀ i x z t ys σ H,xs[i]?=some x→zs[i]?=some z→H D=some (.lst ys)→Pv i ys σ H→H t=none→g (.ref t) σ (upd H t (.tup [x,z])) fun σ2 H2=>tt σ2 H2 fun b H3=>if b=true then te σ2 H3 fun y H4=>zbf (.ref D) [y] H4 fun _ H5=>∃ ys,H5 D=some (.lst ys)∧Pv (i+1) ys σ2 H5 else ∃ ys,H3 D=some (.lst ys)∧Pv (i+1) ys σ2 H3)
  (hd:∀ ys σ H,H D=some (.lst ys)→Pv (min xs.length zs.length) ys σ H→Q (.ref D) H):zfc (Itz K p q) g tt te D Q σ (upd H D (.lst [])):=zlW Pv h0 hl hs hd
theorem zmJ {K:PySem.W.Frag} {p q:Addr} {xs ys:List V} {g:TG} {tb:TS} {D:zch} {σ:St} {H:Hp} (Pv:Nat→St→Hp→Prop) (h0:Pv 0 σ H) (hl:∀ i σ H,i≤min xs.length ys.length→Pv i σ H→SqL K H p xs∧SqL K H q ys)
  (hs:∀ i x y t σ H,xs[i]?=some x→ys[i]?=some y→Pv i σ H→H t=none→g (.ref t) σ (upd H t (.tup [x,y])) fun σ2 H2=>tb { D with nx:=Pv (i+1),ct:=Pv (i+1),bk:=D.nx } σ2 H2) (hd:∀ σ H,Pv (min xs.length ys.length) σ H→D.nx σ H):zml (Itz K p q) g tb D σ H:=znG Pv h0 hl hs hd
end L2
namespace L2
open PySem PySem.Spec PyProof.Rows
section
variable {X:Cx}
theorem zk3:∀ {xs:List V} {us:List Value},xs.length=us.length→(∀ (j:Nat) x u,xs[j]?=some x→us[j]?=some u→zcF x u)→zbJ xs us
 | [],[],_,_=>.nil
 | [],_::_,h,_=>by simp at h
 | _::_,[],h,_=>by simp at h
 | x::xs,u::us,h,r=>.cons (r 0 x u rfl rfl) (zk3 (by simpa using h) fun j y v e1 e2=>r (j+1) y v e1 e2)
end
end L2
namespace L2
open PySem PySem.Spec PyProof.Rows
section
variable {X:Cx}
theorem zja:∀ {ns:List Int} {us:List Value},zbJ (ns.map V.int) us→IntsAre us ns
 | [],_,r=>by rw [List.map_nil] at r;cases r;exact .nil
 | n::ns,_,r=>by
  rw [List.map_cons] at r
  cases r with
  | cons h t =>
   obtain ⟨t',rfl⟩:=h
   exact .cons _ _ (zja t)
theorem zhu:∀ {ns:List Int} {us:List Value},IntsAre us ns→zbJ (ns.map V.int) us
 | _,_,.nil=>.nil
 | _,_,.cons n t r=>.cons ⟨t,rfl⟩ (zhu r)
theorem zjV {pins:List (Addr×Obj)} {σ:St} {H:Hp} {s:Shared} {l:Addr} {h':Heap} {tk:Nat} {out:Array Value} {e:Nat} {ns':List Int} {Q:VK} (I:Inv X pins σ H s) (kp:∀ b o,s.heap.get? b=some o→h'.get? b=some o) (hlt:s.heap.objs.size≤l)
  (ho:h'.get? l=some (seqObj "list" out e)) (hI:IntsAre out.toList ns') (hl:ns'.length<64) (q:H l=none→Q (.ref l) (upd H l (.lst (ns'.map V.int)))):EP X pins σ Q (.ref l) { s with heap:=h',toks:=tk }:=by
 refine ⟨.ref l,_,I.laid (t':=tk) kp hlt (show zcG X.prog X.w _ h' _ (.lst (ns'.map V.int)) from ⟨?_,out.toList,e,zhu hI,ho⟩),rfl,q (I.hok.fresh hlt)⟩
 rw [List.length_map,sizeLine_eq]
 (first|lia|omega)
end
end L2
namespace L2
open PySem
theorem zov {v:V} {σ:List (Option V)} {H:Hp} {Q:VK}:zac 0 (some v::σ) H Q=Q v H:=by simp [zac]
theorem znV {x0:Option V} {v:V} {σ:List (Option V)} {H:Hp} {Q:VK}:zac 1 (x0::some v::σ) H Q=Q v H:=by simp [zac]
theorem zoK {x0 x1:Option V} {v:V} {σ:List (Option V)} {H:Hp} {Q:VK}:zac 2 (x0::x1::some v::σ) H Q=Q v H:=by simp [zac]
theorem zn7 {x0 x1 x2:Option V} {v:V} {σ:List (Option V)} {H:Hp} {Q:VK}:zac 3 (x0::x1::x2::some v::σ) H Q=Q v H:=by simp [zac]
theorem zoE {x0 x1 x2 x3:Option V} {v:V} {σ:List (Option V)} {H:Hp} {Q:VK}:zac 4 (x0::x1::x2::x3::some v::σ) H Q=Q v H:=by simp [zac]
theorem zn2 {x0 x1 x2 x3 x4:Option V} {v:V} {σ:List (Option V)} {H:Hp} {Q:VK}:zac 5 (x0::x1::x2::x3::x4::some v::σ) H Q=Q v H:=by simp [zac]
theorem zo1 {x0 x1 x2 x3 x4 x5:Option V} {v:V} {σ:List (Option V)} {H:Hp} {Q:VK}:zac 6 (x0::x1::x2::x3::x4::x5::some v::σ) H Q=Q v H:=by simp [zac]
theorem znU {x0 x1 x2 x3 x4 x5 x6:Option V} {v:V} {σ:List (Option V)} {H:Hp} {Q:VK}:zac 7 (x0::x1::x2::x3::x4::x5::x6::some v::σ) H Q=Q v H:=by simp [zac]
theorem zoX {x0 x1 x2 x3 x4 x5 x6 x7:Option V} {v:V} {σ:List (Option V)} {H:Hp} {Q:VK}:zac 8 (x0::x1::x2::x3::x4::x5::x6::x7::some v::σ) H Q=Q v H:=by simp [zac]
theorem znZ {x0 x1 x2 x3 x4 x5 x6 x7 x8:Option V} {v:V} {σ:List (Option V)} {H:Hp} {Q:VK}:zac 9 (x0::x1::x2::x3::x4::x5::x6::x7::x8::some v::σ) H Q=Q v H:=by simp [zac]
theorem zmC {x0 x1 x2 x3 x4 x5 x6 x7 x8 x9 x10:Option V} {v:V} {σ:List (Option V)} {H:Hp} {Q:VK}:zac 11 (x0::x1::x2::x3::x4::x5::x6::x7::x8::x9::x10::some v::σ) H Q=Q v H:=by simp [zac]
theorem zmZ {x0 x1 x2 x3 x4 x5 x6 x7 x8 x9 x10 x11:Option V} {v:V} {σ:List (Option V)} {H:Hp} {Q:VK}:zac 12 (x0::x1::x2::x3::x4::x5::x6::x7::x8::x9::x10::x11::some v::σ) H Q=Q v H:=by simp [zac]
theorem zmn {x0 x1 x2 x3 x4 x5 x6 x7 x8 x9 x10 x11 x12:Option V} {v:V} {σ:List (Option V)} {H:Hp} {Q:VK}:zac 13 (x0::x1::x2::x3::x4::x5::x6::x7::x8::x9::x10::x11::x12::some v::σ) H Q=Q v H:=by simp [zac]
theorem zmx {x0 x1 x2 x3 x4 x5 x6 x7 x8 x9 x10 x11 x12 x13:Option V} {v:V} {σ:List (Option V)} {H:Hp} {Q:VK}:zac 14 (x0::x1::x2::x3::x4::x5::x6::x7::x8::x9::x10::x11::x12::x13::some v::σ) H Q=Q v H:=by simp [zac]
theorem zlS {x0 x1 x2 x3 x4 x5 x6 x7 x8 x9 x10 x11 x12 x13 x14:Option V} {v:V} {σ:List (Option V)} {H:Hp} {Q:VK}:zac 15 (x0::x1::x2::x3::x4::x5::x6::x7::x8::x9::x10::x11::x12::x13::x14::some v::σ) H Q=Q v H:=by simp [zac]
theorem zlV {x0:Option V} {v:V} {σ:List (Option V)} {H:Hp} {Q:St→Hp→Prop}:zae 0 v (x0::σ) H Q=Q (some v::σ) H:=rfl
theorem zlT {x0 x1:Option V} {v:V} {σ:List (Option V)} {H:Hp} {Q:St→Hp→Prop}:zae 1 v (x0::x1::σ) H Q=Q (x0::some v::σ) H:=rfl
theorem zl5 {x0 x1 x2:Option V} {v:V} {σ:List (Option V)} {H:Hp} {Q:St→Hp→Prop}:zae 2 v (x0::x1::x2::σ) H Q=Q (x0::x1::some v::σ) H:=rfl
theorem zmr {x0 x1 x2 x3:Option V} {v:V} {σ:List (Option V)} {H:Hp} {Q:St→Hp→Prop}:zae 3 v (x0::x1::x2::x3::σ) H Q=Q (x0::x1::x2::some v::σ) H:=rfl
theorem zlM {x0 x1 x2 x3 x4:Option V} {v:V} {σ:List (Option V)} {H:Hp} {Q:St→Hp→Prop}:zae 4 v (x0::x1::x2::x3::x4::σ) H Q=Q (x0::x1::x2::x3::some v::σ) H:=rfl
theorem zmv {x0 x1 x2 x3 x4 x5:Option V} {v:V} {σ:List (Option V)} {H:Hp} {Q:St→Hp→Prop}:zae 5 v (x0::x1::x2::x3::x4::x5::σ) H Q=Q (x0::x1::x2::x3::x4::some v::σ) H:=rfl
theorem zlI {x0 x1 x2 x3 x4 x5 x6:Option V} {v:V} {σ:List (Option V)} {H:Hp} {Q:St→Hp→Prop}:zae 6 v (x0::x1::x2::x3::x4::x5::x6::σ) H Q=Q (x0::x1::x2::x3::x4::x5::some v::σ) H:=rfl
theorem zmW {x0 x1 x2 x3 x4 x5 x6 x7:Option V} {v:V} {σ:List (Option V)} {H:Hp} {Q:St→Hp→Prop}:zae 7 v (x0::x1::x2::x3::x4::x5::x6::x7::σ) H Q=Q (x0::x1::x2::x3::x4::x5::x6::some v::σ) H:=rfl
theorem zm4 {x0 x1 x2 x3 x4 x5 x6 x7 x8:Option V} {v:V} {σ:List (Option V)} {H:Hp} {Q:St→Hp→Prop}:zae 8 v (x0::x1::x2::x3::x4::x5::x6::x7::x8::σ) H Q=Q (x0::x1::x2::x3::x4::x5::x6::x7::some v::σ) H:=rfl
theorem zmp {x0 x1 x2 x3 x4 x5 x6 x7 x8 x9:Option V} {v:V} {σ:List (Option V)} {H:Hp} {Q:St→Hp→Prop}:zae 9 v (x0::x1::x2::x3::x4::x5::x6::x7::x8::x9::σ) H Q=Q (x0::x1::x2::x3::x4::x5::x6::x7::x8::some v::σ) H:=rfl
theorem zlr {x0 x1 x2 x3 x4 x5 x6 x7 x8 x9 x10:Option V} {v:V} {σ:List (Option V)} {H:Hp} {Q:St→Hp→Prop}:zae 10 v (x0::x1::x2::x3::x4::x5::x6::x7::x8::x9::x10::σ) H Q=Q (x0::x1::x2::x3::x4::x5::x6::x7::x8::x9::some v::σ) H:=rfl
theorem zle {x0 x1 x2 x3 x4 x5 x6 x7 x8 x9 x10 x11:Option V} {v:V} {σ:List (Option V)} {H:Hp} {Q:St→Hp→Prop}:zae 11 v (x0::x1::x2::x3::x4::x5::x6::x7::x8::x9::x10::x11::σ) H Q=Q (x0::x1::x2::x3::x4::x5::x6::x7::x8::x9::x10::some v::σ) H:=rfl
theorem zkS {x0 x1 x2 x3 x4 x5 x6 x7 x8 x9 x10 x11 x12:Option V} {v:V} {σ:List (Option V)} {H:Hp} {Q:St→Hp→Prop}:zae 12 v (x0::x1::x2::x3::x4::x5::x6::x7::x8::x9::x10::x11::x12::σ) H Q=Q (x0::x1::x2::x3::x4::x5::x6::x7::x8::x9::x10::x11::some v::σ) H:=rfl
theorem zld {x0 x1 x2 x3 x4 x5 x6 x7 x8 x9 x10 x11 x12 x13:Option V} {v:V} {σ:List (Option V)} {H:Hp} {Q:St→Hp→Prop}:zae 13 v (x0::x1::x2::x3::x4::x5::x6::x7::x8::x9::x10::x11::x12::x13::σ) H Q=Q (x0::x1::x2::x3::x4::x5::x6::x7::x8::x9::x10::x11::x12::some v::σ) H:=rfl
theorem zkN {x0 x1 x2 x3 x4 x5 x6 x7 x8 x9 x10 x11 x12 x13 x14:Option V} {v:V} {σ:List (Option V)} {H:Hp} {Q:St→Hp→Prop}:zae 14 v (x0::x1::x2::x3::x4::x5::x6::x7::x8::x9::x10::x11::x12::x13::x14::σ) H Q=Q (x0::x1::x2::x3::x4::x5::x6::x7::x8::x9::x10::x11::x12::x13::some v::σ) H:=rfl
theorem zke {x0 x1 x2 x3 x4 x5 x6 x7 x8 x9 x10 x11 x12 x13 x14 x15:Option V} {v:V} {σ:List (Option V)} {H:Hp} {Q:St→Hp→Prop}:zae 15 v (x0::x1::x2::x3::x4::x5::x6::x7::x8::x9::x10::x11::x12::x13::x14::x15::σ) H Q=Q (x0::x1::x2::x3::x4::x5::x6::x7::x8::x9::x10::x11::x12::x13::x14::some v::σ) H:=rfl
theorem rI_c {C:Int→Int→Prop} {g:Int→Int→V} {a b:Int} {H:Hp} {Q:VK}:rI C g (.int a) (.int b) H Q=(C a b∧Q (g a b) H):=by simp [rI]
theorem rI0_c {g:Int→Int→V} {a b:Int} {H:Hp} {Q:VK}:rI0 g (.int a) (.int b) H Q=Q (g a b) H:=by simp [rI0]
theorem zqS {K:PySem.W.Frag} {p:Addr} {i:Int} {H:Hp} {Q:VK}:zcX K (.ref p) (.int i) H Q=∃ xs,SqL K H p xs∧∃ v,atI xs i=some v∧Q v H:=by simp [zcX]
theorem zqa {K:PySem.W.Frag} {p:Addr} {i:Int} {H:Hp} {Q:VK}:zbu K (.ref p) (.int i) H Q=∃ xs,SqT K H p xs∧∃ v,atI xs i=some v∧Q v H:=by simp [zbu]
theorem ex_bl {c:Bool} {Q:Bool→Prop}:(∃ k,V.bl c=V.bl k∧Q k)=Q c:=by simp
theorem zrJ {c:Int} {Q:Int→Prop}:(∃ k,V.int c=V.int k∧Q k)=Q c:=by simp
theorem zqv {c:Addr} {Q:Addr→Prop}:(∃ k,V.ref c=V.ref k∧Q k)=Q c:=by simp
theorem zqE {c:Int} {Q:Int→Prop}:(∃ k,[V.int c]=[V.int k]∧Q k)=Q c:=by simp
theorem zp8 {c:Addr} {Q:Addr→Prop}:(∃ k,[V.ref c]=[V.ref k]∧Q k)=Q c:=by simp
end L2
namespace Att
open PySem PySem.W PySem.Calls PyProof.Rows
theorem zfG {x:Int}:∀ {ns:List Int},x∈ns→WData.weight (.int x)≤WData.weightAll (ns.map WData.int)
 | [],h=>absurd h (List.not_mem_nil)
 | y::ns,h=>by
  rw [List.map_cons,WData.weightAll]
  rcases List.mem_cons.mp h with e | e
  ·rw [← e]
   (first|lia|omega)
  ·have:=zfG e
   (first|lia|omega)
theorem zoD {ns:List Int} (h:WData.layableAll [WData.list (ns.map WData.int)]=true):∀ x∈ns,x.natAbs<2 ^ 2 ^ 20:=by
 intro x hx
 have h1:(WData.list (ns.map WData.int)).layable=true:=(layW_cons h).1
 have h2:WData.weight (.list (ns.map WData.int))≤2 ^ 20:=by
  unfold WData.layable at h1
  rw [Bool.and_eq_true] at h1
  exact of_decide_eq_true h1.2
 rw [WData.weight] at h2
 have h3:=Nat.le_trans (zfG hx) h2
 rw [WData.weight] at h3
 by_cases h0:x=0
 ·subst h0
  exact Nat.two_pow_pos _
 ·rw [if_neg (by simpa using h0)] at h3
  have hn:x.natAbs≠0:=fun e=>h0 (Int.natAbs_eq_zero.mp e)
  exact (Nat.log2_lt hn).mp h3
theorem attach_callL {l:OpenLaw} {n:Nat} {q:Program} {loose:List Str} {XP:(Str→Option Value)→Heap→Prop} {YP:World→Heap→Prop} {d:DefRec}
  (hn:l.most=some n) (hdf:d.params.defaults=[])
  (call:∀ (w:World) (s₀ s₁:Shared) (mg mb:Str→Option Value) (fa:Addr) (o:Obj) (pm cd doc:Value) (a:Addr) (vs:List Value) (ns:List Int),(∀ x∈ns,x.natAbs<2 ^ 2 ^ 20) →
   Ground q loose [] XP w s₀ mg mb s₁.heap→YP w s₁.heap →
   s₁.heap.get? fa=some o→o.data=.func (docDef d.name d.params d.body d.scope pm cd doc)→s₁.heap.CodeRec cd d.name→mg d.name=some (.ref fa) →
   s₁.heap.get? a=some { cls:=.type "list",data:=.seq vs.toArray }→IntsAre vs ns→ns.length≤n→s₁.gens=#[] →
   codeAny (model l.prog w) callerA (.call (.ref fa) ⟨[.ref a],[]⟩) (fun r s'=>r=.ok (.ret (.bool true))∧OldK s₁.heap s'.heap∧s'.os=s₁.os∧AllBare s'.gens) s₁) :
  WalkO q loose XP YP l.row.toRowW d [] (fun f vs=>PySem.call f vs):=by
 intro w s₀ s₁ mg mb G Y fa o pm cd doc dV kV ho hd hcd hD hmg hg args vals as hpre hlay hrd hwl hlo
 obtain rfl:dV=.none:=Dflts.none hD hdf
 obtain rfl:kV=.none:=Dflts.noKw hD
 obtain ⟨a,vs,ns,rfl,rfl,hobj,hints,hlen⟩:=zkk hn hpre hwl
 refine enter_call (codeAny_mono (call w s₀ s₁ mg mb fa o pm cd doc a vs ns (zoD hlay) G Y ho (fd_plain hd) hcd hmg hobj hints hlen hg) fun r s' hq=>?_)
 obtain ⟨rfl,h2,h3,h4⟩:=hq
 exact ⟨.inl ⟨.bool true,.bool true,[],rfl,fun _=>rfl,.bool true,zkv l _,fun _=>⟨List.Pairwise.nil,fun _ hm=>(nomatch hm)⟩⟩,h2,h3,h4⟩
end Att
namespace L2
open PySem PySem.Spec PyProof.Rows
theorem zma {l:PySem.W.OpenLaw} {n k:Nat} {q:Program} {loose:List Str} {XP:(Str→Option Value)→Heap→Prop} {YP:World→Heap→Prop} {d:DefRec} {K:Params→PySem.W.Frag} {CX:World→CXT} {sp:World→Sp} {x:Str}
  (hn:l.most=some n) (hn2:n≤sizeLine) (hdf:d.params.defaults=[]) (hr:zhH k callerA)
  (hY:∀ (w:World) (h:Heap),YP w h→(K w.params).In h)
  (F:∀ (w:World) (mg:Str→Option Value) (fa:Addr) (h:Heap),(K w.params).In h→h.Ns mainGlobals mg→mg d.name=some (.ref fa) →
   ∃ fd:FuncData,(∀ (s:Shared) (u:Value),BindsTo s fd ⟨[u],[]⟩ [(x,u)]) ∧
    ∀ base:Heap,(K w.params).In base→base.Ns mainGlobals mg→zb0 l.prog w (K w.params) mg base (CX w) k fa fd [x] (sp w))
  (hsp:∀ (w:World) (H:Hp) (a:Addr) (ns:List Int),(∀ x∈ns,x.natAbs<2 ^ 2 ^ 20)→ns.length≤n→Only H→SqL (K w.params) H a (ns.map V.int)→sp w [.ref a] H (fun v _=>v=.bl true) fun _ _ _=>False)
  (hCX:∀ (w:World) (H:Hp) (s:Shared) (e:Value) (s':Shared),CX w [] H s (fun _ _ _=>False) e s'→False) :
  PySem.W.WalkO q loose XP YP l.row.toRowW d [] (fun f vs=>PySem.call f vs):=by
 refine Att.attach_callL hn hdf fun w s₀ s₁ mg mb fa o pm cd doc a vs ns hb0 G Y ho hd hcd hmg hobj hints hlen hg=>?_
 have KX:=hY w _ Y
 obtain ⟨fd,hb,hF⟩:=F w mg fa _ KX G.T.g hmg
 exact zlN KX G.T.g G.T.b G.T.builtins G.T.nolimit hg hobj hints (Nat.le_trans hlen hn2) hr hF hb (fun H hO hS=>hsp w H a ns hb0 hlen hO hS) fun H e s'=>hCX w H s₁ e s'
end L2
namespace L2.St
open PySem
def it (m:Nat):Nat→Nat→Nat
 | 0,x=>x
 | n+1,x=>it m n ((x*5+1) % m)
def orb (m:Nat):Nat→Nat→List Nat
 | 0,_=>[]
 | n+1,x=>x::orb m n ((x*5+1) % m)
theorem zi4 (m:Nat):∀ a b x,it m (a+b) x=it m b (it m a x)
 | 0,b,x=>by rw [Nat.zero_add];rfl
 | a+1,b,x=>by rw [Nat.succ_add];exact zi4 m a b _
theorem ziU {m j:Nat}:∀ {n x},j∈orb m n x→∃ k,k<n∧it m k x=j
 | 0,x,h=>by simp [orb] at h
 | n+1,x,h=>by
  rcases List.mem_cons.mp h with rfl | h
  ·exact ⟨0,Nat.succ_pos _,rfl⟩
  ·obtain ⟨k,h1,h2⟩:=ziU h
   exact ⟨k+1,by (first|lia|omega),h2⟩
def Msk (M:Nat):Prop:=M=7∨M=31∨M=127∨M=511
theorem zoP {M:Nat} (h:Msk M):(∀ j,j<M+1→j∈orb (M+1) (M+1) 0)∧it (M+1) (M+1) 0=0:=by
 have key:∀ m,((List.range m).all fun j=>(orb m m 0).contains j)=true→∀ j,j<m→j∈orb m m 0:=fun m e j hj=>by
  have:=List.all_eq_true.mp e j (List.mem_range.mpr hj)
  simpa using this
 rcases h with rfl | rfl | rfl | rfl
 ·exact ⟨key 8 (by decide +kernel),by decide +kernel⟩
 ·exact ⟨key 32 (by decide +kernel),by decide +kernel⟩
 ·exact ⟨key 128 (by decide +kernel),by decide +kernel⟩
 ·exact ⟨key 512 (by decide +kernel),by decide +kernel⟩
theorem zq4 {M:Nat} (h:Msk M) {x j:Nat} (hx:x<M+1) (hj:j<M+1):∃ n,n<M+1∧it (M+1) n x=j:=by
 obtain ⟨h1,h2⟩:=zoP h
 obtain ⟨a,a1,rfl⟩:=ziU (h1 x hx)
 obtain ⟨b,b1,rfl⟩:=ziU (h1 j hj)
 by_cases c:a≤b
 ·exact ⟨b - a,by (first|lia|omega),by rw [← zi4,Nat.add_sub_cancel' c]⟩
 ·refine ⟨M+1 - a+b,by (first|lia|omega),?_⟩
  rw [← zi4,show a+(M+1 - a+b)=(M+1)+b by (first|lia|omega),zi4,h2]
def lp (M:Nat):Nat→Nat×Nat→Nat×Nat
 | 0,s=>s
 | n+1,s=>lp M n (SetTable.leap M s.1 s.2)
theorem znf (M:Nat):∀ a b s,lp M (a+b) s=lp M b (lp M a s)
 | 0,b,s=>by rw [Nat.zero_add];rfl
 | a+1,b,s=>by rw [Nat.succ_add];exact znf M a b _
theorem znz (M:Nat):∀ n s,(lp M n s).2=s.2 / 32 ^ n
 | 0,s=>by simp [lp]
 | n+1,s=>by
  show (lp M n _).2=_
  rw [znz M n,SetTable.leap,Nat.div_div_eq_div_mul,Nat.pow_succ,Nat.mul_comm]
theorem zqh (M:Nat):∀ n s,s.1<M+1→(lp M n s).1<M+1
 | 0,s,h=>h
 | n+1,s,h=>zqh M n _ (Nat.mod_lt _ (Nat.succ_pos _))
theorem zkU (M:Nat):∀ n x,(lp M n (x,0)).1=it (M+1) n x
 | 0,x=>rfl
 | n+1,x=>by
  show (lp M n ((x*5+1+0 / 32) % (M+1),0 / 32)).1=it (M+1) n ((x*5+1) % (M+1))
  rw [Nat.zero_div,Nat.add_zero,zkU M n]
theorem zny {M:Nat} (h:Msk M) {x p j:Nat} (hx:x<M+1) (hp:p<2 ^ 64) (hj:j<M+1):∃ n,n≤M+13∧(lp M n (x,p)).1=j:=by
 have e:lp M 13 (x,p)=((lp M 13 (x,p)).1,0):=by
  refine Prod.ext rfl ?_
  rw [znz]
  exact Nat.div_eq_of_lt (Nat.lt_trans hp (by decide))
 obtain ⟨n,n1,n2⟩:=zq4 h (zqh M 13 (x,p) hx) hj
 refine ⟨13+n,by (first|lia|omega),?_⟩
 rw [znf,e,zkU]
 exact n2
theorem zkO (h:Int):SetTable.bits h<2 ^ 64:=by
 unfold SetTable.bits
 have:=Int.emod_lt_of_pos h (show (0:Int)<2 ^ 64 by decide)
 have:=Int.emod_nonneg h (show (2 ^ 64:Int)≠0 by decide)
 (first|lia|omega)
def zgQ (t:SetTable) (s:Nat×Nat):SetTable.Probe:={ j:=s.1,more:=SetTable.runEnd t.mask s.1 - s.1,i:=s.1,perturb:=s.2,dummy:=none }
def adv (t:SetTable):Nat→SetTable.Probe→SetTable.Probe
 | 0,p=>p
 | n+1,p=>adv t n (t.advance p)
theorem zlu (t:SetTable):∀ a b p,adv t (a+b) p=adv t b (adv t a p)
 | 0,b,p=>by rw [Nat.zero_add];rfl
 | a+1,b,p=>by rw [Nat.succ_add];exact zlu t a b _
theorem zki (t:SetTable):∀ k j i q,adv t (k+1) { j:=j,more:=k,i:=i,perturb:=q,dummy:=none }=zgQ t (SetTable.leap t.mask i q)
 | 0,j,i,q=>by simp [adv,SetTable.advance,zgQ]
 | k+1,j,i,q=>by
  show adv t (k+1) (t.advance _)=_
  rw [show t.advance { j:=j,more:=k+1,i:=i,perturb:=q,dummy:=none }={ j:=j+1,more:=k,i:=i,perturb:=q,dummy:=none } by simp [SetTable.advance]]
  exact zki t k (j+1) i q
def Reach (t:SetTable) (n:Nat) (p:SetTable.Probe):Prop:=∃ r,r≤n∧t.slot (adv t r p).j=.empty
theorem zji {t:SetTable}:∀ {n s},t.slot (lp t.mask n s).1=.empty→Reach t (10*n) (zgQ t s)
 | 0,s,h=>⟨0,Nat.le_refl _,h⟩
 | n+1,s,h=>by
  obtain ⟨r,r1,r2⟩:=zji (n:=n) (s:=SetTable.leap t.mask s.1 s.2) h
  have hm:SetTable.runEnd t.mask s.1 - s.1≤9:=by unfold SetTable.runEnd;split <;> (first|lia|omega)
  refine ⟨SetTable.runEnd t.mask s.1 - s.1+1+r,by (first|lia|omega),?_⟩
  rw [zlu,zgQ,zki]
  exact r2
theorem znt:∀ (m:Nat) (l:List Nat),(∀ j,j<m→j∈l)→m≤l.length
 | 0,l,h=>Nat.zero_le _
 | m+1,l,h=>by
  have hm:=h m (Nat.lt_succ_self m)
  have:=znt m (l.erase m) fun j hj=>(List.mem_erase_of_ne (by (first|lia|omega))).mpr (h j (by (first|lia|omega)))
  rw [List.length_erase_of_mem hm] at this
  have:0<l.length:=List.length_pos_of_mem hm
  (first|lia|omega)
theorem slot_cases {t:SetTable} (hd:t.dummies=#[]) (j:Nat):t.slot j=.empty∨∃ i,t.slot j=.live i∧t.place[i]?=some j:=by
 unfold SetTable.slot
 rw [hd]
 by_cases c:(t.place[SetTable.below t.place j]? == some j)=true
 ·exact .inr ⟨_,by rw [if_pos c],by simpa using c⟩
 ·left
  rw [if_neg c]
  simp [SetTable.has]
theorem zjZ {t:SetTable} (hd:t.dummies=#[]) (hl:t.place.size<t.mask+1):∃ j,j<t.mask+1∧t.slot j=.empty:=by
 refine Classical.byContradiction fun hn=>?_
 have:=znt (t.mask+1) t.place.toList fun j hj=>by
  rcases slot_cases hd j with h | ⟨i,_,h⟩
  ·exact absurd ⟨j,hj,h⟩ hn
  ·rw [← Array.getElem?_toList] at h
   exact List.mem_of_getElem? h
 rw [Array.length_toList] at this
 (first|lia|omega)
theorem reach_start {t:SetTable} (hM:Msk t.mask) (hd:t.dummies=#[]) (hl:t.place.size<t.mask+1) (h:Int):Reach t (10*(t.mask+13)) (t.probeStart h):=by
 obtain ⟨j,j1,j2⟩:=zjZ hd hl
 obtain ⟨n,n1,n2⟩:=zny hM (x:=SetTable.bits h % (t.mask+1)) (Nat.mod_lt _ (Nat.succ_pos _)) (zkO h) j1
 obtain ⟨r,r1,r2⟩:=zji (t:=t) (n:=n) (s:=(SetTable.bits h % (t.mask+1),SetTable.bits h)) (by rw [n2];exact j2)
 exact ⟨r,by (first|lia|omega),r2⟩
theorem adv_dummy (t:SetTable) (p:SetTable.Probe):(t.advance p).dummy=p.dummy:=by
 unfold SetTable.advance
 split
 ·rfl
 ·rfl
theorem zhV {M:Nat} {ow:Array (Option Nat)}:∀ (fuel i p n:Nat),n<fuel→ow.getD (lp M n (i,p)).1 (some 0)=none→∃ j,SetTable.layClean.free M ow fuel i p=some j∧ow.getD j (some 0)=none
 | 0,i,p,n,h,_=>by (first|lia|omega)
 | fuel+1,i,p,n,h,e=>by
  rw [SetTable.layClean.free]
  cases c:(List.range (SetTable.runEnd M i+1 - i)).find? fun k=>(ow.getD (i+k) (some 0)).isNone with
  | some k =>
   have:=List.find?_some c
   exact ⟨i+k,rfl,by simpa using this⟩
  | none =>
   match n,h,e with
   | 0,_,e =>
    have:=List.find?_eq_none.mp c 0 (List.mem_range.mpr (by unfold SetTable.runEnd;split <;> (first|lia|omega)))
    rw [Nat.add_zero,show ow.getD i (some 0)=none from e] at this
    simp at this
   | n+1,h,e=>exact zhV fuel _ _ n (by (first|lia|omega)) e
def Own (M:Nat) (ow:Array (Option Nat)) (k:Nat):Prop:=ow.size=M+1∧ow.toList.countP Option.isSome=k∧∀ v,some v∈ow.toList→v<k
theorem getD_lt {ow:Array (Option Nat)} {j:Nat} (h:ow.getD j (some 0)=none):∃ hj:j<ow.size,ow[j]=none:=by
 by_cases c:j<ow.size
 ·exact ⟨c,by simpa [Array.getD,c] using h⟩
 ·simp [Array.getD,c] at h
theorem zmM {M:Nat} (hM:Msk M) {ow:Array (Option Nat)} {k:Nat} (o:Own M ow k) (hk:k<M+1) (h:Int):∃ j,SetTable.layClean.free M ow (SetTable.turns M) (SetTable.bits h % (M+1)) (SetTable.bits h)=some j∧Own M (ow.setIfInBounds j (some k)) (k+1):=by
 obtain ⟨o1,o2,o3⟩:=o
 have ex:∃ j,j<M+1∧ow.getD j (some 0)=none:=by
  refine Classical.byContradiction fun hn=>?_
  have:ow.toList.countP Option.isSome=ow.toList.length:=by
   rw [List.countP_eq_length]
   intro v hv
   cases v with
   | some v=>rfl
   | none =>
    obtain ⟨j,hj,e⟩:=List.mem_iff_getElem.mp hv
    rw [Array.length_toList] at hj
    exact absurd ⟨j,by (first|lia|omega),by simpa [Array.getD,hj] using e⟩ hn
  rw [Array.length_toList] at this
  (first|lia|omega)
 obtain ⟨j,j1,j2⟩:=ex
 obtain ⟨n,n1,n2⟩:=zny hM (x:=SetTable.bits h % (M+1)) (Nat.mod_lt _ (Nat.succ_pos _)) (zkO h) j1
 obtain ⟨j',f1,f2⟩:=zhV (M:=M) (ow:=ow) (SetTable.turns M) _ _ n (by unfold SetTable.turns;(first|lia|omega)) (by rw [n2];exact j2)
 obtain ⟨hj,ej⟩:=getD_lt f2
 refine ⟨j',f1,by simpa using o1,?_,?_⟩
 ·rw [Array.toList_setIfInBounds,List.countP_set (by simpa using hj)]
  rw [show ow.toList[j']=none from by simpa using ej,o2]
  simp
 ·intro v hv
  rw [Array.toList_setIfInBounds] at hv
  rcases List.mem_or_eq_of_mem_set hv with hv | hv
  ·exact Nat.lt_succ_of_lt (o3 v hv)
  ·cases hv;exact Nat.lt_succ_self _
theorem fold_ok {M:Nat} (hM:Msk M):∀ (hs:List Int) (ow:Array (Option Nat)) (k:Nat),Own M ow k→k+hs.length<M+1 →
  ∃ ow',(hs.foldl (fun (acc:Option (Array (Option Nat)×Nat)) h=>do
   let (owner,k) ← acc
   let j ← SetTable.layClean.free M owner (SetTable.turns M) (SetTable.bits h % (M+1)) (SetTable.bits h)
   pure (owner.setIfInBounds j (some k),k+1)) (some (ow,k)))=some (ow',k+hs.length)∧Own M ow' (k+hs.length)
 | [],ow,k,o,_=>⟨ow,rfl,o⟩
 | h::hs,ow,k,o,hl=>by
  rw [List.length_cons] at hl
  obtain ⟨j,e1,e2⟩:=zmM hM o (by (first|lia|omega)) h
  obtain ⟨ow',a,b⟩:=fold_ok hM hs _ _ e2 (by (first|lia|omega))
  refine ⟨ow',?_,by rw [List.length_cons,show k+(hs.length+1)=k+1+hs.length by (first|lia|omega)];exact b⟩
  rw [List.foldl_cons,List.length_cons,show k+(hs.length+1)=k+1+hs.length by (first|lia|omega),← a]
  simp [e1]
theorem relaid_ok {t:SetTable} {hs:Array Int} {wanted:Nat} (hM:Msk (SetTable.sizeAbove wanted - 1)) (hl:hs.size<SetTable.sizeAbove wanted - 1+1) :
  ∃ t' ord,t.relaid hs wanted=some (t',ord)∧t'.mask=SetTable.sizeAbove wanted - 1∧t'.dummies=#[]∧t'.place.size=hs.size∧t'.led=t.led∧ord.size=hs.size∧∀ v∈ord.toList,v<hs.size:=by
 obtain ⟨ow,a,o1,o2,o3⟩:=fold_ok hM hs.toList (Array.replicate (SetTable.sizeAbove wanted - 1+1) none) 0 ⟨by simp,by simp [List.countP_replicate],by simp⟩ (by simpa using hl)
 rw [Nat.zero_add,Array.length_toList] at o2 o3
 unfold SetTable.relaid SetTable.laid SetTable.layClean
 rw [← Array.foldl_toList,a]
 have len:((List.range (SetTable.sizeAbove wanted - 1+1)).filterMap fun j=>(ow.getD j none).map (j,·)).length=hs.size:=by
  rw [List.length_filterMap_eq_countP,← o2,← o1]
  have:ow.toList=(List.range ow.size).map fun j=>ow.getD j none:=by
   apply List.ext_getElem
   ·simp
   ·intro i h1 h2
    simp at h1
    simp [Array.getD,h1]
  rw [this,List.countP_map]
  congr 1
  funext j
  simp
 refine ⟨_,_,rfl,rfl,rfl,by simpa using len,rfl,by simpa using len,fun v hv=>?_⟩
 rw [List.toList_toArray,List.mem_map] at hv
 obtain ⟨⟨j,v'⟩,hm,rfl⟩:=hv
 obtain ⟨j',_,e⟩:=List.mem_filterMap.mp hm
 refine o3 v' ?_
 cases c:ow.getD j' none with
 | none=>rw [c] at e;simp at e
 | some u =>
  rw [c] at e
  simp at e
  have:j'<ow.size:=by
   refine Classical.byContradiction fun hn=>?_
   simp [Array.getD,hn] at c
  rw [← e.2,← c]
  simp [Array.getD,this]
end L2.St
namespace L2.St
open PySem
section
variable {P:Program} {w:World} {A:Around} {E:Value→Shared→Prop} {s:Shared}
end
end L2.St
namespace L2.St
open PySem
theorem ins_size {α:Type} (xs:Array α) (p:Nat) (x:α):(SetTable.insertAt xs p x).size=xs.size+1:=by
 unfold SetTable.insertAt
 simp only [Array.size_append,Array.size_push,Array.size_extract]
 (first|lia|omega)
theorem put_ok {t:SetTable} {j:Nat} (hd:t.dummies=#[]):(t.put j).1.dummies=#[]∧(t.put j).1.place.size=t.place.size+1∧(t.put j).1.mask=t.mask:=by
 unfold SetTable.put
 refine ⟨?_,ins_size _ _ _,rfl⟩
 dsimp only
 rw [hd]
 simp [SetTable.has]
section
variable {P:Program} {w:World} {A:Around} {E:Value→Shared→Prop} {s:Shared}
theorem grow {M n:Nat} (hM:Msk M) (h1:n*5<M*3) (h2:(n+1)*5≥M*3) (hz:n<300):Msk (SetTable.sizeAbove (SetTable.grown (n+1)) - 1)∧(n+1)*5<(SetTable.sizeAbove (SetTable.grown (n+1)) - 1)*3∧¬ SetTable.sizeAbove (SetTable.grown (n+1)) > sizeLine:=by
 rcases hM with rfl | rfl | rfl | rfl
 ·obtain rfl:n=4:=by (first|lia|omega)
  exact ⟨.inr (.inl rfl),by decide,by decide⟩
 ·obtain rfl:n=18:=by (first|lia|omega)
  exact ⟨.inr (.inr (.inl rfl)),by decide,by decide⟩
 ·obtain rfl:n=76:=by (first|lia|omega)
  exact ⟨.inr (.inr (.inr rfl)),by decide,by decide⟩
 ·(first|lia|omega)
theorem lay_self {h:Heap} {S:Addr} {es es':Array (Int×Value)} {ep:Nat} {t t':SetTable} (T:h.get? S=some { cls:=.type "set",dict:=none,data:=.set es ep t,slots:=#[] }) :
  (h.update S (Obj.putSet es' t')).get? S=some { cls:=.type "set",dict:=none,data:=.set es' (ep+1) t',slots:=#[] }:=by
 have:=Heap.get?_update_self (Obj.putSet es' t') T (by rw [putSet_of es' t' rfl];rfl)
 rw [putSet_of es' t' rfl] at this;exact this
end
end L2.St
namespace L2.St
open PySem PySem.Spec
def kk (key:Nat→List Int) (ad:Nat→Addr):Nat→List (List Int×Addr)
 | 0=>[]
 | i+1=>(key i,ad i)::kk key ad i
section
variable {P:Program} {w:World} {A:Around} {E:Value→Shared→Prop} {s:Shared}
end
end L2.St
namespace L2
open PySem PySem.Spec PyProof.Rows
section
variable {X:Cx} {pins:List (Addr×Obj)} {s:Shared} {σ:St} {H:Hp}
variable {e:Expr} {t:TA} {p1 p2 pos1 pos2:Pos}
end
end L2
namespace L2.Sw
open PySem PySem.Spec PyProof.Rows
theorem zeT:Slot "set_iterator" "__next__" "set_iterator.__next__":=by
 refine .of (owner:="set_iterator") (n:="__next__") (by rw [typeLookup_type,builtinLookup_eq_fast];kernel_rfl) ?_ ?_ ?_ ?_ (by rw [isSubtype_type];kernel_rfl)
 ·decide +kernel
 ·decide +kernel
 ·decide +kernel
 ·first | exact .inl (by decide +kernel) | exact .inr (by decide +kernel)
theorem zk9:Slot "set_iterator" "__iter__" "set_iterator.__iter__":=by
 refine .of (owner:="set_iterator") (n:="__iter__") (by rw [typeLookup_type,builtinLookup_eq_fast];kernel_rfl) ?_ ?_ ?_ ?_ (by rw [isSubtype_type];kernel_rfl)
 ·decide +kernel
 ·decide +kernel
 ·decide +kernel
 ·first | exact .inl (by decide +kernel) | exact .inr (by decide +kernel)
theorem zkh:entryFor table "set_iterator.__next__"=some Builtin.«set_iterator.__next__»:=entryFor_of_tree (by kernel_rfl)
theorem zrN:Manifest.owners.lookup (String.ofList "rotareti_tes".toList.reverse)=some Manifest.sig_set_iterator:=by kernel_rfl
theorem zkF (v:Value):argsOk "set_iterator.__next__" ⟨[v],[]⟩:=by
 unfold argsOk
 rw [signature?_of (id:="set_iterator.__next__") (n:="__txen__".toList) (o:="rotareti_tes".toList) (by kernel_rfl) zrN]
 kernel_rfl
theorem znL:entryFor table "set.__iter__"=some Builtin.«frozenset.__iter__»:=entryFor_alias (id':="frozenset.__iter__") (by kernel_rfl) rfl (by decide +kernel) (by kernel_rfl)
theorem zmV:entryFor table "set_iterator.__iter__"=some Builtin.«dict_keyiterator.__iter__»:=entryFor_alias (id':="dict_keyiterator.__iter__") (by kernel_rfl) rfl (by decide +kernel) (by kernel_rfl)
theorem zmg (v:Value):argsOk "set_iterator.__iter__" ⟨[v],[]⟩:=by
 unfold argsOk
 rw [signature?_of (id:="set_iterator.__iter__") (n:="__reti__".toList) (o:="rotareti_tes".toList) (by kernel_rfl) zrN]
 kernel_rfl
def SI (h:Heap) (it S:Addr) (slot i n ep:Nat):Prop:=∃ o,h.get? it=some o∧o.cls=.type "set_iterator"∧o.data=.fields #[rawInt slot,rawInt i,.ref S,rawInt n,rawInt ep]
def SO (h:Heap) (S:Addr) (es:Array (Int×Value)) (ep:Nat) (t:SetTable):Prop:=h.get? S=some { cls:=.type "set",dict:=none,data:=.set es ep t,slots:=#[] }
section
variable {P:Program} {w:World} {A:Around} {E:Value→Shared→Prop} {s:Shared} {it S:Addr} {es:Array (Int×Value)} {ep:Nat} {t:SetTable} {slot i:Nat}
theorem SI.ty (x:SI s.heap it S slot i es.size ep):s.TypeIs (.ref it) "set_iterator":=let ⟨o,ho,hc,_⟩:=x;⟨o,ho,hc⟩
theorem SO.ty (x:SO s.heap S es ep t):s.TypeIs (.ref S) "set":=⟨_,x,rfl⟩
theorem zdR {Q:(Array (Int×Value)×Nat×SetTable)→Shared→Prop} (x:SO s.heap S es ep t) (f:t.fits es.size=true) (q:Q (es,ep,t) s):wpAny (model P w) A (setState S) Q E s :=
 wpAny_setState_of x rfl f q
theorem zka {v:Value} {B:Nat→Prop} {Q:Option Value→Shared→Prop} (hi:SI s.heap it S slot i es.size ep) (x:SO s.heap S es ep t) (f:t.fits es.size=true)
  (nx:∀ (A':Around) (E':Value→Shared→Prop) (Q':Option (Value×Nat)→Shared→Prop),(∀ slot',B slot'→Q' (some (v,slot')) s)→wpAny (model P w) A' (setNext S slot i ep) Q' E' s)
  (q:∀ slot' h',B slot'→SI h' it S slot' (i+1) es.size ep→Heap.SameBut it s.heap h'→Q (some v) { s with heap:=h' }) :
  wpAny (model P w) A (pyNext (.ref it)) Q E s:=by
 obtain ⟨o,ho,hc,hd⟩:=id hi
 unfold pyNext
 refine wpAny_bind (wpAny_attempt (wpAny_callSpecial?_slot (name:=Str.ofString "__next__") hi.ty zeT (wpAny_call_entry zeT hi.ty zkh ?_ (zkF _))))
 unfold Builtin.«set_iterator.__next__»;refine wpAny_bind (wpAny_of_eq (a:=(Value.ref it,[])) rfl ?_);refine wpAny_bind (wpAny_fieldsOf ho hd ?_)
 show wpAny _ _ (setEntries S >>= _) _ _ s
 refine wpAny_bind (wpAny_setEntries_of x rfl f ?_)
 dsimp only
 rw [if_neg (by simp)]
 refine wpAny_bind (nx _ _ _ fun slot' hB=>?_)
 show wpAny _ _ (setField (.ref it) 0 (rawInt slot') >>= _) _ _ s;refine wpAny_bind (wpAny_setField ho hd (by simp) ?_)
 have g1:=Heap.get?_update_self (Obj.mapFields (·.setIfInBounds 0 (rawInt slot'))) ho (Obj.isFreed_of_fields (Obj.data_mapFields hd _))
 have d1:=Obj.data_mapFields hd (·.setIfInBounds 0 (rawInt slot'))
 refine wpAny_bind (wpAny_setField g1 d1 (by simp) ?_)
 refine wpAny_pure ⟨v,rfl,wpAny_pure (q slot' _ hB ⟨_,Heap.get?_update_self _ g1 (Obj.isFreed_of_fields (Obj.data_mapFields d1 _)),?_,?_⟩ ?_)⟩
 ·rw [Obj.cls_mapFields,Obj.cls_mapFields]
  exact hc
 ·rw [Obj.data_mapFields d1]
  simp [rawInt]
 ·exact (Heap.SameBut.update ..).trans (Heap.SameBut.update ..)
theorem zmO {Q:Option Value→Shared→Prop} (hh:A.handled=none) (hi:SI s.heap it S slot i es.size ep) (x:SO s.heap S es ep t) (f:t.fits es.size=true)
  (nx:∀ (A':Around) (E':Value→Shared→Prop) (Q':Option (Value×Nat)→Shared→Prop),Q' none s→wpAny (model P w) A' (setNext S slot i ep) Q' E' s)
  (q:∀ h',Heap.ExtBut it s.heap h'→Q none { s with heap:=h' }) :
  wpAny (model P w) A (pyNext (.ref it)) Q E s:=by
 obtain ⟨o,ho,hc,hd⟩:=id hi
 unfold pyNext
 refine wpAny_bind (wpAny_attempt (wpAny_callSpecial?_slot (name:=Str.ofString "__next__") hi.ty zeT (wpAny_call_entry zeT hi.ty zkh ?_ (zkF _))))
 unfold Builtin.«set_iterator.__next__»;refine wpAny_bind (wpAny_of_eq (a:=(Value.ref it,[])) rfl ?_);refine wpAny_bind (wpAny_fieldsOf ho hd ?_)
 show wpAny _ _ (setEntries S >>= _) _ _ s
 refine wpAny_bind (wpAny_setEntries_of x rfl f ?_)
 dsimp only
 rw [if_neg (by simp)]
 refine wpAny_bind (nx _ _ _ ?_);show wpAny _ _ (setField (.ref it) 2 .none >>= _) _ _ s;refine wpAny_bind (wpAny_setField ho hd (by simp) ?_)
 refine wpAny_bind ?_
 simp only [newExc,newTuple]
 refine wpAny_bind (wpAny_newObj_type ?_ (by size_fits));refine wpAny_bind (m:=firstArgMember _ _) (wpAny_of_eq (a:=Value.none) (by first | rfl | (simp only [firstArgMember];rfl)) ?_);refine wpAny_newObj_type ?_ (by size_fits)
 simp only [raiseNew];refine wpAny_bind (wpAny_handled ?_);first | rw [show A.in1.handled=none from hh] | rw [hh]
 refine wpAny_bind (wpAny_pure (wpAny_throw ?_));refine wpAny_bind (wpAny_isInstance (T:="StopIteration") (b:=true) ⟨_,Heap.get?_push_size _ rfl,rfl⟩ isSubtype_stop ?_)
 exact wpAny_pure (q _ (((Heap.SameBut.update ..).extBut.push _).push _))
theorem zj6 {Q:Value→Shared→Prop} (hi:SI s.heap it S slot i es.size ep) (q:Q (.ref it) s):wpAny (model P w) A (pyIter (.ref it)) Q E s:=by
 refine wpAny_pyIter_slot hi.ty zk9 (wpAny_call_entry zk9 hi.ty zmV ?_ (zmg _))
 show wpAny _ _ (ret (.ref it)) _ _ s;exact wpAny_pure ⟨_,rfl,"set_iterator",_,hi.ty,zeT.lookup,q⟩
theorem zmG {Q:Value→Shared→Prop} (x:SO s.heap S es ep t) (f:t.fits es.size=true) (dr:∀ (A':Around) (E':Value→Shared→Prop) (Q':Bool→Shared→Prop),Q' false s→wpAny (model P w) A' (setDrawn S) Q' E' s)
  (q:Q (.ref s.heap.objs.size) { s with heap:=s.heap.push { cls:=.type "set_iterator",data:=.fields #[rawInt 0,rawInt 0,.ref S,rawInt es.size,rawInt ep] } }) :
  wpAny (model P w) A (pyIter (.ref S)) Q E s:=by
 refine wpAny_pyIter_slot x.ty PySem.F.slot_set_iter (wpAny_call_entry PySem.F.slot_set_iter x.ty znL ?_ (PySem.F.args_set_iter_1 _))
 unfold Builtin.«frozenset.__iter__»
 refine wpAny_bind (wpAny_of_eq (a:=S) rfl ?_)
 refine wpAny_bind (m:=Builtin.Frozenset.sizeOf S) ?_
 unfold Builtin.Frozenset.sizeOf
 refine wpAny_bind (wpAny_setEntries_of x rfl f (wpAny_pure ?_))
 refine wpAny_bind (dr _ _ _ ?_);simp only [Bool.false_eq_true,if_false];refine wpAny_bind (wpAny_pure ?_)
 refine wpAny_bind (wpAny_setEpoch_of x rfl f ?_)
 refine wpAny_bind (wpAny_newObj_type (wpAny_pure ⟨_,rfl,"set_iterator",_,⟨_,Heap.get?_push_size _ rfl,rfl⟩,zeT.lookup,q⟩))
theorem hint {Q:Bool→Shared→Prop} (x:SO s.heap S es ep t) (q:Q false s):wpAny (model P w) A (Builtin.List.listLengthHint (.ref S)) Q E s:=by
 unfold Builtin.List.listLengthHint;refine wpAny_bind (wpAny_specialOf x.ty PySem.F.slot_set_len.lookup ?_)
 generalize e:("set.__len__":String)=nm
 wp_delta
 rw [show splitId nm=some ("set","__len__") from by subst e;decide +kernel];subst e
 refine wpAny_bind (wpAny_isInstance (T:="set") (b:=true) x.ty (by rw [isSubtype_type];kernel_rfl) ?_)
 refine wpAny_ite_split (fun z=>absurd z (by decide)) fun _=>wpAny_ite_split (fun _=>wpAny_bind (wpAny_typeOf x.ty (wpAny_pure q))) fun z=>absurd (by decide +kernel) z
theorem zdD {Q:Bool→Shared→Prop} (q:Q (w.params.followText "set-order") s):wpAny (model P w) A setsByText Q E s:=by
 unfold setsByText
 exact wpAny_bind (wpAny_askSetting (wpAny_pure q))
theorem ziz {xs:Array Nat} {j:Nat} (h:xs.toList.Pairwise (·<·)):∀ (fuel lo hi:Nat),hi - lo≤fuel→lo≤hi→hi≤xs.size→(∀ (k v:Nat),xs[k]?=some v→k<lo→v<j)→(∀ (k v:Nat),xs[k]?=some v→hi≤k→j≤v) →
  SetTable.below.go xs j fuel lo hi≤xs.size∧(∀ (k v:Nat),xs[k]?=some v→k<SetTable.below.go xs j fuel lo hi→v<j)∧∀ (k v:Nat),xs[k]?=some v→SetTable.below.go xs j fuel lo hi≤k→j≤v
 | 0,lo,hi,h1,h2,h3,h4,h5=>by
  have:lo=hi:=by (first|lia|omega)
  subst this
  exact ⟨h3,h4,h5⟩
 | fuel+1,lo,hi,h1,h2,h3,h4,h5=>by
  have mono:∀ {k m v u:Nat},xs[k]?=some v→xs[m]?=some u→k<m→v<u:=fun {k m v u} e1 e2 l=>by
   rw [← Array.getElem?_toList] at e1 e2
   obtain ⟨l1,rfl⟩:=List.getElem?_eq_some_iff.mp e1
   obtain ⟨l2,rfl⟩:=List.getElem?_eq_some_iff.mp e2
   exact List.pairwise_iff_getElem.mp h _ _ l1 l2 l
  unfold SetTable.below.go
  by_cases c:lo<hi
  ·rw [if_pos c]
   dsimp only
   have hm:(lo+hi) / 2<hi:=by (first|lia|omega)
   have hl:lo≤(lo+hi) / 2:=by (first|lia|omega)
   generalize (lo+hi) / 2=mid at hm hl ⊢
   have em:xs[mid]?=some xs[mid]:=Array.getElem?_eq_getElem (by (first|lia|omega))
   have eg:xs.getD mid j=xs[mid]:=by
    rw [Array.getD_eq_getD_getElem?,em]
    rfl
   rw [eg]
   by_cases d:xs[mid]<j
   ·rw [if_pos d]
    refine ziz h fuel (mid+1) hi (by (first|lia|omega)) (by (first|lia|omega)) h3 (fun k v e l=>?_) h5
    rcases Nat.lt_or_ge k mid with l' | l'
    ·exact Nat.lt_trans (mono e em l') d
    ·obtain rfl:k=mid:=by (first|lia|omega)
     rw [em] at e
     cases e
     exact d
   ·rw [if_neg d]
    refine ziz h fuel lo mid (by (first|lia|omega)) hl (by (first|lia|omega)) h4 fun k v e l=>?_
    rcases Nat.lt_or_ge mid k with l' | l'
    ·exact Nat.le_of_lt (Nat.lt_of_le_of_lt (Nat.le_of_not_lt d) (mono em e l'))
    ·obtain rfl:k=mid:=by (first|lia|omega)
     rw [em] at e
     cases e
     exact Nat.le_of_not_lt d
  ·rw [if_neg c]
   have:lo=hi:=by (first|lia|omega)
   subst this
   exact ⟨h3,h4,h5⟩
theorem zdW {xs:Array Nat} (j:Nat) (h:xs.toList.Pairwise (·<·)):SetTable.below xs j≤xs.size∧(∀ (k v:Nat),xs[k]?=some v→k<SetTable.below xs j→v<j)∧∀ (k v:Nat),xs[k]?=some v→SetTable.below xs j≤k→j≤v :=
 ziz h xs.size 0 xs.size (Nat.le_refl _) (Nat.zero_le _) (Nat.le_refl _) (fun _ _ _ z=>absurd z (Nat.not_lt_zero _)) fun k v e z=>absurd (Array.getElem?_eq_some_iff.mp e).1 (by (first|lia|omega))
theorem zjW {xs:Array Nat} {i j:Nat} (h:xs.toList.Pairwise (·<·)) (e:xs[i]?=some j):SetTable.below xs (j+1)=i+1:=by
 obtain ⟨h1,h2,h3⟩:=zdW (j+1) h
 have a1:¬ SetTable.below xs (j+1)≤i:=fun z=>absurd (h3 i j e z) (by (first|lia|omega))
 have a2:¬ i+1<SetTable.below xs (j+1):=fun z=>by
  have l:i+1<xs.size:=by (first|lia|omega)
  have e2:xs[i+1]?=some xs[i+1]:=Array.getElem?_eq_getElem l
  have u1:=h2 _ _ e2 z
  rw [← Array.getElem?_toList] at e e2
  obtain ⟨l1,z1⟩:=List.getElem?_eq_some_iff.mp e
  obtain ⟨l2,z2⟩:=List.getElem?_eq_some_iff.mp e2
  have u2:=List.pairwise_iff_getElem.mp h _ _ l1 l2 (Nat.lt_succ_self i)
  (first|lia|omega)
 (first|lia|omega)
theorem zj1 {xs:Array Nat} (h:xs.toList.Pairwise (·<·)):SetTable.below xs 0=0:=by
 obtain ⟨h1,h2,_⟩:=zdW 0 h
 rcases Nat.eq_zero_or_pos (SetTable.below xs 0) with z | z
 ·exact z
 ·exact absurd (h2 0 _ (Array.getElem?_eq_getElem (by (first|lia|omega))) z) (Nat.not_lt_zero _)
theorem zl6 {xs:Array Nat} {j:Nat} (h:xs.toList.Pairwise (·<·)) (n:j∉xs.toList):(SetTable.insertAt xs (SetTable.below xs j) j).toList.Pairwise (·<·):=by
 obtain ⟨h1,h2,h3⟩:=zdW j h
 generalize SetTable.below xs j=p at h1 h2 h3 ⊢
 have e:(SetTable.insertAt xs p j).toList=xs.toList.take p++([j]++xs.toList.drop p):=by
  unfold SetTable.insertAt
  simp only [Array.toList_append,Array.toList_push,Array.toList_extract,List.extract_eq_drop_take,List.drop_zero,Nat.sub_zero,List.append_assoc]
  rw [List.take_of_length_le (l:=xs.toList.drop p) (by rw [List.length_drop,Array.length_toList];(first|lia|omega))]
 rw [e]
 have m1:∀ v∈xs.toList.take p,v<j:=fun v hv=>by
  obtain ⟨k,ek⟩:=List.getElem?_of_mem hv
  rw [List.getElem?_take] at ek
  split at ek
  ·exact h2 k v (by rw [← Array.getElem?_toList];exact ek) (by assumption)
  ·cases ek
 have m2:∀ v∈xs.toList.drop p,j<v:=fun v hv=>by
  obtain ⟨k,ek⟩:=List.getElem?_of_mem hv
  rw [List.getElem?_drop] at ek
  have:=h3 (p+k) v (by rw [← Array.getElem?_toList];exact ek) (by (first|lia|omega))
  have ne:v≠j:=fun z=>n (z ▸ List.mem_of_mem_drop hv)
  (first|lia|omega)
 refine List.pairwise_append.mpr ⟨h.sublist (List.take_sublist _ _),List.pairwise_append.mpr ⟨List.pairwise_singleton _ _,h.sublist (List.drop_sublist _ _),fun a ha b hb=>?_⟩,fun a ha b hb=>?_⟩
 ·rw [List.mem_singleton.mp ha]
  exact m2 b hb
 ·rcases List.mem_append.mp hb with hb | hb
  ·rw [List.mem_singleton.mp hb]
   exact m1 a ha
  ·exact Nat.lt_trans (m1 a ha) (m2 b hb)
def Led (w:World) (t:SetTable):Prop:=w.params.followText "set-order"=true∨(t.led=true∧t.plain=true∧t.place.toList.Pairwise (·<·))
theorem zmq {Q:Bool→Shared→Prop} (x:SO s.heap S es ep t) (f:t.fits es.size=true) (l:Led w t) (q:Q false s):wpAny (model P w) A (setDrawn S) Q E s:=by
 unfold setDrawn
 refine wpAny_bind (zdR x f ?_)
 refine wpAny_bind (zdD (wpAny_pure ?_))
 have e:(!w.params.followText "set-order"&&(!t.plain&&decide (es.size > 1)))=false:=by
  rcases l with l | ⟨_,l,_⟩ <;> rw [l]
  ·rfl
  ·rw [Bool.not_true,Bool.false_and,Bool.and_false]
 exact (congrArg (fun b=>Q b s) e).mpr q
def ord (w:World) (S:Addr) (es:Array (Int×Value)) (ep:Nat):Array (Int×Value):=if w.params.followText "set-order"=true then pickOrder (w.params.setOrder S ep) es else es
theorem zoU {Q:Option (Value×Nat)→Shared→Prop} {v:Value} (x:SO s.heap S es ep t) (f:t.fits es.size=true) (l:Led w t) (hs:w.params.followText "set-order"=true∨SetTable.below t.place slot=i) (hv:((ord w S es ep)[i]?).map (·.2)=some v)
  (q:∀ slot',(w.params.followText "set-order"=true∨SetTable.below t.place slot'=i+1)→Q (some (v,slot')) s):wpAny (model P w) A (setNext S slot i ep) Q E s:=by
 unfold setNext
 refine wpAny_bind (zdR x f ?_)
 refine wpAny_bind (zdD ?_)
 by_cases tx:w.params.followText "set-order"=true
 ·rw [if_pos tx]
  dsimp only
  rw [if_neg (by simp)]
  refine wpAny_bind (m:=setWalk S) ?_
  unfold setWalk
  refine wpAny_bind (zdR x f (wpAny_bind (zdD ?_)))
  rw [if_pos tx]
  refine wpAny_bind (wpAny_askSetting (wpAny_pure (wpAny_pure ?_)))
  unfold ord at hv
  rw [if_pos tx] at hv
  obtain ⟨e,e1,e2⟩:=Option.map_eq_some_iff.mp hv
  show Q (Option.map (fun e=>(e.snd,slot)) (pickOrder (w.params.setOrder S ep) es)[i]?) s
  rw [e1]
  subst e2
  exact q slot (.inl tx)
 ·obtain ⟨l1,l2,l3⟩:=l.resolve_left tx
  have hb:=hs.resolve_left tx
  rw [if_neg tx]
  dsimp only
  unfold ord at hv
  rw [if_neg tx] at hv
  obtain ⟨e,e1,e2⟩:=Option.map_eq_some_iff.mp hv
  have hp:t.place.size=es.size:=by
   unfold SetTable.fits at f
   rw [Bool.and_eq_true,beq_iff_eq] at f
   exact f.1
  have hi:=(Array.getElem?_eq_some_iff.mp e1).1
  have e3:t.place[i]?=some t.place[i]:=Array.getElem?_eq_getElem (by (first|lia|omega))
  show wpAny _ _ (if (!t.plain&&decide (es.size > 1))=true then _ else _) _ _ s
  rw [if_neg (by rw [l2];simp)]
  show wpAny _ _ ((if (!t.led&&!es.isEmpty)=true then unsupported "set:maker-not-led" else pure ()) >>= _) _ _ s
  rw [if_neg (by rw [l1];simp)];refine wpAny_bind (wpAny_pure (wpAny_pure ?_))
  show Q (match es[SetTable.below t.place slot]?,t.place[SetTable.below t.place slot]? with
      | some (_,y),some k=>some (y,k+1)
      | _,_=>none) s
  rw [hb,e1,e3]
  subst e2
  exact q _ (.inr (zjW l3 e3))
theorem zlm {Q:Option (Value×Nat)→Shared→Prop} (x:SO s.heap S es ep t) (f:t.fits es.size=true) (l:Led w t) (hs:w.params.followText "set-order"=true∨SetTable.below t.place slot=i) (hv:(ord w S es ep)[i]?=none)
  (q:Q none s):wpAny (model P w) A (setNext S slot i ep) Q E s:=by
 unfold setNext
 refine wpAny_bind (zdR x f ?_)
 refine wpAny_bind (zdD ?_)
 by_cases tx:w.params.followText "set-order"=true
 ·rw [if_pos tx]
  dsimp only
  rw [if_neg (by simp)]
  refine wpAny_bind (m:=setWalk S) ?_
  unfold setWalk
  refine wpAny_bind (zdR x f (wpAny_bind (zdD ?_)))
  rw [if_pos tx]
  refine wpAny_bind (wpAny_askSetting (wpAny_pure (wpAny_pure ?_)))
  unfold ord at hv
  rw [if_pos tx] at hv
  show Q (Option.map (fun e=>(e.snd,slot)) (pickOrder (w.params.setOrder S ep) es)[i]?) s
  rw [hv]
  exact q
 ·obtain ⟨l1,l2,l3⟩:=l.resolve_left tx
  have hb:=hs.resolve_left tx
  rw [if_neg tx]
  dsimp only
  unfold ord at hv
  rw [if_neg tx] at hv
  show wpAny _ _ (if (!t.plain&&decide (es.size > 1))=true then _ else _) _ _ s
  rw [if_neg (by rw [l2];simp)]
  show wpAny _ _ ((if (!t.led&&!es.isEmpty)=true then unsupported "set:maker-not-led" else pure ()) >>= _) _ _ s
  rw [if_neg (by rw [l1];simp)];refine wpAny_bind (wpAny_pure (wpAny_pure ?_))
  show Q (match es[SetTable.below t.place slot]?,t.place[SetTable.below t.place slot]? with
      | some (_,y),some k=>some (y,k+1)
      | _,_=>none) s
  rw [hb,hv]
  exact q
theorem zid {α:Type} {next:Nat→Nat}:∀ (fuel k:Nat) (left:List α) (out:Array α),left.length=fuel→(pickOrder.go next fuel k left out).toList.Perm (out.toList++left)
 | 0,k,left,out,e=>by
  rw [List.eq_nil_of_length_eq_zero e,List.append_nil]
  exact .refl _
 | fuel+1,k,left,out,e=>by
  have l:next k % left.length<left.length:=Nat.mod_lt _ (by (first|lia|omega))
  unfold pickOrder.go
  generalize next k % left.length=i at l ⊢
  rw [List.getElem?_eq_getElem l]
  refine (zid fuel (k+1) (left.eraseIdx i) (out.push left[i]) (by rw [List.length_eraseIdx_of_lt l];(first|lia|omega))).trans ?_
  rw [Array.toList_push,List.append_assoc];refine List.Perm.append_left _ ?_
  rw [List.eraseIdx_eq_take_drop_succ]
  have e2:left=left.take i++left[i]::left.drop (i+1):=by rw [List.getElem_cons_drop,List.take_append_drop]
  exact (List.perm_middle (a:=left[i]) (l₁:=left.take i) (l₂:=left.drop (i+1))).symm.trans (.of_eq e2.symm)
theorem ord_perm:(ord w S es ep).toList.Perm es.toList:=by
 unfold ord
 split
 ·exact zid _ _ _ _ (Array.length_toList ..)
 ·exact .refl _
theorem src (f:t.fits es.size=true) (l:Led w t):PySem.W.KdlSrc P w "set" S S es.size (fun i v=>((ord w S es ep)[i]?).map (·.2)=some v) (fun h=>SO h S es ep t) where
 type:=fun s x=>x.ty
 there:=fun h x=>⟨Heap.lt_size x,Heap.lt_size x⟩
 keep:=fun h h' x k=>k S (.inl rfl) _ x
 notList:=by decide
 notTuple:=by decide
 hint:=fun A E s Q x q=>hint x q
 iter:=fun A s hh x=>by
  have hne:S≠s.heap.objs.size:=Nat.ne_of_lt (Heap.lt_size x)
  have osz:(ord w S es ep).size=es.size:=by rw [← Array.length_toList,ord_perm.length_eq,Array.length_toList]
  refine ⟨_,fun i h=>(∃ slot,SI h s.heap.objs.size S slot i es.size ep∧(w.params.followText "set-order"=true∨SetTable.below t.place slot=i))∧SO h S es ep t,fun E Q q=>zmG x f (fun A' E' Q' q'=>zmq x f l q') q,?_,⟨0,⟨_,Heap.get?_push_size _ rfl,rfl,rfl⟩,?_⟩,Heap.get?_push_of_some _ x⟩
  ·exact {
    sub:=fun b' hb'=>by rw [List.mem_singleton] at hb';rw [hb'];exact List.mem_cons_self
    frame:=fun i h h' st hk=>⟨let ⟨slot,⟨o,ho,r⟩,b⟩:=st.1;⟨slot,⟨o,hk _ (by simp) o ho,r⟩,b⟩,hk S (by simp) _ st.2⟩
    item:=fun i s' Q E hi st hQ=>by
     obtain ⟨⟨slot,si,b⟩,so⟩:=st
     have e1:(ord w S es ep)[i]?=some (ord w S es ep)[i]:=Array.getElem?_eq_getElem (by (first|lia|omega))
     refine zka si so f (fun A' E' Q' q'=>zoU (v:=(ord w S es ep)[i].2) so f l b (by rw [e1];rfl) q') fun slot' h' hB si' sm=>?_
     refine hQ _ h' s'.toks (by rw [e1];rfl) ⟨⟨slot',si',hB⟩,?_⟩ fun b' o hb e=>sm.extBut b' o (fun z=>hb (by simp [z])) e
     exact sm.extBut S _ hne so
    done:=fun s' Q E st hQ=>by
     obtain ⟨⟨slot,si,b⟩,so⟩:=st
     exact zmO hh si so f (fun A' E' Q' q'=>zlm so f l b (Array.getElem?_eq_none (by (first|lia|omega))) q') fun h' ex=>hQ h' s'.toks fun b' o hb e=>ex b' o (fun z=>hb (by simp [z])) e
    self:=fun i s' Q E st hQ=>by
     obtain ⟨⟨slot,si,b⟩,so⟩:=st
     exact zj6 si hQ }
  ·rcases l with l | ⟨_,_,l⟩
   ·exact .inl l
   ·exact .inr (zj1 l)
def vI:Value→Int
 | .int k _=>k
 | _=>0
structure SJ (P:Program) (w:World) (h:Heap) (S:Addr) (es:Array (Int×Value)) (ep:Nat) (t:SetTable) (ds:List Int):Prop where
 ob:SO h S es ep t
 pl:t.place.size=es.size
 dm:t.dummies=#[]
 ms:St.Msk t.mask
 lo:es.size*5<t.mask*3
 pn:t.plain=true
 ld:w.params.followText "set-order"=true∨t.led=true
 rs:t.place.toList.Pairwise (·<·)
 el:∀ e∈es.toList,∃ k tk,e=((intKind P w).hash k,Value.int k tk)
 ks:(es.toList.map fun e=>vI e.2).Perm ds
theorem SJ.fits {h:Heap} {ds:List Int} (T:SJ P w h S es ep t ds):t.fits es.size=true:=by
 have:=T.lo
 simp only [SetTable.fits,SetTable.fill,T.pl,T.dm,Bool.and_eq_true,beq_self_eq_true,decide_eq_true_eq,true_and]
 show es.size+0≤t.mask
 (first|lia|omega)
theorem SJ.led {h:Heap} {ds:List Int} (T:SJ P w h S es ep t ds):Led w t:=T.ld.elim .inl fun l=>.inr ⟨l,T.pn,T.rs⟩
theorem SJ.elems {h:Heap} {ds:List Int} (T:SJ P w h S es ep t ds):ElemsOf (intKind P w) es.toList:=fun e he=>by
 obtain ⟨k,tk,rfl⟩:=T.el e he
 exact ⟨⟨k,intKind_is _ _ _ _,rfl⟩,rfl⟩
theorem zlf {j:Nat} (hd:t.dummies=#[]) (h:t.slot j=.empty) (l:t.place.toList.Pairwise (·<·)):j∉t.place.toList:=by
 intro hm
 obtain ⟨i,ei⟩:=List.getElem?_of_mem hm
 rw [Array.getElem?_toList] at ei
 obtain ⟨h1,h2,h3⟩:=zdW j l
 have a1:¬ i<SetTable.below t.place j:=fun z=>absurd (h2 i j ei z) (Nat.lt_irrefl _)
 have a2:¬ SetTable.below t.place j<i:=fun z=>by
  have hi:=(Array.getElem?_eq_some_iff.mp ei).1
  have e2:t.place[SetTable.below t.place j]?=some t.place[SetTable.below t.place j]:=Array.getElem?_eq_getElem (by (first|lia|omega))
  have u:=h3 _ _ e2 (Nat.le_refl _)
  rw [← Array.getElem?_toList] at ei e2
  obtain ⟨l1,z1⟩:=List.getElem?_eq_some_iff.mp ei
  obtain ⟨l2,z2⟩:=List.getElem?_eq_some_iff.mp e2
  have u2:=List.pairwise_iff_getElem.mp l _ _ l2 l1 z
  (first|lia|omega)
 have:SetTable.below t.place j=i:=by (first|lia|omega)
 unfold SetTable.slot at h
 rw [this] at h
 dsimp only at h
 rw [ei,if_pos (by simp)] at h
 cases h
theorem zkg {x:Int} (hd:t.dummies=#[]):∀ (n fuel:Nat) (p:SetTable.Probe),St.Reach t n p→n<fuel→p.dummy=none→∃ j,SetTable.probe.go t (fun _=>x+1) x fuel p=some (.empty j none)∧t.slot j=.empty
 | n,0,p,_,hn,_=>by (first|lia|omega)
 | n,fuel+1,p,hr,hn,hp=>by
  rw [SetTable.probe.go]
  rcases St.slot_cases hd p.j with e | ⟨i,e,_⟩
  ·exact ⟨p.j,by rw [e];simp [hp],e⟩
  ·obtain ⟨r,r1,r2⟩:=hr
   match r,r1,r2 with
   | 0,r1,r2=>exact absurd (show t.slot p.j=.empty from r2) (by rw [e];simp)
   | r+1,r1,r2 =>
    obtain ⟨j,a,b⟩:=zkg (x:=x) hd (n - 1) fuel (t.advance p) ⟨r,by (first|lia|omega),r2⟩ (by (first|lia|omega)) (by rw [St.adv_dummy,hp])
    have c:((x+1:Int) == x)=false:=by
     rw [Bool.eq_false_iff]
     intro z
     have:=eq_of_beq z
     (first|lia|omega)
    exact ⟨j,by rw [e];simpa [c] using a,b⟩
theorem znD {h:Heap} {ds:List Int} (T:SJ P w h S es ep t ds) (x:Int) (v:Value):∃ (p:Nat) (t2:SetTable),layNew t es x v=(SetTable.insertAt es p (x,v),t2,false,false)∧t2.mask=t.mask∧t2.dummies=#[]∧t2.place.size=es.size+1∧t2.plain=true∧t2.led=t.led∧t2.place.toList.Pairwise (·<·):=by
 have lo:=T.lo
 have hl:t.place.size<t.mask+1:=by rw [T.pl];(first|lia|omega)
 have hr:=St.reach_start T.ms T.dm hl x
 have hf:∃ j,t.freeSlot x=some (j,false)∧t.slot j=.empty:=by
  unfold SetTable.freeSlot SetTable.probe
  obtain ⟨j,a,b⟩:=zkg (x:=x) T.dm _ (10*SetTable.turns t.mask) _ hr (by unfold SetTable.turns;(first|lia|omega)) rfl
  exact ⟨j,by rw [a];rfl,b⟩
 obtain ⟨j,e1,e2⟩:=hf
 obtain ⟨a1,a2,a3⟩:=St.put_ok (t:=t) (j:=j) T.dm
 refine ⟨SetTable.below t.place j,(t.put j).1,?_,a3,a1,by rw [a2,T.pl],T.pn,rfl,zl6 T.rs (zlf T.dm e2 T.rs)⟩
 unfold layNew
 rw [e1]
 have fit:(t.put j).1.fits (SetTable.insertAt es (SetTable.below t.place j) (x,v)).size=true:=by
  simp only [SetTable.fits,SetTable.fill,a1,a2,a3,St.ins_size,T.pl,Bool.and_eq_true,beq_self_eq_true,decide_eq_true_eq,true_and]
  show es.size+1+0≤t.mask
  (first|lia|omega)
 show ((SetTable.insertAt es (SetTable.below t.place j) (x,v)),((t.put j).1.orStandIn (SetTable.insertAt es (SetTable.below t.place j) (x,v)).size),false,!((t.put j).1.fits (SetTable.insertAt es (SetTable.below t.place j) (x,v)).size))=_
 unfold SetTable.orStandIn
 rw [if_pos fit,fit]
 rfl
theorem zl3 {α:Type} (xs:Array α) (p:Nat) (x:α):(SetTable.insertAt xs p x).toList.Perm (x::xs.toList):=by
 refine (SetTable.insertAt_perm xs p x).trans ?_
 rw [Array.toList_push]
 exact List.perm_append_comm
theorem zkl:∀ (r l:List Nat),r.Nodup→(∀ v∈r,v∈l)→l.length=r.length→l.Perm r
 | [],l,_,_,e=>by rw [List.eq_nil_of_length_eq_zero e]
 | a::r,l,n,h,e=>by
  have ha:=h a List.mem_cons_self
  rw [List.nodup_cons] at n
  refine (List.perm_cons_erase ha).trans (List.Perm.cons _ (zkl r (l.erase a) n.2 (fun v hv=>?_) ?_))
  ·exact (List.mem_erase_of_ne (fun (z:v=a)=>n.1 (z ▸ hv))).mpr (h v (List.mem_cons_of_mem _ hv))
  ·rw [List.length_erase_of_mem ha,e]
   rfl
theorem zhs {M:Nat} {ow:Array (Option Nat)}:∀ (fuel i p j:Nat),SetTable.layClean.free M ow fuel i p=some j→ow.getD j (some 0)=none
 | 0,i,p,j,e=>by
  unfold SetTable.layClean.free at e
  cases e
 | fuel+1,i,p,j,e=>by
  unfold SetTable.layClean.free at e
  split at e
  ·rename_i k hk
   cases e
   have:=List.find?_some hk
   simpa using this
  ·exact zhs fuel _ _ j e
theorem zjk {M:Nat}:∀ (hs:List Int) (ow ow':Array (Option Nat)) (k k':Nat),(∀ v,v<k→some v∈ow.toList) →
  (hs.foldl (fun (acc:Option (Array (Option Nat)×Nat)) h=>do
   let (owner,k) ← acc
   let j ← SetTable.layClean.free M owner (SetTable.turns M) (SetTable.bits h % (M+1)) (SetTable.bits h)
   pure (owner.setIfInBounds j (some k),k+1)) (some (ow,k)))=some (ow',k')→∀ v,v<k'→some v∈ow'.toList
 | [],ow,ow',k,k',h,e=>by
  cases e
  exact h
 | x::hs,ow,ow',k,k',h,e=>by
  rw [List.foldl_cons] at e
  cases c:SetTable.layClean.free M ow (SetTable.turns M) (SetTable.bits x % (M+1)) (SetTable.bits x) with
  | none =>
   simp only [c,Option.bind_eq_bind,Option.bind_some,Option.bind_none] at e
   exfalso
   have:∀ l:List Int,(l.foldl (fun (acc:Option (Array (Option Nat)×Nat)) h=>acc.bind fun q=>(SetTable.layClean.free M q.1 (SetTable.turns M) (SetTable.bits h % (M+1)) (SetTable.bits h)).bind fun j=>pure (q.1.setIfInBounds j (some q.2),q.2+1)) none)=none:=fun l=>by
    induction l with
    | nil=>rfl
    | cons y l ih=>rw [List.foldl_cons];exact ih
   have z:=(this hs).symm.trans e
   cases z
  | some j =>
   simp only [c,Option.bind_eq_bind,Option.bind_some] at e
   refine zjk hs _ ow' _ k' (fun v hv=>?_) e
   have nj:=zhs _ _ _ _ c
   obtain ⟨lj,gj⟩:=St.getD_lt nj
   rw [Array.toList_setIfInBounds]
   rcases Nat.lt_or_ge v k with l | l
   ·obtain ⟨i,ei⟩:=List.getElem?_of_mem (h v l)
    have ne:j≠i:=fun z=>by
     subst z
     rw [Array.getElem?_toList,Array.getElem?_eq_getElem lj,gj] at ei
     cases ei
    exact List.mem_of_getElem? (by rw [List.getElem?_set_ne ne];exact ei)
   ·obtain rfl:v=k:=by (first|lia|omega)
    exact List.mem_of_getElem? (List.getElem?_set_self (by rw [Array.length_toList];exact lj))
theorem zmb {n:Nat} {t2:SetTable} {es2:Array (Int×Value)} (hM:St.Msk t2.mask) (hn:es2.size=n+1) (c1:n*5<t2.mask*3) (c2:(n+1)*5≥t2.mask*3) (hz:n<300) (pn:t2.plain=true) :
  ∃ (es3:Array (Int×Value)) (t3:SetTable),relayAll t2 es2 (SetTable.grown es2.size)=(es3,t3,false)∧es3.toList.Perm es2.toList∧St.Msk t3.mask∧(n+1)*5<t3.mask*3∧t3.dummies=#[]∧t3.place.size=n+1∧t3.plain=true∧t3.led=t2.led∧t3.place.toList.Pairwise (·<·):=by
 obtain ⟨g1,g2,g3⟩:=St.grow hM c1 c2 hz
 rw [← hn] at g1 g2
 obtain ⟨t3,od,r1,r2,r3,r4,r5,r6,r7⟩:=St.relaid_ok (t:=t2) (hs:=es2.map (·.1)) g1 (by rw [Array.size_map];(first|lia|omega))
 rw [Array.size_map] at r4 r6 r7
 have key:t3.plain=true∧t3.place.toList.Pairwise (·<·)∧∀ v,v<es2.size→v∈od.toList:=by
  have r:=r1
  obtain ⟨ow,a,o1,o2,o3⟩:=St.fold_ok g1 (es2.map (·.1)).toList (Array.replicate (SetTable.sizeAbove (SetTable.grown es2.size) - 1+1) none) 0 ⟨by simp,by simp [List.countP_replicate],by simp⟩ (by simp;(first|lia|omega))
  have al:=zjk _ _ _ _ _ (fun v hv=>absurd hv (Nat.not_lt_zero v)) a
  rw [Nat.zero_add,Array.length_toList,Array.size_map] at al
  unfold SetTable.relaid SetTable.laid SetTable.layClean at r
  rw [← Array.foldl_toList,a] at r
  simp only [Option.map_some,Option.bind_eq_bind,Option.bind_some] at r
  have r':=Option.some.inj r
  cases r'
  refine ⟨pn,?_,fun v hv=>?_⟩
  ·show (List.toArray _).toList.Pairwise (·<·)
   rw [List.toList_toArray,List.pairwise_map]
   refine List.Pairwise.filterMap _ (fun a a' l b hb b' hb'=>?_) List.pairwise_lt_range
   obtain ⟨u,_,rfl⟩:=Option.map_eq_some_iff.mp hb
   obtain ⟨u',_,rfl⟩:=Option.map_eq_some_iff.mp hb'
   exact l
  ·rw [List.toList_toArray,List.mem_map]
   obtain ⟨j,ej⟩:=List.getElem?_of_mem (al v hv)
   rw [Array.getElem?_toList] at ej
   have lj:=(Array.getElem?_eq_some_iff.mp ej).1
   refine ⟨(j,v),List.mem_filterMap.mpr ⟨j,List.mem_range.mpr (by (first|lia|omega)),?_⟩,rfl⟩
   rw [Array.getD_eq_getD_getElem?,ej]
   rfl
 obtain ⟨k1,k2,k3⟩:=key
 have pm:od.toList.Perm (List.range es2.size):=zkl _ _ List.nodup_range (fun v hv=>k3 v (List.mem_range.mp hv)) (by rw [Array.length_toList,r6,List.length_range])
 have cv:coversAll od es2.size=true:=by
  unfold coversAll
  exact List.isPerm_iff.mpr pm
 have pe:(od.filterMap (es2[·]?)).toList.Perm es2.toList:=by
  rw [Array.toList_filterMap]
  refine (pm.filterMap _).trans (.of_eq (filterMap_getElem?_range es2))
 have sz:(od.filterMap (es2[·]?)).size=es2.size:=by rw [← Array.length_toList,pe.length_eq,Array.length_toList]
 have ft:t3.fits (od.filterMap (es2[·]?)).size=true:=by
  simp only [SetTable.fits,SetTable.fill,r3,r4,sz,Bool.and_eq_true,beq_self_eq_true,decide_eq_true_eq,true_and]
  show es2.size+0≤t3.mask
  rw [r2]
  (first|lia|omega)
 refine ⟨_,t3,?_,pe,by rw [r2];exact g1,by rw [r2,← hn];exact g2,r3,by rw [r4,hn],k1,r5,k2⟩
 unfold relayAll
 rw [r1]
 dsimp only
 rw [if_pos (by rw [cv,ft];rfl)]
theorem addJ {k:Int} {tk:Tok} {ds:List Int} {Q:Bool→Shared→Prop} (T:SJ P w s.heap S es ep t ds) (hz:es.size<300)
  (q:∀ h' b es' ep' t',SJ P w h' S es' ep' t' (if k∈ds then ds else k::ds)→Heap.SameBut S s.heap h'→Q b { s with heap:=h' }) :
  wpAny (model P w) A (setAddHashed S (.int k tk) ((intKind P w).hash k)) Q E s:=by
 have bd:es.size<scanBound:=Nat.lt_trans hz (by decide);unfold setAddHashed setAddHashedIn
 refine wpAny_holding (wpAny_bind (zdR T.ob T.fits ?_))
 dsimp only
 rw [byScan_of (knd:=intKind P w) rfl bd T.elems,if_pos rfl]
 unfold setAddByScan
 refine wpAny_bind (wpAny_bind (wpAny_rule (wpAny_bind (wpAny_setScan_of (knd:=intKind P w) (intKind_is _ _ _ _) T.ob rfl T.fits T.elems ?_))))
 have mem:∀ e∈es.toList,(intKind P w).is k e.2=true↔vI e.2=k:=fun e he=>by
  obtain ⟨k',tk',rfl⟩:=T.el e he
  simp only [intKind,Value.isInt,vI]
  exact beq_iff_eq
 have inD:k∈ds↔∃ e∈es.toList,(intKind P w).is k e.2=true:=by
  rw [← T.ks.mem_iff,List.mem_map]
  exact ⟨fun ⟨e,h1,h2⟩=>⟨e,h1,(mem e h1).mpr h2⟩,fun ⟨e,h1,h2⟩=>⟨e,h1,(mem e h1).mp h2⟩⟩
 cases hr:List.findIdx? (fun e=>(intKind P w).is k e.2) es.toList with
 | some j =>
  obtain ⟨hj,hp,_⟩:=List.findIdx?_eq_some_iff_getElem.mp hr
  have hk:k∈ds:=inD.mpr ⟨_,List.getElem_mem hj,hp⟩
  rw [if_pos hk] at q
  exact wpAny_pure (wpAny_pure (q s.heap false es ep t T (Heap.SameBut.refl S s.heap)))
 | none =>
  have hk:k∉ds:=fun z=>by
   obtain ⟨e,h1,h2⟩:=inD.mp z
   rw [List.findIdx?_eq_none_iff.mp hr e h1] at h2
   cases h2
  rw [if_neg hk] at q
  obtain ⟨p,t2,e1,m2,d2,p2,pn2,l2,r2⟩:=znD T ((intKind P w).hash k) (.int k tk)
  dsimp only
  rw [e1]
  dsimp only
  have sz:(SetTable.insertAt es p ((intKind P w).hash k,Value.int k tk)).size=es.size+1:=St.ins_size _ _ _
  have pm:=zl3 es p ((intKind P w).hash k,Value.int k tk)
  generalize SetTable.insertAt es p ((intKind P w).hash k,Value.int k tk)=es2 at sz pm ⊢
  have zl:es.size+1≤sizeLine:=by rw [sizeLine_eq];(first|lia|omega)
  have fl:t2.fill=es.size+1:=by simp [SetTable.fill,d2,p2]
  have el2:∀ e∈es2.toList,∃ k tk,e=((intKind P w).hash k,Value.int k tk):=fun e he=>by
   rcases List.mem_cons.mp (pm.mem_iff.mp he) with rfl | he
   ·exact ⟨_,_,rfl⟩
   ·exact T.el e he
  have ks2:(es2.toList.map fun e=>vI e.2).Perm (k::ds):=(pm.map _).trans (List.Perm.cons _ T.ks)
  have ld2:w.params.followText "set-order"=true∨t2.led=true:=by rw [l2];exact T.ld
  show wpAny _ _ (pure () >>= _) _ _ s;refine wpAny_bind (wpAny_pure ?_)
  rw [if_pos pn2,hashByValue_scannable 8 (x:=.int k tk) rfl];refine wpAny_bind (wpAny_pure ?_)
  dsimp only [plainKind]
  rw [if_pos rfl]
  refine wpAny_bind (wpAny_storeSet_of T.ob rfl ?_ (by rw [sz];exact zl))
  have sb:=Heap.SameBut.update s.heap S (Obj.putSet es2 t2)
  have o1:=St.lay_self (es':=es2) (t':=t2) T.ob
  by_cases c:(!false&&t2.tooFull)=true
  ·rw [if_pos c]
   have c':(es.size+1)*5≥t.mask*3:=by
    simp only [Bool.not_false,Bool.true_and,SetTable.tooFull,decide_eq_true_eq,fl,m2] at c
    exact c
   obtain ⟨es3,t3,f1,f2,f3,f4,f5,f6,f7,f8,f9⟩:=zmb (n:=es.size) (t2:=t2) (es2:=es2) (by rw [m2];exact T.ms) sz (by rw [m2];exact T.lo) (by rw [m2];exact c') hz pn2
   rw [f1]
   dsimp only
   have sz3:es3.size=es.size+1:=by rw [← Array.length_toList,f2.length_eq,Array.length_toList,sz]
   show wpAny _ _ (pure () >>= _) _ _ _;refine wpAny_bind (wpAny_pure ?_)
   refine wpAny_bind (wpAny_storeSet_of (s:={ s with heap:=_ }) o1 rfl ?_ (by rw [sz3];exact zl))
   refine wpAny_pure (wpAny_pure (q _ true es3 _ t3 ⟨St.lay_self o1,by rw [f6,sz3],f5,f3,by rw [sz3];exact f4,f7,by rw [f8];exact ld2,f9,fun e he=>el2 e (f2.mem_iff.mp he),(f2.map _).trans ks2⟩ (sb.trans (Heap.SameBut.update _ S _))))
  ·rw [if_neg c]
   refine wpAny_pure (wpAny_pure (q _ true es2 _ t2 ⟨o1,by rw [p2,sz],d2,by rw [m2];exact T.ms,?_,pn2,ld2,r2,el2,ks2⟩ sb))
   simp only [Bool.not_false,Bool.true_and,SetTable.tooFull,decide_eq_true_eq,fl,m2] at c
   rw [sz,m2]
   (first|lia|omega)
def dd (val:Nat→Int):Nat→List Int
 | 0=>[]
 | i+1=>if val i∈dd val i then dd val i else val i::dd val i
theorem dd_len (val:Nat→Int):∀ i,(dd val i).length≤i
 | 0=>Nat.le_refl _
 | i+1=>by
  have:=dd_len val i
  unfold dd
  split
  ·(first|lia|omega)
  ·rw [List.length_cons]
   (first|lia|omega)
theorem dd_nodup (val:Nat→Int):∀ i,(dd val i).Nodup
 | 0=>List.nodup_nil
 | i+1=>by
  unfold dd
  split
  ·exact dd_nodup val i
  ·exact List.nodup_cons.mpr ⟨by assumption,dd_nodup val i⟩
theorem dd_mem (val:Nat→Int) {x:Int}:∀ {i},x∈dd val i↔∃ j,j<i∧val j=x
 | 0=>⟨fun h=>(nomatch h),fun ⟨j,h,_⟩=>absurd h (Nat.not_lt_zero j)⟩
 | i+1=>by
  have ih:=dd_mem val (x:=x) (i:=i)
  have e:x∈dd val (i+1)↔x∈dd val i∨val i=x:=by
   show x∈(if val i∈dd val i then dd val i else val i::dd val i)↔_
   split
   ·rename_i h
    exact ⟨.inl,fun z=>z.elim id fun e=>e ▸ h⟩
   ·rw [List.mem_cons]
    exact ⟨fun z=>z.elim (fun e=>.inr e.symm) .inl,fun z=>z.elim .inr fun e=>.inl e.symm⟩
  rw [e,ih]
  constructor
  ·rintro (⟨j,h1,h2⟩ | h)
   ·exact ⟨j,by (first|lia|omega),h2⟩
   ·exact ⟨i,by (first|lia|omega),h⟩
  ·rintro ⟨j,h1,h2⟩
   rcases Nat.lt_or_ge j i with l | l
   ·exact .inl ⟨j,l,h2⟩
   ·obtain rfl:j=i:=by (first|lia|omega)
    exact .inr h2
theorem SJ.keep {h h':Heap} {ds:List Int} (T:SJ P w h S es ep t ds) (e:∀ o,h.get? S=some o→h'.get? S=some o):SJ P w h' S es ep t ds :=
 ⟨e _ T.ob,T.pl,T.dm,T.ms,T.lo,T.pn,T.ld,T.rs,T.el,T.ks⟩
theorem SJ.size {h:Heap} {ds:List Int} (T:SJ P w h S es ep t ds):es.size=ds.length:=by
 rw [← T.ks.length_eq,List.length_map,Array.length_toList]
theorem loopJ {R:Result→Shared→Prop} {I:Addr} {fp wr:List Addr} {G:Array GenState→Array GenState→Prop} {n:Nat} {V:Nat→Value→Prop} {Z:Nat→Shared→Prop}
  (W:WalksS P w A.in1 I fp wr G n V Z) (S:Addr) (nS:S∉fp) (val:Nat→Int) (hv:∀ i v,V i v→∃ tk,v=.int (val i) tk) (hz:n<300) :
  ∀ (k i:Nat) (s:Shared) (es:Array (Int×Value)) (ep:Nat) (t:SetTable),n - i=k→i≤n→Z i s→SJ P w s.heap S es ep t (dd val i) →
   (∀ s' es' ep' t',Moved (S::wr) G s s'→SJ P w s'.heap S es' ep' t' (dd val n)→R (.ok (.ret .none)) s') →
   codeAny (model P w) A (.builtin "set.update.loop" ⟨[.ref S,.ref I],[]⟩) R s:=by
 have nW:S∉wr:=fun h=>nS (W.sub _ h)
 have sb:∀ b∈wr,b∈S::wr:=fun b hb=>List.mem_cons_of_mem _ hb
 intro k
 induction k with
 | zero =>
  intro i s es ep t ek hi st T q
  obtain rfl:i=n:=by (first|lia|omega)
  refine codeAny_builtin PyProof.Rows.F.entry_set_update_loop ?_;rw [Around.under_plainId PyProof.Rows.F.plain_set_update_loop _]
  show wpAny _ A.in1 (pyNext (.ref I) >>= _) _ _ s;refine wpAny_bind (W.done s _ _ st fun s' hm=>?_)
  show wpAny _ A.in1 (ret Value.none) _ _ s';exact wpAny_pure (q s' es ep t (hm.mono sb) (T.keep fun o e=>hm.heap S o nW e))
 | succ k ih =>
  intro i s es ep t ek hi st T q
  have lt:i<n:=by (first|lia|omega)
  refine codeAny_builtin PyProof.Rows.F.entry_set_update_loop ?_;rw [Around.under_plainId PyProof.Rows.F.plain_set_update_loop _]
  show wpAny _ A.in1 (pyNext (.ref I) >>= _) _ _ s;refine wpAny_bind (W.item i s _ _ lt st fun v s' hP st' hm=>?_)
  obtain ⟨tk,rfl⟩:=hv i v hP
  have T':SJ P w s'.heap S es ep t (dd val i):=T.keep fun o e=>hm.heap S o nW e
  have zl:=dd_len val i
  have sz:=T'.size
  show wpAny _ A.in1 (holding [Value.int (val i) tk] (setAdd S (.int (val i) tk)) >>= _) _ _ s';refine wpAny_bind (wpAny_holding ?_)
  unfold setAdd
  refine wpAny_holding (wpAny_bind ((intKind P w).pyHash (k:=val i) (intKind_is _ _ _ _) ?_))
  refine addJ (s:={ s' with toks:=s'.toks+1 }) T' (by (first|lia|omega)) fun h' b es' ep' t' T2 sm=>?_
  refine wpAny_pure ⟨plainId_quiet PyProof.Rows.F.plain_set_update_loop _,ih (i+1) _ es' ep' t' (by (first|lia|omega)) lt (W.frame _ s' _ _ st' (Nat.le_succ _) fun b hb o e=>?_) T2 fun s'' es'' ep'' t'' hm'' T3=>?_⟩
  ·rw [sm.2 b (fun h:b=S=>nS (by rw [← h];exact hb))];exact e
  ·refine q s'' es'' ep'' t'' (Moved.trans W.gtrans ((hm.mono sb).then_heap (Nat.le_succ _) fun b o hb e=>?_) hm'') T3
   rw [sm.2 b (fun h:b=S=>hb (by rw [h];exact List.mem_cons_self))];exact e
theorem zpi (v:Value) {Q₁:Value→Shared→Prop} (h:Q₁ (.ref s.heap.objs.size) { s with heap:=s.heap.push { cls:=.type "set",dict:=none,data:=.set #[] 0 (.fresh 0 0 (!w.params.followText "set-order")) } }) :
  codeAny (model P w) A (.call (.builtin "set.__new__") ⟨[.type "set",v],[]⟩) (wants Q₁ E) s:=by
 refine codeAny_of_tree ?_;show wpAny _ A.in1 (do checkBuiltinCall "set.__new__" ⟨[.type "set",v],[]⟩;again (.builtin "set.__new__" ⟨[.type "set",v],[]⟩)) _ _ s
 refine wpAny_bind (wpAny_of_eq (PySem.F.newCall_set_1 v) (wpAny_pure ⟨plainId_quiet PySem.F.plain_set_new _,codeAny_builtin PySem.F.entry_set_new ?_⟩));rw [Around.under_plainId PySem.F.plain_set_new _]
 unfold Builtin.«set.__new__» Builtin.Frozenset.newClass;have hsub:=PySem.sub_set_self;obtain ⟨hp,g,d,tk,os⟩:=s
 dsimp only;wp_walk
 refine wpAny_askSetting (wpAny_pure ?_);dsimp only;simp only [newObj]
 refine wpAny_bind (wpAny_alloc (wpAny_pure ?_));exact wpAny_pure h
set_option maxHeartbeats 3200000 in
theorem call_setJ {l:Addr} {its:Array Value} {val:Nat→Int} {Q:Value→Shared→Prop}
  (hh:A.handled=none) (hl:s.heap.IsList l its) (hv:∀ (i:Nat) v,its[i]?=some v→∃ tk,v=.int (val i) tk) (hz:its.size<300)
  (q:∀ (h':Heap) (u:Nat) es ep t,SJ P w h' s.heap.objs.size es ep t (dd val its.size)→(∀ b o,s.heap.get? b=some o→h'.get? b=some o)→Q (.ref s.heap.objs.size) { s with heap:=h',toks:=u }) :
  wpAny (model P w) A (call (.type "set") [.ref l]) Q E s:=by
 obtain ⟨c0,tl0,mr⟩:=PySem.F.called_set.mro
 have mad:=PySem.F.called_set.made;have sub0:=PySem.F.called_set.sub;refine wpAny_call (codeAny_of_tree ?_)
 show wpAny _ _ (callAny (.type "set") _) _ _ _;refine wpAny_pure ⟨Code.quiet_builtin _ (by decide +kernel),codeAny_builtin PySem.F.entry_type_call ?_⟩;rw [Around.under_plain (weight_type_call_type "set" [.ref l] []) rfl]
 have h1:=PySem.F.called_set.notType;have h2:=PySem.F.called_set.canCreate;have tc:=PySem.F.typeCall_set_1 (.ref l);repeat (any_goals (first | assumption | wp_step))
 refine codeAny_mono (zpi (.ref l) (E:=E) (Q₁:=fun ob s₁=>∃ led:Bool,led=!w.params.followText "set-order"∧ob=.ref s.heap.objs.size∧s₁={ s with heap:=s.heap.push { cls:=.type "set",dict:=none,data:=.set #[] 0 (.fresh 0 0 led) } }) ⟨_,rfl,rfl,rfl⟩) fun r s₁ hr=>?_
 cases r with
 | error e=>exact hr
 | ok fl =>
  cases fl with
  | ret ob =>
   obtain ⟨led,hled,rfl,rfl⟩:=hr
   have gS:(s.heap.push { cls:=.type "set",dict:=none,data:=.set #[] 0 (.fresh 0 0 led) }).get? s.heap.objs.size=some { cls:=.type "set",dict:=none,data:=.set #[] 0 (.fresh 0 0 led) }:=Heap.get?_push_size _ rfl
   have tyS:Shared.TypeIs { s with heap:=s.heap.push { cls:=.type "set",dict:=none,data:=.set #[] 0 (.fresh 0 0 led) } } (.ref s.heap.objs.size) "set":=⟨_,gS,rfl⟩
   have li:=PySem.F.called_set.init.lookup;have bi:=PySem.F.called_set.init.bind (.ref s.heap.objs.size);repeat (any_goals (first | assumption | wp_step))
   refine codeAny_mono (codeAny_call_builtin (R:=wants (fun r s₂=>r=.none∧∃ h' u es ep t,s₂={ s with heap:=h',toks:=u }∧SJ P w h' s.heap.objs.size es ep t (dd val its.size)∧(∀ b o,s.heap.get? b=some o→h'.get? b=some o)) E) PySem.F.called_set.init.plain PySem.F.entry_set_init (check_set_init_1 tyS ?_)) fun r₂ s₂ hr₂=>?_
   ·obtain ⟨⟨oc,od,odt,os⟩,go,gc,nl,gd⟩:=hl
    simp only at gc gd
    subst gc;subst gd
    have go':(s.heap.push { cls:=.type "set",dict:=none,data:=.set #[] 0 (.fresh 0 0 led) }).get? l=some { cls:=.type "list",dict:=od,data:=.seq its nl,slots:=os }:=Heap.get?_push_of_some _ go
    have b1:=PySem.F.sub_list_set;have b2:=PySem.F.sub_list_frozenset
    have b3:(Value.type "list" == Value.type "dict")=false:=by decide
    have hl1:(s.heap.push { cls:=.type "set",dict:=none,data:=.set #[] 0 (.fresh 0 0 led) }).IsList l its:=⟨_,go',rfl,nl,rfl⟩;unfold Builtin.«set.__init__» noKeywords Builtin.Frozenset.updateFrom
    generalize ePI:pyIter=PI
    wp_walk
    subst ePI
    refine wpAny_pyIter_list hl1 ?_;refine wpAny_bind (wpAny_runValue ?_)
    have lS:l<s.heap.objs.size:=Heap.lt_size go;have hh3:A.in1.in1.in1.handled=none:=by simp [hh]
    have sz1:(s.heap.push { cls:=.type "set",dict:=none,data:=.set #[] 0 (.fresh 0 0 led) }).objs.size=s.heap.objs.size+1:=Heap.size_push ..
    have nI:l≠(s.heap.push { cls:=.type "set",dict:=none,data:=.set #[] 0 (.fresh 0 0 led) }).objs.size:=by rw [sz1];exact Nat.ne_of_lt (Nat.lt_succ_of_lt lS)
    have nSf:s.heap.objs.size∉[(s.heap.push { cls:=.type "set",dict:=none,data:=.set #[] 0 (.fresh 0 0 led) }).objs.size,l]:=by
     rw [sz1];simp only [List.mem_cons,List.not_mem_nil,or_false,not_or]
     exact ⟨Nat.ne_of_lt (Nat.lt_succ_self _),Nat.ne_of_gt lS⟩
    refine loopJ ((Walks.list hh3 _ l nI its).toS) s.heap.objs.size nSf val hv hz (its.size - 0) 0 _ #[] 0 (.fresh 0 0 led) (by (first|lia|omega)) (Nat.zero_le _) ⟨⟨_,Heap.get?_push_size _ rfl,rfl,rfl⟩,(hl1.push _)⟩ ⟨Heap.get?_push_of_some _ gS,rfl,rfl,.inl rfl,(by show 0*5<7*3;decide),rfl,?_,List.Pairwise.nil,fun e he=>by simp at he,List.Perm.refl _⟩ ?_
    ·show w.params.followText "set-order"=true∨led=true
     rw [hled]
     cases w.params.followText "set-order" <;> simp
    ·intro s' es ep t hm T
     obtain ⟨h',g',d',tk',os'⟩:=s';have eg:g'=s.gens:=hm.gens;have ed:d'=s.drawn:=hm.drawn
     have eo:os'=s.os:=hm.os
     subst eg;subst ed;subst eo
     show wpAny _ _ _ _ _ _;refine wpAny_pure ?_;show wpAny _ _ (ret Value.none) _ _ _
     refine wpAny_pure ⟨rfl,h',tk',es,ep,t,rfl,T,fun b o e=>?_⟩
     have:=Heap.lt_size e
     refine hm.heap b o ?_ (Heap.get?_push_of_some _ (Heap.get?_push_of_some _ e))
     simp only [List.mem_cons,List.not_mem_nil,or_false,not_or]
     rw [sz1]
     exact ⟨Nat.ne_of_lt this,Nat.ne_of_lt (Nat.lt_succ_of_lt this)⟩
   ·cases r₂ with
    | error e=>exact hr₂
    | ok fl₂ =>
     cases fl₂ with
     | ret r =>
      obtain ⟨rfl,h',u,es,ep,t,rfl,g1,g4⟩:=hr₂;repeat (any_goals (first | assumption | wp_step))
      exact q _ _ _ _ _ g1 g4
     | _=>exact hr₂.elim
  | _=>exact hr.elim
end
end L2.Sw
namespace L2
open PySem PySem.Spec PyProof.Rows
def zfq (K:PySem.W.Frag):List V→Hp→VK→Prop:=fun xs H Q=>∃ (p:Addr) (ns:List Int),xs=[.ref p]∧SqL K H p (ns.map V.int)∧ns.length<64∧∀ (l:Addr) (ms:List Int),H l=none→(∀ x,x∈ms↔x∈ns)→ms.Pairwise (·<·)→ms.length≤ns.length→Q (.ref l) (upd H l (.lst (ms.map V.int)))
section
variable {X:Cx} {e:Expr} {t:TA} {p1 p2 pos1 pos2:Pos}
theorem zkc:∀ {ms:List Int},ms.Pairwise (·≤·)→ms.Nodup→ms.Pairwise (·<·)
 | [],_,_=>.nil
 | a::ms,h,n=>by
  rw [List.pairwise_cons] at h ⊢
  rw [List.nodup_cons] at n
  refine ⟨fun b hb=>?_,zkc h.2 n.2⟩
  have h1:=h.1 b hb
  have h2:a≠b:=fun z=>n.1 (z ▸ hb)
  (first|lia|omega)
theorem zjN (hgl:Gl X "sorted") (hml:X.mg "sorted"=none) (hgs:Gl X "set") (hms:X.mg "set"=none) (ha:PA X [e] t) (hc:X.calm=true:=by rfl)
  (he:starEach [e] X.env=(false,eval e X.env)::starEach [] X.env:=by rfl) (hpl:∀ pos,(backTo pos (starEach [] X.env)).any (·.1)=false:=by intro _;rfl)
  (he2:starEach [.Call (.Name "set" p2) [e] [] pos2] X.env=(false,eval (.Call (.Name "set" p2) [e] [] pos2) X.env)::starEach [] X.env:=by rfl) :
  PE X (.Call (.Name "sorted" p1) [.Call (.Name "set" p2) [e] [] pos2] [] pos1) (tCB (zfq X.K) t):=by
 intro pins s σ H Q I h
 refine wpAny_Call_Name_kw (zfW I hgl hml boot_sorted ?_ (by decide) (by decide))
 refine PyProof.Rows.callWith_builtin1 ?_ he2 (hpl _);rw [he2]
 show wpAny _ _ (spliced ((false,eval (.Call (.Name "set" p2) [e] [] pos2) X.env)::backTo pos1 (starEach [] X.env))) _ _ s;refine Calls.spliced_cons ?_
 refine wpAny_Call_Name_kw (zfW I hgs hms PyProof.Rows.boot_set ?_ (by decide) (by decide))
 refine PyProof.Rows.callWith_type1 (thn (ha pos2 pins s σ H _ I h) fun us s1 hQ'=>?_) he (hpl _)
 obtain ⟨vs,H1,I1,r1,q1⟩:=hQ'
 obtain ⟨p,ns,rfl,hp,l64,q⟩:=q1
 obtain ⟨u,rfl,rx⟩:=zmS r1
 cases rx
 obtain ⟨its,rv,pl,hz⟩:=I1.list hp
 have hlen:its.length=ns.length:=by rw [← rv.length,List.length_map]
 refine Sw.call_setJ (its:=its.toArray) (val:=fun i=>ns.getD i 0) (I1.ok.hd hc) pl.isList (fun i v e=>?_) (by rw [List.size_toArray,hlen];(first|lia|omega)) fun h' tk es ep tb T g4=>?_
 ·have hi:i<ns.length:=by
   have:=(Array.getElem?_eq_some_iff.mp e).1
   rw [List.size_toArray,hlen] at this
   exact this
  obtain ⟨u,eu,ru⟩:=rv.get (show (ns.map V.int)[i]?=some (V.int ns[i]) by simp [hi])
  have e':its[i]?=some v:=by simpa using e
  rw [e'] at eu
  cases eu
  rw [List.getD_eq_getElem?_getD,List.getElem?_eq_getElem hi]
  exact ru
 ·refine Calls.spliced_nil ?_
  have szi:its.toArray.size=ns.length:=by rw [List.size_toArray];exact hlen
  rw [szi] at T
  have I2:Inv X pins σ H1 { s1 with heap:=h',toks:=tk }:=I1.kept (t':=tk) g4
  generalize s1.heap.objs.size=S at T ⊢
  have hes:=T.size
  have hdd:=Sw.dd_len (fun i=>ns.getD i 0) ns.length
  refine Calls.call_function_entry kind_sorted plain_sorted entry_sorted (args_sorted1 _) ?_;unfold Builtin.«sorted»;refine wpAny_bind (m:=checkCount "sorted" 1 1 _) (wpAny_pure ?_)
  refine wpAny_bind (PySem.W.kdu_collect (A:=X.A.in1) (s:={ s1 with heap:=h',toks:=tk }) (Sw.src (P:=X.prog) (w:=X.w) T.fits T.led) (I1.ok.hd hc) T.ob (by rw [sizeLine_eq];(first|lia|omega)) fun h2 tk2 acc hkp hacc=>?_)
  have pm:=(Sw.ord_perm (w:=X.w) (S:=S) (es:=es) (ep:=ep))
  have osz:(Sw.ord X.w S es ep).size=es.size:=by rw [← Array.length_toList,pm.length_eq,Array.length_toList]
  have hla:acc.toList.length=es.size:=by rw [Array.length_toList,hacc.1]
  have hI:IntsAre acc.toList ((Sw.ord X.w S es ep).toList.map fun e=>Sw.vI e.2):=by
   refine zja (zk3 (by rw [List.length_map,List.length_map,hla,Array.length_toList,osz]) fun j x w e1 e2=>?_)
   rw [List.getElem?_map,Option.map_eq_some_iff] at e1
   obtain ⟨k,hk,rfl⟩:=e1
   rw [List.getElem?_map,Option.map_eq_some_iff] at hk
   obtain ⟨y,hy,rfl⟩:=hk
   have e3:((Sw.ord X.w S es ep)[j]?).map (·.2)=some w:=hacc.2 j w (by rw [← Array.getElem?_toList];exact e2)
   rw [← Array.getElem?_toList,hy] at e3
   cases e3
   obtain ⟨k',tk',rfl⟩:=T.el y (pm.mem_iff.mp (List.mem_of_getElem? hy))
   exact ⟨tk',rfl⟩
  have hpk:((Sw.ord X.w S es ep).toList.map fun e=>Sw.vI e.2).Perm (Sw.dd (fun i=>ns.getD i 0) ns.length):=(pm.map _).trans T.ks
  refine wpAny_bind (wpAny_newList ?_ (by rw [hla,sizeLine_eq];(first|lia|omega)))
  have hoL:(h2.push (seqObj "list" acc.toList.toArray 0)).get? h2.objs.size=some (seqObj "list" acc.toList.toArray 0):=Heap.get?_push_size _ rfl
  refine wpAny_bind (wpAny_holding (wpAny_call_entry slot_list_sort ⟨_,hoL,rfl⟩ entry_list_sort (list_sort_tree hoL hI (by rw [hla];(first|lia|omega)) fun out ns' a1 a2 a3=>⟨_,rfl,?_⟩) (args_list_sort _)))
  obtain ⟨e,he⟩:=sortedHeap_at (out:=out) hoL;refine wpAny_pure ⟨_,rfl,?_⟩
  have I':Inv X pins σ H1 { s1 with heap:=h2,toks:=tk2 }:=I2.kept (t':=tk2) hkp
  have a4:=a2.trans hpk
  refine zjV (s:={ s1 with heap:=h2,toks:=tk2 }) (h':=sortedHeap (h2.push (seqObj "list" acc.toList.toArray 0)) h2.objs.size acc.toList out) (tk:=tk2) I' (fun b o hb'=>?_) (Nat.le_refl _) he a1 (by rw [a4.length_eq];(first|lia|omega)) fun hn=>q _ ns' hn (fun x=>?_) (zkc a3 (a4.nodup_iff.mpr (Sw.dd_nodup _ _))) (by rw [a4.length_eq];exact hdd)
  ·have hlt:=Heap.lt_size hb'
   rw [sortedHeap_old (Nat.ne_of_lt hlt) (by rw [size_push'];exact Nat.lt_succ_of_lt hlt)]
   exact Heap.get?_push_of_some _ hb'
  ·rw [a4.mem_iff,Sw.dd_mem]
   constructor
   ·rintro ⟨j,hj,rfl⟩
    rw [List.getD_eq_getElem?_getD,List.getElem?_eq_getElem hj]
    exact List.getElem_mem hj
   ·intro hx
    obtain ⟨j,ej⟩:=List.getElem?_of_mem hx
    exact ⟨j,(List.getElem?_eq_some_iff.mp ej).1,by rw [List.getD_eq_getElem?_getD,ej];rfl⟩
end
end L2
set_option maxHeartbeats 4000000
local macro_rules
 | `(tactic| simp_all only [$xs,*])=>do
  let ds ← ("zov znV zoK zn7 zoE zn2 zo1 znU zoX znZ zmZ zmn zmx zlS rI_c rI0_c zqS zqa ex_bl zrJ zqv zqE zp8 zlV zlT zl5 zmr zlM zmv zlI zmW zm4 zmp zlr zle zkS zld zkN zke zm2 zpp zij zaM tSl zfQ zlG zra zbf zq0 tBM znW zfV zbN zaR zbF zaZ zcA zaz zcy tCB zab zan tC tOp zbE tB zpz tOr zfn zdt zbo zeB zeo zcJ zau rEq zmC zfq zhe tUn tTru tIf rU rNe rEqT zqo zj8 rAll zia zge tPar zmj".splitOn " ").toArray.mapM fun s=>`(Lean.Parser.Tactic.simpLemma| ↓ $(Lean.mkIdent s.toName):ident)
  let ps ← ("zpD Option.bind_some Option.bind_none Option.join_some Option.map_some List.getElem?_cons_zero List.getElem?_cons_succ V.str.injEq V.ty.injEq zac rI rI0 zcX zbu L2.start zmN zoj zmA zo4 List.map_cons List.map_nil List.length_cons List.length_nil List.replicate List.cons_append List.nil_append List.append_nil Option.some.injEq exists_eq_left' exists_eq_left exists_and_left List.cons.injEq V.int.injEq V.ref.injEq V.bl.injEq and_true true_and List.set_cons_zero List.set_cons_succ Nat.reduceAdd Nat.reduceSub Int.reduceToNat Int.reducePow Int.reduceNeg Int.reduceMul Int.reduceAdd Int.reduceSub decide_eq_true_eq Bool.not_eq_true' decide_eq_false_iff_not exists_const and_assoc exists_eq exists_eq' if_true if_false Bool.false_eq_true Bool.true_eq_false reduceCtorEq not_true_eq_false not_false_eq_true".splitOn " ").toArray.mapM fun s=>`(Lean.Parser.Tactic.simpLemma| $(Lean.mkIdent s.toName):ident)
  `(tactic| simp only [$xs,*,$ds,*,$ps,*])
namespace My
local macro_rules | `(tactic| omega)=>`(tactic| lia)
open PySem L2
def top (i:Nat):Stmt:=PySem.Challenge.pw_hideworth_k24_whole_no_mix_finds_more.main.body.getD i (.Pass ⟨0,0,0,0⟩)
abbrev zfy:Stmt:=top 6
abbrev ziM:Stmt:=top 7
abbrev zkQ:Stmt:=top 8
abbrev ziY:Stmt:=top 9
abbrev ziC:Stmt:=top 10
abbrev zkm:Stmt:=top 11
abbrev ziD:Stmt:=top 12
abbrev zfp:Stmt:=top 13
abbrev zcl:Stmt:=top 14
abbrev zfw:Stmt:=top 15
abbrev zeX:Stmt:=top 17
abbrev zeg:Stmt:=top 18
abbrev zg9:Stmt:=top 24
abbrev zcL:Stmt:=top 25
abbrev zdm:Stmt:=top 26
abbrev zi0:Stmt:=top 27
abbrev zgW:Stmt:=top 28
abbrev zgO:Stmt:=top 29
abbrev zkE:Stmt:=top 30
abbrev zdT:Stmt:=top 31
abbrev ziw:Stmt:=top 32
abbrev zcW:Stmt:=top 33
abbrev zb5:Stmt:=top 34
abbrev zcg:Stmt:=top 35
abbrev zba:Stmt:=top 36
abbrev zcz:Stmt:=top 37
abbrev zdS:Stmt:=top 38
abbrev zdX:Stmt:=top 39
abbrev zcu:Stmt:=top 40
abbrev zdB:Stmt:=top 41
abbrev zcT:Stmt:=top 42
abbrev zeY:Stmt:=top 44
abbrev zcR:Stmt:=top 45
abbrev zet:Stmt:=top 46
abbrev zel:Stmt:=top 47
abbrev zdw:Stmt:=top 48
abbrev zdP:Stmt:=top 49
abbrev zdn:Stmt:=top 51
abbrev zev:Stmt:=top 52
abbrev zen:Stmt:=top 53
abbrev zer:Stmt:=top 54
abbrev zdc:Stmt:=top 55
abbrev zcO:Stmt:=top 56
abbrev zcw:Stmt:=top 57
abbrev zca:Stmt:=top 58
abbrev zbh:Stmt:=top 62
abbrev zdI:Stmt:=top 63
abbrev zby:Stmt:=top 64
abbrev zoG:Stmt:=top 65
set_option genInjectivity false in
set_option genSizeOf false in
structure Ad where
 f_divisor:Addr
 d_divisor:FuncData
 f_ratio:Addr
 d_ratio:FuncData
 f_plus:Addr
 d_plus:FuncData
 f_minus:Addr
 d_minus:FuncData
 f_times:Addr
 d_times:FuncData
 f_over:Addr
 d_over:FuncData
 f_below:Addr
 d_below:FuncData
 f_common:Addr
 d_common:FuncData
 f_shared_divisor:Addr
 d_shared_divisor:FuncData
 f_lowest:Addr
 d_lowest:FuncData
 f_is_whole:Addr
 d_is_whole:FuncData
 f_is_within:Addr
 d_is_within:FuncData
 f_is_box:Addr
 d_is_box:FuncData
 f_look_boxes:Addr
 d_look_boxes:FuncData
 f_look_budget:Addr
 d_look_budget:FuncData
 f_power:Addr
 d_power:FuncData
 f_missed:Addr
 d_missed:FuncData
 f_chance:Addr
 d_chance:FuncData
 f_gain:Addr
 d_gain:FuncData
 f_cost_sum:Addr
 d_cost_sum:FuncData
 f_added:Addr
 d_added:FuncData
 f_least_chance:Addr
 d_least_chance:FuncData
 f_fair_weights:Addr
 d_fair_weights:FuncData
 f_chance_for:Addr
 d_chance_for:FuncData
 f_counts_and_worth:Addr
 d_counts_and_worth:FuncData
 f_look_shares:Addr
 d_look_shares:FuncData
 f_mix_of:Addr
 d_mix_of:FuncData
 f_paper_of:Addr
 d_paper_of:FuncData
 f_sure_answer:Addr
 d_sure_answer:FuncData
 f_is_sure:Addr
 d_is_sure:FuncData
 f_budget_worth:Addr
 d_budget_worth:FuncData
 f__law_mix:Addr
 d__law_mix:FuncData
 f__law_cell_at:Addr
 d__law_cell_at:FuncData
 f__law_left:Addr
 d__law_left:FuncData
 f__law_draw:Addr
 d__law_draw:FuncData
 f__law_boxes:Addr
 d__law_boxes:FuncData
 f__law_whole:Addr
 d__law_whole:FuncData
 f__law_lowest:Addr
 d__law_lowest:FuncData
 f__law_miss:Addr
 d__law_miss:FuncData
 f__law_plus:Addr
 d__law_plus:FuncData
 f__law_less:Addr
 d__law_less:FuncData
 f__law_plan:Addr
 d__law_plan:FuncData
 f__law_price:Addr
 d__law_price:FuncData
 f__law_chance:Addr
 d__law_chance:FuncData
 f__law_keeps:Addr
 d__law_keeps:FuncData
 f__law_drawn_mix:Addr
 d__law_drawn_mix:FuncData
 f__law_least:Addr
 d__law_least:FuncData
 f__law_found_by_weights:Addr
 d__law_found_by_weights:FuncData
 f_law:Addr
 d_law:FuncData
 c_NoNumber:Addr
 c_NoBoxes:Addr
 c_NoBudget:Addr
 k_MOST_BOXES:Tok
 k_MOST_COST:Tok
 k_MOST_OF:Tok
 k_MOST_BUDGET:Tok
structure Txt (K:PySem.W.Frag) (mg:Str→Option Value) (a:Ad):Prop where
 F_divisor:Fun K "divisor" "divisor" zfy a.f_divisor a.d_divisor
 b_divisor:za6 K a.d_divisor ["one","other"] []
 m_divisor:mg "divisor"=some (.ref a.f_divisor)
 F_ratio:Fun K "ratio" "ratio" ziM a.f_ratio a.d_ratio
 b_ratio:za6 K a.d_ratio ["top","bottom"] []
 m_ratio:mg "ratio"=some (.ref a.f_ratio)
 F_plus:Fun K "plus" "plus" zkQ a.f_plus a.d_plus
 b_plus:za6 K a.d_plus ["one","other"] []
 m_plus:mg "plus"=some (.ref a.f_plus)
 F_minus:Fun K "minus" "minus" ziY a.f_minus a.d_minus
 b_minus:za6 K a.d_minus ["one","other"] []
 m_minus:mg "minus"=some (.ref a.f_minus)
 F_times:Fun K "times" "times" ziC a.f_times a.d_times
 b_times:za6 K a.d_times ["one","other"] []
 m_times:mg "times"=some (.ref a.f_times)
 F_over:Fun K "over" "over" zkm a.f_over a.d_over
 b_over:za6 K a.d_over ["one","other"] []
 m_over:mg "over"=some (.ref a.f_over)
 F_below:Fun K "below" "below" ziD a.f_below a.d_below
 b_below:za6 K a.d_below ["one","other"] []
 m_below:mg "below"=some (.ref a.f_below)
 F_common:Fun K "common" "common" zfp a.f_common a.d_common
 b_common:za6 K a.d_common ["fractions"] []
 m_common:mg "common"=some (.ref a.f_common)
 F_shared_divisor:Fun K "shared_divisor" "shared_divisor" zcl a.f_shared_divisor a.d_shared_divisor
 b_shared_divisor:za6 K a.d_shared_divisor ["numbers"] []
 m_shared_divisor:mg "shared_divisor"=some (.ref a.f_shared_divisor)
 F_lowest:Fun K "lowest" "lowest" zfw a.f_lowest a.d_lowest
 b_lowest:za6 K a.d_lowest ["weights"] []
 m_lowest:mg "lowest"=some (.ref a.f_lowest)
 F_is_whole:Fun K "is_whole" "is_whole" zeX a.f_is_whole a.d_is_whole
 b_is_whole:za6 K a.d_is_whole ["thing"] []
 m_is_whole:mg "is_whole"=some (.ref a.f_is_whole)
 F_is_within:Fun K "is_within" "is_within" zeg a.f_is_within a.d_is_within
 b_is_within:za6 K a.d_is_within ["thing","least","most"] []
 m_is_within:mg "is_within"=some (.ref a.f_is_within)
 F_is_box:Fun K "is_box" "is_box" zg9 a.f_is_box a.d_is_box
 b_is_box:za6 K a.d_is_box ["thing"] []
 m_is_box:mg "is_box"=some (.ref a.f_is_box)
 F_look_boxes:Fun K "look_boxes" "look_boxes" zcL a.f_look_boxes a.d_look_boxes
 b_look_boxes:za6 K a.d_look_boxes ["boxes"] []
 m_look_boxes:mg "look_boxes"=some (.ref a.f_look_boxes)
 F_look_budget:Fun K "look_budget" "look_budget" zdm a.f_look_budget a.d_look_budget
 b_look_budget:za6 K a.d_look_budget ["budget"] []
 m_look_budget:mg "look_budget"=some (.ref a.f_look_budget)
 F_power:Fun K "power" "power" zi0 a.f_power a.d_power
 b_power:za6 K a.d_power ["base","count"] []
 m_power:mg "power"=some (.ref a.f_power)
 F_missed:Fun K "missed" "missed" zgW a.f_missed a.d_missed
 b_missed:za6 K a.d_missed ["box","count"] []
 m_missed:mg "missed"=some (.ref a.f_missed)
 F_chance:Fun K "chance" "chance" zgO a.f_chance a.d_chance
 b_chance:za6 K a.d_chance ["box","count"] []
 m_chance:mg "chance"=some (.ref a.f_chance)
 F_gain:Fun K "gain" "gain" zkE a.f_gain a.d_gain
 b_gain:za6 K a.d_gain ["box","count"] []
 m_gain:mg "gain"=some (.ref a.f_gain)
 F_cost_sum:Fun K "cost_sum" "cost_sum" zdT a.f_cost_sum a.d_cost_sum
 b_cost_sum:za6 K a.d_cost_sum ["boxes","plan"] []
 m_cost_sum:mg "cost_sum"=some (.ref a.f_cost_sum)
 F_added:Fun K "added" "added" ziw a.f_added a.d_added
 b_added:za6 K a.d_added ["fractions"] []
 m_added:mg "added"=some (.ref a.f_added)
 F_least_chance:Fun K "least_chance" "least_chance" zcW a.f_least_chance a.d_least_chance
 b_least_chance:za6 K a.d_least_chance ["chances"] []
 m_least_chance:mg "least_chance"=some (.ref a.f_least_chance)
 F_fair_weights:Fun K "fair_weights" "fair_weights" zb5 a.f_fair_weights a.d_fair_weights
 b_fair_weights:za6 K a.d_fair_weights ["boxes","counts"] []
 m_fair_weights:mg "fair_weights"=some (.ref a.f_fair_weights)
 F_chance_for:Fun K "chance_for" "chance_for" zcg a.f_chance_for a.d_chance_for
 b_chance_for:za6 K a.d_chance_for ["boxes","budget","counts"] []
 m_chance_for:mg "chance_for"=some (.ref a.f_chance_for)
 F_counts_and_worth:Fun K "counts_and_worth" "counts_and_worth" zba a.f_counts_and_worth a.d_counts_and_worth
 b_counts_and_worth:za6 K a.d_counts_and_worth ["boxes","budget"] []
 m_counts_and_worth:mg "counts_and_worth"=some (.ref a.f_counts_and_worth)
 F_look_shares:Fun K "look_shares" "look_shares" zcz a.f_look_shares a.d_look_shares
 b_look_shares:za6 K a.d_look_shares ["boxes","counts","worth"] []
 m_look_shares:mg "look_shares"=some (.ref a.f_look_shares)
 F_mix_of:Fun K "mix_of" "mix_of" zdS a.f_mix_of a.d_mix_of
 b_mix_of:za6 K a.d_mix_of ["boxes","counts","worth"] []
 m_mix_of:mg "mix_of"=some (.ref a.f_mix_of)
 F_paper_of:Fun K "paper_of" "paper_of" zdX a.f_paper_of a.d_paper_of
 b_paper_of:za6 K a.d_paper_of ["boxes","counts"] []
 m_paper_of:mg "paper_of"=some (.ref a.f_paper_of)
 F_sure_answer:Fun K "sure_answer" "sure_answer" zcu a.f_sure_answer a.d_sure_answer
 b_sure_answer:za6 K a.d_sure_answer ["boxes"] []
 m_sure_answer:mg "sure_answer"=some (.ref a.f_sure_answer)
 F_is_sure:Fun K "is_sure" "is_sure" zdB a.f_is_sure a.d_is_sure
 b_is_sure:za6 K a.d_is_sure ["boxes","budget"] []
 m_is_sure:mg "is_sure"=some (.ref a.f_is_sure)
 F_budget_worth:Fun K "budget_worth" "budget_worth" zcT a.f_budget_worth a.d_budget_worth
 b_budget_worth:za6 K a.d_budget_worth ["boxes","budget"] []
 m_budget_worth:mg "budget_worth"=some (.ref a.f_budget_worth)
 F__law_mix:Fun K "_law_mix" "_law_mix" zeY a.f__law_mix a.d__law_mix
 b__law_mix:za6 K a.d__law_mix ["_law_number","_law_k"] []
 m__law_mix:mg "_law_mix"=some (.ref a.f__law_mix)
 F__law_cell_at:Fun K "_law_cell_at" "_law_cell_at" zcR a.f__law_cell_at a.d__law_cell_at
 b__law_cell_at:za6 K a.d__law_cell_at ["_law_script","_law_k"] []
 m__law_cell_at:mg "_law_cell_at"=some (.ref a.f__law_cell_at)
 F__law_left:Fun K "_law_left" "_law_left" zet a.f__law_left a.d__law_left
 b__law_left:za6 K a.d__law_left ["_law_script","_law_k"] []
 m__law_left:mg "_law_left"=some (.ref a.f__law_left)
 F__law_draw:Fun K "_law_draw" "_law_draw" zel a.f__law_draw a.d__law_draw
 b__law_draw:za6 K a.d__law_draw ["_law_left_here","_law_base"] []
 m__law_draw:mg "_law_draw"=some (.ref a.f__law_draw)
 F__law_boxes:Fun K "_law_boxes" "_law_boxes" zdw a.f__law_boxes a.d__law_boxes
 b__law_boxes:za6 K a.d__law_boxes ["_law_left_here","_law_most"] []
 m__law_boxes:mg "_law_boxes"=some (.ref a.f__law_boxes)
 F__law_whole:Fun K "_law_whole" "_law_whole" zdP a.f__law_whole a.d__law_whole
 b__law_whole:za6 K a.d__law_whole ["_law_thing"] []
 m__law_whole:mg "_law_whole"=some (.ref a.f__law_whole)
 F__law_lowest:Fun K "_law_lowest" "_law_lowest" zdn a.f__law_lowest a.d__law_lowest
 b__law_lowest:za6 K a.d__law_lowest ["_law_top","_law_bottom"] []
 m__law_lowest:mg "_law_lowest"=some (.ref a.f__law_lowest)
 F__law_miss:Fun K "_law_miss" "_law_miss" zev a.f__law_miss a.d__law_miss
 b__law_miss:za6 K a.d__law_miss ["_law_box","_law_many"] []
 m__law_miss:mg "_law_miss"=some (.ref a.f__law_miss)
 F__law_plus:Fun K "_law_plus" "_law_plus" zen a.f__law_plus a.d__law_plus
 b__law_plus:za6 K a.d__law_plus ["_law_one","_law_other"] []
 m__law_plus:mg "_law_plus"=some (.ref a.f__law_plus)
 F__law_less:Fun K "_law_less" "_law_less" zer a.f__law_less a.d__law_less
 b__law_less:za6 K a.d__law_less ["_law_one","_law_other"] []
 m__law_less:mg "_law_less"=some (.ref a.f__law_less)
 F__law_plan:Fun K "_law_plan" "_law_plan" zdc a.f__law_plan a.d__law_plan
 b__law_plan:za6 K a.d__law_plan ["_law_boxes_here","_law_thing"] []
 m__law_plan:mg "_law_plan"=some (.ref a.f__law_plan)
 F__law_price:Fun K "_law_price" "_law_price" zcO a.f__law_price a.d__law_price
 b__law_price:za6 K a.d__law_price ["_law_boxes_here","_law_plan_here"] []
 m__law_price:mg "_law_price"=some (.ref a.f__law_price)
 F__law_chance:Fun K "_law_chance" "_law_chance" zcw a.f__law_chance a.d__law_chance
 b__law_chance:za6 K a.d__law_chance ["_law_boxes_here","_law_mix_here","_law_k"] []
 m__law_chance:mg "_law_chance"=some (.ref a.f__law_chance)
 F__law_keeps:Fun K "_law_keeps" "_law_keeps" zca a.f__law_keeps a.d__law_keeps
 b__law_keeps:za6 K a.d__law_keeps ["_law_boxes_here","_law_budget","_law_mix_here"] []
 m__law_keeps:mg "_law_keeps"=some (.ref a.f__law_keeps)
 F__law_drawn_mix:Fun K "_law_drawn_mix" "_law_drawn_mix" zbh a.f__law_drawn_mix a.d__law_drawn_mix
 b__law_drawn_mix:za6 K a.d__law_drawn_mix ["_law_left_here","_law_boxes_here","_law_budget"] []
 m__law_drawn_mix:mg "_law_drawn_mix"=some (.ref a.f__law_drawn_mix)
 F__law_least:Fun K "_law_least" "_law_least" zdI a.f__law_least a.d__law_least
 b__law_least:za6 K a.d__law_least ["_law_boxes_here","_law_mix_here"] []
 m__law_least:mg "_law_least"=some (.ref a.f__law_least)
 F__law_found_by_weights:Fun K "_law_found_by_weights" "_law_found_by_weights" zby a.f__law_found_by_weights a.d__law_found_by_weights
 b__law_found_by_weights:za6 K a.d__law_found_by_weights ["_law_boxes_here","_law_weights","_law_plan_here"] []
 m__law_found_by_weights:mg "_law_found_by_weights"=some (.ref a.f__law_found_by_weights)
 F_law:Fun K "law" "law" zoG a.f_law a.d_law
 b_law:za6 K a.d_law ["_law_script"] []
 m_law:mg "law"=some (.ref a.f_law)
 z_set:mg "set"=none
 z_isinstance:mg "isinstance"=none
 z_range:mg "range"=none
 z_all:mg "all"=none
 z_sorted:mg "sorted"=none
 z_abs:mg "abs"=none
 z_sum:mg "sum"=none
 z_len:mg "len"=none
 z_list:mg "list"=none
 z_zip:mg "zip"=none
 z_int:mg "int"=none
 z_bool:mg "bool"=none
 z_tuple:mg "tuple"=none
 z_max:mg "max"=none
 m_NoNumber:mg "NoNumber"=some (.ref a.c_NoNumber)
 m_NoBoxes:mg "NoBoxes"=some (.ref a.c_NoBoxes)
 m_NoBudget:mg "NoBudget"=some (.ref a.c_NoBudget)
 m_MOST_BOXES:mg "MOST_BOXES"=some (.int 6 a.k_MOST_BOXES)
 m_MOST_COST:mg "MOST_COST"=some (.int 60 a.k_MOST_COST)
 m_MOST_OF:mg "MOST_OF"=some (.int 50 a.k_MOST_OF)
 m_MOST_BUDGET:mg "MOST_BUDGET"=some (.int 60 a.k_MOST_BUDGET)
 x_NoNumber:PySem.W.excIn K a.c_NoNumber zjG "ValueError.__new__"=true
 x_NoBoxes:PySem.W.excIn K a.c_NoBoxes zjG "ValueError.__new__"=true
 x_NoBudget:PySem.W.excIn K a.c_NoBudget zjG "ValueError.__new__"=true
def Bd (m:Nat) (x:Int):Prop:=x.natAbs<2 ^ m
theorem Bd.mono {m n:Nat} {x:Int} (h:Bd m x) (l:m≤n):Bd n x:=Nat.lt_of_lt_of_le h (Nat.pow_le_pow_right (by decide) l)
theorem Bd.mul {m n:Nat} {x y:Int} (hx:Bd m x) (hy:Bd n y):Bd (m+n) (x*y):=by
 unfold Bd at *
 rw [Int.natAbs_mul,Nat.pow_add]
 exact Nat.mul_lt_mul'' hx hy
theorem Bd.add {m:Nat} {x y:Int} (hx:Bd m x) (hy:Bd m y):Bd (m+1) (x+y):=by
 unfold Bd at *
 rw [Nat.pow_succ,Nat.mul_two]
 exact Nat.lt_of_le_of_lt (Int.natAbs_add_le x y) (Nat.add_lt_add hx hy)
theorem Bd.sub {m:Nat} {x y:Int} (hx:Bd m x) (hy:Bd m y):Bd (m+1) (x - y):=by
 unfold Bd at *
 rw [Nat.pow_succ,Nat.mul_two]
 exact Nat.lt_of_le_of_lt (Int.natAbs_sub_le x y) (Nat.add_lt_add hx hy)
theorem Bd.le {m:Nat} {x y:Int} (hy:Bd m y) (h:x.natAbs≤y.natAbs):Bd m x:=Nat.lt_of_le_of_lt h hy
def sg (t b:Int):Int:=if b<0 then -(Int.gcd t b:Int) else (Int.gcd t b:Int)
def zmE (t b:Int):Int:=t.fdiv (sg t b)
def ziu (t b:Int):Int:=b.fdiv (sg t b)
theorem zk6 {t b:Int} (h:b≠0):Int.gcd t b≠0:=fun e=>h (Int.gcd_eq_zero_iff.mp e).2
theorem zhM {t b:Int} (h:b≠0):sg t b≠0:=by
 have:=zk6 (t:=t) h
 unfold sg
 split <;> omega
theorem znr (t b:Int):(sg t b).natAbs=Int.gcd t b:=by
 unfold sg
 split <;> omega
theorem znI (t b:Int):sg t b∣t:=by
 unfold sg
 split
 ·exact Int.neg_dvd.mpr (Int.gcd_dvd_left ..)
 ·exact Int.gcd_dvd_left ..
theorem zo8 (t b:Int):sg t b∣b:=by
 unfold sg
 split
 ·exact Int.neg_dvd.mpr (Int.gcd_dvd_right ..)
 ·exact Int.gcd_dvd_right ..
theorem zdU {x g:Int} (h:g∣x):x.fdiv g*g=x:=by
 rw [Int.fdiv_eq_ediv_of_dvd h]
 exact Int.ediv_mul_cancel h
theorem zgH (t b:Int):zmE t b*sg t b=t:=zdU (znI t b)
theorem zfm (t b:Int):ziu t b*sg t b=b:=zdU (zo8 t b)
theorem zri {t b:Int} (h:b≠0):(sg t b).natAbs≤b.natAbs:=by
 rw [znr]
 exact Nat.le_of_dvd (by omega) (Int.natAbs_dvd_natAbs.mpr (Int.gcd_dvd_right t b))
theorem ze4 {q g x:Int} (h:q*g=x) (hg:g≠0):q.natAbs≤x.natAbs:=by
 rw [← h,Int.natAbs_mul]
 exact Nat.le_mul_of_pos_right _ (by omega)
theorem zoO {t b:Int} (h:b≠0):(zmE t b).natAbs≤t.natAbs:=ze4 (zgH t b) (zhM h)
theorem zn1 {t b:Int} (h:b≠0):(ziu t b).natAbs≤b.natAbs:=ze4 (zfm t b) (zhM h)
theorem zjH {q g x:Int} (h:q*g=x) (s:(0<x∧0<g)∨(x<0∧g<0)):0<q:=by
 rcases s with ⟨a,c⟩ | ⟨a,c⟩
 ·exact Int.pos_of_mul_pos_left (by rw [h];exact a) c
 ·by_cases z:0<q
  ·exact z
  ·have h1:0≤(-q)*(-g):=Int.mul_nonneg (by omega) (by omega)
   rw [Int.neg_mul_neg,h] at h1
   omega
theorem zl0 {t b:Int} (h:b≠0):0<ziu t b:=by
 refine zjH (zfm t b) ?_
 have g:=zk6 (t:=t) h
 unfold sg
 split <;> omega
theorem zoi {t b:Int} (h:b≠0):Int.gcd (zmE t b) (ziu t b)=1:=by
 have e:Int.gcd (zmE t b*sg t b) (ziu t b*sg t b)=Int.gcd (zmE t b) (ziu t b)*(sg t b).natAbs:=Int.gcd_mul_right ..
 rw [zgH,zfm,znr] at e
 exact Nat.eq_of_mul_eq_mul_right (Nat.pos_of_ne_zero (zk6 h)) (by rw [Nat.one_mul];exact e.symm)
theorem zh0 {t b:Int} (h:b≠0):(Rat.divInt t b).num=zmE t b∧((Rat.divInt t b).den:Int)=ziu t b:=by
 have p:=zl0 (t:=t) h
 have g:=zoi (t:=t) h
 have e2:((ziu t b).toNat:Int)=ziu t b:=by omega
 have nz:(ziu t b).toNat≠0:=by omega
 have red:(zmE t b).natAbs.Coprime (ziu t b).toNat:=by
  have e:(ziu t b).toNat=(ziu t b).natAbs:=by omega
  rw [e]
  exact g
 have e:Rat.divInt t b=⟨zmE t b,(ziu t b).toNat,nz,red⟩:=by
  rw [Rat.mk_eq_divInt,e2,Rat.divInt_eq_divInt_iff h (by omega)]
  have h1:=zgH t b
  have h2:=zfm t b
  generalize zmE t b=x at h1 ⊢
  generalize ziu t b=y at h2 ⊢
  rw [← h1,← h2]
  grind
 rw [e]
 exact ⟨rfl,e2⟩
abbrev fr (q:Rat):List L2.V:=[.int q.num,.int (q.den:Int)]
abbrev nf (q:Rat):List Int:=[q.num,(q.den:Int)]
theorem zbL (q:Rat):(q.den:Int)≠0:=by
 have:=q.den_nz
 omega
theorem zcn (q:Rat):0<(q.den:Int):=by
 have:=q.den_nz
 omega
theorem zkZ (p q:Rat):Rat.divInt (p.num*q.den+q.num*p.den) (p.den*q.den)=p+q:=by
 rw [← Rat.divInt_add_divInt _ _ (zbL p) (zbL q),Rat.num_divInt_den,Rat.num_divInt_den]
theorem zkw (p q:Rat):Rat.divInt (p.num*q.den - q.num*p.den) (p.den*q.den)=p - q:=by
 rw [← Rat.divInt_sub_divInt _ _ (zbL p) (zbL q),Rat.num_divInt_den,Rat.num_divInt_den]
theorem zkn (p q:Rat):Rat.divInt (p.num*q.num) (p.den*q.den)=p*q:=by
 rw [← Rat.divInt_mul_divInt,Rat.num_divInt_den,Rat.num_divInt_den]
theorem zhd (p q:Rat):Rat.divInt (p.num*q.den) (p.den*q.num)=p / q:=by
 rw [← Rat.divInt_mul_divInt,Rat.num_divInt_den,← Rat.inv_divInt,Rat.num_divInt_den,Rat.div_def]
structure Bq (n:Nat) (q:Rat):Prop where
 top:Bd n q.num
 bot:Bd n (q.den:Int)
theorem Bq.mono {m n:Nat} {q:Rat} (h:Bq m q) (l:m≤n):Bq n q:=⟨h.top.mono l,h.bot.mono l⟩
theorem zbd {n:Nat} {t b:Int} (h:b≠0) (ht:Bd n t) (hb:Bd n b):Bq n (Rat.divInt t b):=by
 obtain ⟨e1,e2⟩:=zh0 (t:=t) h
 exact ⟨by rw [e1];exact ht.le (zoO h),by rw [e2];exact hb.le (zn1 h)⟩
theorem zjg {q:Rat} (h:q≠0):q.num≠0:=fun e=>h (Rat.num_eq_zero.mp e)
theorem zlL {x y:Int} (hx:0≤x) (hy:0<y):Int.gcd y (x % y)=Int.gcd x y:=by
 obtain ⟨m,rfl⟩:=Int.eq_ofNat_of_zero_le hx
 obtain ⟨n,rfl⟩:=Int.eq_ofNat_of_zero_le (Int.le_of_lt hy)
 rw [← Int.natCast_emod]
 show Nat.gcd n (m % n)=Nat.gcd m n
 rw [Nat.gcd_comm n,← Nat.gcd_rec,Nat.gcd_comm]
theorem zhS {x y:Int} (hx:0≤x) (hy:0<y):Int.gcd y (x.fmod y)=Int.gcd x y:=by
 rw [Int.fmod_eq_emod_of_nonneg x (Int.le_of_lt hy)]
 exact zlL hx hy
theorem znk (i:Int):(if i<0 then -i else i)=(i.natAbs:Int):=by
 split <;> omega
theorem zgq (u:Int) (h:0≤u):((Int.gcd u 0:Nat):Int)=u:=by
 show ((Nat.gcd u.natAbs 0:Nat):Int)=u
 rw [Nat.gcd_zero_right]
 omega
theorem zqD:zpI 10 18:=⟨by decide,by decide,by decide⟩
def zjQ:Sp:=fun vs H Q _=>∃ a b:Int,vs=[.int a,.int b]∧Q (.int (Int.gcd a b:Nat)) H
def zks:Sp:=fun vs H Q _=>∃ a:Int,vs=[.int a]∧Q (.bl true) H
abbrev Box:=Int×Int×Int
abbrev bx (b:Box):List V:=[.int b.1,.int b.2.1,.int b.2.2]
def GB (b:Box):Prop:=1≤b.1∧b.1≤60∧1≤b.2.1∧b.2.1≤b.2.2∧b.2.2≤50
theorem zaB {α β:Type} {f:α→β} {l:List α} {i:Nat} {y:β} (h:(l.map f)[i]?=some y):∃ x,l[i]?=some x∧y=f x:=by
 rw [List.getElem?_map] at h
 obtain ⟨x,h1,h2⟩:=Option.map_eq_some_iff.mp h
 exact ⟨x,h1,h2.symm⟩
def Tps {α:Type} (f:α→List V) (H:Hp) (ts:List Addr) (bs:List α):Prop:=ts.length=bs.length∧∀ (i:Nat) t b,ts[i]?=some t→bs[i]?=some b→H t=some (.tup (f b))
theorem Tps.same {α:Type} {f:α→List V} {H H':Hp} {ts:List Addr} {bs:List α} (h:Tps f H ts bs) (s:zaO H H'):Tps f H' ts bs:=⟨h.1,fun i t b e1 e2=>s _ _ (h.2 i t b e1 e2)⟩
theorem Tps.nil {α:Type} {f:α→List V} {H:Hp}:Tps f H [] ([]:List α):=⟨rfl,fun i t b e=>by simp at e⟩
theorem Tps.put {α:Type} {f:α→List V} {H H':Hp} {ts:List Addr} {bs:List α} {t:Addr} {b:α} (h:Tps f H ts bs) (s:∀ (x:Addr) (u:List V),H x=some (.tup u)→H' x=some (.tup u)) (e:H' t=some (.tup (f b))):Tps f H' (ts++[t]) (bs++[b]):=by
 refine ⟨by rw [List.length_append,List.length_append,h.1];rfl,fun i x y e1 e2=>?_⟩
 by_cases c:i<ts.length
 ·rw [List.getElem?_append_left c] at e1
  rw [List.getElem?_append_left (by rw [← h.1];exact c)] at e2
  exact s _ _ (h.2 i x y e1 e2)
 ·have c1:ts.length≤i:=by omega
  rw [List.getElem?_append_right c1] at e1
  rw [List.getElem?_append_right (by rw [← h.1];exact c1),← h.1] at e2
  have z:i - ts.length=0:=by
   have:=(List.getElem?_eq_some_iff.mp e1).1
   simp only [List.length_cons,List.length_nil] at this
   omega
  rw [z] at e1 e2
  simp only [List.getElem?_cons_zero,Option.some.injEq] at e1 e2
  rw [← e1,← e2]
  exact e
theorem Tps.at {α:Type} {f:α→List V} {H:Hp} {ts:List Addr} {bs:List α} (h:Tps f H ts bs) {i:Nat} {t:Addr} (e:ts[i]?=some t):∃ b,bs[i]?=some b∧H t=some (.tup (f b)):=by
 have hi:=(List.getElem?_eq_some_iff.mp e).1
 rw [h.1] at hi
 exact ⟨bs[i],List.getElem?_eq_getElem hi,h.2 i t _ e (List.getElem?_eq_getElem hi)⟩
theorem zav {α:Type} {l:List α} {i:Nat} {x:α} (e:l[i]?=some x):x∈l:=List.mem_of_getElem? e
structure BP (H:Hp) (l pl:Addr) (ts:List Addr) (bs:List Box) (ns:List Int):Prop where
 hl:H l=some (.lst (ts.map V.ref))
 hb:Tps bx H ts bs
 hp:H pl=some (.lst (ns.map V.int))
 len:ns.length=bs.length
 gb:∀ b∈bs,GB b
 gn:∀ n∈ns,0≤n∧n≤60
 l1:1≤bs.length
 l6:bs.length≤6
theorem BP.same {H H':Hp} {l pl:Addr} {ts:List Addr} {bs:List Box} {ns:List Int} (h:BP H l pl ts bs ns) (s:zaO H H'):BP H' l pl ts bs ns :=
 ⟨s _ _ h.hl,h.hb.same s,s _ _ h.hp,h.len,h.gb,h.gn,h.l1,h.l6⟩
def chq (b:Box) (n:Int):Rat:=Rat.divInt (b.2.2 ^ n.toNat - (b.2.2 - b.2.1) ^ n.toNat) (b.2.2 ^ n.toNat)
def zax (bs:List Box) (ns:List Int):List Int:=List.zipWith (fun b n=>b.1*n) bs ns
def zfs (bs:List Box) (ns:List Int):List Rat:=List.zipWith chq bs ns
def Off (p c:Addr) (H:Hp):Hp:=fun b=>if b=p∨b=c then none else H b
theorem zbl (p c:Addr) (H:Hp):zaO (Off p c H) H:=fun b o h=>by
 unfold Off at h
 split at h
 ·cases h
 ·exact h
theorem zfe {p c b:Addr} {H:Hp} (h1:b≠p) (h2:b≠c):Off p c H b=H b:=if_neg (fun z=>z.elim h1 h2)
theorem zpV {p c b:Addr} {H:Hp} {o:HO} (h:Off p c H b=some o):b≠p∧b≠c:=by
 unfold Off at h
 split at h
 ·cases h
 ·rename_i z
  exact ⟨fun e=>z (.inl e),fun e=>z (.inr e)⟩
theorem zql {p c:Addr} {H:Hp} {o:HO}:Off p c (upd H p o)=Off p c H:=by
 funext b
 unfold Off upd
 split
 ·rfl
 ·rename_i z
  rw [if_neg fun e=>z (.inl e)]
theorem zeZ {p c b:Addr} {H:Hp} {o:HO} (h1:b≠p) (h2:b≠c):Off p c (upd H b o)=upd (Off p c H) b o:=by
 funext x
 unfold Off upd
 by_cases e:x=b
 ·subst e
  rw [if_neg fun z=>z.elim h1 h2,if_pos rfl,if_pos rfl]
 ·rw [if_neg e,if_neg e]
theorem zf3 {H:Hp} {p c b:Addr} (hb:H b=none):Off p c H b=none:=by
 unfold Off
 split
 ·rfl
 ·exact hb
theorem zfr {H H':Hp} (p c:Addr) (s:zaO H H'):zaO (Off p c H) (Off p c H'):=fun b o h=>by
 have n:=zpV h
 rw [zfe n.1 n.2] at h ⊢
 exact s _ _ h
def zcN:Sp:=fun vs H Q _=>∃ x l m:Int,vs=[.int x,.int l,.int m]∧l≤x∧x≤m∧Q (.bl true) H
def zlb:Sp:=fun vs H Q _=>∃ (p:Addr) (b:Box),vs=[.ref p]∧H p=some (.tup (bx b))∧GB b∧Q (.bl true) H
def znw:Sp:=fun vs H Q _=>∃ (l:Addr) (ts:List Addr) (bs:List Box),vs=[.ref l]∧H l=some (.lst (ts.map V.ref))∧Tps bx H ts bs∧(∀ b∈bs,GB b)∧1≤bs.length∧bs.length≤6∧∀ H',zaO H H'→Q .non H'
def zoL:Sp:=fun vs H Q _=>∃ b n:Int,vs=[.int b,.int n]∧0≤n∧n≤60∧0≤b∧b≤50∧Q (.int (b ^ n.toNat)) H
def zgF:Sp:=fun vs H Q _=>∃ (p:Addr) (b:Box) (n:Int),vs=[.ref p,.int n]∧H p=some (.tup (bx b))∧GB b∧0≤n∧n≤60∧∀ (r:Addr) (H':Hp),zaO H H'→H' r=some (.tup [.int ((b.2.2 - b.2.1) ^ n.toNat),.int (b.2.2 ^ n.toNat)])→Q (.ref r) H'
def zeH:Sp:=fun vs H Q _=>∃ (p:Addr) (b:Box) (n:Int),vs=[.ref p,.int n]∧H p=some (.tup (bx b))∧GB b∧0≤n∧n≤60∧∀ (r:Addr) (H':Hp),zaO H H'→H' r=some (.tup (fr (chq b n)))→Q (.ref r) H'
def znu:Sp:=fun vs H Q _=>∃ (l pl:Addr) (ts:List Addr) (bs:List Box) (ns:List Int),vs=[.ref l,.ref pl]∧BP H l pl ts bs ns∧∀ H',zaO H H'→Q (.int (zax bs ns).sum) H'
def zhq:Sp:=fun vs H Q _=>∃ t b:Int,vs=[.int t,.int b]∧b≠0∧Bd 6000 b∧∀ (r:Addr) (H':Hp),zaO H H'→H' r=some (.tup (fr (Rat.divInt t b)))→Q (.ref r) H'
theorem znA {t b:Int} (h:b≠0) (hb:Bd 6000 b):(sg t b).natAbs.log2<9000:=zfa 6000 (zhM h) (hb.le (zri h))
theorem za1 {p:Rat} (p0:0≤p) (p1:p≤1):∀ n:Nat,1 - (1 - p) ^ n≤(n:Rat)*p∧0≤(1 - p) ^ n∧(1 - p) ^ n≤1
 | 0=>by
  rw [Rat.pow_zero]
  refine ⟨?_,?_,Rat.le_refl⟩ <;> grind
 | n+1=>by
  obtain ⟨h1,h2,h3⟩:=za1 p0 p1 n
  have q0:0≤1 - p:=by grind
  have m1:0≤(1 - p) ^ n*(1 - p):=Rat.mul_nonneg h2 q0
  have m2:0≤(1 - p) ^ n*p:=Rat.mul_nonneg h2 p0
  have m3:(1 - p) ^ n*p≤1*p:=Rat.mul_le_mul_of_nonneg_right h3 p0
  rw [Rat.pow_succ]
  have c:((n+1:Nat):Rat)=(n:Rat)+1:=by exact_mod_cast rfl
  rw [c]
  refine ⟨?_,m1,?_⟩ <;> grind
theorem zd5 {p:Rat} (p0:0≤p) (p1:p≤1):∀ n:Nat,(n:Rat)*p*(1 - p) ^ n≤1 - (1 - p) ^ n
 | 0=>by
  rw [Rat.pow_zero]
  have c:((0:Nat):Rat)=0:=rfl
  rw [c]
  grind
 | n+1=>by
  have h:=zd5 p0 p1 n
  obtain ⟨_,h2,h3⟩:=za1 p0 p1 n
  have c:((n+1:Nat):Rat)=(n:Rat)+1:=by exact_mod_cast rfl
  have n0:(0:Rat)≤(n:Rat):=by exact_mod_cast Nat.zero_le n
  have a1:0≤((n:Rat)+1)*p:=Rat.mul_nonneg (by grind) p0
  have a2:0≤((n:Rat)+1)*p*(1 - p) ^ n:=Rat.mul_nonneg a1 h2
  have a3:0≤((n:Rat)+1)*p*(1 - p) ^ n*p:=Rat.mul_nonneg a2 p0
  rw [Rat.pow_succ,c]
  have e1:((n:Rat)+1)*p*((1 - p) ^ n*(1 - p))=((n:Rat)+1)*p*(1 - p) ^ n - ((n:Rat)+1)*p*(1 - p) ^ n*p:=by grind
  have e2:((n:Rat)+1)*p*(1 - p) ^ n=(n:Rat)*p*(1 - p) ^ n+(1 - p) ^ n*p:=by grind
  rw [e1]
  grind
theorem zgD (a:Rat) (m:Nat):∀ k:Nat,a ^ (m+k)=a ^ m*a ^ k
 | 0=>by rw [Nat.add_zero,Rat.pow_zero,Rat.mul_one]
 | k+1=>by rw [← Nat.add_assoc,Rat.pow_succ,Rat.pow_succ,zgD a m k,Rat.mul_assoc]
theorem conc {p:Rat} (p0:0≤p) (p1:p≤1) (m n:Nat):(1 - p) ^ m - (1 - p) ^ n≤((n:Rat) - (m:Rat))*((1 - p) ^ m*p):=by
 rcases Nat.le_total m n with h | h
 ·obtain ⟨k,rfl⟩:=Nat.exists_eq_add_of_le h
  obtain ⟨h1,h2,h3⟩:=za1 p0 p1 k
  obtain ⟨_,g2,_⟩:=za1 p0 p1 m
  have c:((m+k:Nat):Rat)=(m:Rat)+(k:Rat):=by exact_mod_cast rfl
  rw [c,zgD]
  have a:=Rat.mul_le_mul_of_nonneg_left h1 g2
  grind
 ·obtain ⟨k,rfl⟩:=Nat.exists_eq_add_of_le h
  have h1:=zd5 p0 p1 k
  obtain ⟨_,g2,_⟩:=za1 p0 p1 n
  have c:((n+k:Nat):Rat)=(n:Rat)+(k:Rat):=by exact_mod_cast rfl
  rw [c,zgD]
  have a:=Rat.mul_le_mul_of_nonneg_left h1 g2
  grind
structure Drw (H:Hp) (p:Addr) (c:Int):Prop where
 hp:∃ n f:Int,H p=some (.lst [.int n,.int f,.int c])∧n.natAbs<2 ^ 2 ^ 20∧(f=0∨f=1∧0≤n)
 c0:0≤c
theorem Drw.new {H:Hp} {p:Addr} {c:Int} (h:Drw H p c) {b:Addr} (hb:H b=none):b≠p:=by
 obtain ⟨n,f,hp,_⟩:=h.hp
 exact (zaW hp hb).symm
theorem Drw.upd {H:Hp} {p:Addr} {c:Int} (h:Drw H p c) {b:Addr} {o:HO} (h1:b≠p):Drw (L2.upd H b o) p c:=by
 obtain ⟨n,f,hp,e⟩:=h.hp
 exact ⟨⟨n,f,by rw [zaX h1.symm];exact hp,e⟩,h.c0⟩
theorem Drw.same {H H':Hp} {p:Addr} {c:Int} (h:Drw H p c) (s:zaO H H'):Drw H' p c:=by
 obtain ⟨n,f,hp,e⟩:=h.hp
 exact ⟨⟨n,f,s _ _ hp,e⟩,h.c0⟩
theorem zox {H H1 H2:Hp} {p:Addr} (hp:H p=none) (s1:zaO H H1) (s2:zaO (Off p p H1) (Off p p H2)):zaO H H2:=fun b o h=>by
 have n:b≠p:=zaW h hp
 have:=s2 b o (by rw [zfe n n];exact s1 _ _ h)
 rwa [zfe n n] at this
theorem Drw.mk2 {H:Hp} {p:Addr} {c:Int} (h:Drw H p c) {b:Addr} (hb:H b=none) (o:HO):∃ H2,H2=L2.upd H b o∧Drw H2 p c∧zaO (Off p p H) (Off p p H2)∧Off p p H2 b=some o∧zaO H H2:=by
 have n:=h.new hb
 refine ⟨_,rfl,h.upd n,?_,?_,zao hb _⟩
 ·rw [zeZ n n]
  exact zao (zf3 hb) _
 ·rw [zeZ n n]
  exact zaj
theorem Drw.put {H0 H:Hp} {p:Addr} {c:Int} (h:Drw H p c) {b:Addr} (n:b≠p) (s:zaO (Off p p H0) (Off p p H)) (f:Off p p H0 b=none) (o:HO):∃ H2,H2=L2.upd H b o∧Drw H2 p c∧zaO (Off p p H0) (Off p p H2)∧Off p p H2 b=some o∧∀ x,x≠b→Off p p H2 x=Off p p H x:=by
 refine ⟨_,rfl,h.upd n,?_,?_,fun x hx=>?_⟩
 ·rw [zeZ n n]
  exact s.put f
 ·rw [zeZ n n]
  exact zaj
 ·rw [zeZ n n,zaX hx]
def ziN:Sp:=fun vs H Q _=>∃ n k:Int,vs=[.int n,.int k]∧n.natAbs<2 ^ 2 ^ 20∧0≤k∧k≤100000∧∀ r:Int,0≤r→r<2147483587→Q (.int r) H
def zjE (K:PySem.W.Frag):Sp:=fun vs H Q _=>∃ (p:Addr) (x:Int),vs=[.ref p,.int 0]∧H p=some (.lst [.int x])∧Q (.int x) H
def zlg (K:PySem.W.Frag):Sp:=fun vs H Q _=>∃ (p:Addr) (x:Int),vs=[.ref p,.int 0]∧H p=some (.lst [.int x])∧x.natAbs<2 ^ 2 ^ 20∧∀ (l:Addr) (H':Hp),zaO H H'→H l=none→Drw H' l 0→Q (.ref l) H'
def za2:Sp:=fun vs H Q _=>∃ (p:Addr) (c m:Int),vs=[.ref p,.int m]∧Drw H p c∧c<10000∧0<m∧m≤1000000000000000000000000000000∧∀ (r:Int) (H':Hp),0≤r→r<m→Off p p H'=Off p p H→Drw H' p (c+1)→Q (.int r) H'
section
variable {P:Program} {w:World} {mg:Str→Option Value} {base:Heap}
variable {K:PySem.W.Frag} {H:Hp} {Q:VK} {a:Ad}
def zfI:TS :=
 (zaR (zaZ (tOp (rI (fun _ j=>j≠0) fun i j=>.int (i.fmod j)) (zac 0) (zac 1)) (zae 2))
 (zaR (zaZ (zac 1) (zae 0))
 (zaZ (zac 2) (zae 1))))
theorem zd6 (D:zch) (σ:St) (H:Hp):zfI D σ H=(zaR (zaZ (tOp (rI (fun _ j=>j≠0) fun i j=>.int (i.fmod j)) (zac 0) (zac 1)) (zae 2))
 (zaR (zaZ (zac 1) (zae 0))
 (zaZ (zac 2) (zae 1)))) D σ H:=rfl
def zfJ (K:PySem.W.Frag):TS :=
 (zaR (zaZ (tCB (fun xs H Q=>∃ i,xs=[.int i]∧Q (.int (if i<0 then -i else i)) H) (zab (zac 0) zan)) (zae 0))
 (zaR (zaZ (tCB (fun xs H Q=>∃ i,xs=[.int i]∧Q (.int (if i<0 then -i else i)) H) (zab (zac 1) zan)) (zae 1))
 (zaR (zhQ (tTru K (zac 1)) (zfI))
 (zbo (zac 0)))))
theorem zj0 {x y:Int} (q:Q (.int (Int.gcd x y:Nat)) H):zfJ K { nx:=fun _ H'=>Q .non H',rt:=Q } (L2.start ["one","other","rest"] [.int x,.int y]) H:=by
 unfold zfJ
 simp_all only [zd6,zac]
 refine zhc (fun σ H'=>H'=H∧∃ u v r,σ=[some (.int u),some (.int v),r]∧0≤u∧0≤v∧Int.gcd u v=Int.gcd x y) (fun σ _=>match σ with | [_,some (.int y),_]=>y.toNat | _=>0) ?_ ?_ ?_
 ·rw [znk,znk]
  exact ⟨rfl,_,_,_,rfl,by omega,by omega,rfl⟩
 ·rintro σ H' ⟨rfl,u,v,r,rfl,hu,hv,hg⟩
  simp_all only [zd6,zac]
  refine zez (fun c=>?_) (fun c=>?_)
  ·have c':v≠0:=by simpa using c
   have hv':0<v:=by omega
   refine ⟨c',hv,Int.fmod_nonneg_of_pos u hv',?_,?_⟩
   ·rw [zhS hu hv',hg]
   ·have:=Int.fmod_lt_of_pos u hv'
    omega
  ·have c':v=0:=by simpa using c
   subst c'
   rw [← hg,zgq u hu] at q
   exact q
 ·rintro σ H1 Q1 Q2 hQ ⟨v,hv,k,hk,h⟩
  exact ⟨v,hv,k,hk,hQ _ _ h⟩
theorem zcB:zay ["one","other","rest"] ["one","other"] (zah zfy):=⟨rfl,rfl,rfl,by decide +kernel,rfl,by decide +kernel,by decide +kernel⟩
theorem ze0 (T:Txt K mg a):zb0 P w K mg base CX0 1 a.f_divisor a.d_divisor ["one","other"] zjQ:=by
 refine T.F_divisor.ok zcB (fun vs H Q E h=>?_) (fun cdv A outer s H vs Q E hr h=>?_)
 ·obtain ⟨x,y,rfl,q⟩:=h
  rfl
 obtain ⟨x,y,rfl,q⟩:=h
 exact ⟨zfJ K,(zaf (zaE (i:=0) zcB.nd rfl (Or.inl rfl) (zaJ zi5 rfl T.z_abs PyProof.Rows.boot_abs (zaa (pv 0) zad)))
 (zaf (zaE (i:=1) zcB.nd rfl (Or.inl rfl) (zaJ zi5 rfl T.z_abs PyProof.Rows.boot_abs (zaa (pv 1) zad)))
 (zaf (zgY PassesOwn.never (zjC (pv 1) (fun _=>rfl)) (zaf (zaE (i:=2) zcB.nd rfl (Or.inl rfl) (zaA zfH (pv 0) (pv 1)))
 (zaf (zaE (i:=0) zcB.nd rfl (Or.inl rfl) (pv 1))
 (zal (zaE (i:=1) zcB.nd rfl (Or.inl rfl) (pv 2))))))
 (zal (zaK (pv 0)))))),
  zj0 q⟩
def zf0:TS :=
 (zbo (zcJ (zab (tOp (rI (fun _ j=>j≠0∧j.natAbs.log2<9000) fun i j=>.int (i.fdiv j)) (zac 0) (zac 2)) (zab (tOp (rI (fun _ j=>j≠0∧j.natAbs.log2<9000) fun i j=>.int (i.fdiv j)) (zac 1) (zac 2)) zan))))
theorem zb7 (D:zch) (σ:St) (H:Hp):zf0 D σ H=(zbo (zcJ (zab (tOp (rI (fun _ j=>j≠0∧j.natAbs.log2<9000) fun i j=>.int (i.fdiv j)) (zac 0) (zac 2)) (zab (tOp (rI (fun _ j=>j≠0∧j.natAbs.log2<9000) fun i j=>.int (i.fdiv j)) (zac 1) (zac 2)) zan)))) D σ H:=rfl
def zhx:TS :=
 (zaR (zaZ (zau zjQ [] E0 (zab (zac 0) (zab (zac 1) zan))) (zae 2))
 (zaR (zf5 (zdt (zbE (tOp (rI0 fun i j=>.bl (decide (i<j))) (zac 1) (tC (.int 0)))) (zaZ (tUn (rU fun i=>.int (-i)) (zac 2)) (zae 2)) zbF))
 (zf0)))
theorem zcf (D:zch) (σ:St) (H:Hp):zhx D σ H=(zaR (zaZ (zau zjQ [] E0 (zab (zac 0) (zab (zac 1) zan))) (zae 2))
 (zaR (zf5 (zdt (zbE (tOp (rI0 fun i j=>.bl (decide (i<j))) (zac 1) (tC (.int 0)))) (zaZ (tUn (rU fun i=>.int (-i)) (zac 2)) (zae 2)) zbF))
 (zf0))) D σ H:=rfl
def zi3:TS :=
 (zaR (zf5 (zdt (zbE (tOp rEq (zac 1) (tC (.int 0)))) zjy zbF))
 (zhx))
theorem zmy {t b:Int} (h:b≠0) (hb:Bd 6000 b) (q:∀ (r:Addr) (H':Hp),zaO H H'→H' r=some (.tup (fr (Rat.divInt t b)))→Q (.ref r) H') :
  zi3 { nx:=fun _ H'=>Q .non H',rt:=Q } (L2.start ["top","bottom","shared"] [.int t,.int b]) H:=by
 unfold zi3
 simp_all only [zb7,zcf,zac]
 refine ⟨fun σ H'=>H'=H∧σ=[some (.int t),some (.int b),none],?_,?_⟩
 ·simp_all only [zb7,zcf,zac]
  exact zez (fun c=>absurd c h) (fun _=>trivial)
 ·rintro σ H' ⟨e,rfl⟩
  rw [e]
  simp_all only [zb7,zcf,zac]
  refine ⟨t,b,rfl,?_⟩
  refine ⟨fun σ H'=>H'=H∧σ=[some (.int t),some (.int b),some (.int (sg t b))],?_,?_⟩
  ·simp_all only [zb7,zcf,zac]
   unfold sg
   exact zez (fun c=>by rw [if_pos c]) (fun c=>by rw [if_neg c])
  ·rintro σ H' ⟨e,rfl⟩
   rw [e]
   simp_all only [zb7,zcf,zac]
   refine ⟨zhM h,znA h hb,zhM h,znA h hb,by decide,fun p hp=>q p _ (zao hp _) ?_⟩
   rw [fr,(zh0 h).1,(zh0 h).2]
   exact zaj
theorem zg7:zay ["top","bottom","shared"] ["top","bottom"] (zah ziM):=⟨rfl,rfl,rfl,by decide +kernel,rfl,by decide +kernel,by decide +kernel⟩
theorem zdl (T:Txt K mg a):zb0 P w K mg base CX0 2 a.f_ratio a.d_ratio ["top","bottom"] zhq:=by
 have G_divisor:=ze0 (P:=P) (w:=w) (base:=base) T
 refine T.F_ratio.ok zg7 (fun vs H Q E h=>?_) (fun cdv A outer s H vs Q E hr h=>?_)
 ·obtain ⟨t,b,rfl,h,hb,q⟩:=h
  rfl
 obtain ⟨t,b,rfl,h,hb,q⟩:=h
 exact ⟨zi3,(zaf (zcI (zc3 (zbH zjU (pv 1) zag (zbD _)) (zal zhh) zbq))
 (zaf (zaE (i:=2) zg7.nd rfl (Or.inl rfl) (zak G_divisor (hr.mono (by decide)) rfl T.m_divisor T.F_divisor.kp T.b_divisor .nil zaC (zaa (pv 0) (zaa (pv 1) zad))))
 (zaf (zcI (zc3 (zbH zhT (pv 1) zag (zbD _)) (zal (zaE (i:=2) zg7.nd rfl (Or.inl rfl) (zrQ zne (pv 2)))) zbq))
 (zal (zaK (zbk (zaa (zaA zct (pv 0) (pv 2)) (zaa (zaA zct (pv 1) (pv 2)) zad)))))))),
  zmy h hb q⟩
theorem zlq {b:Int} (h0:0≤b) (h1:b≤50):∀ n:Nat,0≤b ^ n∧b ^ n≤50 ^ n
 | 0=>by simp
 | n+1=>by
  obtain ⟨z1,z2⟩:=zlq h0 h1 n
  rw [Int.pow_succ,Int.pow_succ]
  exact ⟨Int.mul_nonneg z1 h0,Int.mul_le_mul z2 h1 h0 (Int.le_trans z1 z2)⟩
theorem zku {b:Int} (h0:0≤b) (h1:b≤50) {n:Nat} (hn:n≤60):Bd 400 (b ^ n):=by
 obtain ⟨z1,z2⟩:=zlq h0 h1 n
 have z3:(50:Int) ^ n≤50 ^ 60:=by
  exact_mod_cast Nat.pow_le_pow_right (n:=50) (by decide) hn
 have z4:(50:Int) ^ 60<2 ^ 400:=by decide +kernel
 unfold Bd
 have:(b ^ n).natAbs<(2:Int) ^ 400:=by omega
 omega
theorem zjl {b:Int} (h0:1≤b):∀ n:Nat,0<b ^ n
 | 0=>by simp
 | n+1=>by
  rw [Int.pow_succ]
  exact Int.mul_pos (zjl h0 n) (by omega)
def ziW:TS :=
 (zaR (zaZ (tC (.int 1)) (zae 2))
 (zaR (zgr (zfV (zab (zac 1) zan)) (zae 3)
 (zaZ (tOp (rI IntMulOk fun i j=>.int (i*j)) (zac 2) (zac 0)) (zae 2)))
 (zbo (zac 2))))
theorem zmF {b n:Int} (n0:0≤n) (n1:n≤60) (b0:0≤b) (b1:b≤50) (q:Q (.int (b ^ n.toNat)) H) :
  ziW { nx:=fun _ H'=>Q .non H',rt:=Q } (L2.start ["base","count","product","k"] [.int b,.int n]) H:=by
 unfold ziW
 simp_all only [zac]
 refine ⟨by omega,by omega,?_⟩
 refine zb3 (fun i σ H'=>H'=H∧∃ k,σ=[some (.int b),some (.int n),some (.int (b ^ i)),k]) ⟨rfl,none,by rw [Int.pow_zero]⟩ ?_ ?_
 ·rintro i σ H' hi ⟨rfl,k,rfl⟩
  simp_all only [zac]
  exact ⟨ziO (by omega) (by omega),by rw [Int.pow_succ]⟩
 ·rintro σ H' ⟨rfl,k,rfl⟩
  simp_all only [zac]
  exact q
theorem zfu:zay ["base","count","product","k"] ["base","count"] (zah zi0):=⟨rfl,rfl,rfl,by decide +kernel,rfl,by decide +kernel,by decide +kernel⟩
theorem zm5 (T:Txt K mg a):zb0 P w K mg base CX0 1 a.f_power a.d_power ["base","count"] zoL:=by
 refine T.F_power.ok zfu (fun vs H Q E h=>?_) (fun cdv A outer s H vs Q E hr h=>?_)
 ·obtain ⟨b,n,rfl,n0,n1,b0,b1,q⟩:=h
  rfl
 obtain ⟨b,n,rfl,n0,n1,b0,b1,q⟩:=h
 exact ⟨ziW,(zaf (zaE (i:=2) zfu.nd rfl (Or.inl rfl) zag)
 (zaf (zcq PassesOwn.never rfl (zcb rfl T.z_range (zaa (pv 1) zad)) (zam (i:=3) zfu.nd rfl (Or.inl rfl))
 (zal (zaE (i:=2) zfu.nd rfl (Or.inl rfl) (zaA zaL (pv 2) (pv 0)))))
 (zal (zaK (pv 2))))),
  zmF n0 n1 b0 b1 q⟩
def zh8:Sp:=fun vs H Q _=>∃ (x y:Addr) (u v:Rat),vs=[.ref x,.ref y]∧H x=some (.tup (fr u))∧H y=some (.tup (fr v))∧Bq 2000 u∧Bq 2000 v∧∀ (r:Addr) (H':Hp),zaO H H'→H' r=some (.tup (fr (u*v)))→Q (.ref r) H'
def zir (K:PySem.W.Frag):TS :=
 (zbo (zau zhq [] E0 (zab (tOp (rI IntMulOk fun i j=>.int (i*j)) (tOp (zbu K) (zac 0) (tC (.int 0))) (tOp (zbu K) (zac 1) (tC (.int 0)))) (zab (tOp (rI IntMulOk fun i j=>.int (i*j)) (tOp (zbu K) (zac 0) (tC (.int 1))) (tOp (zbu K) (zac 1) (tC (.int 1)))) zan))))
theorem zlQ {x y:Addr} {u v:Rat} (hx:H x=some (.tup (fr u))) (hy:H y=some (.tup (fr v))) (bu:Bq 2000 u) (bv:Bq 2000 v)
  (q:∀ (r:Addr) (H':Hp),zaO H H'→H' r=some (.tup (fr (u*v)))→Q (.ref r) H') :
  zir K { nx:=fun _ H'=>Q .non H',rt:=Q } (L2.start ["one","other"] [.ref x,.ref y]) H:=by
 unfold zir
 simp_all only [zac]
 rw [← zkn] at q
 have hx:=SqT.of (K:=K) hx
 have hy:=SqT.of (K:=K) hy
 exact ⟨_,hx,_,rfl,_,hy,_,rfl,_,rfl,_,rfl,zf4 2000 2000 bu.top bv.top,_,hx,_,rfl,_,hy,_,rfl,_,rfl,_,rfl,zf4 2000 2000 bu.bot bv.bot,_,_,rfl,Int.mul_ne_zero (zbL u) (zbL v),(bu.bot.mul bv.bot).mono (by decide),q⟩
theorem zmQ:zay ["one","other"] ["one","other"] (zah ziC):=⟨rfl,rfl,rfl,by decide +kernel,rfl,by decide +kernel,by decide +kernel⟩
theorem zme (T:Txt K mg a):zb0 P w K mg base CX0 3 a.f_times a.d_times ["one","other"] zh8:=by
 have G_ratio:=zdl (P:=P) (w:=w) (base:=base) T
 refine T.F_times.ok zmQ (fun vs H Q E h=>?_) (fun cdv A outer s H vs Q E hr h=>?_)
 ·obtain ⟨x,y,u,v,rfl,hx,hy,bu,bv,q⟩:=h
  rfl
 obtain ⟨x,y,u,v,rfl,hx,hy,bu,bv,q⟩:=h
 exact ⟨zir K,(zal (zaK (zak G_ratio (hr.mono (by decide)) rfl T.m_ratio T.F_ratio.kp T.b_ratio .nil zaC (zaa (zaA zaL (zaN zaD (pv 0) zag (fun _ _=>rfl)) (zaN zaD (pv 1) zag (fun _ _=>rfl))) (zaa (zaA zaL (zaN zaD (pv 0) zag (fun _ _=>rfl)) (zaN zaD (pv 1) zag (fun _ _=>rfl))) zad))))),
  zlQ hx hy bu bv q⟩
theorem zlR {b d:Int} (hb:0<b) (hd:0<d):0<b.fdiv (Int.gcd b d:Nat)*d∧b∣b.fdiv (Int.gcd b d:Nat)*d∧d∣b.fdiv (Int.gcd b d:Nat)*d∧(∀ M,b∣M→d∣M→b.fdiv (Int.gcd b d:Nat)*d∣M)∧b.fdiv (Int.gcd b d:Nat)*d≤b*d:=by
 obtain ⟨B,rfl⟩:=Int.eq_ofNat_of_zero_le (Int.le_of_lt hb)
 obtain ⟨D,rfl⟩:=Int.eq_ofNat_of_zero_le (Int.le_of_lt hd)
 have e:((B:Int).fdiv (Int.gcd (B:Int) (D:Int):Nat))*(D:Int)=((Nat.lcm B D:Nat):Int):=by
  rw [Int.fdiv_eq_ediv_of_nonneg _ (by omega)]
  show (((B / Nat.gcd B D:Nat):Int))*(D:Int)=_
  rw [← Int.natCast_mul]
  congr 1
  unfold Nat.lcm
  exact Nat.div_mul_right_comm (Nat.gcd_dvd_left B D) D
 rw [e]
 have B0:0<B:=by omega
 have D0:0<D:=by omega
 refine ⟨?_,Int.natCast_dvd_natCast.mpr (Nat.dvd_lcm_left B D),Int.natCast_dvd_natCast.mpr (Nat.dvd_lcm_right B D),fun M h1 h2=>?_,?_⟩
 ·have:=Nat.lcm_pos B0 D0
  omega
 ·rw [Int.ofNat_dvd_left] at h1 h2 ⊢
  exact Nat.lcm_dvd h1 h2
 ·rw [← Int.natCast_mul]
  have:Nat.lcm B D≤B*D:=Nat.div_le_self _ _
  omega
structure Com (qs:List Rat) (D:Int):Prop where
 pos:0<D
 all:∀ q∈qs,(q.den:Int)∣D
 least:∀ M:Int,(∀ q∈qs,(q.den:Int)∣M)→D∣M
def zgU:Sp:=fun vs H Q _=>∃ (l:Addr) (us:List Addr) (qs:List Rat),vs=[.ref l]∧H l=some (.lst (us.map V.ref))∧Tps fr H us qs∧qs.length≤60∧(∀ q∈qs,Bq 2000 q)∧∀ (r tl:Addr) (D:Int) (H':Hp),zaO H H'→Com qs D→H' r=some (.tup [.ref tl,.int D])→H tl=none→H' tl=some (.lst ((qs.map fun q=>q.num*(D / q.den)).map V.int))→Q (.ref r) H'
def zgu (K:PySem.W.Frag):TS :=
 (zaZ (tOp (rI IntMulOk fun i j=>.int (i*j)) (tOp (rI (fun _ j=>j≠0∧j.natAbs.log2<9000) fun i j=>.int (i.fdiv j)) (zac 1) (zau zjQ [] E0 (zab (zac 1) (zab (tOp (zbu K) (zac 2) (tC (.int 1))) zan)))) (tOp (zbu K) (zac 2) (tC (.int 1)))) (zae 1))
theorem zcv (K:PySem.W.Frag) (D:zch) (σ:St) (H:Hp):zgu K D σ H=(zaZ (tOp (rI IntMulOk fun i j=>.int (i*j)) (tOp (rI (fun _ j=>j≠0∧j.natAbs.log2<9000) fun i j=>.int (i.fdiv j)) (zac 1) (zau zjQ [] E0 (zab (zac 1) (zab (tOp (zbu K) (zac 2) (tC (.int 1))) zan)))) (tOp (zbu K) (zac 2) (tC (.int 1)))) (zae 1)) D σ H:=rfl
def zgl (K:PySem.W.Frag):TS :=
 (zbo (zcJ (zab (zbn (zbN K (zac 0)) (zae 0) zaM (tOp (rI IntMulOk fun i j=>.int (i*j)) (tOp (zbu K) (zac 0) (tC (.int 0))) (tOp (rI (fun _ j=>j≠0∧j.natAbs.log2<9000) fun i j=>.int (i.fdiv j)) (zac 1) (tOp (zbu K) (zac 0) (tC (.int 1))))) [none,some 1]) (zab (zac 1) zan))))
theorem zcx (K:PySem.W.Frag) (D:zch) (σ:St) (H:Hp):zgl K D σ H=(zbo (zcJ (zab (zbn (zbN K (zac 0)) (zae 0) zaM (tOp (rI IntMulOk fun i j=>.int (i*j)) (tOp (zbu K) (zac 0) (tC (.int 0))) (tOp (rI (fun _ j=>j≠0∧j.natAbs.log2<9000) fun i j=>.int (i.fdiv j)) (zac 1) (tOp (zbu K) (zac 0) (tC (.int 1))))) [none,some 1]) (zab (zac 1) zan)))) D σ H:=rfl
def zgN (K:PySem.W.Frag):TS :=
 (zaR (zaZ (tC (.int 1)) (zae 1))
 (zaR (zgr (zbN K (zac 0)) (zae 2)
 (zgu K))
 (zgl K)))
theorem zk0 {l:Addr} {us:List Addr} {qs:List Rat} (hl:H l=some (.lst (us.map V.ref))) (ht:Tps fr H us qs) (h60:qs.length≤60) (hB:∀ q∈qs,Bq 2000 q) (q:∀ (r tl:Addr) (D:Int) (H':Hp),zaO H H'→Com qs D→H' r=some (.tup [.ref tl,.int D])→H tl=none→H' tl=some (.lst ((qs.map fun q=>q.num*(D / q.den)).map V.int))→Q (.ref r) H') :
  zgN K { nx:=fun _ H'=>Q .non H',rt:=Q } (L2.start ["fractions","bottom","fraction"] [.ref l]) H:=by
 unfold zgN
 have ul:=ht.1
 simp_all only [zcv,zcx,zac]
 refine ⟨⟨_,SqL.of hl⟩,?_⟩
 refine zce (K:=K) (xs:=us.map V.ref) (fun i σ H'=>H'=H∧∃ (b:Int) (x1:Option V),Com (qs.take i) b∧Bd (2000*i+1) b∧σ=[some (.ref l),some (.int b),x1]) ⟨rfl,1,_,⟨by decide,by simp,fun M _=>Int.one_dvd M⟩,by show (1:Nat)<2 ^ 1;decide,rfl⟩ ?_ ?_ ?_
 ·rintro i σ H' _ ⟨rfl,_⟩
  exact SqL.of hl
 ·rintro i v σ H1 hx ⟨rfl,b,x1,C,hb,rfl⟩
  obtain ⟨t,et,rfl⟩:=zaB hx
  obtain ⟨f,ef,hf⟩:=ht.at et
  have li:=(List.getElem?_eq_some_iff.mp ef).1
  have bf:=hB f (zav ef)
  obtain ⟨p1,p2,p3,p4,p5⟩:=zlR C.pos (zcn f)
  have g0:(Int.gcd b f.den:Int)≠0:=by
   have:=Int.gcd_pos_of_ne_zero_right b (zbL f)
   omega
  have gle:(Int.gcd b f.den:Int).natAbs≤(f.den:Int).natAbs:=by
   have:=Int.gcd_le_natAbs_right b (zbL f)
   omega
  have fdl:(b.fdiv (Int.gcd b f.den:Nat)).natAbs≤b.natAbs:=by
   rw [Int.fdiv_eq_ediv_of_nonneg _ (by omega)]
   have h1:=Int.ediv_le_self (Int.gcd b f.den:Nat) (Int.le_of_lt C.pos)
   have h2:=Int.ediv_nonneg (b:=((Int.gcd b f.den:Nat):Int)) (Int.le_of_lt C.pos) (by omega)
   have:=C.pos
   omega
  simp_all only [zcv,zcx,zac]
  refine ⟨_,SqT.of hf,_,rfl,b,_,rfl,_,rfl,g0,zfa 2000 g0 (bf.bot.le gle),_,SqT.of hf,_,rfl,_,rfl,zf4 (2000*i+1) 2000 (hb.le fdl) bf.bot (by omega),rfl,_,⟨p1,fun r hr=>?_,fun M hM=>p4 M (C.least M fun r hr=>hM r ?_) (hM f ?_)⟩,?_,rfl⟩
  ·rw [List.take_add_one,ef] at hr
   rcases List.mem_append.mp hr with h | h
   ·exact Int.dvd_trans (C.all r h) p2
   ·have:r=f:=by simpa using h
    rw [this]
    exact p3
  ·rw [List.take_add_one,ef]
   exact List.mem_append_left _ hr
  ·rw [List.take_add_one,ef]
   exact List.mem_append_right _ (by simp)
  ·have hm:=hb.mul bf.bot
   have h0:=C.pos
   have h1:=zcn f
   have h2:=Int.mul_pos h0 h1
   exact (hm.le (by omega)).mono (by omega)
 ·rintro σ H1 ⟨rfl,b,x1,C,hb,rfl⟩
  rw [List.length_map,ul] at C hb
  rw [List.take_of_length_le (Nat.le_refl _)] at C
  have hb2:Bd 120001 b:=hb.mono (by omega)
  simp_all only [zcv,zcx,zac]
  refine ⟨⟨_,SqL.of hl⟩,fun D hD=>?_⟩
  refine zb4 (K:=K) (xs:=us.map V.ref) (fun j ys σ H'=>zaO H1 H'∧ys=((qs.take j).map fun q=>q.num*(b / q.den)).map V.int∧∃ k,σ=[k,some (.int b)]) ⟨zao hD _,rfl,_,rfl⟩ ?_ ?_ ?_
  ·rintro j ys σ H' _ ⟨s,_⟩
   exact SqL.of (s _ _ hl)
  ·rintro j v ys σ H3 hx hD3 ⟨s3,rfl,k,rfl⟩
   obtain ⟨t,et,rfl⟩:=zaB hx
   obtain ⟨f,ef,hf⟩:=ht.at et
   have bf:=hB f (zav ef)
   have lj:=(List.getElem?_eq_some_iff.mp ef).1
   have hf3:=s3 _ _ hf
   have fde:b.fdiv f.den=b / f.den:=Int.fdiv_eq_ediv_of_nonneg _ (Int.le_of_lt (zcn f))
   have fdl:(b.fdiv f.den).natAbs≤b.natAbs:=by
    rw [fde]
    have h1:=Int.ediv_le_self (f.den:Int) (Int.le_of_lt C.pos)
    have h2:=Int.ediv_nonneg (b:=(f.den:Int)) (Int.le_of_lt C.pos) (Int.le_of_lt (zcn f))
    have:=C.pos
    omega
   simp_all only [zcv,zcx,zac]
   refine ⟨_,SqT.of hf3,_,rfl,_,SqT.of hf3,_,rfl,_,rfl,zbL f,zfa 2000 (zbL f) bf.bot,_,rfl,zf4 2000 120001 bf.top (hb2.le fdl),_,hD3,za4 (by rw [List.length_map,List.length_map,List.length_take];omega),_,zaj,s3.put hD,?_⟩
   rw [List.take_add_one,ef,fde]
   simp
  ·rintro ys σ H3 hD3 ⟨s3,rfl,k,rfl⟩
   rw [List.length_map,ul,List.take_of_length_le (Nat.le_refl _)] at hD3
   exact ⟨by decide,fun p hp=>q p D b _ (s3.add hp) C zaj hD (by rw [zaX (zaW hD3 hp)];exact hD3)⟩
theorem zeD:zay ["fractions","bottom","fraction"] ["fractions"] (zah zfp):=⟨rfl,rfl,rfl,by decide +kernel,rfl,by decide +kernel,by decide +kernel⟩
theorem zh5 (T:Txt K mg a):zb0 P w K mg base CX0 2 a.f_common a.d_common ["fractions"] zgU:=by
 have G_divisor:=ze0 (P:=P) (w:=w) (base:=base) T
 refine T.F_common.ok zeD (fun vs H Q E h=>?_) (fun cdv A outer s H vs Q E hr h=>?_)
 ·obtain ⟨l,us,qs,rfl,hl,ht,h60,hB,q⟩:=h
  rfl
 obtain ⟨l,us,qs,rfl,hl,ht,h60,hB,q⟩:=h
 exact ⟨zgN K,(zaf (zaE (i:=1) zeD.nd rfl (Or.inr rfl) zag)
 (zaf (zcq PassesOwn.never rfl (zbe (pv 0)) (zam (i:=2) zeD.nd rfl (Or.inl rfl))
 (zal (zaE (i:=1) zeD.nd rfl (Or.inr rfl) (zaA zaL (zaA zct (pv 1) (zak G_divisor (hr.mono (by decide)) rfl T.m_divisor T.F_divisor.kp T.b_divisor .nil zaC (zaa (pv 1) (zaa (zaN zaD (pv 2) zag (fun _ _=>rfl)) zad)))) (zaN zaD (pv 2) zag (fun _ _=>rfl))))))
 (zal (zaK (zbk (zaa (zbG (sc:=zah zfp) (N:=["fractions","bottom","fraction"]) (Nc:=["fraction","bottom"]) (cap:=[none,some 1]) rfl rfl rfl (.of (by decide +kernel)) (zbe (pv 0)) (fun _ _ _ _=>(zam (i:=0) (show List.Nodup (["fraction","bottom"]:List Str) from by decide) rfl (Or.inl rfl))) (fun _ _ _ _=>zbb) (fun _ _ _ _=>(zaA zaL (zaN zaD (pv 0) zag (fun _ _=>rfl)) (zaA zct (pv 1) (zaN zaD (pv 0) zag (fun _ _=>rfl)))))) (zaa (pv 1) zad))))))),
  zk0 hl ht h60 hB q⟩
def ziy:Sp:=fun vs H Q _=>∃ (x y:Addr) (u v:Rat),vs=[.ref x,.ref y]∧H x=some (.tup (fr u))∧H y=some (.tup (fr v))∧Bq 2900 u∧Bq 2900 v∧∀ (r:Addr) (H':Hp),zaO H H'→H' r=some (.tup (fr (u+v)))→Q (.ref r) H'
def zjw:Sp:=fun vs H Q _=>∃ (x y:Addr) (u v:Rat),vs=[.ref x,.ref y]∧H x=some (.tup (fr u))∧H y=some (.tup (fr v))∧Bq 2900 u∧Bq 2900 v∧∀ (r:Addr) (H':Hp),zaO H H'→H' r=some (.tup (fr (u - v)))→Q (.ref r) H'
def zgB:Sp:=fun vs H Q _=>∃ (x y:Addr) (u v:Rat),vs=[.ref x,.ref y]∧H x=some (.tup (fr u))∧H y=some (.tup (fr v))∧v≠0∧Bq 2900 u∧Bq 2900 v∧∀ (r:Addr) (H':Hp),zaO H H'→H' r=some (.tup (fr (u / v)))→Q (.ref r) H'
def zfo:Sp:=fun vs H Q _=>∃ (x y:Addr) (u v:Rat),vs=[.ref x,.ref y]∧H x=some (.tup (fr u))∧H y=some (.tup (fr v))∧Bq 6000 u∧Bq 6000 v∧Q (.bl (decide (u<v))) H
def zlC (K:PySem.W.Frag):TS :=
 (zbo (zau zhq [] E0 (zab (tOp (rI0 fun i j=>.int (i+j)) (tOp (rI IntMulOk fun i j=>.int (i*j)) (tOp (zbu K) (zac 0) (tC (.int 0))) (tOp (zbu K) (zac 1) (tC (.int 1)))) (tOp (rI IntMulOk fun i j=>.int (i*j)) (tOp (zbu K) (zac 1) (tC (.int 0))) (tOp (zbu K) (zac 0) (tC (.int 1))))) (zab (tOp (rI IntMulOk fun i j=>.int (i*j)) (tOp (zbu K) (zac 0) (tC (.int 1))) (tOp (zbu K) (zac 1) (tC (.int 1)))) zan))))
theorem zpf {x y:Addr} {u v:Rat} (hx:H x=some (.tup (fr u))) (hy:H y=some (.tup (fr v))) (bu:Bq 2900 u) (bv:Bq 2900 v) (q:∀ (r:Addr) (H':Hp),zaO H H'→H' r=some (.tup (fr (u+v)))→Q (.ref r) H') :
  zlC K { nx:=fun _ H'=>Q .non H',rt:=Q } (L2.start ["one","other"] [.ref x,.ref y]) H:=by
 unfold zlC
 simp_all only [zac]
 rw [← zkZ] at q
 have hx:=SqT.of (K:=K) hx
 have hy:=SqT.of (K:=K) hy
 exact ⟨_,hx,_,rfl,_,hy,_,rfl,_,rfl,_,rfl,zf4 2900 2900 bu.top bv.bot,_,hy,_,rfl,_,hx,_,rfl,_,rfl,_,rfl,zf4 2900 2900 bv.top bu.bot,_,hx,_,rfl,_,hy,_,rfl,_,rfl,_,rfl,zf4 2900 2900 bu.bot bv.bot,_,_,rfl,Int.mul_ne_zero (zbL u) (zbL v),(bu.bot.mul bv.bot).mono (by decide),q⟩
theorem zor:zay ["one","other"] ["one","other"] (zah zkQ):=⟨rfl,rfl,rfl,by decide +kernel,rfl,by decide +kernel,by decide +kernel⟩
theorem zlE (T:Txt K mg a):zb0 P w K mg base CX0 3 a.f_plus a.d_plus ["one","other"] ziy:=by
 have G_ratio:=zdl (P:=P) (w:=w) (base:=base) T
 refine T.F_plus.ok zor (fun vs H Q E h=>?_) (fun cdv A outer s H vs Q E hr h=>?_)
 ·obtain ⟨x,y,u,v,rfl,hx,hy,bu,bv,q⟩:=h
  rfl
 obtain ⟨x,y,u,v,rfl,hx,hy,bu,bv,q⟩:=h
 exact ⟨zlC K,(zal (zaK (zak G_ratio (hr.mono (by decide)) rfl T.m_ratio T.F_ratio.kp T.b_ratio .nil zaC (zaa (zaA zcp (zaA zaL (zaN zaD (pv 0) zag (fun _ _=>rfl)) (zaN zaD (pv 1) zag (fun _ _=>rfl))) (zaA zaL (zaN zaD (pv 1) zag (fun _ _=>rfl)) (zaN zaD (pv 0) zag (fun _ _=>rfl)))) (zaa (zaA zaL (zaN zaD (pv 0) zag (fun _ _=>rfl)) (zaN zaD (pv 1) zag (fun _ _=>rfl))) zad))))),
  zpf hx hy bu bv q⟩
def ziv (K:PySem.W.Frag):TS :=
 (zbo (zau zhq [] E0 (zab (tOp (rI0 fun i j=>.int (i - j)) (tOp (rI IntMulOk fun i j=>.int (i*j)) (tOp (zbu K) (zac 0) (tC (.int 0))) (tOp (zbu K) (zac 1) (tC (.int 1)))) (tOp (rI IntMulOk fun i j=>.int (i*j)) (tOp (zbu K) (zac 1) (tC (.int 0))) (tOp (zbu K) (zac 0) (tC (.int 1))))) (zab (tOp (rI IntMulOk fun i j=>.int (i*j)) (tOp (zbu K) (zac 0) (tC (.int 1))) (tOp (zbu K) (zac 1) (tC (.int 1)))) zan))))
theorem zmI {x y:Addr} {u v:Rat} (hx:H x=some (.tup (fr u))) (hy:H y=some (.tup (fr v))) (bu:Bq 2900 u) (bv:Bq 2900 v) (q:∀ (r:Addr) (H':Hp),zaO H H'→H' r=some (.tup (fr (u - v)))→Q (.ref r) H') :
  ziv K { nx:=fun _ H'=>Q .non H',rt:=Q } (L2.start ["one","other"] [.ref x,.ref y]) H:=by
 unfold ziv
 simp_all only [zac]
 rw [← zkw] at q
 have hx:=SqT.of (K:=K) hx
 have hy:=SqT.of (K:=K) hy
 exact ⟨_,hx,_,rfl,_,hy,_,rfl,_,rfl,_,rfl,zf4 2900 2900 bu.top bv.bot,_,hy,_,rfl,_,hx,_,rfl,_,rfl,_,rfl,zf4 2900 2900 bv.top bu.bot,_,hx,_,rfl,_,hy,_,rfl,_,rfl,_,rfl,zf4 2900 2900 bu.bot bv.bot,_,_,rfl,Int.mul_ne_zero (zbL u) (zbL v),(bu.bot.mul bv.bot).mono (by decide),q⟩
theorem zmT:zay ["one","other"] ["one","other"] (zah ziY):=⟨rfl,rfl,rfl,by decide +kernel,rfl,by decide +kernel,by decide +kernel⟩
theorem zmR (T:Txt K mg a):zb0 P w K mg base CX0 3 a.f_minus a.d_minus ["one","other"] zjw:=by
 have G_ratio:=zdl (P:=P) (w:=w) (base:=base) T
 refine T.F_minus.ok zmT (fun vs H Q E h=>?_) (fun cdv A outer s H vs Q E hr h=>?_)
 ·obtain ⟨x,y,u,v,rfl,hx,hy,bu,bv,q⟩:=h
  rfl
 obtain ⟨x,y,u,v,rfl,hx,hy,bu,bv,q⟩:=h
 exact ⟨ziv K,(zal (zaK (zak G_ratio (hr.mono (by decide)) rfl T.m_ratio T.F_ratio.kp T.b_ratio .nil zaC (zaa (zaA zcD (zaA zaL (zaN zaD (pv 0) zag (fun _ _=>rfl)) (zaN zaD (pv 1) zag (fun _ _=>rfl))) (zaA zaL (zaN zaD (pv 1) zag (fun _ _=>rfl)) (zaN zaD (pv 0) zag (fun _ _=>rfl)))) (zaa (zaA zaL (zaN zaD (pv 0) zag (fun _ _=>rfl)) (zaN zaD (pv 1) zag (fun _ _=>rfl))) zad))))),
  zmI hx hy bu bv q⟩
def zk1 (K:PySem.W.Frag):TS :=
 (zbo (zau zhq [] E0 (zab (tOp (rI IntMulOk fun i j=>.int (i*j)) (tOp (zbu K) (zac 0) (tC (.int 0))) (tOp (zbu K) (zac 1) (tC (.int 1)))) (zab (tOp (rI IntMulOk fun i j=>.int (i*j)) (tOp (zbu K) (zac 0) (tC (.int 1))) (tOp (zbu K) (zac 1) (tC (.int 0)))) zan))))
theorem zos {x y:Addr} {u v:Rat} (hx:H x=some (.tup (fr u))) (hy:H y=some (.tup (fr v))) (v0:v≠0) (bu:Bq 2900 u) (bv:Bq 2900 v) (q:∀ (r:Addr) (H':Hp),zaO H H'→H' r=some (.tup (fr (u / v)))→Q (.ref r) H') :
  zk1 K { nx:=fun _ H'=>Q .non H',rt:=Q } (L2.start ["one","other"] [.ref x,.ref y]) H:=by
 unfold zk1
 simp_all only [zac]
 rw [← zhd] at q
 have hx:=SqT.of (K:=K) hx
 have hy:=SqT.of (K:=K) hy
 exact ⟨_,hx,_,rfl,_,hy,_,rfl,_,rfl,_,rfl,zf4 2900 2900 bu.top bv.bot,_,hx,_,rfl,_,hy,_,rfl,_,rfl,_,rfl,zf4 2900 2900 bu.bot bv.top,_,_,rfl,Int.mul_ne_zero (zbL u) (fun z=>v0 (Rat.num_eq_zero.mp z)),(bu.bot.mul bv.top).mono (by decide),q⟩
theorem znN:zay ["one","other"] ["one","other"] (zah zkm):=⟨rfl,rfl,rfl,by decide +kernel,rfl,by decide +kernel,by decide +kernel⟩
theorem ziB (T:Txt K mg a):zb0 P w K mg base CX0 3 a.f_over a.d_over ["one","other"] zgB:=by
 have G_ratio:=zdl (P:=P) (w:=w) (base:=base) T
 refine T.F_over.ok znN (fun vs H Q E h=>?_) (fun cdv A outer s H vs Q E hr h=>?_)
 ·obtain ⟨x,y,u,v,rfl,hx,hy,v0,bu,bv,q⟩:=h
  rfl
 obtain ⟨x,y,u,v,rfl,hx,hy,v0,bu,bv,q⟩:=h
 exact ⟨zk1 K,(zal (zaK (zak G_ratio (hr.mono (by decide)) rfl T.m_ratio T.F_ratio.kp T.b_ratio .nil zaC (zaa (zaA zaL (zaN zaD (pv 0) zag (fun _ _=>rfl)) (zaN zaD (pv 1) zag (fun _ _=>rfl))) (zaa (zaA zaL (zaN zaD (pv 0) zag (fun _ _=>rfl)) (zaN zaD (pv 1) zag (fun _ _=>rfl))) zad))))),
  zos hx hy v0 bu bv q⟩
def ziT (K:PySem.W.Frag):TS :=
 (zbo (tOp (rI0 fun i j=>.bl (decide (i<j))) (tOp (rI IntMulOk fun i j=>.int (i*j)) (tOp (zbu K) (zac 0) (tC (.int 0))) (tOp (zbu K) (zac 1) (tC (.int 1)))) (tOp (rI IntMulOk fun i j=>.int (i*j)) (tOp (zbu K) (zac 1) (tC (.int 0))) (tOp (zbu K) (zac 0) (tC (.int 1))))))
theorem zmt {x y:Addr} {u v:Rat} (hx:H x=some (.tup (fr u))) (hy:H y=some (.tup (fr v))) (bu:Bq 6000 u) (bv:Bq 6000 v) (q:Q (.bl (decide (u<v))) H) :
  ziT K { nx:=fun _ H'=>Q .non H',rt:=Q } (L2.start ["one","other"] [.ref x,.ref y]) H:=by
 unfold ziT
 simp_all only [zac]
 have hx:=SqT.of (K:=K) hx
 have hy:=SqT.of (K:=K) hy
 rw [decide_eq_decide.mpr (Rat.lt_iff u v)] at q
 exact ⟨_,hx,_,rfl,_,hy,_,rfl,_,rfl,_,rfl,zf4 6000 6000 bu.top bv.bot,_,hy,_,rfl,_,hx,_,rfl,_,rfl,_,rfl,zf4 6000 6000 bv.top bu.bot,q⟩
theorem zlJ:zay ["one","other"] ["one","other"] (zah ziD):=⟨rfl,rfl,rfl,by decide +kernel,rfl,by decide +kernel,by decide +kernel⟩
theorem zjp (T:Txt K mg a):zb0 P w K mg base CX0 1 a.f_below a.d_below ["one","other"] zfo:=by
 refine T.F_below.ok zlJ (fun vs H Q E h=>?_) (fun cdv A outer s H vs Q E hr h=>?_)
 ·obtain ⟨x,y,u,v,rfl,hx,hy,bu,bv,q⟩:=h
  rfl
 obtain ⟨x,y,u,v,rfl,hx,hy,bu,bv,q⟩:=h
 exact ⟨ziT K,(zal (zaK (zep zhT (zaA zaL (zaN zaD (pv 0) zag (fun _ _=>rfl)) (zaN zaD (pv 1) zag (fun _ _=>rfl))) (zaA zaL (zaN zaD (pv 1) zag (fun _ _=>rfl)) (zaN zaD (pv 0) zag (fun _ _=>rfl))) (zbD _)))),
  zmt hx hy bu bv q⟩
def zgL (K:PySem.W.Frag):TS :=
 (zbo (zcJ (zab (zau zoL [] E0 (zab (tOp (rI0 fun i j=>.int (i - j)) (tOp (zbu K) (zac 0) (tC (.int 2))) (tOp (zbu K) (zac 0) (tC (.int 1)))) (zab (zac 1) zan))) (zab (zau zoL [] E0 (zab (tOp (zbu K) (zac 0) (tC (.int 2))) (zab (zac 1) zan))) zan))))
theorem zkA {p:Addr} {b:Box} {n:Int} (hp:H p=some (.tup (bx b))) (g:GB b) (n0:0≤n) (n1:n≤60) (q:∀ (r:Addr) (H':Hp),zaO H H'→H' r=some (.tup [.int ((b.2.2 - b.2.1) ^ n.toNat),.int (b.2.2 ^ n.toNat)])→Q (.ref r) H') :
  zgL K { nx:=fun _ H'=>Q .non H',rt:=Q } (L2.start ["box","count"] [.ref p,.int n]) H:=by
 unfold zgL
 obtain ⟨g1,g2,g3,g4,g5⟩:=g
 simp_all only [zac]
 refine ⟨_,SqT.of hp,_,rfl,_,SqT.of hp,_,rfl,_,rfl,_,rfl,_,_,rfl,n0,n1,by omega,by omega,_,SqT.of hp,_,rfl,_,_,rfl,n0,n1,by omega,by omega,by decide,fun r hr=>q r _ (zao hr _) zaj⟩
theorem zkj:zay ["box","count"] ["box","count"] (zah zgW):=⟨rfl,rfl,rfl,by decide +kernel,rfl,by decide +kernel,by decide +kernel⟩
theorem zh3 (T:Txt K mg a):zb0 P w K mg base CX0 2 a.f_missed a.d_missed ["box","count"] zgF:=by
 have G_power:=zm5 (P:=P) (w:=w) (base:=base) T
 refine T.F_missed.ok zkj (fun vs H Q E h=>?_) (fun cdv A outer s H vs Q E hr h=>?_)
 ·obtain ⟨p,b,n,rfl,hp,g,n0,n1,q⟩:=h
  rfl
 obtain ⟨p,b,n,rfl,hp,g,n0,n1,q⟩:=h
 exact ⟨zgL K,(zal (zaK (zbk (zaa (zak G_power (hr.mono (by decide)) rfl T.m_power T.F_power.kp T.b_power .nil zaC (zaa (zaA zcD (zaN zaD (pv 0) zag (fun _ _=>rfl)) (zaN zaD (pv 0) zag (fun _ _=>rfl))) (zaa (pv 1) zad))) (zaa (zak G_power (hr.mono (by decide)) rfl T.m_power T.F_power.kp T.b_power .nil zaC (zaa (zaN zaD (pv 0) zag (fun _ _=>rfl)) (zaa (pv 1) zad))) zad))))),
  zkA hp g n0 n1 q⟩
theorem zdK {b:Box} (g:GB b) (n:Int):0<b.2.2 ^ n.toNat:=zjl (by obtain ⟨g1,g2,g3,g4,g5⟩:=g;omega) _
theorem zmB {b:Box} (g:GB b) {n:Int} (n1:n≤60):Bd 400 (b.2.2 ^ n.toNat):=zku (by obtain ⟨g1,g2,g3,g4,g5⟩:=g;omega) g.2.2.2.2 (by omega)
def zhb (K:PySem.W.Frag):TS :=
 (zaR (zaZ (zau zgF [] E0 (zab (zac 0) (zab (zac 1) zan))) (zcA K 2 (zaz (zae 2) (zaz (zae 3) zcy))))
 (zbo (zau zhq [] E0 (zab (tOp (rI0 fun i j=>.int (i - j)) (zac 3) (zac 2)) (zab (zac 3) zan)))))
theorem zkB {p:Addr} {b:Box} {n:Int} (hp:H p=some (.tup (bx b))) (g:GB b) (n0:0≤n) (n1:n≤60) (q:∀ (r:Addr) (H':Hp),zaO H H'→H' r=some (.tup (fr (chq b n)))→Q (.ref r) H') :
  zhb K { nx:=fun _ H'=>Q .non H',rt:=Q } (L2.start ["box","count","top","bottom"] [.ref p,.int n]) H:=by
 unfold zhb
 simp_all only [zac]
 refine ⟨p,b,n,rfl,hp,g,n0,n1,fun r H1 s1 hr=>?_⟩
 simp_all only [zac]
 refine ⟨_,SqT.of hr,rfl,_,_,rfl,_,_,rfl,rfl,_,rfl,_,rfl,?_⟩
 have z:=zdK g n
 exact ⟨_,_,rfl,by omega,(zmB g n1).mono (by decide),fun r H2 s2 hr2=>q r H2 (s1.trans s2) hr2⟩
theorem zfX:zay ["box","count","top","bottom"] ["box","count"] (zah zgO):=⟨rfl,rfl,rfl,by decide +kernel,rfl,by decide +kernel,by decide +kernel⟩
theorem zfS (T:Txt K mg a):zb0 P w K mg base CX0 3 a.f_chance a.d_chance ["box","count"] zeH:=by
 have G_missed:=zh3 (P:=P) (w:=w) (base:=base) T
 have G_ratio:=zdl (P:=P) (w:=w) (base:=base) T
 refine T.F_chance.ok zfX (fun vs H Q E h=>?_) (fun cdv A outer s H vs Q E hr h=>?_)
 ·obtain ⟨p,b,n,rfl,hp,g,n0,n1,q⟩:=h
  rfl
 obtain ⟨p,b,n,rfl,hp,g,n0,n1,q⟩:=h
 exact ⟨zhb K,(zaf (zdq (zak G_missed (hr.mono (by decide)) rfl T.m_missed T.F_missed.kp T.b_missed .nil zaC (zaa (pv 0) (zaa (pv 1) zad))) (zbm rfl (zat (zam (i:=2) zfX.nd rfl (Or.inl rfl)) (zat (zam (i:=3) zfX.nd rfl (Or.inl rfl)) za3))))
 (zal (zaK (zak G_ratio (hr.mono (by decide)) rfl T.m_ratio T.F_ratio.kp T.b_ratio .nil zaC (zaa (zaA zcD (pv 3) (pv 2)) (zaa (pv 3) zad)))))),
  zkB hp g n0 n1 q⟩
theorem zeI {α β γ:Type} (f:α→β→γ) (as:List α) (bs:List β) {i:Nat} {x:α} {y:β} (h1:as[i]?=some x) (h2:bs[i]?=some y) :
  (List.zipWith f as bs).take (i+1)=(List.zipWith f as bs).take i++[f x y]:=by
 rw [List.take_add_one,List.getElem?_zipWith,h1,h2]
 rfl
theorem zgK {α β γ:Type} (f:α→β→γ) (as:List α) (bs:List β):(List.zipWith f as bs).take (min as.length bs.length)=List.zipWith f as bs :=
 List.take_of_length_le (by rw [List.length_zipWith];exact Nat.le_refl _)
def ze3 (K:PySem.W.Frag):TS :=
 (zbo (tCB (zij K) (zab (zbn (zhe K (zab (zac 0) (zab (zac 1) zan))) (zcA K 2 (zaz (zae 0) (zaz (zae 1) zcy))) zaM (tOp (rI IntMulOk fun i j=>.int (i*j)) (tOp (zbu K) (zac 0) (tC (.int 0))) (zac 1)) [none,none]) zan)))
theorem zim {l pl:Addr} {ts:List Addr} {bs:List Box} {ns:List Int} (B:BP H l pl ts bs ns) (q:∀ H',zaO H H'→Q (.int (zax bs ns).sum) H') :
  ze3 K { nx:=fun _ H'=>Q .non H',rt:=Q } (L2.start ["boxes","plan"] [.ref l,.ref pl]) H:=by
 unfold ze3
 simp_all only [zac]
 refine ⟨⟨_,SqL.of B.hl⟩,⟨_,SqL.of B.hp⟩,fun D hD=>?_⟩
 refine zc7 (K:=K) (xs:=ts.map V.ref) (zs:=ns.map V.int) (fun i ys σ H'=>zaO H H'∧ys=((zax bs ns).take i).map V.int∧∃ x y,σ=[x,y]) ⟨zao hD _,rfl,_,_,rfl⟩ ?_ ?_ ?_
 ·rintro i ys σ H' _ ⟨s,_⟩
  exact ⟨SqL.of (s _ _ B.hl),SqL.of (s _ _ B.hp)⟩
 ·rintro i x z t ys σ H' hx hz hD' ⟨s,rfl,u,v,rfl⟩ ht
  obtain ⟨a,ha,rfl⟩:=zaB hx
  obtain ⟨n,hn,rfl⟩:=zaB hz
  obtain ⟨b,hb1,hb2⟩:=B.hb.at ha
  obtain ⟨n0,n1⟩:=B.gn n (zav hn)
  have li:=(List.getElem?_eq_some_iff.mp hb1).1
  have l6:=B.l6
  have hb3:=s _ _ hb2
  simp_all only [zac]
  refine ⟨_,SqT.of zaj,rfl,_,_,rfl,_,_,rfl,rfl,?_⟩
  simp_all only [zac]
  refine ⟨_,SqT.of (by rw [zaX (zaW hb3 ht)];exact hb3),_,rfl,_,rfl,ziO (by omega) (by omega),_,by rw [zaX (zaW hD' ht)];exact hD',za4 (by rw [List.length_map,List.length_take];omega),_,zaj,((s.add ht).put hD),?_⟩
  rw [zax,zeI _ _ _ hb1 hn,List.map_append]
  rfl
 ·rintro ys σ H' hD' ⟨s,rfl,u,v,rfl⟩
  simp_all only [zac]
  refine ⟨_,SqL.of hD',?_⟩
  rw [List.length_map,List.length_map,B.hb.1,zax,zgK]
  exact q _ s
theorem ziQ:zay ["boxes","plan"] ["boxes","plan"] (zah zdT):=⟨rfl,rfl,rfl,by decide +kernel,rfl,by decide +kernel,by decide +kernel⟩
theorem zi2 (T:Txt K mg a):zb0 P w K mg base CX0 1 a.f_cost_sum a.d_cost_sum ["boxes","plan"] znu:=by
 refine T.F_cost_sum.ok ziQ (fun vs H Q E h=>?_) (fun cdv A outer s H vs Q E hr h=>?_)
 ·obtain ⟨l,pl,ts,bs,ns,rfl,B,q⟩:=h
  rfl
 obtain ⟨l,pl,ts,bs,ns,rfl,B,q⟩:=h
 exact ⟨ze3 K,(zal (zaK (zaJ (zcs rfl) rfl T.z_sum PyProof.Rows.boot_sum (zaa (zbG (sc:=zah zdT) (N:=["boxes","plan"]) (Nc:=["box","count"]) (cap:=[none,none]) rfl rfl rfl (.of (by decide +kernel)) (zdv rfl T.z_zip (zaa (pv 0) (zaa (pv 1) zad))) (fun _ _ _ _=>(zbm rfl (zat (zam (i:=0) (show List.Nodup (["box","count"]:List Str) from by decide) rfl (Or.inl rfl)) (zat (zam (i:=1) (show List.Nodup (["box","count"]:List Str) from by decide) rfl (Or.inl rfl)) za3)))) (fun _ _ _ _=>zbb) (fun _ _ _ _=>(zaA zaL (zaN zaD (pv 0) zag (fun _ _=>rfl)) (pv 1)))) zad)))),
  zim B q⟩
def gnq (b:Box) (n:Int):Rat:=Rat.divInt ((b.2.2 - b.2.1) ^ n.toNat*b.2.1) (b.2.2 ^ n.toNat*b.2.2)
def ziV:Sp:=fun vs H Q _=>∃ (p:Addr) (b:Box) (n:Int),vs=[.ref p,.int n]∧H p=some (.tup (bx b))∧GB b∧0≤n∧n≤60∧∀ (r:Addr) (H':Hp),zaO H H'→H' r=some (.tup (fr (gnq b n)))→Q (.ref r) H'
def zkI (K:PySem.W.Frag):TS :=
 (zaR (zaZ (zau zgF [] E0 (zab (zac 0) (zab (zac 1) zan))) (zcA K 2 (zaz (zae 2) (zaz (zae 3) zcy))))
 (zbo (zau zhq [] E0 (zab (tOp (rI IntMulOk fun i j=>.int (i*j)) (zac 2) (tOp (zbu K) (zac 0) (tC (.int 1)))) (zab (tOp (rI IntMulOk fun i j=>.int (i*j)) (zac 3) (tOp (zbu K) (zac 0) (tC (.int 2)))) zan)))))
theorem zoN {p:Addr} {b:Box} {n:Int} (hp:H p=some (.tup (bx b))) (g:GB b) (n0:0≤n) (n1:n≤60) (q:∀ (r:Addr) (H':Hp),zaO H H'→H' r=some (.tup (fr (gnq b n)))→Q (.ref r) H') :
  zkI K { nx:=fun _ H'=>Q .non H',rt:=Q } (L2.start ["box","count","top","bottom"] [.ref p,.int n]) H:=by
 unfold zkI
 simp_all only [zac]
 refine ⟨p,b,n,rfl,hp,g,n0,n1,fun r H1 s1 hr=>?_⟩
 simp_all only [zac]
 have hp1:=SqT.of (K:=K) (s1 _ _ hp)
 have z:=zdK g n
 have bo:=zmB g n1
 obtain ⟨g1,g2,g3,g4,g5⟩:=g
 have b50:Bd 6 b.2.2:=by show b.2.2.natAbs<2 ^ 6;omega
 refine ⟨_,SqT.of hr,rfl,_,_,rfl,_,_,rfl,rfl,_,hp1,_,rfl,_,rfl,_,rfl,ziO (by omega) (by omega),_,hp1,_,rfl,_,rfl,_,rfl,ziO (by omega) (by omega),?_⟩
 exact ⟨_,_,rfl,Int.mul_ne_zero (by omega) (by omega),(bo.mul b50).mono (by decide),fun r H2 s2 hr2=>q r H2 (s1.trans s2) hr2⟩
theorem ziS:zay ["box","count","top","bottom"] ["box","count"] (zah zkE):=⟨rfl,rfl,rfl,by decide +kernel,rfl,by decide +kernel,by decide +kernel⟩
theorem zkD (T:Txt K mg a):zb0 P w K mg base CX0 3 a.f_gain a.d_gain ["box","count"] ziV:=by
 have G_missed:=zh3 (P:=P) (w:=w) (base:=base) T
 have G_ratio:=zdl (P:=P) (w:=w) (base:=base) T
 refine T.F_gain.ok ziS (fun vs H Q E h=>?_) (fun cdv A outer s H vs Q E hr h=>?_)
 ·obtain ⟨p,b,n,rfl,hp,g,n0,n1,q⟩:=h
  rfl
 obtain ⟨p,b,n,rfl,hp,g,n0,n1,q⟩:=h
 exact ⟨zkI K,(zaf (zdq (zak G_missed (hr.mono (by decide)) rfl T.m_missed T.F_missed.kp T.b_missed .nil zaC (zaa (pv 0) (zaa (pv 1) zad))) (zbm rfl (zat (zam (i:=2) ziS.nd rfl (Or.inl rfl)) (zat (zam (i:=3) ziS.nd rfl (Or.inl rfl)) za3))))
 (zal (zaK (zak G_ratio (hr.mono (by decide)) rfl T.m_ratio T.F_ratio.kp T.b_ratio .nil zaC (zaa (zaA zaL (pv 2) (zaN zaD (pv 0) zag (fun _ _=>rfl))) (zaa (zaA zaL (pv 3) (zaN zaD (pv 0) zag (fun _ _=>rfl))) zad)))))),
  zoN hp g n0 n1 q⟩
theorem Bq.add2 {m n:Nat} {p q:Rat} (hp:Bq m p) (hq:Bq n q):Bq (m+n+1) (p+q):=by
 rw [← zkZ]
 have h:Bd (m+n) (q.num*(p.den:Int)):=by rw [Nat.add_comm m n];exact hq.top.mul hp.bot
 exact zbd (Int.mul_ne_zero (zbL p) (zbL q)) ((hp.top.mul hq.bot).add h) ((hp.bot.mul hq.bot).mono (Nat.le_succ _))
def zit:Sp:=fun vs H Q _=>∃ (l:Addr) (us:List Addr) (qs:List Rat),vs=[.ref l]∧H l=some (.lst (us.map V.ref))∧Tps fr H us qs∧qs.length≤3∧(∀ q∈qs,Bq 900 q)∧∀ (r:Addr) (H':Hp),zaO H H'→H' r=some (.tup (fr qs.sum))→Q (.ref r) H'
def ziL (K:PySem.W.Frag):TS :=
 (zaR (zaZ (zcJ (zab (tC (.int 0)) (zab (tC (.int 1)) zan))) (zae 1))
 (zaR (zgr (zbN K (zac 0)) (zae 2)
 (zaZ (zau ziy [] E0 (zab (zac 1) (zab (zac 2) zan))) (zae 1)))
 (zbo (zac 1))))
theorem zm6 {l:Addr} {us:List Addr} {qs:List Rat} (hl:H l=some (.lst (us.map V.ref))) (T:Tps fr H us qs) (l3:qs.length≤3) (bq:∀ q∈qs,Bq 900 q) (q:∀ (r:Addr) (H':Hp),zaO H H'→H' r=some (.tup (fr qs.sum))→Q (.ref r) H') :
  ziL K { nx:=fun _ H'=>Q .non H',rt:=Q } (L2.start ["fractions","total","fraction"] [.ref l]) H:=by
 unfold ziL
 simp_all only [zac]
 refine ⟨by decide,fun r0 n0=>?_⟩
 have s0:=zao n0 (.tup [.int 0,.int 1])
 have h0:(L2.upd H r0 (.tup [.int 0,.int 1])) r0=some (.tup [.int 0,.int 1]):=zaj
 generalize L2.upd H r0 (.tup [.int 0,.int 1])=H0 at s0 h0 ⊢
 refine ⟨⟨_,SqL.of (s0 _ _ hl)⟩,?_⟩
 refine zce (K:=K) (xs:=us.map V.ref) (fun i σ H'=>zaO H0 H'∧∃ (r:Addr) (x:Option V),H' r=some (.tup (fr ((qs.take i).sum)))∧Bq (901*i+1) ((qs.take i).sum)∧σ=[some (.ref l),some (.ref r),x]) ⟨.refl _,r0,_,h0,⟨by show (0:Nat)<2 ^ 1;decide,by show (1:Nat)<2 ^ 1;decide⟩,rfl⟩ ?_ ?_ ?_
 ·rintro i σ H' _ ⟨s,_⟩
  exact SqL.of (s _ _ (s0 _ _ hl))
 ·rintro i v σ H1 hx ⟨s1,r,x,hr,b1,rfl⟩
  obtain ⟨t,et,rfl⟩:=zaB hx
  obtain ⟨f,ef,hf⟩:=T.at et
  have li:=(List.getElem?_eq_some_iff.mp ef).1
  simp_all only [zac]
  have bf:=bq f (zav ef)
  refine ⟨r,t,_,f,rfl,hr,s1 _ _ (s0 _ _ hf),b1.mono (by omega),bf.mono (by decide),fun r2 H2 s2 h2=>?_⟩
  have e:(qs.take (i+1)).sum=(qs.take i).sum+f:=by
   rw [List.take_add_one,ef,List.sum_append]
   show _+(f+0)=_
   rw [Rat.add_zero]
  exact ⟨s1.trans s2,r2,by rw [e];exact h2,by rw [e];exact (b1.add2 bf).mono (by omega),rfl⟩
 ·rintro σ H1 ⟨s1,r,x,hr,b1,rfl⟩
  simp_all only [zac]
  rw [List.length_map,T.1,List.take_length] at hr
  exact q r H1 (s0.trans s1) hr
theorem zfv:zay ["fractions","total","fraction"] ["fractions"] (zah ziw):=⟨rfl,rfl,rfl,by decide +kernel,rfl,by decide +kernel,by decide +kernel⟩
theorem zmd (T:Txt K mg a):zb0 P w K mg base CX0 4 a.f_added a.d_added ["fractions"] zit:=by
 have G_plus:=zlE (P:=P) (w:=w) (base:=base) T
 refine T.F_added.ok zfv (fun vs H Q E h=>?_) (fun cdv A outer s H vs Q E hr h=>?_)
 ·obtain ⟨l,us,qs,rfl,hl,T',l3,bq,q⟩:=h
  rfl
 obtain ⟨l,us,qs,rfl,hl,T',l3,bq,q⟩:=h
 exact ⟨ziL K,(zaf (zaE (i:=1) zfv.nd rfl (Or.inl rfl) (zbk (zaa zag (zaa zag zad))))
 (zaf (zcq PassesOwn.never rfl (zbe (pv 0)) (zam (i:=2) zfv.nd rfl (Or.inl rfl))
 (zal (zaE (i:=1) zfv.nd rfl (Or.inl rfl) (zak G_plus (hr.mono (by decide)) rfl T.m_plus T.F_plus.kp T.b_plus .nil zaC (zaa (pv 1) (zaa (pv 2) zad))))))
 (zal (zaK (pv 1))))),
  zm6 hl T' l3 bq q⟩
def zg0:Sp:=fun vs H Q _=>∃ (l:Addr) (us:List Addr) (qs:List Rat),vs=[.ref l]∧H l=some (.lst (us.map V.ref))∧Tps fr H us qs∧1≤qs.length∧(∀ q∈qs,Bq 6000 q)∧∀ (r:Addr) (m:Rat),H r=some (.tup (fr m))→m∈qs→(∀ q∈qs,m≤q)→Q (.ref r) H
def zcP (K:PySem.W.Frag):TS :=
 (zaR (zaZ (tOp (zcX K) (zac 0) (tC (.int 0))) (zae 1))
 (zaR (zgr (zbN K (zac 0)) (zae 2)
 (zdt (tB (zau zfo [] E0 (zab (zac 2) (zab (zac 1) zan)))) (zaZ (zac 2) (zae 1)) zbF))
 (zbo (zac 1))))
theorem zfx {l:Addr} {us:List Addr} {qs:List Rat} (hl:H l=some (.lst (us.map V.ref))) (T:Tps fr H us qs) (l1:1≤qs.length) (bq:∀ q∈qs,Bq 6000 q) (q:∀ (r:Addr) (m:Rat),H r=some (.tup (fr m))→m∈qs→(∀ q∈qs,m≤q)→Q (.ref r) H) :
  zcP K { nx:=fun _ H'=>Q .non H',rt:=Q } (L2.start ["chances","least","one"] [.ref l]) H:=by
 unfold zcP
 simp_all only [zac]
 have hL:=SqL.of (K:=K) hl
 have lu:=T.1
 have e0:us[0]?=some us[0]:=List.getElem?_eq_getElem (by omega)
 obtain ⟨f0,ef0,hf0⟩:=T.at e0
 refine ⟨_,hL,_,zec (j:=0) (show (us.map V.ref)[0]?=some (V.ref us[0]) by rw [List.getElem?_map,e0];rfl),⟨_,hL⟩,?_⟩
 refine zce (K:=K) (xs:=us.map V.ref) (fun i σ H'=>H'=H∧∃ (r:Addr) (m:Rat) (x:Option V),H r=some (.tup (fr m))∧m∈qs∧(∀ q∈qs.take i,m≤q)∧σ=[some (.ref l),some (.ref r),x]) ⟨rfl,us[0],f0,_,hf0,zav ef0,by simp,rfl⟩ ?_ ?_ ?_
 ·rintro i σ H' _ ⟨rfl,_⟩
  exact hL
 ·rintro i v σ H1 hx ⟨rfl,r,m,x,hr,hm,hall,rfl⟩
  obtain ⟨t,et,rfl⟩:=zaB hx
  obtain ⟨f,ef,hf⟩:=T.at et
  simp_all only [zac]
  refine ⟨t,r,f,m,rfl,hf,hr,bq f (zav ef),bq m hm,?_⟩
  have tk:∀ y,y∈qs.take (i+1)→y∈qs.take i∨y=f:=fun y hy=>by
   rw [List.take_add_one,ef] at hy
   exact (List.mem_append.mp hy).imp id fun z=>List.mem_singleton.mp z
  refine ⟨_,rfl,?_⟩
  by_cases c:f<m
  ·rw [if_pos (decide_eq_true c)]
   refine ⟨rfl,t,f,hf,zav ef,fun y hy=>?_,rfl⟩
   rcases tk y hy with z | rfl
   ·exact Rat.le_trans (Rat.le_of_lt c) (hall y z)
   ·exact Rat.le_refl
  ·rw [if_neg (by simpa using c)]
   refine ⟨rfl,r,m,hr,hm,fun y hy=>?_,rfl⟩
   rcases tk y hy with z | rfl
   ·exact hall y z
   ·exact Rat.not_lt.mp c
 ·rintro σ H1 ⟨rfl,r,m,x,hr,hm,hall,rfl⟩
  simp_all only [zac]
  rw [List.length_map,T.1,List.take_length] at hall
  exact q r m hr hm hall
theorem zbX:zay ["chances","least","one"] ["chances"] (zah zcW):=⟨rfl,rfl,rfl,by decide +kernel,rfl,by decide +kernel,by decide +kernel⟩
theorem zf2 (T:Txt K mg a):zb0 P w K mg base CX0 2 a.f_least_chance a.d_least_chance ["chances"] zg0:=by
 have G_below:=zjp (P:=P) (w:=w) (base:=base) T
 refine T.F_least_chance.ok zbX (fun vs H Q E h=>?_) (fun cdv A outer s H vs Q E hr h=>?_)
 ·obtain ⟨l,us,qs,rfl,hl,T',l1,bq,q⟩:=h
  rfl
 obtain ⟨l,us,qs,rfl,hl,T',l1,bq,q⟩:=h
 exact ⟨zcP K,(zaf (zaE (i:=1) zbX.nd rfl (Or.inl rfl) (zaN zbj (pv 0) zag (fun _ _=>rfl)))
 (zaf (zcq PassesOwn.never rfl (zbe (pv 0)) (zam (i:=2) zbX.nd rfl (Or.inl rfl))
 (zal (zc3 (zb1 (zak G_below (hr.mono (by decide)) rfl T.m_below T.F_below.kp T.b_below .nil zaC (zaa (pv 2) (zaa (pv 1) zad)))) (zal (zaE (i:=1) zbX.nd rfl (Or.inl rfl) (pv 2))) zbq)))
 (zal (zaK (pv 1))))),
  zfx hl T' l1 bq q⟩
def pr (b:Box):Rat:=Rat.divInt b.2.1 b.2.2
theorem powI (a:Int):∀ n:Nat,((a ^ n:Int):Rat)=(a:Rat) ^ n
 | 0=>by rw [Int.pow_zero,Rat.pow_zero];rfl
 | n+1=>by rw [Int.pow_succ,Rat.pow_succ,Rat.intCast_mul,powI a n]
theorem powD (a b:Rat) (hb:b≠0):∀ n:Nat,(a / b) ^ n=a ^ n / b ^ n
 | 0=>by rw [Rat.pow_zero,Rat.pow_zero,Rat.pow_zero];grind
 | n+1=>by
  rw [Rat.pow_succ,Rat.pow_succ,Rat.pow_succ,powD a b hb n]
  grind
theorem zix {b:Rat} (hb:b≠0):∀ n:Nat,b ^ n≠0
 | 0=>by rw [Rat.pow_zero];decide
 | n+1=>by
  rw [Rat.pow_succ]
  have:=zix hb n
  grind
theorem zhg {b:Box} (g:GB b):0<pr b∧pr b≤1∧∀ n:Nat,(((b.2.2 - b.2.1) ^ n:Int):Rat) / ((b.2.2 ^ n:Int):Rat)=(1 - pr b) ^ n:=by
 obtain ⟨g1,g2,g3,g4,g5⟩:=g
 have o0:(0:Rat)<(b.2.2:Rat):=by exact_mod_cast (show (0:Int)<b.2.2 by omega)
 have h0:(0:Rat)<(b.2.1:Rat):=by exact_mod_cast (show (0:Int)<b.2.1 by omega)
 have ho:(b.2.1:Rat)≤(b.2.2:Rat):=by exact_mod_cast g4
 have on:(b.2.2:Rat)≠0:=by grind
 have e:pr b=(b.2.1:Rat) / (b.2.2:Rat):=Rat.divInt_eq_div ..
 refine ⟨?_,?_,fun n=>?_⟩
 ·rw [e]
  rw [Rat.div_def]
  exact Rat.mul_pos h0 (Rat.inv_pos.mpr o0)
 ·rw [e]
  have i0:=Rat.inv_pos.mpr o0
  have m:=Rat.mul_le_mul_of_nonneg_right ho (Rat.le_of_lt i0)
  rw [Rat.mul_inv_cancel _ on] at m
  rw [Rat.div_def]
  exact m
 ·rw [powI,powI,← powD _ _ on,e,Rat.intCast_sub]
  congr 1
  grind
theorem zdN {b:Box} (g:GB b) (n:Int):chq b n=1 - (1 - pr b) ^ n.toNat:=by
 have h:=(zhg g).2.2 n.toNat
 have on:((b.2.2 ^ n.toNat:Int):Rat)≠0:=by
  have:=zdK g n
  intro z
  have:(b.2.2 ^ n.toNat:Int)=0:=by exact_mod_cast z
  omega
 unfold chq
 rw [Rat.divInt_eq_div,Rat.intCast_sub,← h]
 grind
theorem zfj {b:Box} (g:GB b) (n:Int):gnq b n=(1 - pr b) ^ n.toNat*pr b:=by
 have h:=(zhg g).2.2 n.toNat
 unfold gnq pr
 rw [Rat.divInt_eq_div,Rat.divInt_eq_div,Rat.intCast_mul,Rat.intCast_mul]
 unfold pr at h
 rw [Rat.divInt_eq_div] at h
 rw [← h]
 grind
theorem zot {b:Box} (g:GB b) {m n:Int} (m0:0≤m) (n0:0≤n) (gn:gnq b m≠0):(b.1:Rat) / gnq b m*(chq b n - chq b m)≤(b.1:Rat)*((n:Rat) - (m:Rat)):=by
 obtain ⟨p0,p1,_⟩:=zhg g
 have c0:(0:Rat)≤(b.1:Rat):=by exact_mod_cast (show (0:Int)≤b.1 by have:=g.1;omega)
 have hc:=conc (Rat.le_of_lt p0) p1 m.toNat n.toNat
 have e1:((n.toNat:Nat):Rat)=(n:Rat):=by
  have:((n.toNat:Nat):Int)=n:=Int.toNat_of_nonneg n0
  exact_mod_cast congrArg (Int.cast (R:=Rat)) this
 have e2:((m.toNat:Nat):Rat)=(m:Rat):=by
  have:((m.toNat:Nat):Int)=m:=Int.toNat_of_nonneg m0
  exact_mod_cast congrArg (Int.cast (R:=Rat)) this
 rw [e1,e2,← zfj g m] at hc
 have g0:0≤gnq b m:=by
  rw [zfj g]
  exact Rat.mul_nonneg (za1 (Rat.le_of_lt p0) p1 _).2.1 (Rat.le_of_lt p0)
 have gp:0<gnq b m:=by grind
 have w0:0≤(b.1:Rat) / gnq b m:=by
  rw [Rat.div_def]
  exact Rat.mul_nonneg c0 (Rat.le_of_lt (Rat.inv_pos.mpr gp))
 have hm:=Rat.mul_le_mul_of_nonneg_left hc w0
 have e3:(b.1:Rat) / gnq b m*(((n:Rat) - (m:Rat))*gnq b m)=(b.1:Rat)*((n:Rat) - (m:Rat)):=by grind
 rw [e3] at hm
 rw [zdN g,zdN g]
 have e4:(1 - (1 - pr b) ^ n.toNat) - (1 - (1 - pr b) ^ m.toNat)=(1 - pr b) ^ m.toNat - (1 - pr b) ^ n.toNat:=by grind
 rw [e4]
 exact hm
def wq (b:Box) (n:Int):Rat:=(b.1:Rat) / gnq b n
def wqs (bs:List Box) (ns:List Int):List Rat:=List.zipWith wq bs ns
def Gn (bs:List Box) (ns:List Int):Prop:=∀ (i:Nat) b n,bs[i]?=some b→ns[i]?=some n→gnq b n≠0
theorem zkd {b:Box} (g:GB b) {n:Int} (n1:n≤60):Bq 410 (gnq b n):=by
 have bo:=zmB g n1
 have bt:Bd 400 ((b.2.2 - b.2.1) ^ n.toNat):=zku (by obtain ⟨g1,g2,g3,g4,g5⟩:=g;omega) (by obtain ⟨g1,g2,g3,g4,g5⟩:=g;omega) (by omega)
 have o0:=zdK g n
 obtain ⟨g1,g2,g3,g4,g5⟩:=g
 have h1:Bd 10 b.2.1:=by show b.2.1.natAbs<2 ^ 10;omega
 have h2:Bd 10 b.2.2:=by show b.2.2.natAbs<2 ^ 10;omega
 exact zbd (Int.mul_ne_zero (by omega) (by omega)) (bt.mul h1) (bo.mul h2)
def zk4:Sp:=fun vs H Q _=>∃ (l pl:Addr) (ts:List Addr) (bs:List Box) (ns:List Int),vs=[.ref l,.ref pl]∧BP H l pl ts bs ns∧Gn bs ns∧∀ (r:Addr) (us:List Addr) (H':Hp),zaO H H'→H' r=some (.lst (us.map V.ref))→Tps fr H' us (wqs bs ns)→Q (.ref r) H'
def zcU (K:PySem.W.Frag):TS :=
 (zbo (zbn (zhe K (zab (zac 0) (zab (zac 1) zan))) (zcA K 2 (zaz (zae 0) (zaz (zae 1) zcy))) zaM (zau zgB [] E0 (zab (zcJ (zab (tOp (zbu K) (zac 0) (tC (.int 0))) (zab (tC (.int 1)) zan))) (zab (zau ziV [] E0 (zab (zac 0) (zab (zac 1) zan))) zan))) [none,none]))
theorem zfF {l pl:Addr} {ts:List Addr} {bs:List Box} {ns:List Int} (B:BP H l pl ts bs ns) (G:Gn bs ns) (q:∀ (r:Addr) (us:List Addr) (H':Hp),zaO H H'→H' r=some (.lst (us.map V.ref))→Tps fr H' us (wqs bs ns)→Q (.ref r) H') :
  zcU K { nx:=fun _ H'=>Q .non H',rt:=Q } (L2.start ["boxes","counts"] [.ref l,.ref pl]) H:=by
 unfold zcU
 simp_all only [zac]
 refine ⟨⟨_,SqL.of B.hl⟩,⟨_,SqL.of B.hp⟩,fun D hD=>?_⟩
 refine zc7 (K:=K) (xs:=ts.map V.ref) (zs:=ns.map V.int) (fun i ys σ H'=>zaO H H'∧(∃ us:List Addr,ys=us.map V.ref∧Tps fr H' us ((wqs bs ns).take i)∧∀ u∈us,u≠D)∧∃ x y,σ=[x,y]) ⟨zao hD _,⟨[],rfl,Tps.nil,by simp⟩,_,_,rfl⟩ ?_ ?_ ?_
 ·rintro i ys σ H' _ ⟨s,_⟩
  exact ⟨SqL.of (s _ _ B.hl),SqL.of (s _ _ B.hp)⟩
 ·rintro i x z t ys σ H' hx hz hD' ⟨s,⟨us,rfl,T,nu⟩,u,v,rfl⟩ ht
  obtain ⟨a,ha,rfl⟩:=zaB hx
  obtain ⟨n,hn,rfl⟩:=zaB hz
  obtain ⟨b,hb1,hb2⟩:=B.hb.at ha
  obtain ⟨n0,n1⟩:=B.gn n (zav hn)
  have g:=B.gb b (zav hb1)
  have hb3:=s _ _ hb2
  simp_all only [zac]
  refine ⟨_,SqT.of zaj,rfl,_,_,rfl,_,_,rfl,rfl,?_⟩
  simp_all only [zac]
  have s1:=zao ht (.tup [V.ref a,V.int n])
  have h1:(L2.upd H' t (.tup [V.ref a,V.int n])) t=some (.tup [V.ref a,V.int n]):=zaj
  generalize L2.upd H' t (.tup [V.ref a,V.int n])=H1 at s1 h1 ⊢
  refine ⟨_,SqT.of (s1 _ _ hb3),_,rfl,by decide,fun p np=>?_⟩
  have s2:=zao np (.tup [V.int b.1,V.int 1])
  have h2:(L2.upd H1 p (.tup [V.int b.1,V.int 1])) p=some (.tup [V.int b.1,V.int 1]):=zaj
  generalize L2.upd H1 p (.tup [V.int b.1,V.int 1])=H2 at s2 h2 ⊢
  have hb4:=s2 _ _ (s1 _ _ hb3)
  refine ⟨a,b,n,rfl,hb4,g,n0,n1,fun r H3 s3 h3=>?_⟩
  have b1:Bq 2900 (b.1:Rat):=⟨by show b.1.natAbs<2 ^ 2900;exact Nat.lt_of_lt_of_le (by have:=g.1;have:=g.2.1;omega:b.1.natAbs<2 ^ 6) (Nat.pow_le_pow_right (by decide) (by decide)),by show (1:Nat)<2 ^ 2900;exact Nat.one_lt_two_pow (by decide)⟩
  refine ⟨p,r,(b.1:Rat),gnq b n,rfl,s3 _ _ h2,h3,G i b n hb1 hn,b1,(zkd g n1).mono (by decide),fun y H4 s4 h4=>?_⟩
  have s14:=s1.trans (s2.trans (s3.trans s4))
  have hD4:=s14 _ _ hD'
  have yD:y≠D:=fun z=>by
   subst z
   rw [h4] at hD4
   cases hD4
  have lu:us.length≤6:=by
   have:=B.l6
   have e:=T.1
   rw [List.length_take,wqs,List.length_zipWith] at e
   omega
  refine ⟨_,hD4,za4 (by rw [List.length_map];omega),_,zaj,(s.trans s14).put hD,us++[y],by rw [List.map_append];rfl,?_,fun u hu=>?_⟩
  ·rw [wqs,zeI _ _ _ hb1 hn]
   refine T.put (fun x w e=>?_) (by rw [zaX yD];exact h4)
   have nx:x≠D:=fun z=>by
    subst z
    rw [e] at hD'
    cases hD'
   rw [zaX nx]
   exact s14 _ _ e
  ·rcases List.mem_append.mp hu with hu | hu
   ·exact nu u hu
   ·rw [List.mem_singleton.mp hu]
    exact yD
 ·rintro ys σ H' hD' ⟨s,⟨us,rfl,T,nu⟩,u,v,rfl⟩
  rw [List.length_map,List.length_map,B.hb.1,wqs,zgK] at T
  exact q D us H' s hD' T
theorem zfP:zay ["boxes","counts"] ["boxes","counts"] (zah zb5):=⟨rfl,rfl,rfl,by decide +kernel,rfl,by decide +kernel,by decide +kernel⟩
theorem zdJ (T:Txt K mg a):zb0 P w K mg base CX0 4 a.f_fair_weights a.d_fair_weights ["boxes","counts"] zk4:=by
 have G_gain:=zkD (P:=P) (w:=w) (base:=base) T
 have G_over:=ziB (P:=P) (w:=w) (base:=base) T
 refine T.F_fair_weights.ok zfP (fun vs H Q E h=>?_) (fun cdv A outer s H vs Q E hr h=>?_)
 ·obtain ⟨l,pl,ts,bs,ns,rfl,B,G,q⟩:=h
  rfl
 obtain ⟨l,pl,ts,bs,ns,rfl,B,G,q⟩:=h
 exact ⟨zcU K,(zal (zaK (zbG (sc:=zah zb5) (N:=["boxes","counts"]) (Nc:=["box","count"]) (cap:=[none,none]) rfl rfl rfl (.of (by decide +kernel)) (zdv rfl T.z_zip (zaa (pv 0) (zaa (pv 1) zad))) (fun _ _ _ _=>(zbm rfl (zat (zam (i:=0) (show List.Nodup (["box","count"]:List Str) from by decide) rfl (Or.inl rfl)) (zat (zam (i:=1) (show List.Nodup (["box","count"]:List Str) from by decide) rfl (Or.inl rfl)) za3)))) (fun _ _ _ _=>zbb) (fun _ _ _ _=>(zak G_over (hr.mono (by decide)) rfl T.m_over T.F_over.kp T.b_over .nil zaC (zaa (zbk (zaa (zaN zaD (pv 0) zag (fun _ _=>rfl)) (zaa zag zad))) (zaa (zak G_gain (hr.mono (by decide)) rfl T.m_gain T.F_gain.kp T.b_gain .nil zaC (zaa (pv 0) (zaa (pv 1) zad))) zad))))))),
  zfF B G q⟩
theorem Bq.mul2 {m n:Nat} {p q:Rat} (hp:Bq m p) (hq:Bq n q):Bq (m+n) (p*q):=by
 rw [← zkn]
 exact zbd (Int.mul_ne_zero (zbL p) (zbL q)) (hp.top.mul hq.top) (hp.bot.mul hq.bot)
theorem zlx:∀ (qs:List Rat),(∀ q∈qs,Bq 900 q)→Bq (901*qs.length+1) qs.sum
 | [],_=>⟨by show (0:Nat)<2 ^ 1;decide,by show (1:Nat)<2 ^ 1;decide⟩
 | q::qs,h=>by
  rw [List.sum_cons,List.length_cons]
  exact ((h q List.mem_cons_self).add2 (zlx qs fun x hx=>h x (List.mem_cons_of_mem _ hx))).mono (by omega)
theorem zp4 {b:Box} (g:GB b) {n:Int} (n1:n≤60) (gn:gnq b n≠0):Bq 420 (wq b n):=by
 have hb:=zkd g n1
 unfold wq
 rw [← zhd]
 have c:Bd 7 b.1:=by have:=g.1;have:=g.2.1;show b.1.natAbs<2 ^ 7;omega
 exact zbd (Int.mul_ne_zero (by show (1:Int)≠0;decide) (zjg gn)) ((c.mul hb.bot).mono (by decide)) (((show Bd 1 (1:Int) from by show (1:Nat)<2 ^ 1;decide).mul hb.top).mono (by decide))
theorem znx {b:Box} (g:GB b) {n:Int} (n1:n≤60):Bq 401 (chq b n):=by
 have bo:=zmB g n1
 have bt:Bd 400 ((b.2.2 - b.2.1) ^ n.toNat):=zku (by obtain ⟨g1,g2,g3,g4,g5⟩:=g;omega) (by obtain ⟨g1,g2,g3,g4,g5⟩:=g;omega) (by omega)
 have o0:=zdK g n
 exact zbd (by omega) (bo.sub bt) (bo.mono (by decide))
theorem zjj:∀ (bs:List Box) (ns:List Int),(∀ b∈bs,GB b)→(∀ n∈ns,0≤n∧n≤60)→0≤(zax bs ns).sum∧(zax bs ns).sum≤3600*bs.length
 | [],ns,_,_=>by simp [zax]
 | b::bs,[],_,_=>by simp [zax];omega
 | b::bs,n::ns,h1,h2=>by
  obtain ⟨z1,z2⟩:=zjj bs ns (fun x hx=>h1 x (List.mem_cons_of_mem _ hx)) (fun x hx=>h2 x (List.mem_cons_of_mem _ hx))
  obtain ⟨g1,g2,_⟩:=h1 b List.mem_cons_self
  obtain ⟨n0,n1⟩:=h2 n List.mem_cons_self
  have m1:0≤b.1*n:=Int.mul_nonneg (by omega) n0
  have m2:b.1*n≤60*60:=Int.mul_le_mul g2 n1 n0 (by decide)
  show 0≤b.1*n+(zax bs ns).sum∧b.1*n+(zax bs ns).sum≤3600*((bs.length+1:Nat):Int)
  omega
def zdY (bs:List Box) (ns:List Int):List Rat:=List.zipWith (fun x y:Rat=>x*y) (wqs bs ns) (zfs bs ns)
def zfk (bs:List Box) (ns:List Int) (bud:Int):Rat:=((zdY bs ns).sum+((bud - (zax bs ns).sum:Int):Rat)) / (wqs bs ns).sum
def zei:Sp:=fun vs H Q _=>∃ (l pl:Addr) (ts:List Addr) (bs:List Box) (ns:List Int) (bud:Int),vs=[.ref l,.int bud,.ref pl]∧BP H l pl ts bs ns∧bs.length≤3∧Gn bs ns∧0≤bud∧bud≤60∧(wqs bs ns).sum≠0∧∀ (r:Addr) (H':Hp),zaO H H'→H' r=some (.tup (fr (zfk bs ns bud)))→Q (.ref r) H'
def zdA (K:PySem.W.Frag):TS :=
 (zaR (zaZ (zau zk4 [] E0 (zab (zac 0) (zab (zac 2) zan))) (zae 3))
 (zaR (zaZ (zbn (zhe K (zab (zac 0) (zab (zac 2) zan))) (zcA K 2 (zaz (zae 0) (zaz (zae 1) zcy))) zaM (zau zeH [] E0 (zab (zac 0) (zab (zac 1) zan))) [none,none]) (zae 4))
 (zaR (zaZ (zau zit [] E0 (zab (zbn (zhe K (zab (zac 3) (zab (zac 4) zan))) (zcA K 2 (zaz (zae 0) (zaz (zae 1) zcy))) zaM (zau zh8 [] E0 (zab (zac 0) (zab (zac 1) zan))) [none,none]) zan)) (zae 5))
 (zaR (zaZ (tOp (rI0 fun i j=>.int (i - j)) (zac 1) (zau znu [] E0 (zab (zac 0) (zab (zac 2) zan)))) (zae 6))
 (zbo (zau zgB [] E0 (zab (zau ziy [] E0 (zab (zac 5) (zab (zcJ (zab (zac 6) (zab (tC (.int 1)) zan))) zan))) (zab (zau zit [] E0 (zab (zac 3) zan)) zan))))))))
theorem zgE {l pl:Addr} {ts:List Addr} {bs:List Box} {ns:List Int} {bud:Int} (B:BP H l pl ts bs ns) (l3:bs.length≤3) (G:Gn bs ns) (d0:0≤bud) (d1:bud≤60) (ws:(wqs bs ns).sum≠0) (q:∀ (r:Addr) (H':Hp),zaO H H'→H' r=some (.tup (fr (zfk bs ns bud)))→Q (.ref r) H') :
  zdA K { nx:=fun _ H'=>Q .non H',rt:=Q } (L2.start ["boxes","budget","counts","weights","chances","found","spare"] [.ref l,.int bud,.ref pl]) H:=by
 unfold zdA
 simp_all only [zac]
 refine ⟨l,pl,ts,bs,ns,rfl,B,G,fun wl us H1 s1 hw TW=>?_⟩
 have B1:=B.same s1
 simp_all only [zac]
 refine ⟨⟨_,SqL.of B1.hl⟩,⟨_,SqL.of B1.hp⟩,fun D hD=>?_⟩
 refine zc7 (K:=K) (xs:=ts.map V.ref) (zs:=ns.map V.int) (fun i ys σ H'=>zaO H1 H'∧(∃ vs:List Addr,ys=vs.map V.ref∧Tps fr H' vs ((zfs bs ns).take i))∧∃ x y,σ=[x,y]) ⟨zao hD _,⟨[],rfl,Tps.nil⟩,_,_,rfl⟩ ?_ ?_ ?_
 ·rintro i ys σ H' _ ⟨s,_⟩
  exact ⟨SqL.of (s _ _ B1.hl),SqL.of (s _ _ B1.hp)⟩
 ·rintro i x z t ys σ H' hx hz hD' ⟨s,⟨vs,rfl,T⟩,u,v,rfl⟩ ht
  obtain ⟨a,ha,rfl⟩:=zaB hx
  obtain ⟨n,hn,rfl⟩:=zaB hz
  obtain ⟨b,hb1,hb2⟩:=B1.hb.at ha
  obtain ⟨n0,n1⟩:=B1.gn n (zav hn)
  have g:=B1.gb b (zav hb1)
  have hb3:=s _ _ hb2
  simp_all only [zac]
  refine ⟨_,SqT.of zaj,rfl,_,_,rfl,_,_,rfl,rfl,?_⟩
  have s2:=zao ht (.tup [V.ref a,V.int n])
  have h2:(L2.upd H' t (.tup [V.ref a,V.int n])) t=some (.tup [V.ref a,V.int n]):=zaj
  generalize L2.upd H' t (.tup [V.ref a,V.int n])=H2 at s2 h2 ⊢
  refine ⟨a,b,n,rfl,s2 _ _ hb3,g,n0,n1,fun y H4 s4 h4=>?_⟩
  have s14:=s2.trans s4
  have hD4:=s14 _ _ hD'
  have yD:y≠D:=fun z=>by
   subst z
   rw [h4] at hD4
   cases hD4
  have lv:vs.length≤3:=by
   have e:=T.1
   rw [List.length_take,zfs,List.length_zipWith] at e
   omega
  refine ⟨_,hD4,za4 (by rw [List.length_map];omega),_,zaj,(s.trans s14).put hD,vs++[y],by rw [List.map_append];rfl,?_⟩
  rw [zfs,zeI _ _ _ hb1 hn]
  refine T.put (fun x w e=>?_) (by rw [zaX yD];exact h4)
  have nx:x≠D:=fun z=>by
   subst z
   rw [e] at hD'
   cases hD'
  rw [zaX nx]
  exact s14 _ _ e
 ·rintro ys σ H' hD' ⟨s,⟨vs,rfl,T⟩,u,v,rfl⟩
  rw [List.length_map,List.length_map,B1.hb.1,zfs,zgK] at T
  replace T:Tps fr H' vs (zfs bs ns):=T
  simp_all only [zac]
  have hw1:=s _ _ hw
  have TW1:=TW.same s
  have bW:∀ x∈wqs bs ns,Bq 420 x:=fun x hx=>by
   obtain ⟨i,ei⟩:=List.getElem?_of_mem hx
   rw [wqs,List.getElem?_zipWith] at ei
   cases e1:bs[i]? with
   | none=>rw [e1] at ei;cases ei
   | some b =>
    cases e2:ns[i]? with
    | none=>rw [e1,e2] at ei;cases ei
    | some n =>
     rw [e1,e2] at ei
     cases ei
     exact zp4 (B.gb b (zav e1)) (B.gn n (zav e2)).2 (G i b n e1 e2)
  have bC:∀ x∈zfs bs ns,Bq 401 x:=fun x hx=>by
   obtain ⟨i,ei⟩:=List.getElem?_of_mem hx
   rw [zfs,List.getElem?_zipWith] at ei
   cases e1:bs[i]? with
   | none=>rw [e1] at ei;cases ei
   | some b =>
    cases e2:ns[i]? with
    | none=>rw [e1,e2] at ei;cases ei
    | some n =>
     rw [e1,e2] at ei
     cases ei
     exact znx (B.gb b (zav e1)) (B.gn n (zav e2)).2
  refine ⟨⟨_,SqL.of hw1⟩,⟨_,SqL.of hD'⟩,fun D2 hD2=>?_⟩
  refine zc7 (K:=K) (xs:=us.map V.ref) (zs:=vs.map V.ref) (fun i ys σ H2=>zaO H' H2∧(∃ rs:List Addr,ys=rs.map V.ref∧Tps fr H2 rs ((zdY bs ns).take i))∧∃ x y,σ=[x,y]) ⟨zao hD2 _,⟨[],rfl,Tps.nil⟩,_,_,rfl⟩ ?_ ?_ ?_
  ·rintro i ys σ H2 _ ⟨s2,_⟩
   exact ⟨SqL.of (s2 _ _ hw1),SqL.of (s2 _ _ hD')⟩
  ·rintro i x z t ys σ H2 hx hz hD2' ⟨s2,⟨rs,rfl,TR⟩,u,v,rfl⟩ ht
   obtain ⟨a,ha,rfl⟩:=zaB hx
   obtain ⟨c,hc,rfl⟩:=zaB hz
   obtain ⟨f,ef,hf⟩:=TW1.at ha
   obtain ⟨k,ek,hk⟩:=T.at hc
   simp_all only [zac]
   refine ⟨_,SqT.of zaj,rfl,_,_,rfl,_,_,rfl,rfl,?_⟩
   have s3:=zao ht (.tup [V.ref a,V.ref c])
   have h3:(L2.upd H2 t (.tup [V.ref a,V.ref c])) t=some (.tup [V.ref a,V.ref c]):=zaj
   generalize L2.upd H2 t (.tup [V.ref a,V.ref c])=H3 at s3 h3 ⊢
   refine ⟨a,c,f,k,rfl,s3 _ _ (s2 _ _ hf),s3 _ _ (s2 _ _ hk),(bW f (zav ef)).mono (by decide),(bC k (zav ek)).mono (by decide),fun y H4 s4 h4=>?_⟩
   have s14:=s3.trans s4
   have hD4:=s14 _ _ hD2'
   have yD:y≠D2:=fun z=>by
    subst z
    rw [h4] at hD4
    cases hD4
   have lv:rs.length≤3:=by
    have e:=TR.1
    rw [List.length_take,zdY,List.length_zipWith,wqs,List.length_zipWith] at e
    omega
   refine ⟨_,hD4,za4 (by rw [List.length_map];omega),_,zaj,(s2.trans s14).put hD2,rs++[y],by rw [List.map_append];rfl,?_⟩
   rw [zdY,zeI _ _ _ ef ek]
   refine TR.put (fun x w e=>?_) (by rw [zaX yD];exact h4)
   have nx:x≠D2:=fun z=>by
    subst z
    rw [e] at hD2'
    cases hD2'
   rw [zaX nx]
   exact s14 _ _ e
  ·rintro ys σ H2 hD2' ⟨s2,⟨rs,rfl,TR⟩,u,v,rfl⟩
   rw [List.length_map,List.length_map,TW1.1,T.1,zdY,zgK] at TR
   have bP:∀ x∈zdY bs ns,Bq 900 x:=fun x hx=>by
    obtain ⟨i,ei⟩:=List.getElem?_of_mem hx
    rw [zdY,List.getElem?_zipWith] at ei
    cases e1:(wqs bs ns)[i]? with
    | none=>rw [e1] at ei;cases ei
    | some f =>
     cases e2:(zfs bs ns)[i]? with
     | none=>rw [e1,e2] at ei;cases ei
     | some k =>
      rw [e1,e2] at ei
      cases ei
      exact ((bW f (zav e1)).mul2 (bC k (zav e2))).mono (by decide)
   have lP:(zdY bs ns).length≤3:=by rw [zdY,List.length_zipWith,wqs,List.length_zipWith];omega
   have lW:(wqs bs ns).length≤3:=by rw [wqs,List.length_zipWith];omega
   have hP:=zlx _ bP
   have hW:=zlx (wqs bs ns) fun x hx=>(bW x hx).mono (by decide)
   refine ⟨D2,rs,_,rfl,hD2',TR,lP,bP,fun fd H3 s3 h3=>?_⟩
   have S3:=s.trans (s2.trans s3)
   refine ⟨l,pl,ts,bs,ns,rfl,B1.same S3,fun H4 s4=>?_⟩
   refine ⟨_,rfl,by decide,fun p np=>?_⟩
   have s5:=zao np (.tup [V.int (bud - (zax bs ns).sum),V.int 1])
   have h5:(L2.upd H4 p (.tup [V.int (bud - (zax bs ns).sum),V.int 1])) p=some (.tup [V.int (bud - (zax bs ns).sum),V.int 1]):=zaj
   generalize L2.upd H4 p (.tup [V.int (bud - (zax bs ns).sum),V.int 1])=H5 at s5 h5 ⊢
   obtain ⟨z1,z2⟩:=zjj bs ns B.gb B.gn
   have bS:Bq 20 ((bud - (zax bs ns).sum:Int):Rat):=⟨by show (bud - (zax bs ns).sum).natAbs<2 ^ 20;omega,by show (1:Nat)<2 ^ 20;decide⟩
   refine ⟨fd,p,_,((bud - (zax bs ns).sum:Int):Rat),rfl,s5 _ _ (s4 _ _ h3),h5,hP.mono (by omega),bS.mono (by decide),fun r1 H6 s6 h6=>?_⟩
   have S6:=S3.trans (s4.trans (s5.trans s6))
   refine ⟨wl,us,_,rfl,S6 _ _ hw,TW.same S6,lW,fun x hx=>(bW x hx).mono (by decide),fun r2 H7 s7 h7=>?_⟩
   exact ⟨r1,r2,_,_,rfl,s7 _ _ h6,h7,ws,(hP.add2 bS).mono (by omega),hW.mono (by omega),fun r3 H8 s8 h8=>q r3 H8 (s1.trans (S6.trans (s7.trans s8))) h8⟩
theorem zbZ:zay ["boxes","budget","counts","weights","chances","found","spare"] ["boxes","budget","counts"] (zah zcg):=⟨rfl,rfl,rfl,by decide +kernel,rfl,by decide +kernel,by decide +kernel⟩
theorem zg8 (T:Txt K mg a):zb0 P w K mg base CX0 5 a.f_chance_for a.d_chance_for ["boxes","budget","counts"] zei:=by
 have G_added:=zmd (P:=P) (w:=w) (base:=base) T
 have G_chance:=zfS (P:=P) (w:=w) (base:=base) T
 have G_cost_sum:=zi2 (P:=P) (w:=w) (base:=base) T
 have G_fair_weights:=zdJ (P:=P) (w:=w) (base:=base) T
 have G_over:=ziB (P:=P) (w:=w) (base:=base) T
 have G_plus:=zlE (P:=P) (w:=w) (base:=base) T
 have G_times:=zme (P:=P) (w:=w) (base:=base) T
 refine T.F_chance_for.ok zbZ (fun vs H Q E h=>?_) (fun cdv A outer s H vs Q E hr h=>?_)
 ·obtain ⟨l,pl,ts,bs,ns,bud,rfl,B,l3,G,d0,d1,ws,q⟩:=h
  rfl
 obtain ⟨l,pl,ts,bs,ns,bud,rfl,B,l3,G,d0,d1,ws,q⟩:=h
 exact ⟨zdA K,(zaf (zaE (i:=3) zbZ.nd rfl (Or.inl rfl) (zak G_fair_weights (hr.mono (by decide)) rfl T.m_fair_weights T.F_fair_weights.kp T.b_fair_weights .nil zaC (zaa (pv 0) (zaa (pv 2) zad))))
 (zaf (zbR (i:=4) zbZ.nd rfl rfl (sc:=zah zcg) (N:=["boxes","budget","counts","weights","chances","found","spare"]) (Nc:=["box","count"]) (cap:=[none,none]) rfl rfl rfl (.of (by decide +kernel)) (zdv rfl T.z_zip (zaa (pv 0) (zaa (pv 2) zad))) (fun _ _ _ _=>(zbm rfl (zat (zam (i:=0) (show List.Nodup (["box","count"]:List Str) from by decide) rfl (Or.inl rfl)) (zat (zam (i:=1) (show List.Nodup (["box","count"]:List Str) from by decide) rfl (Or.inl rfl)) za3)))) (fun _ _ _ _=>zbb) (fun _ _ _ _=>(zak G_chance (hr.mono (by decide)) rfl T.m_chance T.F_chance.kp T.b_chance .nil zaC (zaa (pv 0) (zaa (pv 1) zad)))))
 (zaf (zaE (i:=5) zbZ.nd rfl (Or.inl rfl) (zak G_added (hr.mono (by decide)) rfl T.m_added T.F_added.kp T.b_added .nil zaC (zaa (zbG (sc:=zah zcg) (N:=["boxes","budget","counts","weights","chances","found","spare"]) (Nc:=["weight","one"]) (cap:=[none,none]) rfl rfl rfl (.of (by decide +kernel)) (zdv rfl T.z_zip (zaa (pv 3) (zaa (pv 4) zad))) (fun _ _ _ _=>(zbm rfl (zat (zam (i:=0) (show List.Nodup (["weight","one"]:List Str) from by decide) rfl (Or.inl rfl)) (zat (zam (i:=1) (show List.Nodup (["weight","one"]:List Str) from by decide) rfl (Or.inl rfl)) za3)))) (fun _ _ _ _=>zbb) (fun _ _ _ _=>(zak G_times (hr.mono (by decide)) rfl T.m_times T.F_times.kp T.b_times .nil zaC (zaa (pv 0) (zaa (pv 1) zad))))) zad)))
 (zaf (zaE (i:=6) zbZ.nd rfl (Or.inl rfl) (zaA zcD (pv 1) (zak G_cost_sum (hr.mono (by decide)) rfl T.m_cost_sum T.F_cost_sum.kp T.b_cost_sum .nil zaC (zaa (pv 0) (zaa (pv 2) zad)))))
 (zal (zaK (zak G_over (hr.mono (by decide)) rfl T.m_over T.F_over.kp T.b_over .nil zaC (zaa (zak G_plus (hr.mono (by decide)) rfl T.m_plus T.F_plus.kp T.b_plus .nil zaC (zaa (pv 5) (zaa (zbk (zaa (pv 6) (zaa zag zad))) zad))) (zaa (zak G_added (hr.mono (by decide)) rfl T.m_added T.F_added.kp T.b_added .nil zaC (zaa (pv 3) zad)) zad))))))))),
  zgE B l3 G d0 d1 ws q⟩
theorem zkP {α:Type} (w ch c:α→Rat) (J:α→Bool) (V E:Rat):∀ xs:List α,(∀ x∈xs,J x=true→c x=w x*(E - ch x)) →
  (xs.map fun x=>w x*(V - ch x)).sum - (xs.map fun x=>if J x=true then c x else 0).sum=(xs.map fun x=>if J x=true then 0 else w x*(E - ch x)).sum+(V - E)*(xs.map w).sum
 | [],_=>by
  simp only [List.map_nil,List.sum_nil]
  grind
 | x::xs,h=>by
  have ih:=zkP w ch c J V E xs fun y hy=>h y (List.mem_cons_of_mem _ hy)
  simp only [List.map_cons,List.sum_cons]
  by_cases j:J x=true
  ·have hx:=h x List.mem_cons_self j
   simp only [j,if_true]
   rw [hx]
   grind
  ·simp only [j]
   grind
theorem ze2 {α:Type} (f:α→Rat):∀ xs:List α,(∀ x∈xs,0≤f x)→0≤(xs.map f).sum
 | [],_=>Rat.le_refl
 | x::xs,h=>by
  have ih:=ze2 f xs fun y hy=>h y (List.mem_cons_of_mem _ hy)
  have hx:=h x List.mem_cons_self
  simp only [List.map_cons,List.sum_cons]
  grind
theorem zj7 {α:Type} (f:α→Rat):∀ xs:List α,xs≠[]→(∀ x∈xs,0<f x)→0<(xs.map f).sum
 | [],n,_=>absurd rfl n
 | x::xs,_,h=>by
  have ih:=ze2 f xs fun y hy=>Rat.le_of_lt (h y (List.mem_cons_of_mem _ hy))
  have hx:=h x List.mem_cons_self
  simp only [List.map_cons,List.sum_cons]
  grind
theorem zlc {α:Type} {w ch c:α→Rat} {J:α→Bool} {V E S:Rat} {xs:List α} (ne:xs≠[]) (w0:∀ x∈xs,0<w x) (hc:∀ x∈xs,J x=true→c x=w x*(E - ch x)) (lo:∀ x∈xs,ch x≤E) (ve:E<V) (hS:(xs.map fun x=>w x*(V - ch x)).sum=S) :
  (xs.map fun x=>if J x=true then 0 else w x*(E - ch x)).sum<S - (xs.map fun x=>if J x=true then c x else 0).sum∧0<S - (xs.map fun x=>if J x=true then c x else 0).sum:=by
 have id:=zkP w ch c J V E xs hc
 rw [hS] at id
 have wp:=zj7 w xs ne w0
 have vp:0<V - E:=by grind
 have m:=Rat.mul_pos vp wp
 have nn:=ze2 (fun x=>if J x=true then 0 else w x*(E - ch x)) xs fun x hx=>by
  have h1:0≤E - ch x:=by have:=lo x hx;grind
  have h2:=Rat.mul_nonneg (Rat.le_of_lt (w0 x hx)) h1
  show 0≤(if J x=true then 0 else w x*(E - ch x))
  split
  ·exact Rat.le_refl
  ·exact h2
 constructor <;> grind
theorem zeG {α β γ:Type} (f:α→β→γ):∀ (as:List α) (bs:List β),List.zipWith f as bs=(List.zip as bs).map fun x=>f x.1 x.2
 | [],_=>by simp
 | _::_,[]=>by simp
 | a::as,b::bs=>by
  rw [List.zipWith_cons_cons,List.zip_cons_cons,List.map_cons,zeG f as bs]
theorem zhl {α:Type} (w ch:α→Rat) (V:Rat):∀ xs:List α,(xs.map fun x=>w x*(V - ch x)).sum=V*(xs.map w).sum - (xs.map fun x=>w x*ch x).sum
 | []=>by
  simp only [List.map_nil,List.sum_nil]
  grind
 | x::xs=>by
  have ih:=zhl w ch V xs
  simp only [List.map_cons,List.sum_cons]
  grind
theorem zhY (bs:List Box) (ns:List Int):zdY bs ns=(List.zip bs ns).map fun x=>wq x.1 x.2*chq x.1 x.2:=by
 unfold zdY wqs zfs
 rw [zeG wq,zeG chq,List.zipWith_map_left,List.zipWith_map_right]
 generalize List.zip bs ns=l
 induction l with
 | nil=>rfl
 | cons x l ih=>rw [List.zipWith_cons_cons,List.map_cons,ih]
theorem zg4 {bs:List Box} {ns:List Int} {bud:Int} (ws:(wqs bs ns).sum≠0):((List.zip bs ns).map fun x=>wq x.1 x.2*(zfk bs ns bud - chq x.1 x.2)).sum=((bud - (zax bs ns).sum:Int):Rat):=by
 rw [zhl (fun x:Box×Int=>wq x.1 x.2) (fun x=>chq x.1 x.2)]
 have e1:((List.zip bs ns).map fun x=>wq x.1 x.2).sum=(wqs bs ns).sum:=by rw [wqs,zeG]
 rw [e1,← zhY]
 unfold zfk
 generalize (wqs bs ns).sum=W at ws ⊢
 grind
theorem zpU {b:Box} (g:GB b) {n:Int} (n0:0≤n) (gn:gnq b n≠0):wq b n*(chq b (n+1) - chq b n)=(b.1:Rat):=by
 have e:chq b (n+1) - chq b n=gnq b n:=by
  rw [zdN g,zdN g,zfj g,show (n+1).toNat=n.toNat+1 by omega,Rat.pow_succ]
  grind
 rw [e]
 unfold wq
 grind
def nxt (E:Rat) (bs:List Box) (ns:List Int):List Int:=List.zipWith (fun b n=>if chq b (n+1)=E then n+1 else n) bs ns
theorem ziq (E:Rat):∀ (bs:List Box) (ns:List Int),List.zip bs (nxt E bs ns)=(List.zip bs ns).map fun x=>(x.1,if chq x.1 (x.2+1)=E then x.2+1 else x.2)
 | [],_=>by simp [nxt]
 | _::_,[]=>by simp [nxt]
 | b::bs,n::ns=>by
  show List.zip (b::bs) ((if chq b (n+1)=E then n+1 else n)::nxt E bs ns)=_
  rw [List.zip_cons_cons,List.zip_cons_cons,List.map_cons,ziq E bs ns]
theorem zjz (E:Rat):∀ (bs:List Box) (ns:List Int),(((zax bs (nxt E bs ns)).sum:Int):Rat)=(((zax bs ns).sum:Int):Rat)+((List.zip bs ns).map fun x=>if decide (chq x.1 (x.2+1)=E)=true then (x.1.1:Rat) else 0).sum
 | [],_=>by
  simp only [zax,nxt,List.zipWith_nil_left,List.zip_nil_left,List.map_nil,List.sum_nil]
  grind
 | b::bs,[]=>by
  simp only [zax,nxt,List.zipWith_nil_right,List.zip_nil_right,List.map_nil,List.sum_nil]
  grind
 | b::bs,n::ns=>by
  have ih:=zjz E bs ns
  show (((b.1*(if chq b (n+1)=E then n+1 else n)+(zax bs (nxt E bs ns)).sum:Int)):Rat)=((b.1*n+(zax bs ns).sum:Int):Rat)+((if decide (chq b (n+1)=E)=true then (b.1:Rat) else 0)+((List.zip bs ns).map fun x=>if decide (chq x.1 (x.2+1)=E)=true then (x.1.1:Rat) else 0).sum)
  rw [Rat.intCast_add,Rat.intCast_add,ih,Rat.intCast_mul,Rat.intCast_mul]
  by_cases c:chq b (n+1)=E
  ·rw [if_pos c,if_pos (decide_eq_true c),Rat.intCast_add]
   grind
  ·rw [if_neg c,if_neg (by simpa using c)]
   grind
theorem zju {b:Box} (g:GB b) {n:Int} (gn:gnq b n≠0):0<wq b n:=by
 obtain ⟨p0,p1,_⟩:=zhg g
 have c0:(0:Rat)<(b.1:Rat):=by exact_mod_cast (show (0:Int)<b.1 by have:=g.1;omega)
 have g0:0≤gnq b n:=by
  rw [zfj g]
  exact Rat.mul_nonneg (za1 (Rat.le_of_lt p0) p1 _).2.1 (Rat.le_of_lt p0)
 have gp:0<gnq b n:=by grind
 unfold wq
 rw [Rat.div_def]
 exact Rat.mul_pos c0 (Rat.inv_pos.mpr gp)
theorem zlH {bs:List Box} {ns:List Int} {bud:Int} {E:Rat} (gb:∀ b∈bs,GB b) (n0:∀ n∈ns,0≤n) (G:Gn bs ns) (ne:List.zip bs ns≠[]) (lo:∀ x∈List.zip bs ns,chq x.1 x.2≤E) (ws:(wqs bs ns).sum≠0) (ve:E<zfk bs ns bud) :
  ((List.zip bs (nxt E bs ns)).map fun x=>wq x.1 x.2*(E - chq x.1 x.2)).sum<((bud - (zax bs (nxt E bs ns)).sum:Int):Rat)∧(zax bs (nxt E bs ns)).sum<bud:=by
 have mb:∀ x∈List.zip bs ns,GB x.1∧0≤x.2∧gnq x.1 x.2≠0:=fun x hx=>by
  obtain ⟨i,ei⟩:=List.getElem?_of_mem hx
  rw [List.getElem?_zip_eq_some] at ei
  exact ⟨gb _ (zav ei.1),n0 _ (zav ei.2),G i _ _ ei.1 ei.2⟩
 have h:=zlc (w:=fun x:Box×Int=>wq x.1 x.2) (ch:=fun x=>chq x.1 x.2) (c:=fun x=>(x.1.1:Rat)) (J:=fun x=>decide (chq x.1 (x.2+1)=E)) ne (fun x hx=>zju (mb x hx).1 (mb x hx).2.2) (fun x hx j=>?_) lo ve (zg4 ws)
 ·have e1:((bud - (zax bs (nxt E bs ns)).sum:Int):Rat)=((bud - (zax bs ns).sum:Int):Rat) - ((List.zip bs ns).map fun x=>if decide (chq x.1 (x.2+1)=E)=true then (x.1.1:Rat) else 0).sum:=by
   rw [Rat.intCast_sub,Rat.intCast_sub,zjz]
   grind
  rw [← e1] at h
  refine ⟨?_,?_⟩
  ·refine (congrArg (fun z=>z<((bud - (zax bs (nxt E bs ns)).sum:Int):Rat)) ?_).mpr h.1
   rw [ziq,List.map_map]
   congr 1
   refine List.map_congr_left fun x _=>?_
   show wq x.1 (if chq x.1 (x.2+1)=E then x.2+1 else x.2)*(E - chq x.1 (if chq x.1 (x.2+1)=E then x.2+1 else x.2))=if decide (chq x.1 (x.2+1)=E)=true then 0 else wq x.1 x.2*(E - chq x.1 x.2)
   by_cases c:chq x.1 (x.2+1)=E
   ·rw [if_pos c,if_pos (decide_eq_true c),c]
    grind
   ·rw [if_neg c,if_neg (by simpa using c)]
  ·have h2:=h.2
   have:(0:Int)<bud - (zax bs (nxt E bs ns)).sum:=by exact_mod_cast h2
   omega
 ·have e:=of_decide_eq_true j
  obtain ⟨g1,g2,g3⟩:=mb x hx
  show (x.1.1:Rat)=wq x.1 x.2*(E - chq x.1 x.2)
  rw [← zpU g1 g2 g3,e]
theorem zqT {b:Box} (g:GB b) (h:pr b=1):b.2.1=b.2.2:=by
 have on:(b.2.2:Rat)≠0:=fun z=>by
  have:b.2.2=0:=by exact_mod_cast z
  obtain ⟨g1,g2,g3,g4,g5⟩:=g
  omega
 have e:pr b=(b.2.1:Rat) / (b.2.2:Rat):=Rat.divInt_eq_div ..
 rw [e] at h
 have:(b.2.1:Rat)=(b.2.2:Rat):=by grind
 exact_mod_cast this
theorem zhz {b:Box} (g:GB b) (h:pr b=1) {n:Int} (n0:0≤n) (gn:gnq b n≠0):n=0:=by
 rw [zfj g,h] at gn
 rcases Nat.eq_zero_or_pos n.toNat with z | z
 ·omega
 ·exfalso
  apply gn
  obtain ⟨k,hk⟩:∃ k,n.toNat=k+1:=⟨n.toNat - 1,by omega⟩
  rw [hk,Rat.pow_succ]
  grind
theorem zjm (V:Rat):∀ (bs:List Box) (ns:List Int),ns.length=bs.length→((List.zip bs ns).map fun x=>(x.1.1:Rat)*V).sum=V*(((bs.map fun b=>b.1).sum:Int):Rat)
 | [],_,_=>by
  simp only [List.zip_nil_left,List.map_nil,List.sum_nil]
  grind
 | _::_,[],h=>by cases h
 | b::bs,n::ns,h=>by
  have ih:=zjm V bs ns (Nat.succ.inj h)
  rw [List.zip_cons_cons,List.map_cons,List.sum_cons,List.map_cons,List.sum_cons,Rat.intCast_add,ih]
  grind
theorem zdQ:∀ (bs:List Box) (ns:List Int),(∀ n∈ns,n=0)→(zax bs ns).sum=0
 | [],_,_=>by simp [zax]
 | _::_,[],_=>by simp [zax]
 | b::bs,n::ns,h=>by
  have ih:=zdQ bs ns fun x hx=>h x (List.mem_cons_of_mem _ hx)
  show b.1*n+(zax bs ns).sum=0
  rw [ih,h n List.mem_cons_self,Int.mul_zero]
  rfl
theorem zjB:∀ (bs:List Box),(∀ b∈bs,GB b)→bs≠[]→0<(bs.map fun b=>b.1).sum
 | [],_,n=>absurd rfl n
 | [b],h,_=>by
  have:=(h b List.mem_cons_self).1
  simp only [List.map_cons,List.map_nil,List.sum_cons,List.sum_nil]
  omega
 | b::c::bs,h,_=>by
  have ih:=zjB (c::bs) (fun x hx=>h x (List.mem_cons_of_mem _ hx)) (by simp)
  have:=(h b List.mem_cons_self).1
  rw [List.map_cons,List.sum_cons]
  omega
theorem zqH {bs:List Box} {ns:List Int} {bud:Int} {E:Rat} (len:ns.length=bs.length) (gb:∀ b∈bs,GB b) (n0:∀ n∈ns,0≤n) (G:Gn bs ns) (ws:(wqs bs ns).sum≠0) (ve:E<zfk bs ns bud) (mn:∀ x∈List.zip bs ns,E≤chq x.1 (x.2+1))
  (hs:(∀ b∈bs,b.2.1=b.2.2)→bud<(bs.map fun b=>b.1).sum):Gn bs (nxt E bs ns):=by
 intro i b m hb hm
 rw [nxt,List.getElem?_zipWith,hb] at hm
 cases hn:ns[i]? with
 | none=>rw [hn] at hm;cases hm
 | some n =>
  rw [hn] at hm
  replace hm:(if chq b (n+1)=E then n+1 else n)=m:=Option.some.inj hm
  have g:=gb b (zav hb)
  have gn:=G i b n hb hn
  have hn0:=n0 n (zav hn)
  by_cases c:chq b (n+1)=E
  ·rw [if_pos c] at hm
   subst hm
   obtain ⟨p0,p1,_⟩:=zhg g
   by_cases s:pr b=1
   ·exfalso
    have z:=zhz g s hn0 gn
    subst z
    have eE:E=1:=by
     rw [← c,zdN g,s]
     show (1:Rat) - (1 - 1) ^ 1=1
     rw [Rat.pow_succ,Rat.pow_zero]
     grind
    have all:∀ x∈List.zip bs ns,pr x.1=1∧x.2=0∧GB x.1:=fun x hx=>by
     have hm:=mn x hx
     obtain ⟨k,ek⟩:=List.getElem?_of_mem hx
     rw [List.getElem?_zip_eq_some] at ek
     have gx:=gb x.1 (zav ek.1)
     obtain ⟨q0,q1,_⟩:=zhg gx
     have hx0:=n0 x.2 (zav ek.2)
     rw [eE,zdN gx] at hm
     have px:pr x.1=1:=by
      refine Classical.byContradiction fun ne=>?_
      have h1:(1 - pr x.1)≠0:=by grind
      have h2:=zix h1 (x.2+1).toNat
      have h3:=(za1 (Rat.le_of_lt q0) q1 (x.2+1).toNat).2.1
      grind
     exact ⟨px,zhz gx px hx0 (G k _ _ ek.1 ek.2),gx⟩
    have sure:∀ b∈bs,b.2.1=b.2.2:=fun b' hb'=>by
     obtain ⟨k,ek⟩:=List.getElem?_of_mem hb'
     have lk:=(List.getElem?_eq_some_iff.mp ek).1
     have en:ns[k]?=some ns[k]:=List.getElem?_eq_getElem (by omega)
     have hz:(b',ns[k])∈List.zip bs ns:=List.mem_of_getElem? (List.getElem?_zip_eq_some.mpr ⟨ek,en⟩)
     exact zqT (gb b' hb') (all _ hz).1
    have hlt:=hs sure
    have W:=zg4 (bud:=bud) ws
    have zs:∀ n∈ns,n=0:=fun n' hn'=>by
     obtain ⟨k,ek⟩:=List.getElem?_of_mem hn'
     have lk:=(List.getElem?_eq_some_iff.mp ek).1
     have eb:bs[k]?=some bs[k]:=List.getElem?_eq_getElem (by omega)
     have hz:(bs[k],n')∈List.zip bs ns:=List.mem_of_getElem? (List.getElem?_zip_eq_some.mpr ⟨eb,ek⟩)
     exact (all _ hz).2.1
    rw [zdQ bs ns zs] at W
    have e1:((List.zip bs ns).map fun x=>wq x.1 x.2*(zfk bs ns bud - chq x.1 x.2))=(List.zip bs ns).map fun x=>(x.1.1:Rat)*zfk bs ns bud:=by
     refine List.map_congr_left fun x hx=>?_
     obtain ⟨a1,a2,a3⟩:=all x hx
     rw [a2]
     unfold wq
     rw [zfj a3,zdN a3,a1]
     show (x.1.1:Rat) / ((1 - 1) ^ 0*1)*(zfk bs ns bud - (1 - (1 - 1) ^ 0))=_
     rw [Rat.pow_zero]
     grind
    rw [e1,zjm _ _ _ len] at W
    have C0:=zjB bs gb (fun z=>by rw [z] at hb;cases hb)
    have C1:(0:Rat)<(((bs.map fun b=>b.1).sum:Int):Rat):=by exact_mod_cast C0
    have C2:((bud - 0:Int):Rat)<(((bs.map fun b=>b.1).sum:Int):Rat):=by
     rw [Int.sub_zero]
     exact_mod_cast hlt
    rw [eE] at ve
    have m:=Rat.mul_lt_mul_of_pos_right ve C1
    grind
   ·rw [zfj g]
    have h1:(1 - pr b)≠0:=by grind
    have h2:=zix h1 (n+1).toNat
    grind
  ·rw [if_neg c] at hm
   subst hm
   exact gn
theorem zi9 {b:Box} (g:GB b) {n:Int} (n0:0≤n):chq b n≤chq b (n+1):=by
 obtain ⟨p0,p1,_⟩:=zhg g
 have h:=(za1 (Rat.le_of_lt p0) p1 n.toNat).2.1
 have m:=Rat.mul_nonneg h (Rat.le_of_lt p0)
 rw [zdN g,zdN g,show (n+1).toNat=n.toNat+1 by omega,Rat.pow_succ]
 grind
theorem zgG {b:Box} (g:GB b):chq b 0=0:=by
 rw [zdN g]
 show (1:Rat) - (1 - pr b) ^ 0=0
 rw [Rat.pow_zero]
 grind
def Mid (bs:List Box) (ns:List Int) (t:Rat):Prop:=∀ x∈List.zip bs ns,chq x.1 x.2≤t∧t≤chq x.1 (x.2+1)
theorem zf1:∀ (bs:List Box) (ns:List Int),(∀ b∈bs,GB b)→(∀ n∈ns,0≤n)→ns.length=bs.length→0≤(zax bs ns).sum∧∀ n∈ns,n≤(zax bs ns).sum
 | [],[],_,_,_=>by simp [zax]
 | [],_::_,_,_,h=>by cases h
 | _::_,[],_,_,h=>by cases h
 | b::bs,n::ns,gb,n0,h=>by
  obtain ⟨z1,z2⟩:=zf1 bs ns (fun x hx=>gb x (List.mem_cons_of_mem _ hx)) (fun x hx=>n0 x (List.mem_cons_of_mem _ hx)) (Nat.succ.inj h)
  obtain ⟨g1,_⟩:=gb b List.mem_cons_self
  have hn:=n0 n List.mem_cons_self
  have m1:1*n≤b.1*n:=Int.mul_le_mul_of_nonneg_right g1 hn
  rw [Int.one_mul] at m1
  refine ⟨?_,fun m hm=>?_⟩
  ·show 0≤b.1*n+(zax bs ns).sum
   omega
  ·show m≤b.1*n+(zax bs ns).sum
   rcases List.mem_cons.mp hm with rfl | hm
   ·omega
   ·have:=z2 m hm
    omega
theorem zjA (E:Rat):∀ (bs:List Box) (ns:List Int),(∀ b∈bs,GB b)→(zax bs ns).sum≤(zax bs (nxt E bs ns)).sum∧((∃ x∈List.zip bs ns,chq x.1 (x.2+1)=E)→(zax bs ns).sum<(zax bs (nxt E bs ns)).sum)
 | [],_,_=>by simp [zax]
 | b::bs,[],_=>by simp [zax,nxt]
 | b::bs,n::ns,gb=>by
  obtain ⟨z1,z2⟩:=zjA E bs ns (fun x hx=>gb x (List.mem_cons_of_mem _ hx))
  obtain ⟨g1,_⟩:=gb b List.mem_cons_self
  have e:(zax (b::bs) (nxt E (b::bs) (n::ns))).sum=b.1*(if chq b (n+1)=E then n+1 else n)+(zax bs (nxt E bs ns)).sum:=rfl
  have e2:(zax (b::bs) (n::ns)).sum=b.1*n+(zax bs ns).sum:=rfl
  rw [e,e2]
  by_cases c:chq b (n+1)=E
  ·rw [if_pos c,Int.mul_add,Int.mul_one]
   exact ⟨by omega,fun _=>by omega⟩
  ·rw [if_neg c]
   refine ⟨by omega,fun hQ'=>?_⟩
   obtain ⟨x,hx,ex⟩:=hQ'
   rw [List.zip_cons_cons] at hx
   rcases List.mem_cons.mp hx with rfl | hx
   ·exact absurd ex c
   ·have:=z2 ⟨x,hx,ex⟩
    omega
theorem ziF (E:Rat) (bs:List Box) (ns:List Int) (h:ns.length=bs.length):(nxt E bs ns).length=bs.length:=by rw [nxt,List.length_zipWith];omega
theorem znT (E:Rat) (bs:List Box) (ns:List Int) (h:∀ n∈ns,0≤n):∀ n∈nxt E bs ns,0≤n:=fun m hm=>by
 obtain ⟨i,ei⟩:=List.getElem?_of_mem hm
 rw [nxt,List.getElem?_zipWith] at ei
 cases e1:bs[i]? with
 | none=>rw [e1] at ei;cases ei
 | some b =>
  cases e2:ns[i]? with
  | none=>rw [e1,e2] at ei;cases ei
  | some n =>
   rw [e1,e2] at ei
   have:=h n (zav e2)
   replace ei:(if chq b (n+1)=E then n+1 else n)=m:=Option.some.inj ei
   rw [← ei]
   split <;> omega
theorem zoY {bs:List Box} {ns:List Int} {t E:Rat} (gb:∀ b∈bs,GB b) (n0:∀ n∈ns,0≤n) (M:Mid bs ns t) (te:t≤E) (mn:∀ x∈List.zip bs ns,E≤chq x.1 (x.2+1)):Mid bs (nxt E bs ns) E:=by
 intro y hy
 rw [ziq] at hy
 obtain ⟨x,hx,rfl⟩:=List.mem_map.mp hy
 obtain ⟨i,ei⟩:=List.getElem?_of_mem hx
 rw [List.getElem?_zip_eq_some] at ei
 have g:=gb x.1 (zav ei.1)
 have h0:=n0 x.2 (zav ei.2)
 obtain ⟨m1,m2⟩:=M x hx
 have m3:=mn x hx
 show chq x.1 (if chq x.1 (x.2+1)=E then x.2+1 else x.2)≤E∧E≤chq x.1 ((if chq x.1 (x.2+1)=E then x.2+1 else x.2)+1)
 by_cases c:chq x.1 (x.2+1)=E
 ·rw [if_pos c]
  refine ⟨by rw [c];exact Rat.le_refl,?_⟩
  have:=zi9 g (n:=x.2+1) (by omega)
  rw [c] at this
  exact this
 ·rw [if_neg c]
  exact ⟨Rat.le_trans m1 te,m3⟩
theorem zeR {bs:List Box} {ns:List Int} (gb:∀ b∈bs,GB b) (G:Gn bs ns) (ne:List.zip bs ns≠[]):0<(wqs bs ns).sum:=by
 rw [wqs,zeG]
 refine zj7 (fun x:Box×Int=>wq x.1 x.2) _ ne fun x hx=>?_
 obtain ⟨i,ei⟩:=List.getElem?_of_mem hx
 rw [List.getElem?_zip_eq_some] at ei
 exact zju (gb _ (zav ei.1)) (G i _ _ ei.1 ei.2)
theorem zjr {bs:List Box} {ns:List Int} {bud:Int} {t:Rat} (W:0<(wqs bs ns).sum) (h:((List.zip bs ns).map fun x=>wq x.1 x.2*(t - chq x.1 x.2)).sum≤((bud - (zax bs ns).sum:Int):Rat)):t≤zfk bs ns bud:=by
 have w:=zg4 (bud:=bud) (bs:=bs) (ns:=ns) (by grind)
 rw [← w,zhl (fun x:Box×Int=>wq x.1 x.2) (fun x=>chq x.1 x.2),zhl (fun x:Box×Int=>wq x.1 x.2) (fun x=>chq x.1 x.2)] at h
 have e1:((List.zip bs ns).map fun x=>wq x.1 x.2).sum=(wqs bs ns).sum:=by rw [wqs,zeG]
 rw [e1] at h
 refine Classical.byContradiction fun c=>?_
 have c':zfk bs ns bud<t:=Rat.not_le.mp c
 have m:=Rat.mul_lt_mul_of_pos_right c' W
 grind
structure Lev (bs:List Box) (ns:List Int) (bud:Int) (t:Rat):Prop where
 len:ns.length=bs.length
 n0:∀ n∈ns,0≤n
 n59:∀ n∈ns,n≤59
 gn:Gn bs ns
 mid:Mid bs ns t
 tw:t≤zfk bs ns bud
 cb:(zax bs ns).sum≤bud
theorem zgt {bs:List Box} {ns:List Int} (l1:1≤bs.length) (h:ns.length=bs.length):List.zip bs ns≠[]:=fun z=>by
 have:=congrArg List.length z
 rw [List.length_zip,List.length_nil] at this
 omega
theorem Lev.zero {bs:List Box} {bud:Int} (gb:∀ b∈bs,GB b) (l1:1≤bs.length) (d0:0≤bud):Lev bs (bs.map fun _=>0) bud 0:=by
 have len:(bs.map fun _=>(0:Int)).length=bs.length:=List.length_map ..
 have z:∀ n∈(bs.map fun _=>(0:Int)),n=0:=fun n hn=>by
  obtain ⟨_,_,e⟩:=List.mem_map.mp hn
  exact e.symm
 have gn:Gn bs (bs.map fun _=>(0:Int)):=fun i b n e1 e2=>by
  have:=z n (zav e2)
  subst this
  have g:=gb b (zav e1)
  rw [zfj g]
  have:=(zhg g).1
  show (1 - pr b) ^ 0*pr b≠0
  rw [Rat.pow_zero]
  grind
 have cz:=zdQ bs _ z
 have zz:∀ x∈List.zip bs (bs.map fun _=>(0:Int)),GB x.1∧x.2=0:=fun x hx=>by
  obtain ⟨i,ei⟩:=List.getElem?_of_mem hx
  rw [List.getElem?_zip_eq_some] at ei
  exact ⟨gb _ (zav ei.1),z _ (zav ei.2)⟩
 refine ⟨len,fun n hn=>by rw [z n hn];decide,fun n hn=>by rw [z n hn];decide,gn,fun x hx=>?_,zjr (zeR gb gn (zgt l1 len)) ?_,by omega⟩
 ·obtain ⟨g,e⟩:=zz x hx
  rw [e,zgG g]
  refine ⟨Rat.le_refl,?_⟩
  have:=zi9 g (n:=0) (by decide)
  rw [zgG g] at this
  exact this
 ·have e:((List.zip bs (bs.map fun _=>(0:Int))).map fun x=>wq x.1 x.2*(0 - chq x.1 x.2)).sum=0:=by
   rw [show ((List.zip bs (bs.map fun _=>(0:Int))).map fun x=>wq x.1 x.2*(0 - chq x.1 x.2))=(List.zip bs (bs.map fun _=>(0:Int))).map fun _=>(0:Rat) from List.map_congr_left fun x hx=>by
    obtain ⟨g,e⟩:=zz x hx
    rw [e,zgG g]
    grind]
   generalize List.zip bs (bs.map fun _=>(0:Int))=l
   induction l with
   | nil=>rfl
   | cons x l ih =>
    rw [List.map_cons,List.sum_cons,ih]
    grind
  rw [e,cz]
  exact_mod_cast (show (0:Int)≤bud - 0 by omega)
theorem Lev.step {bs:List Box} {ns:List Int} {bud:Int} {t E:Rat} (L:Lev bs ns bud t) (gb:∀ b∈bs,GB b) (l1:1≤bs.length) (d1:bud≤60) (hs:(∀ b∈bs,b.2.1=b.2.2)→bud<(bs.map fun b=>b.1).sum)
  (mn:∀ x∈List.zip bs ns,E≤chq x.1 (x.2+1)) (me:∃ x∈List.zip bs ns,chq x.1 (x.2+1)=E) (ve:E<zfk bs ns bud) :
  Lev bs (nxt E bs ns) bud E∧(bud - (zax bs (nxt E bs ns)).sum).toNat<(bud - (zax bs ns).sum).toNat:=by
 have ne:=zgt l1 L.len
 have W:=zeR gb L.gn ne
 have te:t≤E:=by
  obtain ⟨x,hx,ex⟩:=me
  rw [← ex]
  exact (L.mid x hx).2
 obtain ⟨t1,t2⟩:=zlH (bud:=bud) gb L.n0 L.gn ne (fun x hx=>Rat.le_trans (L.mid x hx).1 te) (by grind) ve
 have gn:=zqH L.len gb L.n0 L.gn (by grind) ve mn hs
 have len:=ziF E bs ns L.len
 have n0:=znT E bs ns L.n0
 have ce:=zf1 bs _ gb n0 len
 have mo:=(zjA E bs ns gb).2 me
 refine ⟨⟨len,n0,fun n hn=>?_,gn,zoY gb L.n0 L.mid te mn,zjr (zeR gb gn (zgt l1 len)) (Rat.le_of_lt t1),by omega⟩,by omega⟩
 have:=ce.2 n hn
 omega
def zlz (vs:List V):List Int:=vs.map fun v=>match v with | .int n=>n | _=>0
theorem zjP (ns:List Int):zlz (ns.map V.int)=ns:=by
 unfold zlz
 rw [List.map_map]
 exact List.map_id ns
def zkb (bs:List Box) (bud:Int):St→Hp→Nat:=fun σ H=>match σ with
 | _::_::some (.ref p)::_=>(match H p with | some (.lst vs)=>(bud - (zax bs (zlz vs)).sum).toNat | _=>0)
 | _=>0
theorem zic {bs:List Box} {bud:Int} {x y:Option V} {p:Addr} {r:St} {H:Hp} {ns:List Int} (h:H p=some (.lst (ns.map V.int))):zkb bs bud (x::y::some (.ref p)::r) H=(bud - (zax bs ns).sum).toNat:=by
 unfold zkb
 simp only [h,zjP]
theorem zns (u v:Rat):[u.num,(u.den:Int)]=[v.num,(v.den:Int)]↔u=v:=by
 refine ⟨fun h=>?_,fun h=>by rw [h]⟩
 simp only [List.cons.injEq,and_true] at h
 exact Rat.ext h.1 (Int.ofNat.inj h.2)
theorem zeu {b:Int} (h0:0≤b) (h1:b≤50) (n:Nat):Bd (6*n+1) (b ^ n):=by
 obtain ⟨z1,z2⟩:=zlq h0 h1 n
 have z3:(50:Nat) ^ n≤64 ^ n:=Nat.pow_le_pow_left (by decide) n
 have z4:(64:Nat) ^ n=2 ^ (6*n):=by rw [Nat.pow_mul]
 have z5:((50 ^ n:Nat):Int)=(50:Int) ^ n:=by exact_mod_cast rfl
 have z6:(2:Nat) ^ (6*n+1)=2 ^ (6*n)*2:=Nat.pow_succ ..
 have z7:0<(2:Nat) ^ (6*n):=Nat.pow_pos (by decide)
 show (b ^ n).natAbs<2 ^ (6*n+1)
 omega
theorem zls {b:Box} (g:GB b) (n:Int):Bq (6*n.toNat+2) (chq b n):=by
 have o0:=zdK g n
 obtain ⟨g1,g2,g3,g4,g5⟩:=g
 exact zbd (by omega) ((zeu (by omega) g5 _).sub (zeu (by omega) (by omega) _)) ((zeu (by omega) g5 _).mono (by omega))
theorem zko {b:Box} (g:GB b) (n:Int):Bq (6*n.toNat+7) (gnq b n):=by
 have o0:=zdK g n
 obtain ⟨g1,g2,g3,g4,g5⟩:=g
 have h1:Bd 6 b.2.1:=by show b.2.1.natAbs<2 ^ 6;omega
 have h2:Bd 6 b.2.2:=by show b.2.2.natAbs<2 ^ 6;omega
 exact zbd (Int.mul_ne_zero (by omega) (by omega)) (((zeu (by omega) (by omega) _).mul h1).mono (by omega)) (((zeu (by omega) g5 _).mul h2).mono (by omega))
theorem zkM {b:Box} (g:GB b) {n:Int} (gn:gnq b n≠0):Bq (6*n.toNat+14) (wq b n):=by
 have hb:=zko g n
 unfold wq
 rw [← zhd]
 have c:Bd 7 b.1:=by have:=g.1;have:=g.2.1;show b.1.natAbs<2 ^ 7;omega
 exact zbd (Int.mul_ne_zero (by show (1:Int)≠0;decide) (zjg gn)) ((c.mul hb.bot).mono (by omega)) (((show Bd 1 (1:Int) from by show (1:Nat)<2 ^ 1;decide).mul hb.top).mono (by omega))
theorem ziX {j k:Nat} {f:Box×Int→Rat}:∀ xs:List (Box×Int),(∀ x∈xs,Bq (j*x.2.toNat+k) (f x))→Bq (j*(xs.map fun x=>x.2.toNat).sum+(k+1)*xs.length+1) (xs.map f).sum
 | [],_=>⟨by show (0:Nat)<2 ^ _;exact Nat.pow_pos (by decide),by show (1:Nat)<2 ^ _;exact Nat.one_lt_two_pow (by omega)⟩
 | x::xs,h=>by
  have ih:=ziX xs fun y hy=>h y (List.mem_cons_of_mem _ hy)
  rw [List.map_cons,List.sum_cons,List.map_cons,List.sum_cons,List.length_cons,Nat.mul_add,Nat.mul_add]
  exact ((h x List.mem_cons_self).add2 ih).mono (by omega)
theorem zii:∀ (bs:List Box) (ns:List Int),(∀ b∈bs,GB b)→(∀ n∈ns,0≤n)→((((List.zip bs ns).map fun x=>x.2.toNat).sum:Nat):Int)≤(zax bs ns).sum
 | [],_,_,_=>by simp [zax]
 | _::_,[],_,_=>by simp [zax]
 | b::bs,n::ns,gb,n0=>by
  have ih:=zii bs ns (fun x hx=>gb x (List.mem_cons_of_mem _ hx)) (fun x hx=>n0 x (List.mem_cons_of_mem _ hx))
  obtain ⟨g1,_⟩:=gb b List.mem_cons_self
  have hn:=n0 n List.mem_cons_self
  have m1:1*n≤b.1*n:=Int.mul_le_mul_of_nonneg_right g1 hn
  rw [Int.one_mul] at m1
  rw [List.zip_cons_cons,List.map_cons,List.sum_cons]
  show ((n.toNat+_:Nat):Int)≤b.1*n+(zax bs ns).sum
  omega
theorem Bq.div2 {m n:Nat} {p q:Rat} (hp:Bq m p) (hq:Bq n q) (q0:q≠0):Bq (m+n) (p / q):=by
 rw [← zhd]
 exact zbd (Int.mul_ne_zero (zbL p) (zjg q0)) (hp.top.mul hq.bot) (hp.bot.mul hq.top)
theorem Bq.sub2 {m n:Nat} {p q:Rat} (hp:Bq m p) (hq:Bq n q):Bq (m+n+1) (p - q):=by
 rw [← zkw]
 have h:Bd (m+n) (q.num*(p.den:Int)):=by rw [Nat.add_comm m n];exact hq.top.mul hp.bot
 exact zbd (Int.mul_ne_zero (zbL p) (zbL q)) ((hp.top.mul hq.bot).sub h) ((hp.bot.mul hq.bot).mono (Nat.le_succ _))
theorem zkC {bs:List Box} {ns:List Int} {bud:Int} {t:Rat} (L:Lev bs ns bud t) (gb:∀ b∈bs,GB b) (l1:1≤bs.length) (l3:bs.length≤3) (d1:bud≤60):Bq 1200 (zfk bs ns bud):=by
 have W:=zeR gb L.gn (zgt l1 L.len)
 have st:=zii bs ns gb L.n0
 have cb:=L.cb
 have ce:=(zf1 bs ns gb L.n0 L.len).1
 have zl:(List.zip bs ns).length≤3:=by rw [List.length_zip];omega
 have mb:∀ x∈List.zip bs ns,GB x.1∧gnq x.1 x.2≠0:=fun x hx=>by
  obtain ⟨i,ei⟩:=List.getElem?_of_mem hx
  rw [List.getElem?_zip_eq_some] at ei
  exact ⟨gb _ (zav ei.1),L.gn i _ _ ei.1 ei.2⟩
 have h1:=ziX (j:=12) (k:=16) (f:=fun x=>wq x.1 x.2*chq x.1 x.2) (List.zip bs ns) fun x hx=>((zkM (mb x hx).1 (mb x hx).2).mul2 (zls (mb x hx).1 x.2)).mono (by omega)
 have h2:=ziX (j:=6) (k:=14) (f:=fun x=>wq x.1 x.2) (List.zip bs ns) fun x hx=>zkM (mb x hx).1 (mb x hx).2
 have e1:((List.zip bs ns).map fun x=>wq x.1 x.2).sum=(wqs bs ns).sum:=by rw [wqs,zeG]
 rw [← zhY] at h1
 rw [e1] at h2
 have bS:Bq 20 ((bud - (zax bs ns).sum:Int):Rat):=⟨by show (bud - (zax bs ns).sum).natAbs<2 ^ 20;omega,by show (1:Nat)<2 ^ 20;decide⟩
 have h3:=(h1.add2 bS).div2 h2 (by grind)
 exact h3.mono (by omega)
theorem zjn {α β γ:Type} {f:α→β→γ} {as:List α} {bs:List β} (P:γ→Prop) (h:∀ (i:Nat) a b,as[i]?=some a→bs[i]?=some b→P (f a b)):∀ x∈List.zipWith f as bs,P x:=fun x hx=>by
 obtain ⟨i,ei⟩:=List.getElem?_of_mem hx
 rw [List.getElem?_zipWith] at ei
 cases e1:as[i]? with
 | none=>rw [e1] at ei;cases ei
 | some a =>
  cases e2:bs[i]? with
  | none=>rw [e1,e2] at ei;cases ei
  | some b =>
   rw [e1,e2] at ei
   cases ei
   exact h i a b e1 e2
theorem zht {α β γ:Type} {f:α→β→γ} {as:List α} {bs:List β} {i:Nat} {a:α} {b:β} {c:γ} (e1:as[i]?=some a) (e2:bs[i]?=some b) (e3:(List.zipWith f as bs)[i]?=some c):c=f a b:=by
 rw [List.getElem?_zipWith,e1,e2] at e3
 exact (Option.some.inj e3).symm
theorem zhv {α:Type} {f:α→List V} {p q D:Addr} {xs zs:List V} {te:TE} {rest:St} {x0 y0:Option V} {qs:List α} (hp:H p=some (.lst xs)) (hq:H q=some (.lst zs)) (lq:qs.length=min xs.length zs.length) (l6:qs.length≤1000) (hD:H D=none)
  (st:∀ (i:Nat) (x z:V) (w:α) (H':Hp) (R:VK),xs[i]?=some x→zs[i]?=some z→qs[i]?=some w→zaO H H'→(∀ (r:Addr) (H2:Hp),zaO H' H2→H2 r=some (.tup (f w))→R (.ref r) H2)→te (some x::some z::rest) H' R)
  (hd:∀ (us:List Addr) (H':Hp),zaO H H'→H' D=some (.lst (us.map V.ref))→Tps f H' us qs→Q (.ref D) H') :
  zfc (Itz K p q) (zcA K 2 (zaz (zae 0) (zaz (zae 1) zcy))) zaM te D Q (x0::y0::rest) (upd H D (.lst [])):=by
 refine zc7 (K:=K) (xs:=xs) (zs:=zs) (fun i ys σ H'=>zaO H H'∧(∃ us:List Addr,ys=us.map V.ref∧Tps f H' us (qs.take i))∧∃ x y,σ=x::y::rest) ⟨zao hD _,⟨[],rfl,Tps.nil⟩,_,_,rfl⟩ ?_ ?_ ?_
 ·rintro i ys σ H' _ ⟨s,_⟩
  exact ⟨SqL.of (s _ _ hp),SqL.of (s _ _ hq)⟩
 ·rintro i x z t ys σ H' hx hz hD' ⟨s,⟨us,rfl,T⟩,u,v,rfl⟩ ht
  have i1:=(List.getElem?_eq_some_iff.mp hx).1
  have i2:=(List.getElem?_eq_some_iff.mp hz).1
  have hw:qs[i]?=some (qs[i]'(by omega)):=List.getElem?_eq_getElem (by omega)
  have s1:=zao ht (.tup [x,z])
  refine ⟨t,_,rfl,SqT.of zaj,rfl,_,_,rfl,_,_,rfl,rfl,?_⟩
  refine st i x z _ _ _ hx hz hw (s.trans s1) fun r H2 s2 h2=>?_
  have s3:=s1.trans s2
  have hD2:=s3 _ _ hD'
  have rD:r≠D:=fun e=>by
   subst e
   rw [h2] at hD2
   cases hD2
  have lu:us.length≤1000:=by
   have e:=T.1
   rw [List.length_take] at e
   omega
  refine ⟨D,_,_,rfl,rfl,hD2,za4 (by rw [List.length_map];exact lu),_,zaj,(s.trans s3).put hD,⟨us++[r],by rw [List.map_append];rfl,?_⟩,_,_,rfl⟩
  rw [List.take_add_one,hw]
  refine T.put (fun y w e=>?_) (by rw [zaX rD];exact h2)
  have nx:y≠D:=fun z=>by
   subst z
   rw [e] at hD'
   cases hD'
  rw [zaX nx]
  exact s3 _ _ e
 ·rintro ys σ H' hD' ⟨s,⟨us,rfl,T⟩,u,v,rfl⟩
  rw [← lq,List.take_length] at T
  exact hd us H' s hD' T
theorem zeK {p q D:Addr} {xs zs:List V} {te:TE} {rest:St} {x0 y0:Option V} {vs:List V} (hp:H p=some (.lst xs)) (hq:H q=some (.lst zs)) (lq:vs.length=min xs.length zs.length) (l6:vs.length≤1000) (hD:H D=none)
  (st:∀ (i:Nat) (x z v:V) (H':Hp) (R:VK),xs[i]?=some x→zs[i]?=some z→vs[i]?=some v→zaO H H'→(∀ H2:Hp,zaO H' H2→R v H2)→te (some x::some z::rest) H' R)
  (hd:∀ H':Hp,zaO H H'→H' D=some (.lst vs)→Q (.ref D) H') :
  zfc (Itz K p q) (zcA K 2 (zaz (zae 0) (zaz (zae 1) zcy))) zaM te D Q (x0::y0::rest) (upd H D (.lst [])):=by
 refine zc7 (K:=K) (xs:=xs) (zs:=zs) (fun i ys σ H'=>zaO H H'∧ys=vs.take i∧∃ x y,σ=x::y::rest) ⟨zao hD _,rfl,_,_,rfl⟩ ?_ ?_ ?_
 ·rintro i ys σ H' _ ⟨s,_⟩
  exact ⟨SqL.of (s _ _ hp),SqL.of (s _ _ hq)⟩
 ·rintro i x z t ys σ H' hx hz hD' ⟨s,rfl,u,v,rfl⟩ ht
  have i1:=(List.getElem?_eq_some_iff.mp hx).1
  have i2:=(List.getElem?_eq_some_iff.mp hz).1
  have hw:vs[i]?=some (vs[i]'(by omega)):=List.getElem?_eq_getElem (by omega)
  have s1:=zao ht (.tup [x,z])
  refine ⟨t,_,rfl,SqT.of zaj,rfl,_,_,rfl,_,_,rfl,rfl,?_⟩
  refine st i x z _ _ _ hx hz hw (s.trans s1) fun H2 s2=>?_
  refine ⟨D,_,_,rfl,rfl,s2 _ _ (s1 _ _ hD'),za4 (by rw [List.length_take];omega),_,zaj,(s.trans (s1.trans s2)).put hD,?_,_,_,rfl⟩
  rw [List.take_add_one,hw]
  rfl
 ·rintro ys σ H' hD' ⟨s,rfl,u,v,rfl⟩
  rw [← lq,List.take_length] at hD'
  exact hd H' s hD'
theorem zc5 {p D:Addr} {xs:List V} {te:TE} {rest:St} {x0:Option V} {vs:List V} (hp:H p=some (.lst xs)) (lq:vs.length=xs.length) (l6:vs.length≤1000) (hD:H D=none)
  (st:∀ (i:Nat) (x v:V) (H':Hp) (R:VK),xs[i]?=some x→vs[i]?=some v→zaO H H'→(∀ H2:Hp,zaO H' H2→R v H2)→te (some x::rest) H' R)
  (hd:∀ H':Hp,zaO H H'→H' D=some (.lst vs)→Q (.ref D) H') :
  zfc (Itl K p) (zae 0) zaM te D Q (x0::rest) (upd H D (.lst [])):=by
 refine zb4 (K:=K) (xs:=xs) (fun i ys σ H'=>zaO H H'∧ys=vs.take i∧∃ x,σ=x::rest) ⟨zao hD _,rfl,_,rfl⟩ ?_ ?_ ?_
 ·rintro i ys σ H' _ ⟨s,_⟩
  exact SqL.of (s _ _ hp)
 ·rintro i x ys σ H' hx hD' ⟨s,rfl,u,rfl⟩
  have i1:=(List.getElem?_eq_some_iff.mp hx).1
  have hw:vs[i]?=some (vs[i]'(by omega)):=List.getElem?_eq_getElem (by omega)
  refine st i x _ _ _ hx hw s fun H2 s2=>?_
  refine ⟨D,_,_,rfl,rfl,s2 _ _ hD',za4 (by rw [List.length_take];omega),_,zaj,(s.trans s2).put hD,?_,_,rfl⟩
  rw [List.take_add_one,hw]
  rfl
 ·rintro ys σ H' hD' ⟨s,rfl,u,rfl⟩
  rw [← lq,List.take_length] at hD'
  exact hd H' s hD'
def nend (b:Box) (n:Int):Rat:=chq b (n+1)
def zgz:Sp:=fun vs H Q _=>∃ (l:Addr) (ts:List Addr) (bs:List Box) (bud:Int),vs=[.ref l,.int bud]∧H l=some (.lst (ts.map V.ref))∧Tps bx H ts bs∧(∀ b∈bs,GB b)∧1≤bs.length∧bs.length≤3∧0≤bud∧bud≤60∧((∀ b∈bs,b.2.1=b.2.2)→bud<(bs.map fun b=>b.1).sum) ∧
 ∀ (r pl wr:Addr) (ns:List Int) (H':Hp),zaO H H'→H' r=some (.tup [.ref pl,.ref wr])→BP H' l pl ts bs ns→Lev bs ns bud (zfk bs ns bud)→H' wr=some (.tup (fr (zfk bs ns bud)))→Q (.ref r) H'
def zbM (K:PySem.W.Frag):TS :=
 (zaZ (zbn (zhe K (zab (zac 2) (zab (zac 4) zan))) (zcA K 2 (zaz (zae 0) (zaz (zae 1) zcy))) zaM (tIf (zbE (tOp (rEqT K) (zac 1) (zac 2))) (tOp (rI0 fun i j=>.int (i+j)) (zac 0) (tC (.int 1))) (zac 0)) [none,none,some 5]) (zae 2))
theorem zaV (K:PySem.W.Frag) (D:zch) (σ:St) (H:Hp):zbM K D σ H=(zaZ (zbn (zhe K (zab (zac 2) (zab (zac 4) zan))) (zcA K 2 (zaz (zae 0) (zaz (zae 1) zcy))) zaM (tIf (zbE (tOp (rEqT K) (zac 1) (zac 2))) (tOp (rI0 fun i j=>.int (i+j)) (zac 0) (tC (.int 1))) (zac 0)) [none,none,some 5]) (zae 2)) D σ H:=rfl
def zcr (K:PySem.W.Frag):TS :=
 (zaR (zaZ (zau zei [] E0 (zab (zac 0) (zab (zac 1) (zab (zac 2) zan)))) (zae 3))
 (zaR (zaZ (zbn (zhe K (zab (zac 0) (zab (zac 2) zan))) (zcA K 2 (zaz (zae 0) (zaz (zae 1) zcy))) zaM (zau zeH [] E0 (zab (zac 0) (zab (tOp (rI0 fun i j=>.int (i+j)) (zac 1) (tC (.int 1))) zan))) [none,none]) (zae 4))
 (zaR (zaZ (zau zg0 [] E0 (zab (zac 4) zan)) (zae 5))
 (zaR (zf5 (zdt (zfn (tB (zau zfo [] E0 (zab (zac 5) (zab (zac 3) zan))))) (zbo (zcJ (zab (zac 2) (zab (zac 3) zan)))) zbF))
 (zbM K)))))
theorem zaT (K:PySem.W.Frag) (D:zch) (σ:St) (H:Hp):zcr K D σ H=(zaR (zaZ (zau zei [] E0 (zab (zac 0) (zab (zac 1) (zab (zac 2) zan)))) (zae 3))
 (zaR (zaZ (zbn (zhe K (zab (zac 0) (zab (zac 2) zan))) (zcA K 2 (zaz (zae 0) (zaz (zae 1) zcy))) zaM (zau zeH [] E0 (zab (zac 0) (zab (tOp (rI0 fun i j=>.int (i+j)) (zac 1) (tC (.int 1))) zan))) [none,none]) (zae 4))
 (zaR (zaZ (zau zg0 [] E0 (zab (zac 4) zan)) (zae 5))
 (zaR (zf5 (zdt (zfn (tB (zau zfo [] E0 (zab (zac 5) (zab (zac 3) zan))))) (zbo (zcJ (zab (zac 2) (zab (zac 3) zan)))) zbF))
 (zbM K))))) D σ H:=rfl
def zbV (K:PySem.W.Frag):TS :=
 (zaR (zaZ (zbn (zbN K (zac 0)) (zae 0) zaM (tC (.int 0)) [none]) (zae 2))
 (zhQ (tB (tC (.bl true))) (zcr K)))
theorem zef {l:Addr} {ts:List Addr} {bs:List Box} {bud:Int} (hl:H l=some (.lst (ts.map V.ref))) (T:Tps bx H ts bs) (gb:∀ b∈bs,GB b) (l1:1≤bs.length) (l3:bs.length≤3) (d0:0≤bud) (d1:bud≤60) (hs:(∀ b∈bs,b.2.1=b.2.2)→bud<(bs.map fun b=>b.1).sum)
  (q:∀ (r pl wr:Addr) (ns:List Int) (H':Hp),zaO H H'→H' r=some (.tup [.ref pl,.ref wr])→BP H' l pl ts bs ns→Lev bs ns bud (zfk bs ns bud)→H' wr=some (.tup (fr (zfk bs ns bud)))→Q (.ref r) H') :
  zbV K { nx:=fun _ H'=>Q .non H',rt:=Q } (L2.start ["boxes","budget","counts","worth","ends","end"] [.ref l,.int bud]) H:=by
 unfold zbV
 simp_all only [zaV,zaT,zac]
 refine ⟨⟨_,SqL.of hl⟩,fun D hD=>?_⟩
 refine zc5 (vs:=(bs.map fun _=>(0:Int)).map V.int) hl (by simp [T.1]) (by simp;omega) hD (fun i x v H' R _ hv s k=>?_) fun H1 s1 h1=>?_
 ·obtain ⟨n,en,rfl⟩:=zaB hv
  obtain ⟨_,_,rfl⟩:=zaB en
  exact k _ (.refl _)
 refine zhc (fun σ H'=>zaO H H'∧∃ (pl:Addr) (ns:List Int) (t:Rat) (x y z:Option V),H' pl=some (.lst (ns.map V.int))∧Lev bs ns bud t∧σ=[some (.ref l),some (.int bud),some (.ref pl),x,y,z]) (zkb bs bud) ⟨s1,D,_,0,_,_,_,h1,Lev.zero gb l1 d0,rfl⟩ ?_ ?_
 ·rintro σ H' ⟨s,pl,ns,t,x,y,z,hp,L,rfl⟩
  rw [zic hp]
  have B:BP H' l pl ts bs ns:=⟨s _ _ hl,T.same s,hp,L.len,gb,fun n hn=>⟨L.n0 n hn,by have:=L.n59 n hn;omega⟩,l1,by omega⟩
  have W:=zeR gb L.gn (zgt l1 L.len)
  simp_all only [zaV,zaT,zac]
  refine ⟨l,pl,ts,bs,ns,bud,rfl,B,l3,L.gn,d0,d1,by grind,fun wr H2 s2 hw=>?_⟩
  have B2:=B.same s2
  refine ⟨⟨_,SqL.of B2.hl⟩,⟨_,SqL.of B2.hp⟩,fun D2 hD2=>?_⟩
  have lE:(List.zipWith nend bs ns).length=bs.length:=by rw [List.length_zipWith,L.len];omega
  refine zhv (f:=fr) (qs:=List.zipWith nend bs ns) B2.hl B2.hp (by rw [lE,List.length_map,List.length_map,T.1,L.len];omega) (by omega) hD2 (fun i x z w H3 R hx hz hw s3 k=>?_) fun us H3 s3 h3 TE=>?_
  ·obtain ⟨a,ha,rfl⟩:=zaB hx
   obtain ⟨n,hn,rfl⟩:=zaB hz
   obtain ⟨b,hb1,hb2⟩:=B2.hb.at ha
   have e:=zht hb1 hn hw
   subst e
   simp_all only [zaV,zaT,zac]
   have:=L.n0 n (zav hn)
   have:=L.n59 n (zav hn)
   exact ⟨a,b,n+1,rfl,s3 _ _ hb2,gb b (zav hb1),by omega,by omega,k⟩
  ·have bE:∀ x∈List.zipWith nend bs ns,Bq 401 x:=zjn _ fun i b n h1 h2=>znx (gb b (zav h1)) (by have:=L.n59 n (zav h2);omega)
   refine ⟨D2,us,_,rfl,h3,TE,by omega,fun x hx=>(bE x hx).mono (by decide),fun er E hE mE lE=>?_⟩
   have hw3:=s3 _ _ hw
   have mn:∀ x∈List.zip bs ns,E≤chq x.1 (x.2+1):=fun x hx=>by
    refine lE _ ?_
    rw [zeG]
    exact List.mem_map.mpr ⟨x,hx,rfl⟩
   have me:∃ x∈List.zip bs ns,chq x.1 (x.2+1)=E:=by
    rw [zeG] at mE
    obtain ⟨x,hx,e⟩:=List.mem_map.mp mE
    exact ⟨x,hx,e⟩
   have S3:=s2.trans s3
   refine ⟨fun σ H'=>H'=H3∧E<zfk bs ns bud∧σ=[some (.ref l),some (.int bud),some (.ref pl),some (.ref wr),some (.ref D2),some (.ref er)],?_,?_⟩
   ·simp_all only [zaV,zaT,zac]
    refine ⟨er,wr,E,_,rfl,hE,hw3,(bE E mE).mono (by decide),(zkC L gb l1 l3 d1).mono (by decide),?_⟩
    refine ⟨_,rfl,?_⟩
    by_cases c:E<zfk bs ns bud
    ·rw [if_neg (by simp [c])]
     exact ⟨rfl,c⟩
    ·rw [if_pos (by simp [c])]
     have c':=Rat.not_lt.mp c
     refine ⟨by decide,fun p np=>?_⟩
     refine q p pl wr ns _ ((s.trans S3).add np) zaj ((B.same S3).same (zao np _)) ⟨L.len,L.n0,L.n59,L.gn,fun x hx=>⟨Rat.le_trans (L.mid x hx).1 L.tw,Rat.le_trans c' (mn x hx)⟩,Rat.le_refl,L.cb⟩ (by rw [zaX (zaW hw3 np)];exact hw3)
   ·rintro σ H4 ⟨rfl,ve,rfl⟩
    simp_all only [zaV,zaT,zac]
    obtain ⟨Lv,dn⟩:=L.step gb l1 d1 hs mn me ve
    have hp3:=S3 _ _ hp
    refine ⟨⟨_,SqL.of hp3⟩,⟨_,SqL.of h3⟩,fun D3 hD3=>?_⟩
    refine zeK (vs:=(nxt E bs ns).map V.int) hp3 h3 ?_ ?_ hD3 (fun i x z v H5 R hx hz hv s5 k=>?_) fun H5 s5 h5=>?_
    ·rw [List.length_map,List.length_map,List.length_map,ziF E bs ns L.len,TE.1,List.length_zipWith,L.len]
     omega
    ·rw [List.length_map,ziF E bs ns L.len]
     omega
    ·obtain ⟨n,hn,rfl⟩:=zaB hx
     obtain ⟨a,ha,rfl⟩:=zaB hz
     obtain ⟨m,hm,rfl⟩:=zaB hv
     obtain ⟨f,hf1,hf2⟩:=TE.at ha
     have hi:=(List.getElem?_eq_some_iff.mp hn).1
     have hb:bs[i]?=some (bs[i]'(by rw [← L.len];exact hi)):=List.getElem?_eq_getElem (by rw [← L.len];exact hi)
     have e:=zht hb hn hm
     have e2:=zht hb hn hf1
     simp_all only [zaV,zaT,zac]
     refine ⟨[f.num,(f.den:Int)],SqT.of (s5 _ _ hf2),[E.num,(E.den:Int)],SqT.of (s5 _ _ hE),?_⟩
     rw [e2,nend]
     by_cases c:chq (bs[i]'(by rw [← L.len];exact hi)) (n+1)=E
     ·rw [if_pos ((zns _ _).mpr c)]
      rw [e,if_pos c] at k
      exact k _ (.refl _)
     ·rw [if_neg (fun z=>c ((zns _ _).mp z))]
      rw [e,if_neg c] at k
      exact k _ (.refl _)
    ·exact ⟨s.trans (S3.trans s5),⟨D3,_,h5,E,Lv,rfl⟩,by rw [zic h5];exact dn⟩
 ·rintro σ H1 Q1 Q2 hQ ⟨c,e,h⟩
  exact ⟨c,e,hQ _ _ h⟩
theorem za5:zay ["boxes","budget","counts","worth","ends","end"] ["boxes","budget"] (zah zba):=⟨rfl,rfl,rfl,by decide +kernel,rfl,by decide +kernel,by decide +kernel⟩
theorem zed (T:Txt K mg a):zb0 P w K mg base CX0 6 a.f_counts_and_worth a.d_counts_and_worth ["boxes","budget"] zgz:=by
 have G_below:=zjp (P:=P) (w:=w) (base:=base) T
 have G_chance:=zfS (P:=P) (w:=w) (base:=base) T
 have G_chance_for:=zg8 (P:=P) (w:=w) (base:=base) T
 have G_least_chance:=zf2 (P:=P) (w:=w) (base:=base) T
 refine T.F_counts_and_worth.ok za5 (fun vs H Q E h=>?_) (fun cdv A outer s H vs Q E hr h=>?_)
 ·obtain ⟨l,ts,bs,bud,rfl,hl,T',gb,l1,l3,d0,d1,hs,q⟩:=h
  rfl
 obtain ⟨l,ts,bs,bud,rfl,hl,T',gb,l1,l3,d0,d1,hs,q⟩:=h
 exact ⟨zbV K,(zaf (zbR (i:=2) za5.nd rfl rfl (sc:=zah zba) (N:=["boxes","budget","counts","worth","ends","end"]) (Nc:=["box"]) (cap:=[none]) rfl rfl rfl (.of (by decide +kernel)) (zbe (pv 0)) (fun _ _ _ _=>(zam (i:=0) (show List.Nodup (["box"]:List Str) from by decide) rfl (Or.inl rfl))) (fun _ _ _ _=>zbb) (fun _ _ _ _=>zag))
 (zal (zgY PassesOwn.never (zb1 zgI) (zaf (zaE (i:=3) za5.nd rfl (Or.inl rfl) (zak G_chance_for (hr.mono (by decide)) rfl T.m_chance_for T.F_chance_for.kp T.b_chance_for .nil zaC (zaa (pv 0) (zaa (pv 1) (zaa (pv 2) zad)))))
 (zaf (zbR (i:=4) za5.nd rfl rfl (sc:=zah zba) (N:=["boxes","budget","counts","worth","ends","end"]) (Nc:=["box","count"]) (cap:=[none,none]) rfl rfl rfl (.of (by decide +kernel)) (zdv rfl T.z_zip (zaa (pv 0) (zaa (pv 2) zad))) (fun _ _ _ _=>(zbm rfl (zat (zam (i:=0) (show List.Nodup (["box","count"]:List Str) from by decide) rfl (Or.inl rfl)) (zat (zam (i:=1) (show List.Nodup (["box","count"]:List Str) from by decide) rfl (Or.inl rfl)) za3)))) (fun _ _ _ _=>zbb) (fun _ _ _ _=>(zak G_chance (hr.mono (by decide)) rfl T.m_chance T.F_chance.kp T.b_chance .nil zaC (zaa (pv 0) (zaa (zaA zcp (pv 1) zag) zad)))))
 (zaf (zaE (i:=5) za5.nd rfl (Or.inr rfl) (zak G_least_chance (hr.mono (by decide)) rfl T.m_least_chance T.F_least_chance.kp T.b_least_chance .nil zaC (zaa (pv 4) zad)))
 (zaf (zcI (zc3 (zcY (zb1 (zak G_below (hr.mono (by decide)) rfl T.m_below T.F_below.kp T.b_below .nil zaC (zaa (pv 5) (zaa (pv 3) zad))))) (zal (zaK (zbk (zaa (pv 2) (zaa (pv 3) zad))))) zbq))
 (zal (zbR (i:=2) za5.nd rfl rfl (sc:=zah zba) (N:=["boxes","budget","counts","worth","ends","end"]) (Nc:=["count","one","end"]) (cap:=[none,none,some 5]) rfl rfl rfl (.of (by decide +kernel)) (zdv rfl T.z_zip (zaa (pv 2) (zaa (pv 4) zad))) (fun _ _ _ _=>(zbm rfl (zat (zam (i:=0) (show List.Nodup (["count","one","end"]:List Str) from by decide) rfl (Or.inl rfl)) (zat (zam (i:=1) (show List.Nodup (["count","one","end"]:List Str) from by decide) rfl (Or.inl rfl)) za3)))) (fun _ _ _ _=>zbb) (fun _ _ _ _=>(zjt (zbH (zqM hr.units0) (pv 1) (pv 2) (zbD _)) (zaA zcp (pv 0) zag) (pv 0)))))))))))),
  zef hl T' gb l1 l3 d0 d1 hs q⟩
structure zj2 (ns:List Int) (g:Int):Prop where
 g0:0≤g
 all:∀ n∈ns,g∣n
 most:∀ d:Int,(∀ n∈ns,d∣n)→d∣g
theorem zj2.ne {ns:List Int} {g n:Int} (h:zj2 ns g) (hn:n∈ns) (n0:n≠0):0<g:=by
 have h1:=h.all n hn
 have h2:=h.g0
 refine Classical.byContradiction fun c=>n0 ?_
 have:g=0:=by omega
 subst this
 exact Int.zero_dvd.mp h1
theorem zj2.le {ns:List Int} {g n:Int} (h:zj2 ns g) (hn:n∈ns) (n0:n≠0):g.natAbs≤n.natAbs:=Nat.le_of_dvd (by omega) (Int.natAbs_dvd_natAbs.mpr (h.all n hn))
theorem zj2.log {ns:List Int} {g n:Int} (h:zj2 ns g) (hn:n∈ns) (n0:n≠0) (b:Bd 9000 n):g.natAbs.log2<9000:=zfa 9000 (by have:=h.ne hn n0;omega) (b.le (h.le hn n0))
def zg5:Sp:=fun vs H Q _=>∃ (l:Addr) (ns:List Int),vs=[.ref l]∧H l=some (.lst (ns.map V.int))∧∀ g:Int,zj2 ns g→Q (.int g) H
def zci (K:PySem.W.Frag):TS :=
 (zaR (zaZ (tC (.int 0)) (zae 1))
 (zaR (zgr (zbN K (zac 0)) (zae 2)
 (zaZ (zau zjQ [] E0 (zab (zac 1) (zab (zac 2) zan))) (zae 1)))
 (zbo (zac 1))))
theorem zeS {l:Addr} {ns:List Int} (hl:H l=some (.lst (ns.map V.int))) (q:∀ g:Int,zj2 ns g→Q (.int g) H) :
  zci K { nx:=fun _ H'=>Q .non H',rt:=Q } (L2.start ["numbers","shared","number"] [.ref l]) H:=by
 unfold zci
 simp_all only [zac]
 refine ⟨⟨_,SqL.of hl⟩,?_⟩
 refine zce (K:=K) (xs:=ns.map V.int) (fun i σ H'=>H'=H∧∃ (g:Int) (x:Option V),zj2 (ns.take i) g∧σ=[some (.ref l),some (.int g),x]) ⟨rfl,0,_,⟨by decide,by simp,fun d _=>Int.dvd_zero d⟩,rfl⟩ ?_ ?_ ?_
 ·rintro i σ H' _ ⟨rfl,_⟩
  exact SqL.of hl
 ·rintro i v σ H1 hx ⟨rfl,g,x,G,rfl⟩
  obtain ⟨n,en,rfl⟩:=zaB hx
  simp_all only [zac]
  refine ⟨g,n,rfl,rfl,_,⟨by omega,fun m hm=>?_,fun d hd=>?_⟩,rfl⟩
  ·rw [List.take_add_one,en] at hm
   rcases List.mem_append.mp hm with h | h
   ·exact Int.dvd_trans (Int.gcd_dvd_left ..) (G.all m h)
   ·have:m=n:=by simpa using h
    rw [this]
    exact Int.gcd_dvd_right ..
  ·rw [List.take_add_one,en] at hd
   exact Int.dvd_coe_gcd (G.most d fun m hm=>hd m (List.mem_append_left _ hm)) (hd n (List.mem_append_right _ (by simp)))
 ·rintro σ H1 ⟨rfl,g,x,G,rfl⟩
  rw [List.length_map,List.take_length] at G
  simp_all only [zac]
  exact q g G
theorem zbI:zay ["numbers","shared","number"] ["numbers"] (zah zcl):=⟨rfl,rfl,rfl,by decide +kernel,rfl,by decide +kernel,by decide +kernel⟩
theorem zc2 (T:Txt K mg a):zb0 P w K mg base CX0 2 a.f_shared_divisor a.d_shared_divisor ["numbers"] zg5:=by
 have G_divisor:=ze0 (P:=P) (w:=w) (base:=base) T
 refine T.F_shared_divisor.ok zbI (fun vs H Q E h=>?_) (fun cdv A outer s H vs Q E hr h=>?_)
 ·obtain ⟨l,ns,rfl,hl,q⟩:=h
  rfl
 obtain ⟨l,ns,rfl,hl,q⟩:=h
 exact ⟨zci K,(zaf (zaE (i:=1) zbI.nd rfl (Or.inl rfl) zag)
 (zaf (zcq PassesOwn.never rfl (zbe (pv 0)) (zam (i:=2) zbI.nd rfl (Or.inl rfl))
 (zal (zaE (i:=1) zbI.nd rfl (Or.inl rfl) (zak G_divisor (hr.mono (by decide)) rfl T.m_divisor T.F_divisor.kp T.b_divisor .nil zaC (zaa (pv 1) (zaa (pv 2) zad))))))
 (zal (zaK (pv 1))))),
  zeS hl q⟩
def zg2:Sp:=fun vs H Q _=>∃ (l:Addr) (ns:List Int) (m:Int),vs=[.ref l]∧H l=some (.lst (ns.map V.int))∧ns.length≤1000∧m∈ns∧m≠0∧Bd 9000 m∧∀ (r:Addr) (g:Int) (H':Hp),zaO H H'→zj2 ns g→H' r=some (.lst ((ns.map fun n=>n.fdiv g).map V.int))→Q (.ref r) H'
def zgC (K:PySem.W.Frag):TS :=
 (zaR (zaZ (zau zg5 [] E0 (zab (zac 0) zan)) (zae 1))
 (zbo (zbn (zbN K (zac 0)) (zae 0) zaM (tOp (rI (fun _ j=>j≠0∧j.natAbs.log2<9000) fun i j=>.int (i.fdiv j)) (zac 0) (zac 1)) [none,some 1])))
theorem zkY {l:Addr} {ns:List Int} {m:Int} (hl:H l=some (.lst (ns.map V.int))) (l1:ns.length≤1000) (hm:m∈ns) (m0:m≠0) (mb:Bd 9000 m) (q:∀ (r:Addr) (g:Int) (H':Hp),zaO H H'→zj2 ns g→H' r=some (.lst ((ns.map fun n=>n.fdiv g).map V.int))→Q (.ref r) H') :
  zgC K { nx:=fun _ H'=>Q .non H',rt:=Q } (L2.start ["weights","shared"] [.ref l]) H:=by
 unfold zgC
 simp_all only [zac]
 refine ⟨l,ns,rfl,hl,fun g G=>?_⟩
 refine ⟨⟨_,SqL.of hl⟩,fun D hD=>?_⟩
 refine zc5 (vs:=(ns.map fun n=>n.fdiv g).map V.int) hl (by simp) (by simpa using l1) hD (fun i x v H' R hx hv s k=>?_) fun H1 s1 h1=>q D g H1 s1 G h1
 obtain ⟨n,en,rfl⟩:=zaB hx
 obtain ⟨y,ey,rfl⟩:=zaB hv
 obtain ⟨n',en',rfl⟩:=zaB ey
 rw [en] at en'
 cases en'
 simp_all only [zac]
 exact ⟨by have:=G.ne hm m0;omega,G.log hm m0 mb,k _ (.refl _)⟩
theorem zh2:zay ["weights","shared"] ["weights"] (zah zfw):=⟨rfl,rfl,rfl,by decide +kernel,rfl,by decide +kernel,by decide +kernel⟩
theorem zlA (T:Txt K mg a):zb0 P w K mg base CX0 3 a.f_lowest a.d_lowest ["weights"] zg2:=by
 have G_shared_divisor:=zc2 (P:=P) (w:=w) (base:=base) T
 refine T.F_lowest.ok zh2 (fun vs H Q E h=>?_) (fun cdv A outer s H vs Q E hr h=>?_)
 ·obtain ⟨l,ns,m,rfl,hl,l1,hm,m0,mb,q⟩:=h
  rfl
 obtain ⟨l,ns,m,rfl,hl,l1,hm,m0,mb,q⟩:=h
 exact ⟨zgC K,(zaf (zaE (i:=1) zh2.nd rfl (Or.inr rfl) (zak G_shared_divisor (hr.mono (by decide)) rfl T.m_shared_divisor T.F_shared_divisor.kp T.b_shared_divisor .nil zaC (zaa (pv 0) zad)))
 (zal (zaK (zbG (sc:=zah zfw) (N:=["weights","shared"]) (Nc:=["weight","shared"]) (cap:=[none,some 1]) rfl rfl rfl (.of (by decide +kernel)) (zbe (pv 0)) (fun _ _ _ _=>(zam (i:=0) (show List.Nodup (["weight","shared"]:List Str) from by decide) rfl (Or.inl rfl))) (fun _ _ _ _=>zbb) (fun _ _ _ _=>(zaA zct (pv 0) (pv 1))))))),
  zkY hl l1 hm m0 mb q⟩
def shq (V:Rat) (b:Box) (n:Int):Rat:=(V - chq b n) / gnq b n
def zjq:Sp:=fun vs H Q _=>∃ (l pl wr:Addr) (ts:List Addr) (bs:List Box) (ns:List Int) (W:Rat),vs=[.ref l,.ref pl,.ref wr]∧BP H l pl ts bs ns∧Gn bs ns∧H wr=some (.tup (fr W))∧Bq 1200 W∧∀ (r:Addr) (us:List Addr) (H':Hp),zaO H H'→H' r=some (.lst (us.map V.ref))→Tps fr H' us (List.zipWith (shq W) bs ns)→Q (.ref r) H'
def zdi (K:PySem.W.Frag):TS :=
 (zbo (zbn (zhe K (zab (zac 0) (zab (zac 1) zan))) (zcA K 2 (zaz (zae 0) (zaz (zae 1) zcy))) zaM (zau zgB [] E0 (zab (zau zjw [] E0 (zab (zac 2) (zab (zau zeH [] E0 (zab (zac 0) (zab (zac 1) zan))) zan))) (zab (zau ziV [] E0 (zab (zac 0) (zab (zac 1) zan))) zan))) [none,none,some 2]))
theorem zgd {l pl wr:Addr} {ts:List Addr} {bs:List Box} {ns:List Int} {W:Rat} (B:BP H l pl ts bs ns) (G:Gn bs ns) (hw:H wr=some (.tup (fr W))) (bW:Bq 1200 W) (q:∀ (r:Addr) (us:List Addr) (H':Hp),zaO H H'→H' r=some (.lst (us.map V.ref))→Tps fr H' us (List.zipWith (shq W) bs ns)→Q (.ref r) H') :
  zdi K { nx:=fun _ H'=>Q .non H',rt:=Q } (L2.start ["boxes","counts","worth"] [.ref l,.ref pl,.ref wr]) H:=by
 unfold zdi
 simp_all only [zac]
 have l6:=B.l6
 refine ⟨⟨_,SqL.of B.hl⟩,⟨_,SqL.of B.hp⟩,fun D hD=>?_⟩
 refine zhv (f:=fr) (qs:=List.zipWith (shq W) bs ns) B.hl B.hp (by rw [List.length_zipWith,List.length_map,List.length_map,B.hb.1]) (by rw [List.length_zipWith];omega) hD (fun i x z w H3 R hx hz hv s3 k=>?_) fun us H3 s3 h3 TE=>q D us H3 s3 h3 TE
 obtain ⟨a,ha,rfl⟩:=zaB hx
 obtain ⟨n,hn,rfl⟩:=zaB hz
 obtain ⟨b,hb1,hb2⟩:=B.hb.at ha
 have e:=zht hb1 hn hv
 subst e
 have g:=B.gb b (zav hb1)
 obtain ⟨n0,n1⟩:=B.gn n (zav hn)
 have bC:=zls g n
 have bG:=zko g n
 simp_all only [zac]
 refine ⟨a,b,n,rfl,s3 _ _ hb2,g,n0,n1,fun c H4 s4 h4=>?_⟩
 refine ⟨wr,c,W,_,rfl,s4 _ _ (s3 _ _ hw),h4,bW.mono (by decide),bC.mono (by omega),fun d H5 s5 h5=>?_⟩
 refine ⟨a,b,n,rfl,s5 _ _ (s4 _ _ (s3 _ _ hb2)),g,n0,n1,fun e H6 s6 h6=>?_⟩
 exact ⟨d,e,_,_,rfl,s6 _ _ h5,h6,G i b n hb1 hn,(bW.sub2 bC).mono (by omega),bG.mono (by omega),fun r H7 s7 h7=>k r H7 (s4.trans (s5.trans (s6.trans s7))) h7⟩
theorem zf8:zay ["boxes","counts","worth"] ["boxes","counts","worth"] (zah zcz):=⟨rfl,rfl,rfl,by decide +kernel,rfl,by decide +kernel,by decide +kernel⟩
theorem zgb (T:Txt K mg a):zb0 P w K mg base CX0 4 a.f_look_shares a.d_look_shares ["boxes","counts","worth"] zjq:=by
 have G_chance:=zfS (P:=P) (w:=w) (base:=base) T
 have G_gain:=zkD (P:=P) (w:=w) (base:=base) T
 have G_minus:=zmR (P:=P) (w:=w) (base:=base) T
 have G_over:=ziB (P:=P) (w:=w) (base:=base) T
 refine T.F_look_shares.ok zf8 (fun vs H Q E h=>?_) (fun cdv A outer s H vs Q E hr h=>?_)
 ·obtain ⟨l,pl,wr,ts,bs,ns,W,rfl,B,G,hw,bW,q⟩:=h
  rfl
 obtain ⟨l,pl,wr,ts,bs,ns,W,rfl,B,G,hw,bW,q⟩:=h
 exact ⟨zdi K,(zal (zaK (zbG (sc:=zah zcz) (N:=["boxes","counts","worth"]) (Nc:=["box","count","worth"]) (cap:=[none,none,some 2]) rfl rfl rfl (.of (by decide +kernel)) (zdv rfl T.z_zip (zaa (pv 0) (zaa (pv 1) zad))) (fun _ _ _ _=>(zbm rfl (zat (zam (i:=0) (show List.Nodup (["box","count","worth"]:List Str) from by decide) rfl (Or.inl rfl)) (zat (zam (i:=1) (show List.Nodup (["box","count","worth"]:List Str) from by decide) rfl (Or.inl rfl)) za3)))) (fun _ _ _ _=>zbb) (fun _ _ _ _=>(zak G_over (hr.mono (by decide)) rfl T.m_over T.F_over.kp T.b_over .nil zaC (zaa (zak G_minus (hr.mono (by decide)) rfl T.m_minus T.F_minus.kp T.b_minus .nil zaC (zaa (pv 2) (zaa (zak G_chance (hr.mono (by decide)) rfl T.m_chance T.F_chance.kp T.b_chance .nil zaC (zaa (pv 0) (zaa (pv 1) zad))) zad))) (zaa (zak G_gain (hr.mono (by decide)) rfl T.m_gain T.F_gain.kp T.b_gain .nil zaC (zaa (pv 0) (zaa (pv 1) zad))) zad))))))),
  zgd B G hw bW q⟩
theorem zqC {b:Box} (g:GB b) {n:Int} (n0:0≤n) (n1:n≤60) (gn:gnq b n≠0) {W:Rat} (bW:Bq 1200 W):Bq 2000 (shq W b n):=((bW.sub2 (zls g n)).div2 (zko g n) gn).mono (by omega)
theorem Com.bd {m:Nat}:∀ {qs:List Rat} {D:Int},Com qs D→(∀ q∈qs,Bq m q)→Bd (m*qs.length+1) D:=by
 intro qs D C h
 have key:∀ rs:List Rat,(∀ q∈rs,Bq m q)→∃ M:Int,0<M∧Bd (m*rs.length+1) M∧∀ q∈rs,(q.den:Int)∣M:=by
  intro rs
  induction rs with
  | nil=>exact fun _=>⟨1,by decide,by show (1:Nat)<2 ^ _;exact Nat.one_lt_two_pow (by omega),by simp⟩
  | cons r rs ih =>
   intro h
   obtain ⟨M,M0,hM,hd⟩:=ih fun q hq=>h q (List.mem_cons_of_mem _ hq)
   refine ⟨(r.den:Int)*M,Int.mul_pos (zcn r) M0,(((h r List.mem_cons_self).bot.mul hM).mono (by rw [List.length_cons,Nat.mul_add];omega)),fun q hq=>?_⟩
   rcases List.mem_cons.mp hq with rfl | hq
   ·exact Int.dvd_mul_right ..
   ·exact Int.dvd_trans (hd q hq) (Int.dvd_mul_left ..)
 obtain ⟨M,M0,hM,hd⟩:=key qs h
 exact hM.le (Nat.le_of_dvd (by omega) (Int.natAbs_dvd_natAbs.mpr (C.least M hd)))
def wds (R:Int) (ms:List Int):List Int:=List.zipWith (fun a b=>b - a) ms (ms.drop 1++[R])
theorem zjx (R:Int):∀ ms:List Int,ms≠[]→∃ x∈ms,R - x∈wds R ms
 | [],n=>absurd rfl n
 | [x],_=>⟨x,by simp,by simp [wds]⟩
 | x::y::ms,_=>by
  obtain ⟨z,h1,h2⟩:=zjx R (y::ms) (by simp)
  exact ⟨z,List.mem_cons_of_mem _ h1,List.mem_cons_of_mem _ h2⟩
theorem zob (R:Int) (ms:List Int) (n:ms≠[]):(wds R ms).length=ms.length:=by
 have:=List.length_pos_iff.mpr n
 rw [wds,List.length_zipWith,List.length_append,List.length_drop,List.length_singleton]
 omega
open HT in
theorem cut1 (xs:List V):zj3 xs (some 1) none=xs.drop 1:=by
 unfold zj3
 rw [zi8,show (some (1:Int))=some ((1:Nat):Int) from rfl,zll]
 cases xs with
 | nil=>rfl
 | cons x xs =>
  rw [List.length_cons,show min 1 (xs.length+1)=1 by omega]
  exact List.take_of_length_le (by rw [List.length_drop,List.length_cons];omega)
def ziG:Sp:=fun vs H Q _=>∃ (l pl wr:Addr) (ts:List Addr) (bs:List Box) (ns:List Int) (W:Rat),vs=[.ref l,.ref pl,.ref wr]∧BP H l pl ts bs ns∧Gn bs ns∧H wr=some (.tup (fr W))∧Bq 1200 W∧bs.length≤3∧∀ (r:Addr) (H':Hp),zaO H H'→Q (.ref r) H'
def ze8 (K:PySem.W.Frag):TS :=
 (zaR (zaZ (zbn (zhe K (zab (zac 5) (zab (zac 3) zan))) (zcA K 2 (zaz (zae 0) (zaz (zae 1) zcy))) zaM (tOp (rI0 fun i j=>.bl (decide (i<j))) (tOp (rI (fun _ j=>j≠0) fun i j=>.int (i.fmod j)) (tOp (rI0 fun i j=>.int (i - j)) (zac 3) (zac 0)) (zac 2)) (zac 1)) [none,none,some 4,some 10]) (zae 12))
 (zaR (zaZ (zbn (zhe K (zab (zac 1) (zab (zac 12) zan))) (zcA K 2 (zaz (zae 0) (zaz (zae 1) zcy))) zaM (tIf (tTru K (zac 1)) (tOp (rI0 fun i j=>.int (i+j)) (zac 0) (tC (.int 1))) (zac 0)) [none,none]) (zae 13))
 (zeB (tBM K "list" zbf (zac 9) (zab (zcJ (zab (zac 13) (zab (zac 11) zan))) zan)))))
theorem za8 (K:PySem.W.Frag) (D:zch) (σ:St) (H:Hp):ze8 K D σ H=(zaR (zaZ (zbn (zhe K (zab (zac 5) (zab (zac 3) zan))) (zcA K 2 (zaz (zae 0) (zaz (zae 1) zcy))) zaM (tOp (rI0 fun i j=>.bl (decide (i<j))) (tOp (rI (fun _ j=>j≠0) fun i j=>.int (i.fmod j)) (tOp (rI0 fun i j=>.int (i - j)) (zac 3) (zac 0)) (zac 2)) (zac 1)) [none,none,some 4,some 10]) (zae 12))
 (zaR (zaZ (zbn (zhe K (zab (zac 1) (zab (zac 12) zan))) (zcA K 2 (zaz (zae 0) (zaz (zae 1) zcy))) zaM (tIf (tTru K (zac 1)) (tOp (rI0 fun i j=>.int (i+j)) (zac 0) (tC (.int 1))) (zac 0)) [none,none]) (zae 13))
 (zeB (tBM K "list" zbf (zac 9) (zab (zcJ (zab (zac 13) (zab (zac 11) zan))) zan))))) D σ H:=rfl
def zgm (K:PySem.W.Frag):TS :=
 (zeB (tBM K "list" zbf (zac 5) (zab (tOp (rI (fun _ j=>j≠0) fun i j=>.int (i.fmod j)) (tOp (rI0 fun i j=>.int (i+j)) (tOp (zcX K) (zac 5) (tUn (rU fun i=>.int (-i)) (tC (.int 1)))) (zac 6)) (zac 4)) zan)))
theorem za7 (K:PySem.W.Frag) (D:zch) (σ:St) (H:Hp):zgm K D σ H=(zeB (tBM K "list" zbf (zac 5) (zab (tOp (rI (fun _ j=>j≠0) fun i j=>.int (i.fmod j)) (tOp (rI0 fun i j=>.int (i+j)) (tOp (zcX K) (zac 5) (tUn (rU fun i=>.int (-i)) (tC (.int 1)))) (zac 6)) (zac 4)) zan))) D σ H:=rfl
def zgp (K:PySem.W.Frag):TS :=
 (zaR (zaZ (tCB (zfq K) (zab (zac 5) zan)) (zae 7))
 (zaR (zaZ (zbn (zhe K (zab (zac 7) (zab (tOp zq0 (tSl (zra K) (zac 7) (zlG (tC (.int 1))) zfQ) (zeo (zab (zac 4) zan))) zan))) (zcA K 2 (zaz (zae 0) (zaz (zae 1) zcy))) zaM (tOp (rI0 fun i j=>.int (i - j)) (zac 1) (zac 0)) [none,none]) (zae 8))
 (zaR (zaZ (zeo zan) (zae 9))
 (zaR (zgr (zhe K (zab (zac 7) (zab (zau zg2 [] E0 (zab (zac 8) zan)) zan))) (zcA K 2 (zaz (zae 10) (zaz (zae 11) zcy)))
 (ze8 K))
 (zbo (zac 9))))))
theorem za9 (K:PySem.W.Frag) (D:zch) (σ:St) (H:Hp):zgp K D σ H=(zaR (zaZ (tCB (zfq K) (zab (zac 5) zan)) (zae 7))
 (zaR (zaZ (zbn (zhe K (zab (zac 7) (zab (tOp zq0 (tSl (zra K) (zac 7) (zlG (tC (.int 1))) zfQ) (zeo (zab (zac 4) zan))) zan))) (zcA K 2 (zaz (zae 0) (zaz (zae 1) zcy))) zaM (tOp (rI0 fun i j=>.int (i - j)) (zac 1) (zac 0)) [none,none]) (zae 8))
 (zaR (zaZ (zeo zan) (zae 9))
 (zaR (zgr (zhe K (zab (zac 7) (zab (zau zg2 [] E0 (zab (zac 8) zan)) zan))) (zcA K 2 (zaz (zae 10) (zaz (zae 11) zcy)))
 (ze8 K))
 (zbo (zac 9)))))) D σ H:=rfl
def zgT (K:PySem.W.Frag):TS :=
 (zaR (zaZ (zau zgU [] E0 (zab (zau zjq [] E0 (zab (zac 0) (zab (zac 1) (zab (zac 2) zan)))) zan)) (zcA K 2 (zaz (zae 3) (zaz (zae 4) zcy))))
 (zaR (zaZ (zeo (zab (tC (.int 0)) zan)) (zae 5))
 (zaR (zgr (zbN K (zac 3)) (zae 6)
 (zgm K))
 (zgp K))))
theorem zkx {l pl wr:Addr} {ts:List Addr} {bs:List Box} {ns:List Int} {W:Rat} (B:BP H l pl ts bs ns) (G:Gn bs ns) (hw:H wr=some (.tup (fr W))) (bW:Bq 1200 W) (l3:bs.length≤3) (q:∀ (r:Addr) (H':Hp),zaO H H'→Q (.ref r) H') :
  zgT K { nx:=fun _ H'=>Q .non H',rt:=Q } (L2.start ["boxes","counts","worth","lengths","ring","starts","length","edges","widths","mix","edge","weight","more","plan"] [.ref l,.ref pl,.ref wr]) H:=by
 unfold zgT
 simp_all only [za8,za7,za9,zac]
 refine ⟨l,pl,wr,ts,bs,ns,W,rfl,B,G,hw,bW,fun sr us H1 s1 h1 T1=>?_⟩
 have lq:(List.zipWith (shq W) bs ns).length=bs.length:=by rw [List.length_zipWith,B.len];omega
 have bq:∀ x∈List.zipWith (shq W) bs ns,Bq 2000 x:=zjn _ fun i b n h1 h2=>zqC (B.gb b (zav h1)) (B.gn n (zav h2)).1 (B.gn n (zav h2)).2 (G i b n h1 h2) bW
 refine ⟨sr,us,_,rfl,h1,T1,by omega,bq,fun cr tl R H2 s2 C h2 ntl htl=>?_⟩
 have R0:=C.pos
 have bR:Bd 6001 R:=(C.bd bq).mono (by omega)
 generalize hls:((List.zipWith (shq W) bs ns).map fun q=>q.num*(R / q.den))=ls at htl
 have ll:ls.length=bs.length:=by rw [← hls,List.length_map,lq]
 simp_all only [za8,za7,za9,zac]
 refine ⟨_,SqT.of h2,rfl,_,_,rfl,_,_,rfl,rfl,by decide,fun sl nsl=>?_⟩
 have s3:=zao nsl (.lst [V.int 0])
 have h3:(L2.upd H2 sl (.lst [V.int 0])) sl=some (.lst [V.int 0]):=zaj
 generalize L2.upd H2 sl (.lst [V.int 0])=H3 at s3 h3 ⊢
 have htl3:=s3 _ _ htl
 refine ⟨_,rfl,⟨_,SqL.of htl3⟩,?_⟩
 refine zce (K:=K) (xs:=ls.map V.int) (fun i σ H'=>zaO H2 H'∧∃ (ss:List Int) (x:Option V),H' sl=some (.lst (ss.map V.int))∧ss.length=i+1∧(∀ s∈ss,0≤s∧s<R)∧σ=[some (.ref l),some (.ref pl),some (.ref wr),some (.ref tl),some (.int R),some (.ref sl),x,none,none,none,none,none,none,none]) ⟨s3,[0],_,h3,rfl,by simp;exact R0,rfl⟩ ?_ ?_ ?_
 ·rintro i σ H' _ ⟨s,_⟩
  exact SqL.of (s _ _ htl)
 ·rintro i v σ H4 hx ⟨s4,ss,x,h4,lss,hss,rfl⟩
  obtain ⟨n,en,rfl⟩:=zaB hx
  have li:=(List.getElem?_eq_some_iff.mp en).1
  obtain ⟨ss',s',rfl⟩:∃ ss' s',ss=ss'++[s']:=⟨ss.dropLast,ss.getLast (by intro z;rw [z] at lss;simp at lss),(List.dropLast_concat_getLast _).symm⟩
  have f0:=Int.fmod_nonneg_of_pos (s'+n) R0
  have f1:=Int.fmod_lt_of_pos (s'+n) R0
  simp_all only [za8,za7,za9,zac]
  refine ⟨.inl ⟨rfl,_,SqL.of h4⟩,_,SqL.of h4,_,by rw [List.map_append];exact zmP _ _,_,rfl,by omega,_,h4,za4 (by rw [List.length_map];omega),s4.put nsl,ss'++[s']++[(s'+n).fmod R],by rw [zaj,List.map_append (l₂:=[(s'+n).fmod R])];rfl,by rw [List.length_append,lss];rfl,fun s hs=>?_⟩
  rcases List.mem_append.mp hs with z | z
  ·exact hss s z
  ·rw [List.mem_singleton.mp z]
   exact ⟨f0,f1⟩
 ·rintro σ H4 ⟨s4,ss,x,h4,lss,hss,rfl⟩
  rw [List.length_map] at lss
  simp_all only [za8,za7,za9,zac]
  refine ⟨_,SqL.of h4,by omega,fun el ms nel mem srt lms=>?_⟩
  have s5:=zao nel (.lst (ms.map V.int))
  have h5:(L2.upd H4 el (.lst (ms.map V.int))) el=some (.lst (ms.map V.int)):=zaj
  generalize L2.upd H4 el (.lst (ms.map V.int))=H5 at s5 h5 ⊢
  have mne:ms≠[]:=fun z=>by
   rw [z] at mem
   cases ss with
   | nil=>simp at lss
   | cons s ss=>exact absurd ((mem s).mpr List.mem_cons_self) (by simp)
  have lm:=zob R ms mne
  refine ⟨_,SqL.of h5,fun e2 ne2=>?_⟩
  have s6:=zao ne2 (.lst (zj3 (ms.map V.int) (some 1) none))
  have h6:(L2.upd H5 e2 (.lst (zj3 (ms.map V.int) (some 1) none))) e2=some (.lst (zj3 (ms.map V.int) (some 1) none)):=zaj
  generalize L2.upd H5 e2 (.lst (zj3 (ms.map V.int) (some 1) none))=H6 at s6 h6 ⊢
  rw [cut1] at h6
  refine ⟨by decide,fun e3 ne3=>?_⟩
  have s7:=zao ne3 (.lst [V.int R])
  have h7:(L2.upd H6 e3 (.lst [V.int R])) e3=some (.lst [V.int R]):=zaj
  generalize L2.upd H6 e3 (.lst [V.int R])=H7 at s7 h7 ⊢
  refine ⟨_,s7 _ _ h6,_,h7,?_,fun e4 ne4=>?_⟩
  ·have:((ms.map V.int).drop 1).length≤1000:=by rw [List.length_drop,List.length_map];omega
   exact Nat.le_trans (Nat.succ_le_succ this) (by decide)
  have s8:=zao ne4 (.lst ((ms.map V.int).drop 1++[V.int R]))
  have h8:(L2.upd H7 e4 (.lst ((ms.map V.int).drop 1++[V.int R]))) e4=some (.lst ((ms.map V.int).drop 1++[V.int R])):=zaj
  generalize L2.upd H7 e4 (.lst ((ms.map V.int).drop 1++[V.int R]))=H8 at s8 h8 ⊢
  have S8:=s5.trans (s6.trans (s7.trans s8))
  have h5':=s8 _ _ (s7 _ _ (s6 _ _ h5))
  refine ⟨⟨_,SqL.of h5'⟩,⟨_,SqL.of h8⟩,fun D hD=>?_⟩
  have e8:(ms.map V.int).drop 1++[V.int R]=(ms.drop 1++[R]).map V.int:=by rw [List.map_append,List.map_drop];rfl
  rw [e8] at h8
  refine zeK (vs:=(wds R ms).map V.int) h5' h8 ?_ ?_ hD (fun i x z v H9 R' hx hz hv s9 k=>?_) fun H9 s9 h9=>?_
  ·rw [List.length_map,List.length_map,List.length_map,wds,List.length_zipWith]
  ·rw [List.length_map]
   omega
  ·obtain ⟨a,ha,rfl⟩:=zaB hx
   obtain ⟨b,hb,rfl⟩:=zaB hz
   obtain ⟨c,hc,rfl⟩:=zaB hv
   have e:=zht ha hb hc
   subst e
   simp_all only [za8,za7,za9,zac]
   exact k _ (.refl _)
  ·refine ⟨by decide,fun ml nml=>?_⟩
   have sa:=zao nml (.lst [])
   have ha:(L2.upd H9 ml (.lst [])) ml=some (.lst []):=zaj
   generalize L2.upd H9 ml (.lst [])=Ha at sa ha ⊢
   obtain ⟨x0,hx0,wx0⟩:=zjx R ms mne
   obtain ⟨x1,x2⟩:=hss x0 ((mem x0).mp hx0)
   have bw:Bd 9000 (R - x0):=(bR.le (by omega)).mono (by decide)
   refine ⟨D,wds R ms,R - x0,rfl,sa _ _ h9,by omega,wx0,by omega,bw,fun lo g Hb sb Gg hb=>?_⟩
   have Sb:=S8.trans (s9.trans (sa.trans sb))
   have h5b:=sb _ _ (sa _ _ (s9 _ _ h5'))
   refine ⟨_,rfl,⟨_,SqL.of h5b⟩,⟨_,SqL.of hb⟩,?_⟩
   have S9:zaO H2 H9:=s4.trans (S8.trans s9)
   have Sab:zaO H9 Hb:=sa.trans sb
   refine zmJ (K:=K) (xs:=ms.map V.int) (ys:=((wds R ms).map fun n=>n.fdiv g).map V.int) (fun i σ H'=>zaO H9 H'∧H' el=some (.lst (ms.map V.int))∧H' lo=some (.lst (((wds R ms).map fun n=>n.fdiv g).map V.int))∧∃ (ys:List V) (y1 y2 y3 y4:Option V),H' ml=some (.lst ys)∧ys.length≤i∧σ=[some (.ref l),some (.ref pl),some (.ref wr),some (.ref tl),some (.int R),some (.ref sl),x,some (.ref el),some (.ref D),some (.ref ml),y1,y2,y3,y4]) ⟨Sab,h5b,hb,[],_,_,_,_,sb _ _ ha,by simp,rfl⟩ ?_ ?_ ?_
   ·rintro i σ H' _ ⟨_,h1,h2,_⟩
    exact ⟨SqL.of h1,SqL.of h2⟩
   ·rintro i v1 v2 t σ Hc hv1 hv2 ⟨sc,hec,hlc,ys,y1,y2,y3,y4,hmc,ly,rfl⟩ ht
    obtain ⟨e,ee,rfl⟩:=zaB hv1
    obtain ⟨wt,ew,rfl⟩:=zaB hv2
    have li:=(List.getElem?_eq_some_iff.mp ee).1
    simp_all only [za8,za7,za9,zac]
    have sd:=zao ht (.tup [V.int e,V.int wt])
    have hd:(L2.upd Hc t (.tup [V.int e,V.int wt])) t=some (.tup [V.int e,V.int wt]):=zaj
    generalize L2.upd Hc t (.tup [V.int e,V.int wt])=Hd at sd hd ⊢
    refine ⟨_,SqT.of hd,rfl,_,_,rfl,_,_,rfl,rfl,?_⟩
    have S9d:zaO H9 Hd:=sc.trans sd
    have Sd:zaO H4 Hd:=S8.trans (s9.trans S9d)
    have hsd:=Sd _ _ h4
    have htd:Hd tl=some (.lst (ls.map V.int)):=S9d _ _ (S9 _ _ htl)
    have hpd:Hd pl=some (.lst (ns.map V.int)):=S9d _ _ (S9 _ _ (s2 _ _ (s1 _ _ B.hp)))
    refine ⟨⟨_,SqL.of hsd⟩,⟨_,SqL.of htd⟩,fun D1 hD1=>?_⟩
    refine zeK (vs:=(List.zipWith (fun s n=>decide ((e - s).fmod R<n)) ss ls).map V.bl) hsd htd (by rw [List.length_map,List.length_map,List.length_map,List.length_zipWith]) (by rw [List.length_map,List.length_zipWith];omega) hD1 (fun i x z v H' R' hx hz hv s k=>?_) fun He se he=>?_
    ·obtain ⟨a,ha,rfl⟩:=zaB hx
     obtain ⟨b,hb,rfl⟩:=zaB hz
     obtain ⟨c,hc,rfl⟩:=zaB hv
     have e:=zht ha hb hc
     subst e
     simp_all only [za8,za7,za9,zac]
     exact ⟨by omega,k _ (.refl _)⟩
    have hpe:=se _ _ hpd
    simp_all only [za8,za7,za9,zac]
    refine ⟨⟨_,SqL.of hpe⟩,⟨_,SqL.of he⟩,fun D2 hD2=>?_⟩
    refine zeK (vs:=(List.zipWith (fun n (b:Bool)=>if b=true then n+1 else n) ns (List.zipWith (fun s n=>decide ((e - s).fmod R<n)) ss ls)).map V.int) hpe he (by rw [List.length_map,List.length_map,List.length_map,List.length_zipWith]) (by rw [List.length_map,List.length_zipWith,B.len];omega) hD2 (fun i x z v H' R' hx hz hv s k=>?_) fun Hf sf hf=>?_
    ·obtain ⟨a,ha,rfl⟩:=zaB hx
     obtain ⟨b,hb,rfl⟩:=zaB hz
     obtain ⟨c,hc,rfl⟩:=zaB hv
     have e:=zht ha hb hc
     subst e
     simp_all only [za8,za7,za9,zac]
     by_cases c:b=true
     ·rw [if_pos c] at k ⊢
      exact k _ (.refl _)
     ·rw [if_neg c] at k ⊢
      exact k _ (.refl _)
    have Sf:zaO Hc Hf:=sd.trans (se.trans sf)
    refine ⟨.inl ⟨rfl,_,SqL.of (Sf _ _ hmc)⟩,by decide,fun p np=>?_⟩
    have sg:=zao np (.tup [V.ref D2,V.int wt])
    have hg:(L2.upd Hf p (.tup [V.ref D2,V.int wt])) p=some (.tup [V.ref D2,V.int wt]):=zaj
    generalize L2.upd Hf p (.tup [V.ref D2,V.int wt])=Hg at sg hg ⊢
    have Sg:=Sf.trans sg
    have eml:el≠ml:=zaW (s9 _ _ h5') nml
    have lml:lo≠ml:=fun z=>by
     subst z
     have z1:=sb _ _ ha
     rw [hb] at z1
     have z2:=congrArg List.length (HO.lst.inj (Option.some.inj z1))
     rw [List.length_map,List.length_map,lm] at z2
     exact mne (List.length_eq_zero_iff.mp z2)
    refine ⟨_,Sg _ _ hmc,za4 (by omega),(sc.trans Sg).put nml,by rw [zaX eml];exact Sg _ _ hec,by rw [zaX lml];exact Sg _ _ hlc,_,zaj,by rw [List.length_append];exact Nat.succ_le_succ ly⟩
   ·rintro σ Hc ⟨sc,hec,hlc,ys,y1,y2,y3,y4,hmc,ly,rfl⟩
    simp_all only [za8,za7,za9,zac]
    exact q ml Hc (s1.trans (s2.trans (S9.trans sc)))
theorem zbA:zay ["boxes","counts","worth","lengths","ring","starts","length","edges","widths","mix","edge","weight","more","plan"] ["boxes","counts","worth"] (zah zdS):=⟨rfl,rfl,rfl,by decide +kernel,rfl,by decide +kernel,by decide +kernel⟩
theorem zln (T:Txt K mg a):zb0 P w K mg base CX0 5 a.f_mix_of a.d_mix_of ["boxes","counts","worth"] ziG:=by
 have G_common:=zh5 (P:=P) (w:=w) (base:=base) T
 have G_look_shares:=zgb (P:=P) (w:=w) (base:=base) T
 have G_lowest:=zlA (P:=P) (w:=w) (base:=base) T
 refine T.F_mix_of.ok zbA (fun vs H Q E h=>?_) (fun cdv A outer s H vs Q E hr h=>?_)
 ·obtain ⟨l,pl,wr,ts,bs,ns,W,rfl,B,G,hw,bW,l3,q⟩:=h
  rfl
 obtain ⟨l,pl,wr,ts,bs,ns,W,rfl,B,G,hw,bW,l3,q⟩:=h
 exact ⟨zgT K,(zaf (zdq (zak G_common (hr.mono (by decide)) rfl T.m_common T.F_common.kp T.b_common .nil zaC (zaa (zak G_look_shares (hr.mono (by decide)) rfl T.m_look_shares T.F_look_shares.kp T.b_look_shares .nil zaC (zaa (pv 0) (zaa (pv 1) (zaa (pv 2) zad)))) zad)) (zbm rfl (zat (zam (i:=3) zbA.nd rfl (Or.inl rfl)) (zat (zam (i:=4) zbA.nd rfl (Or.inr rfl)) za3))))
 (zaf (zaE (i:=5) zbA.nd rfl (Or.inl rfl) (zb9 (zaa zag zad)))
 (zaf (zcq PassesOwn.never rfl (zbe (pv 3)) (zam (i:=6) zbA.nd rfl (Or.inl rfl))
 (zal (zej (zk8 PySem.F.plainAttrs_list PySem.F.slot_list_append PySem.F.type_list_append zc1 (pv 5) (zaa (zaA zfH (zaA zcp (zaN zbj (pv 5) (zrQ zne zag) (fun _ _=>rfl)) (pv 6)) (pv 4)) zad)))))
 (zaf (zaE (i:=7) zbA.nd rfl (Or.inl rfl) (zjN rfl T.z_sorted rfl T.z_set (zaa (pv 5) zad)))
 (zaf (zbR (i:=8) zbA.nd rfl rfl (sc:=zah zdS) (N:=["boxes","counts","worth","lengths","ring","starts","length","edges","widths","mix","edge","weight","more","plan"]) (Nc:=["ahead","behind"]) (cap:=[none,none]) rfl rfl rfl (.of (by decide +kernel)) (zdv rfl T.z_zip (zaa (pv 7) (zaa (zaA zng (zjs zkf (pv 7) (zlw zag) zkG) (zb9 (zaa (pv 4) zad))) zad))) (fun _ _ _ _=>(zbm rfl (zat (zam (i:=0) (show List.Nodup (["ahead","behind"]:List Str) from by decide) rfl (Or.inl rfl)) (zat (zam (i:=1) (show List.Nodup (["ahead","behind"]:List Str) from by decide) rfl (Or.inl rfl)) za3)))) (fun _ _ _ _=>zbb) (fun _ _ _ _=>(zaA zcD (pv 1) (pv 0))))
 (zaf (zaE (i:=9) zbA.nd rfl (Or.inl rfl) (zb9 zad))
 (zaf (zcq PassesOwn.never rfl (zdv rfl T.z_zip (zaa (pv 7) (zaa (zak G_lowest (hr.mono (by decide)) rfl T.m_lowest T.F_lowest.kp T.b_lowest .nil zaC (zaa (pv 8) zad)) zad))) (zbm rfl (zat (zam (i:=10) zbA.nd rfl (Or.inr rfl)) (zat (zam (i:=11) zbA.nd rfl (Or.inl rfl)) za3)))
 (zaf (zbR (i:=12) zbA.nd rfl rfl (sc:=zah zdS) (N:=["boxes","counts","worth","lengths","ring","starts","length","edges","widths","mix","edge","weight","more","plan"]) (Nc:=["start","length","ring","edge"]) (cap:=[none,none,some 4,some 10]) rfl rfl rfl (.of (by decide +kernel)) (zdv rfl T.z_zip (zaa (pv 5) (zaa (pv 3) zad))) (fun _ _ _ _=>(zbm rfl (zat (zam (i:=0) (show List.Nodup (["start","length","ring","edge"]:List Str) from by decide) rfl (Or.inl rfl)) (zat (zam (i:=1) (show List.Nodup (["start","length","ring","edge"]:List Str) from by decide) rfl (Or.inl rfl)) za3)))) (fun _ _ _ _=>zbb) (fun _ _ _ _=>(zep zhT (zaA zfH (zaA zcD (pv 3) (pv 0)) (pv 2)) (pv 1) (zbD _))))
 (zaf (zbR (i:=13) zbA.nd rfl rfl (sc:=zah zdS) (N:=["boxes","counts","worth","lengths","ring","starts","length","edges","widths","mix","edge","weight","more","plan"]) (Nc:=["count","one"]) (cap:=[none,none]) rfl rfl rfl (.of (by decide +kernel)) (zdv rfl T.z_zip (zaa (pv 1) (zaa (pv 12) zad))) (fun _ _ _ _=>(zbm rfl (zat (zam (i:=0) (show List.Nodup (["count","one"]:List Str) from by decide) rfl (Or.inl rfl)) (zat (zam (i:=1) (show List.Nodup (["count","one"]:List Str) from by decide) rfl (Or.inl rfl)) za3)))) (fun _ _ _ _=>zbb) (fun _ _ _ _=>(zjt (zjC (pv 1) (fun _=>rfl)) (zaA zcp (pv 0) zag) (pv 0))))
 (zal (zej (zk8 PySem.F.plainAttrs_list PySem.F.slot_list_append PySem.F.type_list_append zc1 (pv 9) (zaa (zbk (zaa (pv 13) (zaa (pv 11) zad))) zad)))))))
 (zal (zaK (pv 9)))))))))),
  zkx B G hw bW l3 q⟩
structure zoF (bs:List Box) (ns Ws:List Int) (P:Rat):Prop where
 len:Ws.length=bs.length
 eq:∀ (i:Nat) b n w,bs[i]?=some b→ns[i]?=some n→Ws[i]?=some w→(w:Rat)=wq b n*P
 p0:0<P
 wb:∀ w∈Ws,Bd 1600 w
 pb:Bq 1600 P
theorem zqb {q:Rat} {D:Int} (h:(q.den:Int)∣D):((q.num*(D / q.den):Int):Rat)=q*(D:Rat):=by
 obtain ⟨k,rfl⟩:=h
 have d0:=zcn q
 rw [Int.mul_ediv_cancel_left _ (by omega),Rat.intCast_mul,Rat.intCast_mul]
 have e:((q.den:Int):Rat)*q=(q.num:Rat):=by
  have h:=Rat.num_divInt_den q
  rw [Rat.divInt_eq_div] at h
  have z:((q.den:Int):Rat)≠0:=fun z=>by
   have:(q.den:Int)=0:=by exact_mod_cast z
   omega
  have h2:(q.num:Rat)=q*((q.den:Int):Rat):=by
   generalize (q.num:Rat)=a at h ⊢
   generalize ((q.den:Int):Rat)=b at h z ⊢
   grind
  rw [h2,Rat.mul_comm]
 grind
theorem papW {bs:List Box} {ns:List Int} {D g:Int} (gb:∀ b∈bs,GB b) (n0:∀ n∈ns,0≤n∧n≤60) (G:Gn bs ns) (len:ns.length=bs.length) (l1:1≤bs.length) (l3:bs.length≤3) (C:Com (wqs bs ns) D) (Gg:zj2 ((wqs bs ns).map fun q=>q.num*(D / q.den)) g) :
  zoF bs ns (((wqs bs ns).map fun q=>q.num*(D / q.den)).map fun n=>n.fdiv g) (Rat.divInt D g)∧0<g∧Bd 1521 g:=by
 have lw:(wqs bs ns).length=bs.length:=by rw [wqs,List.length_zipWith];omega
 have bw:∀ q∈wqs bs ns,Bq 380 q∧0<q:=zjn _ fun i b n e1 e2=>⟨(zkM (gb b (zav e1)) (G i b n e1 e2)).mono (by have:=n0 n (zav e2);omega),zju (gb b (zav e1)) (G i b n e1 e2)⟩
 have D0:=C.pos
 have bD:Bd 1141 D:=(C.bd fun q hq=>(bw q hq).1).mono (by omega)
 have tp:∀ q∈wqs bs ns,0<q.num*(D / q.den)∧Bd 1521 (q.num*(D / q.den)):=fun q hq=>by
  obtain ⟨b1,q0⟩:=bw q hq
  have hd:=C.all q hq
  have dp:=zcn q
  have h1:0<D / (q.den:Int):=Int.ediv_pos_of_pos_of_dvd D0 (Int.le_of_lt dp) hd
  have h2:0<q.num:=by
   have a:=Rat.num_nonneg.mpr (Rat.le_of_lt q0)
   have b:q.num≠0:=zjg (by grind)
   omega
  have h3:=Int.ediv_le_self (q.den:Int) (Int.le_of_lt D0)
  exact ⟨Int.mul_pos h2 h1,(b1.top.mul (bD.le (x:=D / (q.den:Int)) (by omega))).mono (by decide)⟩
 obtain ⟨q0,hq0⟩:∃ q,q∈wqs bs ns:=⟨(wqs bs ns)[0]'(by omega),List.getElem_mem _⟩
 have hm0:q0.num*(D / q0.den)∈(wqs bs ns).map fun q=>q.num*(D / q.den):=List.mem_map.mpr ⟨q0,hq0,rfl⟩
 obtain ⟨t1,t2⟩:=tp q0 hq0
 have g0:=Gg.ne hm0 (by omega)
 have bg:Bd 1521 g:=t2.le (Gg.le hm0 (by omega))
 refine ⟨⟨by rw [List.length_map,List.length_map,lw],fun i b n w e1 e2 e3=>?_,?_,fun w hw=>?_,zbd (by omega) (bD.mono (by decide)) (bg.mono (by decide))⟩,g0,bg⟩
 ·obtain ⟨x,ex,rfl⟩:=zaB e3
  obtain ⟨q,eq,rfl⟩:=zaB ex
  have e:=zht e1 e2 eq
  have hd:=Gg.all _ (List.mem_map.mpr ⟨q,zav eq,rfl⟩)
  have f:=zdU hd
  have h:=zqb (C.all q (zav eq))
  rw [← f,Rat.intCast_mul] at h
  have gr:(g:Rat)≠0:=fun z=>by
   have:g=0:=by exact_mod_cast z
   omega
  rw [Rat.divInt_eq_div,← e]
  generalize (((q.num*(D / (q.den:Int))).fdiv g:Int):Rat)=w at h ⊢
  grind
 ·rw [Rat.divInt_eq_div,Rat.div_def]
  exact Rat.mul_pos (by exact_mod_cast D0) (Rat.inv_pos.mpr (by exact_mod_cast g0))
 ·obtain ⟨x,hx,rfl⟩:=List.mem_map.mp hw
  obtain ⟨q,hq,rfl⟩:=List.mem_map.mp hx
  have f:=zdU (Gg.all _ hx)
  exact ((tp q hq).2.le (ze4 f (by omega))).mono (by decide)
def zfC:Sp:=fun vs H Q _=>∃ (l pl:Addr) (ts:List Addr) (bs:List Box) (ns:List Int),vs=[.ref l,.ref pl]∧BP H l pl ts bs ns∧Gn bs ns∧bs.length≤3∧∀ (r wl pp cl:Addr) (Ws:List Int) (P:Rat) (H':Hp),zaO H H'→H' r=some (.tup [.ref wl,.ref pp,.ref cl])→H' wl=some (.lst (Ws.map V.int))→H' pp=some (.tup (fr P))→H' cl=some (.lst (ns.map V.int))→zoF bs ns Ws P→H wl=none→Q (.ref r) H'
def zeU (K:PySem.W.Frag):TS :=
 (zaR (zaZ (zau zgU [] E0 (zab (zau zk4 [] E0 (zab (zac 0) (zab (zac 1) zan))) zan)) (zcA K 2 (zaz (zae 2) (zaz (zae 3) zcy))))
 (zaR (zaZ (zau zg5 [] E0 (zab (zac 2) zan)) (zae 4))
 (zbo (zcJ (zab (zbn (zbN K (zac 2)) (zae 0) zaM (tOp (rI (fun _ j=>j≠0∧j.natAbs.log2<9000) fun i j=>.int (i.fdiv j)) (zac 0) (zac 1)) [none,some 4]) (zab (zau zhq [] E0 (zab (zac 3) (zab (zac 4) zan))) (zab (tCB (fun xs H Q=>∃ p ys,xs=[.ref p]∧(SqL K H p ys∨SqT K H p ys)∧∀ l,H l=none→Q (.ref l) (upd H l (.lst ys))) (zab (zac 1) zan)) zan)))))))
theorem ziH {l pl:Addr} {ts:List Addr} {bs:List Box} {ns:List Int} (B:BP H l pl ts bs ns) (G:Gn bs ns) (l3:bs.length≤3) (q:∀ (r wl pp cl:Addr) (Ws:List Int) (P:Rat) (H':Hp),zaO H H'→H' r=some (.tup [.ref wl,.ref pp,.ref cl])→H' wl=some (.lst (Ws.map V.int))→H' pp=some (.tup (fr P))→H' cl=some (.lst (ns.map V.int))→zoF bs ns Ws P→H wl=none→Q (.ref r) H') :
  zeU K { nx:=fun _ H'=>Q .non H',rt:=Q } (L2.start ["boxes","counts","weights","bottom","shared"] [.ref l,.ref pl]) H:=by
 unfold zeU
 simp_all only [zac]
 refine ⟨l,pl,ts,bs,ns,rfl,B,G,fun fl us H1 s1 h1 T1=>?_⟩
 have lw:(wqs bs ns).length=bs.length:=by rw [wqs,List.length_zipWith,B.len];omega
 refine ⟨fl,us,_,rfl,h1,T1,by omega,zjn _ fun i b n e1 e2=>(zp4 (B.gb b (zav e1)) (B.gn n (zav e2)).2 (G i b n e1 e2)).mono (by decide),fun cr tl D H2 s2 C h2 ntl htl=>?_⟩
 simp_all only [zac]
 refine ⟨_,SqT.of h2,rfl,_,_,rfl,_,_,rfl,rfl,?_⟩
 refine ⟨tl,_,rfl,htl,fun g Gg=>?_⟩
 obtain ⟨PW,g0,bg⟩:=papW B.gb B.gn G B.len B.l1 l3 C Gg
 simp_all only [zac]
 refine ⟨⟨_,SqL.of htl⟩,fun D1 hD1=>?_⟩
 refine zc5 (vs:=(((wqs bs ns).map fun q=>q.num*(D / q.den)).map fun n=>n.fdiv g).map V.int) htl (by simp) (by simp;omega) hD1 (fun i x v H' R hx hv s k=>?_) fun H3 s3 h3=>?_
 ·obtain ⟨n,en,rfl⟩:=zaB hx
  obtain ⟨y,ey,rfl⟩:=zaB hv
  obtain ⟨n',en',rfl⟩:=zaB ey
  rw [en] at en'
  cases en'
  simp_all only [zac]
  exact ⟨by omega,zfa 1521 (by omega) bg,k _ (.refl _)⟩
 refine ⟨_,_,rfl,by omega,bg.mono (by decide),fun pp H4 s4 h4=>?_⟩
 have hp4:=s4 _ _ (s3 _ _ (s2 _ _ (s1 _ _ B.hp)))
 refine ⟨_,.inl (SqL.of hp4),fun cl ncl=>?_⟩
 have s5:=zao ncl (.lst (ns.map V.int))
 have h5:(L2.upd H4 cl (.lst (ns.map V.int))) cl=some (.lst (ns.map V.int)):=zaj
 generalize L2.upd H4 cl (.lst (ns.map V.int))=H5 at s5 h5 ⊢
 refine ⟨by decide,fun r nr=>?_⟩
 have s6:=zao nr (.tup [V.ref D1,V.ref pp,V.ref cl])
 have h6:(L2.upd H5 r (.tup [V.ref D1,V.ref pp,V.ref cl])) r=some (.tup [V.ref D1,V.ref pp,V.ref cl]):=zaj
 generalize L2.upd H5 r (.tup [V.ref D1,V.ref pp,V.ref cl])=H6 at s6 h6 ⊢
 exact q r D1 pp cl _ _ H6 (s1.trans (s2.trans (s3.trans (s4.trans (s5.trans s6))))) h6 (s6 _ _ (s5 _ _ (s4 _ _ h3))) (s6 _ _ (s5 _ _ h4)) (s6 _ _ h5) PW ((s1.trans s2).free hD1)
theorem zdd:zay ["boxes","counts","weights","bottom","shared"] ["boxes","counts"] (zah zdX):=⟨rfl,rfl,rfl,by decide +kernel,rfl,by decide +kernel,by decide +kernel⟩
theorem zin (T:Txt K mg a):zb0 P w K mg base CX0 5 a.f_paper_of a.d_paper_of ["boxes","counts"] zfC:=by
 have G_common:=zh5 (P:=P) (w:=w) (base:=base) T
 have G_fair_weights:=zdJ (P:=P) (w:=w) (base:=base) T
 have G_ratio:=zdl (P:=P) (w:=w) (base:=base) T
 have G_shared_divisor:=zc2 (P:=P) (w:=w) (base:=base) T
 refine T.F_paper_of.ok zdd (fun vs H Q E h=>?_) (fun cdv A outer s H vs Q E hr h=>?_)
 ·obtain ⟨l,pl,ts,bs,ns,rfl,B,G,l3,q⟩:=h
  rfl
 obtain ⟨l,pl,ts,bs,ns,rfl,B,G,l3,q⟩:=h
 exact ⟨zeU K,(zaf (zdq (zak G_common (hr.mono (by decide)) rfl T.m_common T.F_common.kp T.b_common .nil zaC (zaa (zak G_fair_weights (hr.mono (by decide)) rfl T.m_fair_weights T.F_fair_weights.kp T.b_fair_weights .nil zaC (zaa (pv 0) (zaa (pv 1) zad))) zad)) (zbm rfl (zat (zam (i:=2) zdd.nd rfl (Or.inl rfl)) (zat (zam (i:=3) zdd.nd rfl (Or.inl rfl)) za3))))
 (zaf (zaE (i:=4) zdd.nd rfl (Or.inr rfl) (zak G_shared_divisor (hr.mono (by decide)) rfl T.m_shared_divisor T.F_shared_divisor.kp T.b_shared_divisor .nil zaC (zaa (pv 2) zad)))
 (zal (zaK (zbk (zaa (zbG (sc:=zah zdX) (N:=["boxes","counts","weights","bottom","shared"]) (Nc:=["weight","shared"]) (cap:=[none,some 4]) rfl rfl rfl (.of (by decide +kernel)) (zbe (pv 2)) (fun _ _ _ _=>(zam (i:=0) (show List.Nodup (["weight","shared"]:List Str) from by decide) rfl (Or.inl rfl))) (fun _ _ _ _=>zbb) (fun _ _ _ _=>(zaA zct (pv 0) (pv 1)))) (zaa (zak G_ratio (hr.mono (by decide)) rfl T.m_ratio T.F_ratio.kp T.b_ratio .nil zaC (zaa (pv 3) (zaa (pv 4) zad))) (zaa (zdC zcc rfl T.z_list zcd (zaa (pv 1) zad)) zad)))))))),
  ziH B G l3 q⟩
def ze5 (K:PySem.W.Frag):TS :=
 (zbo (zge (tCB (zho K) (zab (zac 0) (zab (tC (.ty "int")) zan))) (zmj (tCB (zho K) (zab (zac 0) (zab (tC (.ty "bool")) zan))))))
theorem zik {x:Int} (q:Q (.bl true) H):ze5 K { nx:=fun _ H'=>Q .non H',rt:=Q } (L2.start ["thing"] [.int x]) H:=by
 unfold ze5
 simp_all only [zac]
 refine zfM ⟨_,rfl,zn5 ?_⟩
 exact zfd ⟨_,rfl,q⟩
theorem ziK:zay ["thing"] ["thing"] (zah zeX):=⟨rfl,rfl,rfl,by decide +kernel,rfl,by decide +kernel,by decide +kernel⟩
theorem ziZ (T:Txt K mg a):zb0 P w K mg base CX0 1 a.f_is_whole a.d_is_whole ["thing"] zks:=by
 refine T.F_is_whole.ok ziK (fun vs H Q E h=>?_) (fun cdv A outer s H vs Q E hr h=>?_)
 ·obtain ⟨x,rfl,q⟩:=h
  rfl
 obtain ⟨x,rfl,q⟩:=h
 exact ⟨ze5 K,(zal (zaK (zgv (zaJ zbv rfl T.z_isinstance PyProof.Rows.boot_isinstance (zaa (pv 0) (zaa (zdh rfl T.z_int zjo rfl) zad))) (zh6 (znm (zaJ zbv rfl T.z_isinstance PyProof.Rows.boot_isinstance (zaa (pv 0) (zaa (zdh rfl T.z_bool zh4 rfl) zad)))))))),
  zik q⟩
def zem:TS :=
 (zbo (zge (zau zks [] E0 (zab (zac 0) zan)) (zia (rI0 fun i j=>.bl (decide (i≤j))) (rI0 fun i j=>.bl (decide (i≤j))) (zac 1) (zac 0) (zac 2))))
theorem zhJ {x l m:Int} (h1:l≤x) (h2:x≤m) (q:Q (.bl true) H):zem { nx:=fun _ H'=>Q .non H',rt:=Q } (L2.start ["thing","least","most"] [.int x,.int l,.int m]) H:=by
 unfold zem
 simp_all only [zac]
 refine ⟨x,rfl,true,rfl,zn5 ?_⟩
 refine zez (fun _=>?_) (fun z=>absurd h1 z)
 rw [decide_eq_true h2]
 exact q
theorem zh1:zay ["thing","least","most"] ["thing","least","most"] (zah zeg):=⟨rfl,rfl,rfl,by decide +kernel,rfl,by decide +kernel,by decide +kernel⟩
theorem zfb (T:Txt K mg a):zb0 P w K mg base CX0 2 a.f_is_within a.d_is_within ["thing","least","most"] zcN:=by
 have G_is_whole:=ziZ (P:=P) (w:=w) (base:=base) T
 refine T.F_is_within.ok zh1 (fun vs H Q E h=>?_) (fun cdv A outer s H vs Q E hr h=>?_)
 ·obtain ⟨x,l,m,rfl,h1,h2,q⟩:=h
  rfl
 obtain ⟨x,l,m,rfl,h1,h2,q⟩:=h
 exact ⟨zem,(zal (zaK (zgv (zak G_is_whole (hr.mono (by decide)) rfl T.m_is_whole T.F_is_whole.kp T.b_is_whole .nil zaC (zaa (pv 0) zad)) (zh6 (zlO zjY zjY (pv 1) (pv 0) (pv 2)))))),
  zhJ h1 h2 q⟩
def zgo (K:PySem.W.Frag):TS :=
 (zaR (zaZ (zac 0) (zcA K 3 (zaz (zae 1) (zaz (zae 2) (zaz (zae 3) zcy)))))
 (zbo (zge (zau zcN [] E0 (zab (zac 1) (zab (tC (.int 1)) (zab (tC (.int 60)) zan)))) (zge (zau zcN [] E0 (zab (zac 3) (zab (tC (.int 1)) (zab (tC (.int 50)) zan)))) (zau zcN [] E0 (zab (zac 2) (zab (tC (.int 1)) (zab (zac 3) zan))))))))
theorem zde (K:PySem.W.Frag) (D:zch) (σ:St) (H:Hp):zgo K D σ H=(zaR (zaZ (zac 0) (zcA K 3 (zaz (zae 1) (zaz (zae 2) (zaz (zae 3) zcy)))))
 (zbo (zge (zau zcN [] E0 (zab (zac 1) (zab (tC (.int 1)) (zab (tC (.int 60)) zan)))) (zge (zau zcN [] E0 (zab (zac 3) (zab (tC (.int 1)) (zab (tC (.int 50)) zan)))) (zau zcN [] E0 (zab (zac 2) (zab (tC (.int 1)) (zab (zac 3) zan)))))))) D σ H:=rfl
def zgj (K:PySem.W.Frag):TS :=
 (zdt (tOr (zfn (tB (tCB (zho K) (zab (zac 0) (zab (tC (.ty "tuple")) zan))))) (zbE (tOp rNe (tCB (fun xs H Q=>∃ p ys,xs=[.ref p]∧(SqL K H p ys∨SqT K H p ys)∧Q (.int ys.length) H) (zab (zac 0) zan)) (tC (.int 3))))) (zbo (tC (.bl false))) zbF)
theorem zdb (K:PySem.W.Frag) (D:zch) (σ:St) (H:Hp):zgj K D σ H=(zdt (tOr (zfn (tB (tCB (zho K) (zab (zac 0) (zab (tC (.ty "tuple")) zan))))) (zbE (tOp rNe (tCB (fun xs H Q=>∃ p ys,xs=[.ref p]∧(SqL K H p ys∨SqT K H p ys)∧Q (.int ys.length) H) (zab (zac 0) zan)) (tC (.int 3))))) (zbo (tC (.bl false))) zbF) D σ H:=rfl
def zg3 (K:PySem.W.Frag):TS :=
 (zaR (zf5 (zgj K))
 (zgo K))
theorem zk5 {p:Addr} {b:Box} (hp:H p=some (.tup (bx b))) (g:GB b) (q:Q (.bl true) H):zg3 K { nx:=fun _ H'=>Q .non H',rt:=Q } (L2.start ["thing","cost","hits","of"] [.ref p]) H:=by
 unfold zg3
 obtain ⟨g1,g2,g3,g4,g5⟩:=g
 simp_all only [zde,zdb,zac]
 refine ⟨fun σ H'=>H'=H∧σ=[some (.ref p),none,none,none],?_,?_⟩
 ·simp_all only [zde,zdb,zac]
  refine zfA hp ⟨true,rfl,?_⟩
  refine zez (fun z=>absurd z (by decide)) (fun _=>?_)
  refine ⟨_,.inr (SqT.of hp),?_⟩
  exact zez (fun z=>absurd rfl z) (fun _=>rfl)
 ·rintro σ H' ⟨e,rfl⟩
  rw [e]
  simp_all only [zde,zdb,zac]
  refine ⟨_,SqT.of hp,rfl,_,_,rfl,_,_,rfl,_,_,rfl,rfl,?_⟩
  exact ⟨_,_,_,rfl,g1,g2,true,rfl,zn5 ⟨_,_,_,rfl,by omega,g5,true,rfl,zn5 ⟨_,_,_,rfl,g3,g4,q⟩⟩⟩
theorem zeA:zay ["thing","cost","hits","of"] ["thing"] (zah zg9):=⟨rfl,rfl,rfl,by decide +kernel,rfl,by decide +kernel,by decide +kernel⟩
theorem zli (T:Txt K mg a):zb0 P w K mg base CX0 3 a.f_is_box a.d_is_box ["thing"] zlb:=by
 have G_is_within:=zfb (P:=P) (w:=w) (base:=base) T
 refine T.F_is_box.ok zeA (fun vs H Q E h=>?_) (fun cdv A outer s H vs Q E hr h=>?_)
 ·obtain ⟨p,b,rfl,hp,g,q⟩:=h
  rfl
 obtain ⟨p,b,rfl,hp,g,q⟩:=h
 exact ⟨zg3 K,(zaf (zcI (zc3 (PW.pt (zfO (zcY (zb1 (zaJ zbv rfl T.z_isinstance PyProof.Rows.boot_isinstance (zaa (pv 0) (zaa (zdh rfl T.z_tuple zgn rfl) zad))))) (zfh (zbH zoH (zaJ za0 rfl T.z_len PySem.boot_len (zaa (pv 0) zad)) zag (zbD _))))) (zal (zaK zgI)) zbq))
 (zaf (zdq (pv 0) (zbm rfl (zat (zam (i:=1) zeA.nd rfl (Or.inl rfl)) (zat (zam (i:=2) zeA.nd rfl (Or.inl rfl)) (zat (zam (i:=3) zeA.nd rfl (Or.inl rfl)) za3)))))
 (zal (zaK (zgv (zak G_is_within (hr.mono (by decide)) rfl T.m_is_within T.F_is_within.kp T.b_is_within .nil zaC (zaa (pv 1) (zaa zag (zaa (zg6 rfl T.m_MOST_COST ⟨_,rfl⟩) zad)))) (zgv (zak G_is_within (hr.mono (by decide)) rfl T.m_is_within T.F_is_within.kp T.b_is_within .nil zaC (zaa (pv 3) (zaa zag (zaa (zg6 rfl T.m_MOST_OF ⟨_,rfl⟩) zad)))) (zh6 (zak G_is_within (hr.mono (by decide)) rfl T.m_is_within T.F_is_within.kp T.b_is_within .nil zaC (zaa (pv 2) (zaa zag (zaa (pv 3) zad))))))))))),
  zk5 hp g q⟩
theorem zex {K:PySem.W.Frag} {H:Hp} {Q:VK} {r:Addr} {xs:List V} (h:H r=some (.lst xs)) (q:Q (.bl true) H):zho K [.ref r,.ty "list"] H Q:=⟨_,_,_,_,true,rfl,rfl,.of (.lst h),rfl,q⟩
theorem ziP {bs:List Bool} (h:∀ b∈bs,b=true):bs.all id=true:=List.all_eq_true.mpr h
def zdO (K:PySem.W.Frag):TS :=
 (zdt (tOr (zfn (tB (tCB (zho K) (zab (zac 0) (zab (tC (.ty "list")) zan))))) (tOr (zfn (zbE (zia (rI0 fun i j=>.bl (decide (i≤j))) (rI0 fun i j=>.bl (decide (i≤j))) (tC (.int 1)) (tCB (fun xs H Q=>∃ p ys,xs=[.ref p]∧(SqL K H p ys∨SqT K H p ys)∧Q (.int ys.length) H) (zab (zac 0) zan)) (tC (.int 6))))) (zfn (tB (tCB (rAll K) (zab (zbn (zbN K (zac 0)) (zae 0) zaM (zau zlb [] E0 (zab (zac 0) zan)) [none]) zan)))))) zjy zbF)
theorem zgy {l:Addr} {ts:List Addr} {bs:List Box} (hl:H l=some (.lst (ts.map V.ref))) (hb:Tps bx H ts bs) (gb:∀ b∈bs,GB b) (l1:1≤bs.length) (l6:bs.length≤6) (q:∀ H',zaO H H'→Q .non H') :
  zdO K { nx:=fun _ H'=>Q .non H',rt:=Q } (L2.start ["boxes"] [.ref l]) H:=by
 unfold zdO
 simp_all only [zac]
 refine zex hl ⟨true,rfl,?_⟩
 refine zez (fun z=>absurd z (by decide)) (fun _=>?_)
 refine ⟨_,.inl (SqL.of hl),?_⟩
 rw [List.length_map,hb.1]
 refine zez (fun _=>?_) (fun z=>absurd (show (1:Int)≤(bs.length:Int) by omega) z)
 refine zez (fun z=>absurd (show (bs.length:Int)≤6 by omega) z) (fun _=>?_)
 refine ⟨⟨_,SqL.of hl⟩,fun D hD=>?_⟩
 refine zb4 (K:=K) (xs:=ts.map V.ref) (fun i ys σ H'=>zaO H H'∧∃ cs:List Bool,ys=cs.map V.bl∧(∀ b∈cs,b=true)∧cs.length≤i∧∃ z,σ=[z]) ⟨zao hD _,[],rfl,by simp,by simp,_,rfl⟩ ?_ ?_ ?_
 ·rintro i ys σ H' _ ⟨s,_⟩
  exact SqL.of (s _ _ hl)
 ·rintro i x ys σ H' hx hD' ⟨s,cs,rfl,hc,lc,z,rfl⟩
  obtain ⟨t,ht,rfl⟩:=zaB hx
  obtain ⟨b,hb1,hb2⟩:=hb.at ht
  have hi:=(List.getElem?_eq_some_iff.mp ht).1
  simp_all only [zac]
  refine ⟨t,b,rfl,s _ _ hb2,gb b (zav hb1),_,hD',za4 (by rw [List.length_map];have:=hb.1;omega),_,zaj,s.put hD,cs++[true],by simp,?_,by rw [List.length_append];exact Nat.succ_le_succ lc⟩
  intro b hb
  rcases List.mem_append.mp hb with h | h
  ·exact hc b h
  ·simpa using h
 ·rintro ys σ H' hD' ⟨s,cs,rfl,hc,_,z,rfl⟩
  simp_all only [zac]
  refine ⟨_,SqL.of hD',?_⟩
  rw [ziP hc]
  exact zez (fun z=>absurd z (by decide)) (fun _=>q _ s)
theorem zhf:zay ["boxes"] ["boxes"] (zah zcL):=⟨rfl,rfl,rfl,by decide +kernel,rfl,by decide +kernel,by decide +kernel⟩
theorem zgZ (T:Txt K mg a):zb0 P w K mg base CX0 4 a.f_look_boxes a.d_look_boxes ["boxes"] znw:=by
 have G_is_box:=zli (P:=P) (w:=w) (base:=base) T
 refine T.F_look_boxes.ok zhf (fun vs H Q E h=>?_) (fun cdv A outer s H vs Q E hr h=>?_)
 ·obtain ⟨l,ts,bs,rfl,hl,hb,gb,l1,l6,q⟩:=h
  rfl
 obtain ⟨l,ts,bs,rfl,hl,hb,gb,l1,l6,q⟩:=h
 exact ⟨zdO K,(zal (zc3 (PW.pt (zfO (zcY (zb1 (zaJ zbv rfl T.z_isinstance PyProof.Rows.boot_isinstance (zaa (pv 0) (zaa (zdh rfl T.z_list zcd rfl) zad))))) (zfO (zcY (zmu zjY zjY zag (zaJ za0 rfl T.z_len PySem.boot_len (zaa (pv 0) zad)) (zg6 rfl T.m_MOST_BOXES ⟨_,rfl⟩))) (zfh (zcY (zb1 (zaJ (zje rfl) rfl T.z_all PyProof.Rows.boot_all (zaa (zbG (sc:=zah zcL) (N:=["boxes"]) (Nc:=["box"]) (cap:=[none]) rfl rfl rfl (.of (by decide +kernel)) (zbe (pv 0)) (fun _ _ _ _=>(zam (i:=0) (show List.Nodup (["box"]:List Str) from by decide) rfl (Or.inl rfl))) (fun _ _ _ _=>zbb) (fun _ _ _ _=>(zak G_is_box (hr.mono (by decide)) rfl T.m_is_box T.F_is_box.kp T.b_is_box .nil zaC (zaa (pv 0) zad)))) zad)))))))) (zal zhh) zbq)),
  zgy hl hb gb l1 l6 q⟩
def zff:Sp:=fun vs H Q _=>∃ n:Int,vs=[.int n]∧0≤n∧n≤60∧Q .non H
def zda:TS :=
 (zdt (zfn (tB (zau zcN [] E0 (zab (zac 0) (zab (tC (.int 0)) (zab (tC (.int 60)) zan)))))) zjy zbF)
theorem zf9 {n:Int} (n0:0≤n) (n1:n≤60) (q:Q .non H):zda { nx:=fun _ H'=>Q .non H',rt:=Q } (L2.start ["budget"] [.int n]) H:=by
 unfold zda
 simp_all only [zac]
 exact ⟨n,0,60,rfl,n0,n1,true,rfl,zez (fun z=>absurd z (by decide)) (fun _=>q)⟩
theorem zgc:zay ["budget"] ["budget"] (zah zdm):=⟨rfl,rfl,rfl,by decide +kernel,rfl,by decide +kernel,by decide +kernel⟩
theorem zf6 (T:Txt K mg a):zb0 P w K mg base CX0 3 a.f_look_budget a.d_look_budget ["budget"] zff:=by
 have G_is_within:=zfb (P:=P) (w:=w) (base:=base) T
 refine T.F_look_budget.ok zgc (fun vs H Q E h=>?_) (fun cdv A outer s H vs Q E hr h=>?_)
 ·obtain ⟨n,rfl,n0,n1,q⟩:=h
  rfl
 obtain ⟨n,rfl,n0,n1,q⟩:=h
 exact ⟨zda,(zal (zc3 (zcY (zb1 (zak G_is_within (hr.mono (by decide)) rfl T.m_is_within T.F_is_within.kp T.b_is_within .nil zaC (zaa (pv 0) (zaa zag (zaa (zg6 rfl T.m_MOST_BUDGET ⟨_,rfl⟩) zad)))))) (zal zhh) zbq)),
  zf9 n0 n1 q⟩
def zjv:Sp:=fun vs H Q _=>∃ (l:Addr) (ts:List Addr) (bs:List Box) (bud:Int),vs=[.ref l,.int bud]∧H l=some (.lst (ts.map V.ref))∧Tps bx H ts bs∧bs.length≤6∧∀ (c:Bool) (H':Hp),zaO H H'→(c=true↔(∀ b∈bs,b.2.1=b.2.2)∧(bs.map fun b=>b.1).sum≤bud)→Q (.bl c) H'
def zfZ (K:PySem.W.Frag):TS :=
 (zbo (zge (tCB (rAll K) (zab (zbn (zbN K (zac 0)) (zcA K 3 (zaz (zae 0) (zaz (zae 1) (zaz (zae 2) zcy)))) zaM (tOp rEq (zac 1) (zac 2)) [none,none,none]) zan)) (tOp (rI0 fun i j=>.bl (decide (i≤j))) (tCB (zij K) (zab (zbn (zbN K (zac 0)) (zae 0) zaM (tOp (zbu K) (zac 0) (tC (.int 0))) [none]) zan)) (zac 1))))
theorem zjL {l:Addr} {ts:List Addr} {bs:List Box} {bud:Int} (hl:H l=some (.lst (ts.map V.ref))) (T:Tps bx H ts bs) (l6:bs.length≤6) (q:∀ (c:Bool) (H':Hp),zaO H H'→(c=true↔(∀ b∈bs,b.2.1=b.2.2)∧(bs.map fun b=>b.1).sum≤bud)→Q (.bl c) H') :
  zfZ K { nx:=fun _ H'=>Q .non H',rt:=Q } (L2.start ["boxes","budget"] [.ref l,.int bud]) H:=by
 unfold zfZ
 simp_all only [zac]
 refine ⟨⟨_,SqL.of hl⟩,fun D hD=>?_⟩
 refine zb4 (K:=K) (xs:=ts.map V.ref) (fun i ys σ H'=>zaO H H'∧ys=((bs.take i).map fun b=>decide (b.2.1=b.2.2)).map V.bl∧∃ x y z,σ=[x,y,z]) ⟨zao hD _,rfl,_,_,_,rfl⟩ ?_ ?_ ?_
 ·rintro i ys σ H' _ ⟨s,_⟩
  exact SqL.of (s _ _ hl)
 ·rintro i x ys σ H' hx hD' ⟨s,rfl,x,y,z,rfl⟩
  obtain ⟨t,ht,rfl⟩:=zaB hx
  obtain ⟨b,hb1,hb2⟩:=T.at ht
  simp_all only [zac]
  refine ⟨_,SqT.of (s _ _ hb2),rfl,_,_,rfl,_,_,rfl,_,_,rfl,rfl,?_⟩
  simp_all only [zac]
  refine ⟨_,hD',za4 (by rw [List.length_map,List.length_map,List.length_take];omega),_,zaj,s.put hD,?_⟩
  rw [List.take_add_one,hb1]
  simp
 ·rintro ys σ H1 h1 ⟨s1,rfl,x,y,z,rfl⟩
  rw [List.length_map,T.1,List.take_length] at h1
  simp_all only [zac]
  refine ⟨_,SqL.of h1,?_⟩
  by_cases c:∀ b∈bs,b.2.1=b.2.2
  ·have e:((bs.map fun b=>decide (b.2.1=b.2.2)).all id)=true:=List.all_eq_true.mpr fun x hx=>by
    obtain ⟨b,hb,rfl⟩:=List.mem_map.mp hx
    exact decide_eq_true (c b hb)
   rw [e]
   refine zn5 ?_
   have hl1:=s1 _ _ hl
   refine ⟨⟨_,SqL.of hl1⟩,fun D2 hD2=>?_⟩
   refine zc5 (vs:=(bs.map fun b=>b.1).map V.int) hl1 (by simp [T.1]) (by simp;omega) hD2 (fun i x v H' R hx hv s k=>?_) fun H2 s2 h2=>?_
   ·obtain ⟨t,ht,rfl⟩:=zaB hx
    obtain ⟨w,hw,rfl⟩:=zaB hv
    obtain ⟨b,hb,rfl⟩:=zaB hw
    obtain ⟨b',hb1,hb2⟩:=T.at ht
    rw [hb] at hb1
    cases hb1
    simp_all only [zac]
    exact ⟨_,SqT.of (s _ _ (s1 _ _ hb2)),_,rfl,k _ (.refl _)⟩
   ·simp_all only [zac]
    refine ⟨_,SqL.of h2,?_⟩
    exact q _ H2 (s1.trans s2) ⟨fun h=>⟨c,of_decide_eq_true h⟩,fun h=>decide_eq_true h.2⟩
  ·have e:((bs.map fun b=>decide (b.2.1=b.2.2)).all id)=false:=by
    rw [Bool.eq_false_iff]
    intro z
    refine c fun b hb=>?_
    have:=List.all_eq_true.mp z _ (List.mem_map.mpr ⟨b,hb,rfl⟩)
    exact of_decide_eq_true this
   rw [e]
   refine iteF ?_
   exact q _ H1 s1 ⟨fun h=>absurd h (by decide),fun h=>absurd h.1 c⟩
theorem zjS:zay ["boxes","budget"] ["boxes","budget"] (zah zdB):=⟨rfl,rfl,rfl,by decide +kernel,rfl,by decide +kernel,by decide +kernel⟩
theorem zjF (T:Txt K mg a):zb0 P w K mg base CX0 1 a.f_is_sure a.d_is_sure ["boxes","budget"] zjv:=by
 refine T.F_is_sure.ok zjS (fun vs H Q E h=>?_) (fun cdv A outer s H vs Q E hr h=>?_)
 ·obtain ⟨l,ts,bs,bud,rfl,hl,T',l6,q⟩:=h
  rfl
 obtain ⟨l,ts,bs,bud,rfl,hl,T',l6,q⟩:=h
 exact ⟨zfZ K,(zal (zaK (zgv (zaJ (zje rfl) rfl T.z_all PyProof.Rows.boot_all (zaa (zbG (sc:=zah zdB) (N:=["boxes","budget"]) (Nc:=["cost","hits","of"]) (cap:=[none,none,none]) rfl rfl rfl (.of (by decide +kernel)) (zbe (pv 0)) (fun _ _ _ _=>(zbm rfl (zat (zam (i:=0) (show List.Nodup (["cost","hits","of"]:List Str) from by decide) rfl (Or.inl rfl)) (zat (zam (i:=1) (show List.Nodup (["cost","hits","of"]:List Str) from by decide) rfl (Or.inl rfl)) (zat (zam (i:=2) (show List.Nodup (["cost","hits","of"]:List Str) from by decide) rfl (Or.inl rfl)) za3))))) (fun _ _ _ _=>zbb) (fun _ _ _ _=>(zep zjU (pv 1) (pv 2) (zbD _)))) zad)) (zh6 (zep zjY (zaJ (zcs rfl) rfl T.z_sum PyProof.Rows.boot_sum (zaa (zbG (sc:=zah zdB) (N:=["boxes","budget"]) (Nc:=["box"]) (cap:=[none]) rfl rfl rfl (.of (by decide +kernel)) (zbe (pv 0)) (fun _ _ _ _=>(zam (i:=0) (show List.Nodup (["box"]:List Str) from by decide) rfl (Or.inl rfl))) (fun _ _ _ _=>zbb) (fun _ _ _ _=>(zaN zaD (pv 0) zag (fun _ _=>rfl)))) zad)) (pv 1) (zbD _)))))),
  zjL hl T' l6 q⟩
def zm7:Sp:=fun vs H Q _=>∃ (l:Addr) (ts:List Addr),vs=[.ref l]∧H l=some (.lst (ts.map V.ref))∧ts.length≤6∧∀ (r wr mr pr wl pp cl:Addr) (H':Hp),zaO H H'→H' r=some (.tup [.ref wr,.ref mr,.ref pr])→H' wr=some (.tup (fr 1))→H' pr=some (.tup [.ref wl,.ref pp,.ref cl])→H' wl=some (.lst ((ts.map fun _=>(1:Int)).map V.int))→H' pp=some (.tup (fr 0))→H wl=none→Q (.ref r) H'
def zdk (K:PySem.W.Frag):TS :=
 (zaR (zaZ (zbn (zbN K (zac 0)) (zae 0) zaM (tC (.int 1)) [none]) (zae 1))
 (zbo (zcJ (zab (zcJ (zab (tC (.int 1)) (zab (tC (.int 1)) zan))) (zab (zeo (zab (zcJ (zab (tCB (fun xs H Q=>∃ p ys,xs=[.ref p]∧(SqL K H p ys∨SqT K H p ys)∧∀ l,H l=none→Q (.ref l) (upd H l (.lst ys))) (zab (zac 1) zan)) (zab (tC (.int 1)) zan))) zan)) (zab (zcJ (zab (tCB (fun xs H Q=>∃ p ys,xs=[.ref p]∧(SqL K H p ys∨SqT K H p ys)∧∀ l,H l=none→Q (.ref l) (upd H l (.lst ys))) (zab (zac 1) zan)) (zab (zcJ (zab (tC (.int 0)) (zab (tC (.int 1)) zan))) (zab (tCB (fun xs H Q=>∃ p ys,xs=[.ref p]∧(SqL K H p ys∨SqT K H p ys)∧∀ l,H l=none→Q (.ref l) (upd H l (.lst ys))) (zab (zac 1) zan)) zan)))) zan))))))
theorem zgf {l:Addr} {ts:List Addr} (hl:H l=some (.lst (ts.map V.ref))) (l6:ts.length≤6) (q:∀ (r wr mr pr wl pp cl:Addr) (H':Hp),zaO H H'→H' r=some (.tup [.ref wr,.ref mr,.ref pr])→H' wr=some (.tup (fr 1))→H' pr=some (.tup [.ref wl,.ref pp,.ref cl])→H' wl=some (.lst ((ts.map fun _=>(1:Int)).map V.int))→H' pp=some (.tup (fr 0))→H wl=none→Q (.ref r) H') :
  zdk K { nx:=fun _ H'=>Q .non H',rt:=Q } (L2.start ["boxes","ones"] [.ref l]) H:=by
 unfold zdk
 simp_all only [zac]
 refine ⟨⟨_,SqL.of hl⟩,fun D hD=>?_⟩
 refine zc5 (vs:=(ts.map fun _=>(1:Int)).map V.int) hl (by simp) (by simp;omega) hD (fun i x v H' R _ hv s k=>?_) fun H1 s1 h1=>?_
 ·obtain ⟨n,en,rfl⟩:=zaB hv
  obtain ⟨_,_,rfl⟩:=zaB en
  exact k _ (.refl _)
 simp_all only [zac]
 refine ⟨by decide,fun p1 n1=>?_⟩
 have s2:=zao n1 (.tup [V.int 1,V.int 1])
 have h2:(L2.upd H1 p1 (.tup [V.int 1,V.int 1])) p1=some (.tup [V.int 1,V.int 1]):=zaj
 generalize L2.upd H1 p1 (.tup [V.int 1,V.int 1])=H2 at s2 h2 ⊢
 refine ⟨_,.inl (SqL.of (s2 _ _ h1)),fun p2 n2=>?_⟩
 have s3:=zao n2 (.lst ((ts.map fun _=>(1:Int)).map V.int))
 have h3:(L2.upd H2 p2 (.lst ((ts.map fun _=>(1:Int)).map V.int))) p2=some (.lst ((ts.map fun _=>(1:Int)).map V.int)):=zaj
 generalize L2.upd H2 p2 (.lst ((ts.map fun _=>(1:Int)).map V.int))=H3 at s3 h3 ⊢
 refine ⟨by decide,fun p3 n3=>?_⟩
 have s4:=zao n3 (.tup [V.ref p2,V.int 1])
 have h4:(L2.upd H3 p3 (.tup [V.ref p2,V.int 1])) p3=some (.tup [V.ref p2,V.int 1]):=zaj
 generalize L2.upd H3 p3 (.tup [V.ref p2,V.int 1])=H4 at s4 h4 ⊢
 refine ⟨by decide,fun p4 n4=>?_⟩
 have s5:=zao n4 (.lst [V.ref p3])
 have h5:(L2.upd H4 p4 (.lst [V.ref p3])) p4=some (.lst [V.ref p3]):=zaj
 generalize L2.upd H4 p4 (.lst [V.ref p3])=H5 at s5 h5 ⊢
 have S5:=s2.trans (s3.trans (s4.trans s5))
 refine ⟨_,.inl (SqL.of (S5 _ _ h1)),fun p5 n5=>?_⟩
 have s6:=zao n5 (.lst ((ts.map fun _=>(1:Int)).map V.int))
 have h6:(L2.upd H5 p5 (.lst ((ts.map fun _=>(1:Int)).map V.int))) p5=some (.lst ((ts.map fun _=>(1:Int)).map V.int)):=zaj
 generalize L2.upd H5 p5 (.lst ((ts.map fun _=>(1:Int)).map V.int))=H6 at s6 h6 ⊢
 refine ⟨by decide,fun p6 n6=>?_⟩
 have s7:=zao n6 (.tup [V.int 0,V.int 1])
 have h7:(L2.upd H6 p6 (.tup [V.int 0,V.int 1])) p6=some (.tup [V.int 0,V.int 1]):=zaj
 generalize L2.upd H6 p6 (.tup [V.int 0,V.int 1])=H7 at s7 h7 ⊢
 refine ⟨_,.inl (SqL.of (s7 _ _ (s6 _ _ (S5 _ _ h1)))),fun p7 n7=>?_⟩
 have s8:=zao n7 (.lst ((ts.map fun _=>(1:Int)).map V.int))
 have h8:(L2.upd H7 p7 (.lst ((ts.map fun _=>(1:Int)).map V.int))) p7=some (.lst ((ts.map fun _=>(1:Int)).map V.int)):=zaj
 generalize L2.upd H7 p7 (.lst ((ts.map fun _=>(1:Int)).map V.int))=H8 at s8 h8 ⊢
 refine ⟨by decide,fun p8 n8=>?_⟩
 have s9:=zao n8 (.tup [V.ref p5,V.ref p6,V.ref p7])
 have h9:(L2.upd H8 p8 (.tup [V.ref p5,V.ref p6,V.ref p7])) p8=some (.tup [V.ref p5,V.ref p6,V.ref p7]):=zaj
 generalize L2.upd H8 p8 (.tup [V.ref p5,V.ref p6,V.ref p7])=H9 at s9 h9 ⊢
 refine ⟨by decide,fun r nr=>?_⟩
 have sa:=zao nr (.tup [V.ref p1,V.ref p4,V.ref p8])
 have ha:(L2.upd H9 r (.tup [V.ref p1,V.ref p4,V.ref p8])) r=some (.tup [V.ref p1,V.ref p4,V.ref p8]):=zaj
 generalize L2.upd H9 r (.tup [V.ref p1,V.ref p4,V.ref p8])=Ha at sa ha ⊢
 have S9:=s8.trans (s9.trans sa)
 exact q r p1 p4 p8 p5 p6 p7 Ha (s1.trans (S5.trans (s6.trans (s7.trans S9)))) ha (S9 _ _ (s7 _ _ (s6 _ _ (s5 _ _ (s4 _ _ (s3 _ _ h2)))))) (sa _ _ h9) (S9 _ _ (s7 _ _ h6)) (S9 _ _ h7) ((s1.trans S5).free n5)
theorem zd9:zay ["boxes","ones"] ["boxes"] (zah zcu):=⟨rfl,rfl,rfl,by decide +kernel,rfl,by decide +kernel,by decide +kernel⟩
theorem zgi (T:Txt K mg a):zb0 P w K mg base CX0 1 a.f_sure_answer a.d_sure_answer ["boxes"] zm7:=by
 refine T.F_sure_answer.ok zd9 (fun vs H Q E h=>?_) (fun cdv A outer s H vs Q E hr h=>?_)
 ·obtain ⟨l,ts,rfl,hl,l6,q⟩:=h
  rfl
 obtain ⟨l,ts,rfl,hl,l6,q⟩:=h
 exact ⟨zdk K,(zaf (zbR (i:=1) zd9.nd rfl rfl (sc:=zah zcu) (N:=["boxes","ones"]) (Nc:=["box"]) (cap:=[none]) rfl rfl rfl (.of (by decide +kernel)) (zbe (pv 0)) (fun _ _ _ _=>(zam (i:=0) (show List.Nodup (["box"]:List Str) from by decide) rfl (Or.inl rfl))) (fun _ _ _ _=>zbb) (fun _ _ _ _=>zag))
 (zal (zaK (zbk (zaa (zbk (zaa zag (zaa zag zad))) (zaa (zb9 (zaa (zbk (zaa (zdC zcc rfl T.z_list zcd (zaa (pv 1) zad)) (zaa zag zad))) zad)) (zaa (zbk (zaa (zdC zcc rfl T.z_list zcd (zaa (pv 1) zad)) (zaa (zbk (zaa zag (zaa zag zad))) (zaa (zdC zcc rfl T.z_list zcd (zaa (pv 1) zad)) zad)))) zad))))))),
  zgf hl l6 q⟩
def zhp (bs:List Box) (Ws ms:List Int):Rat:=(List.zipWith (fun (w:Int) (c:Rat)=>(w:Rat)*c) Ws (zfs bs ms)).sum
structure Pap (bs:List Box) (bud:Int) (V:Rat) (Ws:List Int) (P:Rat):Prop where
 len:Ws.length=bs.length
 w0:∀ w∈Ws,0≤w
 wp:0<Ws.sum
 wb:∀ w∈Ws,Bd 1600 w
 p0:0≤P
 pb:Bq 1600 P
 vb:Bq 1200 V
 hi:∀ ms:List Int,ms.length=bs.length→(∀ m∈ms,0≤m)→zhp bs Ws ms≤V*(Ws.sum:Rat)+P*(((zax bs ms).sum - bud:Int):Rat)
theorem zk7:∀ (bs:List Box) (ns ms:List Int),(∀ b∈bs,GB b)→(∀ n∈ns,0≤n)→(∀ m∈ms,0≤m)→Gn bs ns→ns.length=bs.length→ms.length=bs.length →
  (List.zipWith (fun x y:Rat=>x*y) (wqs bs ns) (zfs bs ms)).sum≤(zdY bs ns).sum+(((zax bs ms).sum - (zax bs ns).sum:Int):Rat)
 | [],_,_,_,_,_,_,_,_=>by
  simp only [wqs,zfs,zdY,zax,List.zipWith_nil_left,List.sum_nil]
  rw [show ((0 - 0:Int):Rat)=0 from rfl]
  grind
 | _::_,[],_,_,_,_,_,h,_=>by cases h
 | _::_,_::_,[],_,_,_,_,_,h=>by cases h
 | b::bs,n::ns,m::ms,gb,n0,m0,G,l1,l2=>by
  have ih:=zk7 bs ns ms (fun x hx=>gb x (List.mem_cons_of_mem _ hx)) (fun x hx=>n0 x (List.mem_cons_of_mem _ hx)) (fun x hx=>m0 x (List.mem_cons_of_mem _ hx)) (fun i b' n' e1 e2=>G (i+1) b' n' e1 e2) (Nat.succ.inj l1) (Nat.succ.inj l2)
  have t:=zot (gb b List.mem_cons_self) (n0 n List.mem_cons_self) (m0 m List.mem_cons_self) (G 0 b n rfl rfl)
  show wq b n*chq b m+(List.zipWith (fun x y:Rat=>x*y) (wqs bs ns) (zfs bs ms)).sum≤(wq b n*chq b n+(zdY bs ns).sum)+(((b.1*m+(zax bs ms).sum) - (b.1*n+(zax bs ns).sum):Int):Rat)
  have e:(((b.1*m+(zax bs ms).sum) - (b.1*n+(zax bs ns).sum):Int):Rat)=(b.1:Rat)*((m:Rat) - (n:Rat))+(((zax bs ms).sum - (zax bs ns).sum:Int):Rat):=by
   rw [Rat.intCast_sub,Rat.intCast_sub,Rat.intCast_add,Rat.intCast_add,Rat.intCast_mul,Rat.intCast_mul]
   grind
  rw [e]
  replace t:wq b n*(chq b m - chq b n)≤(b.1:Rat)*((m:Rat) - (n:Rat)):=t
  have e2:wq b n*(chq b m - chq b n)=wq b n*chq b m - wq b n*chq b n:=by grind
  rw [e2] at t
  generalize (List.zipWith (fun x y:Rat=>x*y) (wqs bs ns) (zfs bs ms)).sum=A at ih ⊢
  generalize (((zax bs ms).sum - (zax bs ns).sum:Int):Rat)=C at ih ⊢
  generalize (zdY bs ns).sum=D at ih ⊢
  generalize (b.1:Rat)*((m:Rat) - (n:Rat))=E at t ⊢
  generalize wq b n*chq b m=F at t ⊢
  generalize wq b n*chq b n=G' at t ⊢
  grind
theorem zoF.sums {P:Rat}:∀ {bs:List Box} {ns Ws:List Int},(∀ (i:Nat) b n w,bs[i]?=some b→ns[i]?=some n→Ws[i]?=some w→(w:Rat)=wq b n*P)→ns.length=bs.length→Ws.length=bs.length →
  (Ws.sum:Rat)=(wqs bs ns).sum*P∧∀ ms:List Int,ms.length=bs.length→zhp bs Ws ms=(List.zipWith (fun x y:Rat=>x*y) (wqs bs ns) (zfs bs ms)).sum*P
 | [],[],[],_,_,_=>by
  refine ⟨?_,fun ms _=>?_⟩
  ·show ((0:Int):Rat)=0*P
   grind
  ·simp only [zhp,wqs,zfs,List.zipWith_nil_left,List.sum_nil]
   grind
 | [],_::_,_,_,h,_=>by cases h
 | [],_,_::_,_,_,h=>by cases h
 | _::_,[],_,_,h,_=>by cases h
 | _::_,_::_,[],_,_,h=>by cases h
 | b::bs,n::ns,w::Ws,h,l1,l2=>by
  obtain ⟨z1,z2⟩:=zoF.sums (P:=P) (bs:=bs) (ns:=ns) (Ws:=Ws) (fun i b' n' w' e1 e2 e3=>h (i+1) b' n' w' e1 e2 e3) (Nat.succ.inj l1) (Nat.succ.inj l2)
  have h0:=h 0 b n w rfl rfl rfl
  refine ⟨?_,fun ms lm=>?_⟩
  ·show (((w+Ws.sum:Int)):Rat)=(wq b n+(wqs bs ns).sum)*P
   rw [Rat.intCast_add,z1,h0]
   grind
  ·cases ms with
   | nil=>cases lm
   | cons m ms =>
    have z:=z2 ms (Nat.succ.inj lm)
    show (w:Rat)*chq b m+zhp bs Ws ms=(wq b n*chq b m+(List.zipWith (fun x y:Rat=>x*y) (wqs bs ns) (zfs bs ms)).sum)*P
    rw [z,h0]
    grind
theorem Pap.of {bs:List Box} {ns Ws:List Int} {bud:Int} {P:Rat} (gb:∀ b∈bs,GB b) (l1:1≤bs.length) (l3:bs.length≤3) (d1:bud≤60) (L:Lev bs ns bud (zfk bs ns bud)) (PW:zoF bs ns Ws P):Pap bs bud (zfk bs ns bud) Ws P:=by
 obtain ⟨e1,e2⟩:=zoF.sums PW.eq L.len PW.len
 have W:=zeR gb L.gn (zgt l1 L.len)
 have Wp:(0:Rat)<(Ws.sum:Rat):=by rw [e1];exact Rat.mul_pos W PW.p0
 refine ⟨PW.len,fun w hw=>?_,by exact_mod_cast Wp,PW.wb,Rat.le_of_lt PW.p0,PW.pb,zkC L gb l1 l3 d1,fun ms lm m0=>?_⟩
 ·obtain ⟨i,ei⟩:=List.getElem?_of_mem hw
  have li:=(List.getElem?_eq_some_iff.mp ei).1
  have hb:bs[i]?=some (bs[i]'(by rw [← PW.len];exact li)):=List.getElem?_eq_getElem _
  have hn:ns[i]?=some (ns[i]'(by rw [L.len,← PW.len];exact li)):=List.getElem?_eq_getElem _
  have e:=PW.eq i _ _ w hb hn ei
  have p:=Rat.mul_pos (zju (gb _ (zav hb)) (L.gn i _ _ hb hn)) PW.p0
  rw [← e] at p
  have:(0:Int)<w:=by exact_mod_cast p
  omega
 ·rw [e2 ms lm,e1]
  have c:=zk7 bs ns ms gb L.n0 m0 L.gn L.len lm
  have v:zfk bs ns bud*(wqs bs ns).sum=(zdY bs ns).sum+((bud - (zax bs ns).sum:Int):Rat):=by
   unfold zfk
   generalize (wqs bs ns).sum=S at W ⊢
   have:S≠0:=by grind
   grind
  have m:=Rat.mul_le_mul_of_nonneg_right c (Rat.le_of_lt PW.p0)
  rw [Rat.intCast_sub] at m v ⊢
  generalize (List.zipWith (fun x y:Rat=>x*y) (wqs bs ns) (zfs bs ms)).sum=A at m ⊢
  generalize zfk bs ns bud=V at v ⊢
  generalize (wqs bs ns).sum=S at v ⊢
  have e3:V*(S*P)=V*S*P:=by grind
  rw [e3,v]
  grind
theorem zjT {b:Box} (g:GB b) (n:Int):chq b n≤1:=by
 obtain ⟨p0,p1,_⟩:=zhg g
 have h:=(za1 (Rat.le_of_lt p0) p1 n.toNat).2.1
 rw [zdN g]
 grind
theorem zg1:∀ ts:List Addr,(ts.map fun _=>(1:Int)).sum=(ts.length:Int)
 | []=>rfl
 | t::ts=>by
  rw [List.map_cons,List.sum_cons,zg1 ts,List.length_cons]
  omega
theorem zkV:∀ (bs:List Box) (ts:List Addr) (ms:List Int),(∀ b∈bs,GB b)→ts.length=bs.length→ms.length=bs.length→zhp bs (ts.map fun _=>(1:Int)) ms≤((ts.length:Int):Rat)
 | [],[],_,_,_,_=>by
  simp only [zhp,zfs,List.zipWith_nil_left,List.map_nil,List.sum_nil]
  exact Rat.le_refl
 | [],_::_,_,_,h,_=>by cases h
 | _::_,[],_,_,h,_=>by cases h
 | _::_,_::_,[],_,_,h=>by cases h
 | b::bs,t::ts,m::ms,gb,l1,l2=>by
  have ih:=zkV bs ts ms (fun x hx=>gb x (List.mem_cons_of_mem _ hx)) (Nat.succ.inj l1) (Nat.succ.inj l2)
  have c:=zjT (gb b List.mem_cons_self) m
  show ((1:Int):Rat)*chq b m+zhp bs (ts.map fun _=>(1:Int)) ms≤(((ts.length+1:Nat):Int):Rat)
  have e:(((ts.length+1:Nat):Int):Rat)=((ts.length:Int):Rat)+1:=by
   rw [show ((ts.length+1:Nat):Int)=(ts.length:Int)+1 by omega,Rat.intCast_add]
   rfl
  rw [e]
  have e1:((1:Int):Rat)*chq b m=chq b m:=by
   rw [show ((1:Int):Rat)=1 from rfl]
   grind
  rw [e1]
  grind
theorem Pap.sure {bs:List Box} {ts:List Addr} {bud:Int} (gb:∀ b∈bs,GB b) (lt:ts.length=bs.length) (l1:1≤bs.length):Pap bs bud 1 (ts.map fun _=>(1:Int)) 0:=by
 have one:∀ w∈(ts.map fun _=>(1:Int)),w=1:=fun w hw=>by
  obtain ⟨_,_,e⟩:=List.mem_map.mp hw
  exact e.symm
 refine ⟨by rw [List.length_map,lt],fun w hw=>by rw [one w hw];decide,by rw [zg1];omega,fun w hw=>by rw [one w hw];show (1:Nat)<2 ^ 1600;exact Nat.one_lt_two_pow (by decide),Rat.le_refl,⟨by show (0:Nat)<2 ^ 1600;exact Nat.pow_pos (by decide),by show (1:Nat)<2 ^ 1600;exact Nat.one_lt_two_pow (by decide)⟩,⟨by show (1:Nat)<2 ^ 1200;exact Nat.one_lt_two_pow (by decide),by show (1:Nat)<2 ^ 1200;exact Nat.one_lt_two_pow (by decide)⟩,fun ms lm m0=>?_⟩
 have h:=zkV bs ts ms gb lt lm
 rw [zg1]
 generalize (((zax bs ms).sum - bud:Int):Rat)=C
 grind
def zdo:Sp:=fun vs H Q _=>∃ (l:Addr) (ts:List Addr) (bs:List Box) (bud:Int),vs=[.ref l,.int bud]∧H l=some (.lst (ts.map V.ref))∧Tps bx H ts bs∧(∀ b∈bs,GB b)∧1≤bs.length∧bs.length≤3∧0≤bud∧bud≤60 ∧
 ∀ (r wr mr pr wl pp cl:Addr) (W P:Rat) (Ws:List Int) (H':Hp),zaO H H'→H' r=some (.tup [.ref wr,.ref mr,.ref pr])→H' wr=some (.tup (fr W))→H' pr=some (.tup [.ref wl,.ref pp,.ref cl])→H' wl=some (.lst (Ws.map V.int))→H' pp=some (.tup (fr P))→Pap bs bud W Ws P→H wl=none→Q (.ref r) H'
def zds (K:PySem.W.Frag):TS :=
 (zaR (zaZ (zau zgz [] E0 (zab (zac 0) (zab (zac 1) zan))) (zcA K 2 (zaz (zae 2) (zaz (zae 3) zcy))))
 (zbo (zcJ (zab (zac 3) (zab (zau ziG [] E0 (zab (zac 0) (zab (zac 2) (zab (zac 3) zan)))) (zab (zau zfC [] E0 (zab (zac 0) (zab (zac 2) zan))) zan))))))
theorem zbz (K:PySem.W.Frag) (D:zch) (σ:St) (H:Hp):zds K D σ H=(zaR (zaZ (zau zgz [] E0 (zab (zac 0) (zab (zac 1) zan))) (zcA K 2 (zaz (zae 2) (zaz (zae 3) zcy))))
 (zbo (zcJ (zab (zac 3) (zab (zau ziG [] E0 (zab (zac 0) (zab (zac 2) (zab (zac 3) zan)))) (zab (zau zfC [] E0 (zab (zac 0) (zab (zac 2) zan))) zan)))))) D σ H:=rfl
def zcQ (K:PySem.W.Frag):TS :=
 (zaR (zeB (zau znw [] E0 (zab (zac 0) zan)))
 (zaR (zeB (zau zff [] E0 (zab (zac 1) zan)))
 (zaR (zf5 (zdt (tB (zau zjv [] E0 (zab (zac 0) (zab (zac 1) zan)))) (zbo (zau zm7 [] E0 (zab (zac 0) zan))) zbF))
 (zds K))))
theorem zfR {l:Addr} {ts:List Addr} {bs:List Box} {bud:Int} (hl:H l=some (.lst (ts.map V.ref))) (T:Tps bx H ts bs) (gb:∀ b∈bs,GB b) (l1:1≤bs.length) (l3:bs.length≤3) (d0:0≤bud) (d1:bud≤60)
  (q:∀ (r wr mr pr wl pp cl:Addr) (W P:Rat) (Ws:List Int) (H':Hp),zaO H H'→H' r=some (.tup [.ref wr,.ref mr,.ref pr])→H' wr=some (.tup (fr W))→H' pr=some (.tup [.ref wl,.ref pp,.ref cl])→H' wl=some (.lst (Ws.map V.int))→H' pp=some (.tup (fr P))→Pap bs bud W Ws P→H wl=none→Q (.ref r) H') :
  zcQ K { nx:=fun _ H'=>Q .non H',rt:=Q } (L2.start ["boxes","budget","counts","worth"] [.ref l,.int bud]) H:=by
 unfold zcQ
 simp_all only [zbz,zac]
 refine ⟨l,ts,bs,rfl,hl,T,gb,l1,by omega,fun H1 s1=>?_⟩
 refine ⟨bud,rfl,d0,d1,?_⟩
 have hl1:=s1 _ _ hl
 have T1:=T.same s1
 refine ⟨fun σ H'=>zaO H1 H'∧((∀ b∈bs,b.2.1=b.2.2)→bud<(bs.map fun b=>b.1).sum)∧σ=[some (.ref l),some (.int bud),none,none],?_,?_⟩
 ·simp_all only [zbz,zac]
  refine ⟨l,ts,bs,bud,rfl,hl1,T1,by omega,fun c H2 s2 hc=>⟨c,rfl,?_⟩⟩
  cases c with
  | true =>
   refine zn5 ⟨l,ts,rfl,s2 _ _ hl1,by have:=T.1;omega,fun r wr mr pr wl pp cl H3 s3 a1 a2 a3 a4 a5 a6=>?_⟩
   exact q r wr mr pr wl pp cl _ _ _ H3 (s1.trans (s2.trans s3)) a1 a2 a3 a4 a5 (Pap.sure gb T.1 l1) ((s1.trans s2).free a6)
  | false =>
   refine iteF ⟨s2,fun h=>?_⟩
   refine Classical.byContradiction fun z=>?_
   exact absurd (hc.mpr ⟨h,by omega⟩) (by decide)
 ·rintro σ H2 ⟨s2,hs,rfl⟩
  simp_all only [zbz,zac]
  refine ⟨l,ts,bs,bud,rfl,s2 _ _ hl1,T1.same s2,gb,l1,l3,d0,d1,hs,fun r pl wr ns H3 s3 h3 B L hw=>?_⟩
  simp_all only [zbz,zac]
  refine ⟨_,SqT.of h3,rfl,_,_,rfl,_,_,rfl,rfl,?_⟩
  refine ⟨l,pl,wr,ts,bs,ns,_,rfl,B,L.gn,hw,zkC L gb l1 l3 d1,l3,fun mr H4 s4=>?_⟩
  refine ⟨l,pl,ts,bs,ns,rfl,B.same s4,L.gn,l3,fun pr wl pp cl Ws P H5 s5 a1 a2 a3 a4 PW a6=>?_⟩
  refine ⟨by decide,fun r6 n6=>?_⟩
  have s6:=zao n6 (.tup [V.ref wr,V.ref mr,V.ref pr])
  have h6:(L2.upd H5 r6 (.tup [V.ref wr,V.ref mr,V.ref pr])) r6=some (.tup [V.ref wr,V.ref mr,V.ref pr]):=zaj
  generalize L2.upd H5 r6 (.tup [V.ref wr,V.ref mr,V.ref pr])=H6 at s6 h6 ⊢
  exact q r6 wr mr pr wl pp cl _ _ _ H6 (s1.trans (s2.trans (s3.trans (s4.trans (s5.trans s6))))) h6 (s6 _ _ (s5 _ _ (s4 _ _ hw))) (s6 _ _ a1) (s6 _ _ a2) (s6 _ _ a3) (Pap.of gb l1 l3 d1 L PW) ((s1.trans (s2.trans (s3.trans s4))).free a6)
theorem zcC:zay ["boxes","budget","counts","worth"] ["boxes","budget"] (zah zcT):=⟨rfl,rfl,rfl,by decide +kernel,rfl,by decide +kernel,by decide +kernel⟩
theorem zfU (T:Txt K mg a):zb0 P w K mg base CX0 7 a.f_budget_worth a.d_budget_worth ["boxes","budget"] zdo:=by
 have G_counts_and_worth:=zed (P:=P) (w:=w) (base:=base) T
 have G_is_sure:=zjF (P:=P) (w:=w) (base:=base) T
 have G_look_boxes:=zgZ (P:=P) (w:=w) (base:=base) T
 have G_look_budget:=zf6 (P:=P) (w:=w) (base:=base) T
 have G_mix_of:=zln (P:=P) (w:=w) (base:=base) T
 have G_paper_of:=zin (P:=P) (w:=w) (base:=base) T
 have G_sure_answer:=zgi (P:=P) (w:=w) (base:=base) T
 refine T.F_budget_worth.ok zcC (fun vs H Q E h=>?_) (fun cdv A outer s H vs Q E hr h=>?_)
 ·obtain ⟨l,ts,bs,bud,rfl,hl,T',gb,l1,l3,d0,d1,q⟩:=h
  rfl
 obtain ⟨l,ts,bs,bud,rfl,hl,T',gb,l1,l3,d0,d1,q⟩:=h
 exact ⟨zcQ K,(zaf (zej (zak G_look_boxes (hr.mono (by decide)) rfl T.m_look_boxes T.F_look_boxes.kp T.b_look_boxes .nil zaC (zaa (pv 0) zad)))
 (zaf (zej (zak G_look_budget (hr.mono (by decide)) rfl T.m_look_budget T.F_look_budget.kp T.b_look_budget .nil zaC (zaa (pv 1) zad)))
 (zaf (zcI (zc3 (zb1 (zak G_is_sure (hr.mono (by decide)) rfl T.m_is_sure T.F_is_sure.kp T.b_is_sure .nil zaC (zaa (pv 0) (zaa (pv 1) zad)))) (zal (zaK (zak G_sure_answer (hr.mono (by decide)) rfl T.m_sure_answer T.F_sure_answer.kp T.b_sure_answer .nil zaC (zaa (pv 0) zad)))) zbq))
 (zaf (zdq (zak G_counts_and_worth (hr.mono (by decide)) rfl T.m_counts_and_worth T.F_counts_and_worth.kp T.b_counts_and_worth .nil zaC (zaa (pv 0) (zaa (pv 1) zad))) (zbm rfl (zat (zam (i:=2) zcC.nd rfl (Or.inl rfl)) (zat (zam (i:=3) zcC.nd rfl (Or.inl rfl)) za3))))
 (zal (zaK (zbk (zaa (pv 3) (zaa (zak G_mix_of (hr.mono (by decide)) rfl T.m_mix_of T.F_mix_of.kp T.b_mix_of .nil zaC (zaa (pv 0) (zaa (pv 2) (zaa (pv 3) zad)))) (zaa (zak G_paper_of (hr.mono (by decide)) rfl T.m_paper_of T.F_paper_of.kp T.b_paper_of .nil zaC (zaa (pv 0) (zaa (pv 2) zad))) zad)))))))))),
  zfR hl T' gb l1 l3 d0 d1 q⟩
def zeV:TS :=
 (zaR (zaZ (tOp (rI (fun _ j=>0<j) fun i j=>.int (i % j)) (tOp (rI IntMulOk fun i j=>.int (i*j)) (tOp (rI0 fun i j=>.int (i+j)) (tOp (rI0 fun i j=>.int (i+j)) (tOp (rI IntMulOk fun i j=>.int (i*j)) (zac 0) (zac 0)) (tOp (rI IntMulOk fun i j=>.int (i*j)) (zac 1) (zac 0))) (tOp (rI IntMulOk fun i j=>.int (i*j)) (tOp (rI IntMulOk fun i j=>.int (i*j)) (tC (.int 7)) (zac 1)) (zac 1))) (tC (.int 1103515245))) (tC (.int 2147483629))) (zae 2))
 (zbo (tOp (rI (fun _ j=>0<j) fun i j=>.int (i % j)) (tOp (rI IntMulOk fun i j=>.int (i*j)) (zac 2) (zac 2)) (tC (.int 2147483587)))))
theorem zil {n k:Int} (hn:n.natAbs<2 ^ 2 ^ 20) (k0:0≤k) (k1:k≤100000) (q:∀ r:Int,0≤r→r<2147483587→Q (.int r) H) :
  zeV { nx:=fun _ H'=>Q .non H',rt:=Q } (L2.start ["_law_number","_law_k","_law_mixed"] [.int n,.int k]) H:=by
 unfold zeV
 simp_all only [zac]
 refine ⟨zf4 1048576 1048576 hn hn,zqB (by omega) (by omega),ziO (by omega) (by omega),ziO (by omega) (by omega),ziO (by decide) (by decide),by decide,?_⟩
 have b3:=Int.emod_nonneg ((n*n+k*n+7*k*k)*1103515245) (show (2147483629:Int)≠0 by decide)
 have b4:=Int.emod_lt_of_pos ((n*n+k*n+7*k*k)*1103515245) (show (0:Int)<2147483629 by decide)
 generalize (n*n+k*n+7*k*k)*1103515245 % 2147483629=x at b3 b4 ⊢
 refine ⟨ziO (by omega) (by omega),by decide,q _ (Int.emod_nonneg _ (by decide)) (Int.emod_lt_of_pos _ (by decide))⟩
theorem zfE:zay ["_law_number","_law_k","_law_mixed"] ["_law_number","_law_k"] (zah zeY):=⟨rfl,rfl,rfl,by decide +kernel,rfl,by decide +kernel,by decide +kernel⟩
theorem zio (T:Txt K mg a):zb0 P w K mg base CX0 1 a.f__law_mix a.d__law_mix ["_law_number","_law_k"] ziN:=by
 refine T.F__law_mix.ok zfE (fun vs H Q E h=>?_) (fun cdv A outer s H vs Q E hr h=>?_)
 ·obtain ⟨n,k,rfl,hn,k0,k1,q⟩:=h
  rfl
 obtain ⟨n,k,rfl,hn,k0,k1,q⟩:=h
 exact ⟨zeV,(zaf (zaE (i:=2) zfE.nd rfl (Or.inl rfl) (zaA zhX (zaA zaL (zaA zcp (zaA zcp (zaA zaL (pv 0) (pv 0)) (zaA zaL (pv 1) (pv 0))) (zaA zaL (zaA zaL zag (pv 1)) (pv 1))) zag) zag))
 (zal (zaK (zaA zhX (zaA zaL (pv 2) (pv 2)) zag)))),
  zil hn k0 k1 q⟩
def zdr (K:PySem.W.Frag):TS :=
 (zdt (zbE (tOp (rI0 fun i j=>.bl (decide (i<j))) (zac 1) (tCB (fun xs H Q=>∃ p ys,xs=[.ref p]∧(SqL K H p ys∨SqT K H p ys)∧Q (.int ys.length) H) (zab (zac 0) zan)))) (zbo (tOp (zcX K) (zac 0) (zac 1))) zbF)
theorem zcE (K:PySem.W.Frag) (D:zch) (σ:St) (H:Hp):zdr K D σ H=(zdt (zbE (tOp (rI0 fun i j=>.bl (decide (i<j))) (zac 1) (tCB (fun xs H Q=>∃ p ys,xs=[.ref p]∧(SqL K H p ys∨SqT K H p ys)∧Q (.int ys.length) H) (zab (zac 0) zan)))) (zbo (tOp (zcX K) (zac 0) (zac 1))) zbF) D σ H:=rfl
def zcS (K:PySem.W.Frag):TS :=
 (zaR (zf5 (zdr K))
 (zbo (tC (.int 0))))
theorem zfK {p:Addr} {x:Int} (hp:H p=some (.lst [.int x])) (q:Q (.int x) H) :
  zcS K { nx:=fun _ H'=>Q .non H',rt:=Q } (L2.start ["_law_script","_law_k"] [.ref p,.int 0]) H:=by
 unfold zcS
 simp_all only [zcE,zac]
 refine ⟨fun _ _=>False,?_,fun _ _ z=>z.elim⟩
 simp_all only [zcE,zac]
 refine ⟨_,.inl (SqL.of hp),?_⟩
 exact zez (fun _=>⟨_,SqL.of hp,_,rfl,q⟩) (fun z=>absurd (show (0:Int)<1 by decide) z)
theorem zfN:zay ["_law_script","_law_k"] ["_law_script","_law_k"] (zah zcR):=⟨rfl,rfl,rfl,by decide +kernel,rfl,by decide +kernel,by decide +kernel⟩
theorem zfB (T:Txt K mg a):zb0 P w K mg base CX0 1 a.f__law_cell_at a.d__law_cell_at ["_law_script","_law_k"] (zjE K):=by
 refine T.F__law_cell_at.ok zfN (fun vs H Q E h=>?_) (fun cdv A outer s H vs Q E hr h=>?_)
 ·obtain ⟨p,x,rfl,hp,q⟩:=h
  rfl
 obtain ⟨p,x,rfl,hp,q⟩:=h
 exact ⟨zcS K,(zaf (zcI (zc3 (zbH zhT (pv 1) (zaJ za0 rfl T.z_len PySem.boot_len (zaa (pv 0) zad)) (zbD _)) (zal (zaK (zaN zbj (pv 0) (pv 1) (fun _ _=>rfl)))) zbq))
 (zal (zaK zag))),
  zfK hp q⟩
def zeE:TS :=
 (zbo (zeo (zab (tOp (rI0 fun i j=>.int (i - j)) (zac 2) (tOp (rI zpI fun i j=>.int (i ^ j.toNat)) (tC (.int 10)) (tC (.int 18)))) (zab (tC (.int 1)) (zab (tC (.int 0)) zan)))))
theorem zcj (D:zch) (σ:St) (H:Hp):zeE D σ H=(zbo (zeo (zab (tOp (rI0 fun i j=>.int (i - j)) (zac 2) (tOp (rI zpI fun i j=>.int (i ^ j.toNat)) (tC (.int 10)) (tC (.int 18)))) (zab (tC (.int 1)) (zab (tC (.int 0)) zan))))) D σ H:=rfl
def zeM:TS :=
 (zdt (zbE (tOp (rI0 fun i j=>.bl (decide (i<j))) (zac 2) (tOp (rI zpI fun i j=>.int (i ^ j.toNat)) (tC (.int 10)) (tC (.int 18))))) (zbo (zeo (zab (zac 2) (zab (tC (.int 0)) (zab (tC (.int 0)) zan))))) zbF)
theorem zcm (D:zch) (σ:St) (H:Hp):zeM D σ H=(zdt (zbE (tOp (rI0 fun i j=>.bl (decide (i<j))) (zac 2) (tOp (rI zpI fun i j=>.int (i ^ j.toNat)) (tC (.int 10)) (tC (.int 18))))) (zbo (zeo (zab (zac 2) (zab (tC (.int 0)) (zab (tC (.int 0)) zan))))) zbF) D σ H:=rfl
def zeh (K:PySem.W.Frag):TS :=
 (zaR (zaZ (zau (zjE K) [] E0 (zab (zac 0) (zab (zac 1) zan))) (zae 2))
 (zaR (zf5 (zeM))
 (zeE)))
theorem zhU {p:Addr} {x:Int} (hp:H p=some (.lst [.int x])) (bx:x.natAbs<2 ^ 2 ^ 20) (q:∀ (l:Addr) (H':Hp),zaO H H'→H l=none→Drw H' l 0→Q (.ref l) H') :
  zeh K { nx:=fun _ H'=>Q .non H',rt:=Q } (L2.start ["_law_script","_law_k","_law_cell"] [.ref p,.int 0]) H:=by
 unfold zeh
 simp_all only [zcj,zcm,zac]
 refine ⟨p,x,rfl,hp,?_⟩
 refine ⟨fun σ H'=>H'=H∧1000000000000000000≤x∧σ=[some (.ref p),some (.int 0),some (.int x)],?_,?_⟩
 ·simp_all only [zcj,zcm,zac]
  refine ⟨zqD,zez (fun c=>⟨by decide,fun l hl=>?_⟩) (fun c=>by omega)⟩
  exact q l _ (zao hl _) hl ⟨⟨x,0,zaj,bx,.inl rfl⟩,by decide⟩
 ·rintro σ H1 ⟨rfl,c,rfl⟩
  simp_all only [zcj,zcm,zac]
  refine ⟨zqD,by decide,fun l hl=>?_⟩
  exact q l _ (zao hl _) hl ⟨⟨_,1,zaj,Nat.lt_of_le_of_lt (by omega) bx,.inr ⟨rfl,by omega⟩⟩,by decide⟩
theorem zfi:zay ["_law_script","_law_k","_law_cell"] ["_law_script","_law_k"] (zah zet):=⟨rfl,rfl,rfl,by decide +kernel,rfl,by decide +kernel,by decide +kernel⟩
theorem zhK (T:Txt K mg a):zb0 P w K mg base CX0 2 a.f__law_left a.d__law_left ["_law_script","_law_k"] (zlg K):=by
 have G__law_cell_at:=zfB (P:=P) (w:=w) (base:=base) T
 refine T.F__law_left.ok zfi (fun vs H Q E h=>?_) (fun cdv A outer s H vs Q E hr h=>?_)
 ·obtain ⟨p,x,rfl,hp,bx,q⟩:=h
  rfl
 obtain ⟨p,x,rfl,hp,bx,q⟩:=h
 exact ⟨zeh K,(zaf (zaE (i:=2) zfi.nd rfl (Or.inl rfl) (zak G__law_cell_at (hr.mono (by decide)) rfl T.m__law_cell_at T.F__law_cell_at.kp T.b__law_cell_at .nil zaC (zaa (pv 0) (zaa (pv 1) zad))))
 (zaf (zcI (zc3 (zbH zhT (pv 2) (zaA znq zag zag) (zbD _)) (zal (zaK (zb9 (zaa (pv 2) (zaa zag (zaa zag zad)))))) zbq))
 (zal (zaK (zb9 (zaa (zaA zcD (pv 2) (zaA znq zag zag)) (zaa zag (zaa zag zad)))))))),
  zhU hp bx q⟩
theorem logM {m:Int} (h0:0<m) (h1:m≤1000000000000000000000000000000):m.natAbs.log2<9000:=zfa 100 (by omega) (by omega)
def zeN (K:PySem.W.Frag):TS :=
 (zaR (zaZ (tOp (rI (fun _ j=>0<j) fun i j=>.int (i % j)) (tOp (zcX K) (zac 0) (tC (.int 0))) (zac 1)) (zae 3))
 (zaR (zaZ (tOp (rI (fun _ j=>0<j∧j.natAbs.log2<9000) fun i j=>.int (i / j)) (tOp (zcX K) (zac 0) (tC (.int 0))) (zac 1)) (zqo (zac 0) (tC (.int 0)) zj8))
 (zbo (zac 3))))
theorem zbQ (K:PySem.W.Frag) (D:zch) (σ:St) (H:Hp):zeN K D σ H=(zaR (zaZ (tOp (rI (fun _ j=>0<j) fun i j=>.int (i % j)) (tOp (zcX K) (zac 0) (tC (.int 0))) (zac 1)) (zae 3))
 (zaR (zaZ (tOp (rI (fun _ j=>0<j∧j.natAbs.log2<9000) fun i j=>.int (i / j)) (tOp (zcX K) (zac 0) (tC (.int 0))) (zac 1)) (zqo (zac 0) (tC (.int 0)) zj8))
 (zbo (zac 3)))) D σ H:=rfl
def zeC (K:PySem.W.Frag):TS :=
 (zdt (zbE (tOp rEq (tOp (zcX K) (zac 0) (tC (.int 1))) (tC (.int 0)))) (zaR (zaZ (zau ziN [] E0 (zab (tOp (zcX K) (zac 0) (tC (.int 0))) (zab (tOp (zcX K) (zac 0) (tC (.int 2))) zan))) (zae 2))
 (zbo (tOp (rI (fun _ j=>0<j) fun i j=>.int (i % j)) (tOp (rI (fun _ j=>0<j) fun i j=>.int (i % j)) (tOp (rI IntMulOk fun i j=>.int (i*j)) (zac 2) (tOp (rI0 fun i j=>.int (i+j)) (zac 2) (tC (.int 2)))) (tC (.int 2147483579))) (zac 1)))) zbF)
theorem zbP (K:PySem.W.Frag) (D:zch) (σ:St) (H:Hp):zeC K D σ H=(zdt (zbE (tOp rEq (tOp (zcX K) (zac 0) (tC (.int 1))) (tC (.int 0)))) (zaR (zaZ (zau ziN [] E0 (zab (tOp (zcX K) (zac 0) (tC (.int 0))) (zab (tOp (zcX K) (zac 0) (tC (.int 2))) zan))) (zae 2))
 (zbo (tOp (rI (fun _ j=>0<j) fun i j=>.int (i % j)) (tOp (rI (fun _ j=>0<j) fun i j=>.int (i % j)) (tOp (rI IntMulOk fun i j=>.int (i*j)) (zac 2) (tOp (rI0 fun i j=>.int (i+j)) (zac 2) (tC (.int 2)))) (tC (.int 2147483579))) (zac 1)))) zbF) D σ H:=rfl
def zeq (K:PySem.W.Frag):TS :=
 (zaR (zaZ (tOp (rI0 fun i j=>.int (i+j)) (tOp (zcX K) (zac 0) (tC (.int 2))) (tC (.int 1))) (zqo (zac 0) (tC (.int 2)) zj8))
 (zaR (zf5 (zeC K))
 (zeN K)))
theorem zhA {p:Addr} {c m:Int} (hP:Drw H p c) (c1:c<10000) (m0:0<m) (m1:m≤1000000000000000000000000000000)
  (q:∀ (r:Int) (H':Hp),0≤r→r<m→Off p p H'=Off p p H→Drw H' p (c+1)→Q (.int r) H') :
  zeq K { nx:=fun _ H'=>Q .non H',rt:=Q } (L2.start ["_law_left_here","_law_base","_law_mixed","_law_digit"] [.ref p,.int m]) H:=by
 unfold zeq
 obtain ⟨n,f,hp,bn,hf⟩:=hP.hp
 have c0:=hP.c0
 simp_all only [zbQ,zbP,zac]
 refine ⟨_,SqL.of hp,_,rfl,_,rfl,_,hp,2,rfl,?_⟩
 simp_all only [zbQ,zbP,zac]
 have hp2:(L2.upd H p (.lst [.int n,.int f,.int (c+1)])) p=some (.lst [.int n,.int f,.int (c+1)]):=zaj
 have o2:Off p p (L2.upd H p (.lst [.int n,.int f,.int (c+1)]))=Off p p H:=zql
 generalize L2.upd H p (.lst [.int n,.int f,.int (c+1)])=G at hp2 o2 ⊢
 refine ⟨fun σ H'=>H'=G∧f=1∧0≤n∧σ=[some (.ref p),some (.int m),none,none],?_,?_⟩
 ·simp_all only [zbQ,zbP,zac]
  refine ⟨_,SqL.of hp2,_,rfl,rfl,zez (fun z=>?_) (fun z=>?_)⟩
  ·refine ⟨_,SqL.of hp2,_,rfl,_,SqL.of hp2,_,rfl,n,c+1,rfl,bn,by omega,by omega,fun x x0 x1=>?_⟩
   refine ⟨x,rfl,x,rfl,ziO (by omega) (by omega),by decide,m0,?_⟩
   exact q _ _ (Int.emod_nonneg _ (by omega)) (Int.emod_lt_of_pos _ m0) o2 ⟨⟨n,f,hp2,bn,hf⟩,by omega⟩
  ·rcases hf with rfl | h
   ·exact absurd rfl z
   ·exact h
 ·rintro σ H' ⟨rfl,rfl,n0,rfl⟩
  simp_all only [zbQ,zbP,zac]
  refine ⟨_,SqL.of hp2,_,rfl,n,rfl,m0,_,SqL.of hp2,_,rfl,n,rfl,m0,logM m0 m1,_,hp2,0,rfl,?_⟩
  have d0:0≤n / m:=Int.ediv_nonneg n0 (by omega)
  have d1:n / m≤n:=Int.ediv_le_self m n0
  exact q _ _ (Int.emod_nonneg _ (by omega)) (Int.emod_lt_of_pos _ m0) (zql.trans o2) ⟨⟨n / m,1,zaj,Nat.lt_of_le_of_lt (by omega) bn,.inr ⟨rfl,d0⟩⟩,by omega⟩
theorem zdH:zay ["_law_left_here","_law_base","_law_mixed","_law_digit"] ["_law_left_here","_law_base"] (zah zel):=⟨rfl,rfl,rfl,by decide +kernel,rfl,by decide +kernel,by decide +kernel⟩
theorem zdz (T:Txt K mg a):zb0 P w K mg base CX0 2 a.f__law_draw a.d__law_draw ["_law_left_here","_law_base"] za2:=by
 have G__law_mix:=zio (P:=P) (w:=w) (base:=base) T
 refine T.F__law_draw.ok zdH (fun vs H Q E h=>?_) (fun cdv A outer s H vs Q E hr h=>?_)
 ·obtain ⟨p,c,m,rfl,hP,c1,m0,m1,q⟩:=h
  rfl
 obtain ⟨p,c,m,rfl,hP,c1,m0,m1,q⟩:=h
 exact ⟨zeq K,(zaf (zdq (zaA zcp (zaN zbj (pv 0) zag (fun _ _=>rfl)) zag) (znn (pv 0) zag zjd))
 (zaf (zcI (zc3 (zbH zjU (zaN zbj (pv 0) zag (fun _ _=>rfl)) zag (zbD _)) (zaf (zaE (i:=2) zdH.nd rfl (Or.inl rfl) (zak G__law_mix (hr.mono (by decide)) rfl T.m__law_mix T.F__law_mix.kp T.b__law_mix .nil zaC (zaa (zaN zbj (pv 0) zag (fun _ _=>rfl)) (zaa (zaN zbj (pv 0) zag (fun _ _=>rfl)) zad))))
 (zal (zaK (zaA zhX (zaA zhX (zaA zaL (pv 2) (zaA zcp (pv 2) zag)) zag) (pv 1))))) zbq))
 (zaf (zaE (i:=3) zdH.nd rfl (Or.inl rfl) (zaA zhX (zaN zbj (pv 0) zag (fun _ _=>rfl)) (pv 1)))
 (zaf (zdq (zaA zmm (zaN zbj (pv 0) zag (fun _ _=>rfl)) (pv 1)) (znn (pv 0) zag zjd))
 (zal (zaK (pv 3))))))),
  zhA hP c1 m0 m1 q⟩
theorem at2 {r x y:Int} (h0:0≤r) (h1:r<2):∃ v:Int,atI [V.int x,V.int y] r=some (.int v)∧(v=x∨v=y):=by
 have:r=0∨r=1:=by omega
 rcases this with rfl | rfl
 ·exact ⟨x,rfl,.inl rfl⟩
 ·exact ⟨y,rfl,.inr rfl⟩
theorem at3 {r x y z:Int} (h0:0≤r) (h1:r<3):∃ v:Int,atI [V.int x,V.int y,V.int z] r=some (.int v)∧(v=x∨v=y∨v=z):=by
 have:r=0∨r=1∨r=2:=by omega
 rcases this with rfl | rfl | rfl
 ·exact ⟨x,rfl,.inl rfl⟩
 ·exact ⟨y,rfl,.inr (.inl rfl)⟩
 ·exact ⟨z,rfl,.inr (.inr rfl)⟩
def zfL:Sp:=fun vs H Q _=>∃ (p:Addr) (c:Int),vs=[.ref p,.int 3]∧Drw H p c∧c<1000∧∀ (l:Addr) (ts:List Addr) (bs:List Box) (c':Int) (H':Hp),zaO (Off p p H) (Off p p H')→Drw H' p c'→c'≤c+16→Off p p H' l=some (.lst (ts.map V.ref))→Tps bx (Off p p H') ts bs→(∀ b∈bs,GB b)→1≤bs.length→bs.length≤3→Q (.ref l) H'
def zd3 (K:PySem.W.Frag):TS :=
 (zaR (zaZ (tOp (rI0 fun i j=>.int (i+j)) (tC (.int 1)) (zau za2 [] E0 (zab (zac 0) (zab (tOp (zcX K) (zeo (zab (tC (.int 1)) (zab (tC (.int 4)) (zab (tC (.int 60)) zan)))) (zau za2 [] E0 (zab (zac 0) (zab (tC (.int 3)) zan)))) zan)))) (zae 4))
 (zaR (zaZ (tOp (rI0 fun i j=>.int (i+j)) (tC (.int 1)) (zau za2 [] E0 (zab (zac 0) (zab (tOp (zcX K) (zeo (zab (tC (.int 3)) (zab (tC (.int 50)) zan))) (zau za2 [] E0 (zab (zac 0) (zab (tC (.int 2)) zan)))) zan)))) (zae 5))
 (zeB (tBM K "list" zbf (zac 2) (zab (zcJ (zab (zac 4) (zab (tOp (rI0 fun i j=>.int (i+j)) (tC (.int 1)) (zau za2 [] E0 (zab (zac 0) (zab (zac 5) zan)))) (zab (zac 5) zan)))) zan)))))
theorem zaU (K:PySem.W.Frag) (D:zch) (σ:St) (H:Hp):zd3 K D σ H=(zaR (zaZ (tOp (rI0 fun i j=>.int (i+j)) (tC (.int 1)) (zau za2 [] E0 (zab (zac 0) (zab (tOp (zcX K) (zeo (zab (tC (.int 1)) (zab (tC (.int 4)) (zab (tC (.int 60)) zan)))) (zau za2 [] E0 (zab (zac 0) (zab (tC (.int 3)) zan)))) zan)))) (zae 4))
 (zaR (zaZ (tOp (rI0 fun i j=>.int (i+j)) (tC (.int 1)) (zau za2 [] E0 (zab (zac 0) (zab (tOp (zcX K) (zeo (zab (tC (.int 3)) (zab (tC (.int 50)) zan))) (zau za2 [] E0 (zab (zac 0) (zab (tC (.int 2)) zan)))) zan)))) (zae 5))
 (zeB (tBM K "list" zbf (zac 2) (zab (zcJ (zab (zac 4) (zab (tOp (rI0 fun i j=>.int (i+j)) (tC (.int 1)) (zau za2 [] E0 (zab (zac 0) (zab (zac 5) zan)))) (zab (zac 5) zan)))) zan))))) D σ H:=rfl
def zdy (K:PySem.W.Frag):TS :=
 (zaR (zaZ (zeo zan) (zae 2))
 (zaR (zgr (zfV (zab (tOp (rI0 fun i j=>.int (i+j)) (tC (.int 1)) (zau za2 [] E0 (zab (zac 0) (zab (zac 1) zan)))) zan)) (zae 3)
 (zd3 K))
 (zbo (zac 2))))
theorem zhk {p:Addr} {c:Int} (hP:Drw H p c) (c1:c<1000) (q:∀ (l:Addr) (ts:List Addr) (bs:List Box) (c':Int) (H':Hp),zaO (Off p p H) (Off p p H')→Drw H' p c'→c'≤c+16→Off p p H' l=some (.lst (ts.map V.ref))→Tps bx (Off p p H') ts bs→(∀ b∈bs,GB b)→1≤bs.length→bs.length≤3→Q (.ref l) H') :
  zdy K { nx:=fun _ H'=>Q .non H',rt:=Q } (L2.start ["_law_left_here","_law_most","_law_found","_law_k","_law_cost","_law_of"] [.ref p,.int 3]) H:=by
 unfold zdy
 have c0:=hP.c0
 simp_all only [zaU,zac]
 refine ⟨by decide,fun l hl=>?_⟩
 obtain ⟨H1,e1,P1,s1,h1,_⟩:=hP.mk2 hl (.lst [])
 have nl:=hP.new hl
 have fl:Off p p H l=none:=zf3 hl
 rw [← e1]
 refine ⟨p,c,3,rfl,P1,by omega,by decide,by decide,fun r H2 r0 r1 o2 P2=>?_⟩
 simp_all only [zaU,zac]
 refine ⟨by omega,by omega,?_⟩
 refine zb3 (fun i σ H'=>∃ (ts:List Addr) (bs:List Box) (u:Int),zaO (Off p p H) (Off p p H')∧Drw H' p u∧u≤c+1+5*i∧Off p p H' l=some (.lst (ts.map V.ref))∧Tps bx (Off p p H') ts bs∧(∀ b∈bs,GB b)∧bs.length=i∧∃ x y z,σ=[some (.ref p),some (.int 3),some (.ref l),x,y,z]) ?_ ?_ ?_
 ·exact ⟨[],[],c+1,by rw [o2];exact s1,P2,by omega,by rw [o2];exact h1,.nil,by simp,rfl,_,_,_,rfl⟩
 ·rintro i σ H3 hi ⟨ts,bs,u,s3,P3,hu,hl3,T3,gb,lb,x,y,z,rfl⟩
  have u0:=P3.c0
  simp_all only [zaU,zac]
  refine ⟨by decide,fun d1 hd1=>?_⟩
  obtain ⟨H4,e4,P4,s4,h4,_⟩:=P3.mk2 hd1 (.lst [.int 1,.int 4,.int 60])
  rw [← e4]
  refine ⟨p,u,3,rfl,P4,by omega,by decide,by decide,fun r1 H5 r10 r11 o5 P5=>?_⟩
  obtain ⟨m1,em1,hm1⟩:=at3 (x:=1) (y:=4) (z:=60) r10 r11
  rw [← o5] at h4 s4
  simp_all only [zaU,zac]
  refine ⟨_,SqL.of (zbl _ _ _ _ _ h4),_,em1,?_⟩
  refine ⟨p,u+1,m1,rfl,P5,by omega,by omega,by omega,fun cost H6 k0 k1 o6 P6=>?_⟩
  rw [← o6] at s4
  simp_all only [zaU,zac]
  refine ⟨by decide,fun d2 hd2=>?_⟩
  obtain ⟨H7,e7,P7,s7,h7,_⟩:=P6.mk2 hd2 (.lst [.int 3,.int 50])
  rw [← e7]
  refine ⟨p,u+1+1,2,rfl,P7,by omega,by decide,by decide,fun r2 H8 r20 r21 o8 P8=>?_⟩
  obtain ⟨m2,em2,hm2⟩:=at2 (x:=3) (y:=50) r20 r21
  rw [← o8] at h7 s7
  simp_all only [zaU,zac]
  refine ⟨_,SqL.of (zbl _ _ _ _ _ h7),_,em2,?_⟩
  refine ⟨p,_,m2,rfl,P8,by omega,by omega,by omega,fun of H9 of0 of1 o9 P9=>?_⟩
  rw [← o9] at s7
  simp_all only [zaU,zac]
  have S9:=s4.trans s7
  have hl9:=S9 _ _ hl3
  refine ⟨.inl ⟨rfl,_,SqL.of (zbl _ _ _ _ _ hl9)⟩,?_⟩
  refine ⟨p,_,1+of,rfl,P9,by omega,by omega,by omega,fun h H10 h0 h1 o10 P10=>?_⟩
  rw [← o10] at S9 hl9
  simp_all only [zaU,zac]
  refine ⟨by decide,fun b hb=>?_⟩
  obtain ⟨H11,e11,P11,s11,h11,_⟩:=P10.mk2 hb (.tup [.int (1+cost),.int (1+h),.int (1+of)])
  rw [← e11]
  have S11:=S9.trans s11
  have hl11:=s11 _ _ hl9
  refine ⟨_,zbl _ _ _ _ _ hl11,za4 (by rw [List.length_map,T3.1];omega),?_⟩
  obtain ⟨H12,e12,P12,s12,h12,k12⟩:=P11.put nl (s3.trans S11) fl (.lst (ts.map V.ref++[V.ref b]))
  rw [← e12]
  have bl:b≠l:=fun z=>by
   subst z
   rw [hl11] at h11
   cases h11
  refine ⟨s12,ts++[b],bs++[(1+cost,1+h,1+of)],_,P12,by omega,by rw [h12,List.map_append];rfl,?_,?_,by rw [List.length_append,lb];rfl⟩
  ·refine T3.put (fun x w e=>?_) (by rw [k12 _ bl];exact h11)
   have nx:x≠l:=fun z=>by
    subst z
    rw [e] at hl3
    cases hl3
   rw [k12 _ nx]
   exact S11 _ _ e
  ·intro y hy
   rcases List.mem_append.mp hy with z | z
   ·exact gb y z
   ·rw [List.mem_singleton.mp z]
    refine ⟨?_,?_,?_,?_,?_⟩ <;> show _≤_ <;> omega
 ·rintro σ H3 ⟨ts,bs,u,s3,P3,hu,hl3,T3,gb,lb,x,y,z,rfl⟩
  simp_all only [zaU,zac]
  exact q l ts bs u H3 s3 P3 (by omega) hl3 T3 gb (by omega) (by omega)
theorem zbU:zay ["_law_left_here","_law_most","_law_found","_law_k","_law_cost","_law_of"] ["_law_left_here","_law_most"] (zah zdw):=⟨rfl,rfl,rfl,by decide +kernel,rfl,by decide +kernel,by decide +kernel⟩
theorem zgS (T:Txt K mg a):zb0 P w K mg base CX0 3 a.f__law_boxes a.d__law_boxes ["_law_left_here","_law_most"] zfL:=by
 have G__law_draw:=zdz (P:=P) (w:=w) (base:=base) T
 refine T.F__law_boxes.ok zbU (fun vs H Q E h=>?_) (fun cdv A outer s H vs Q E hr h=>?_)
 ·obtain ⟨p,c,rfl,hP,c1,q⟩:=h
  rfl
 obtain ⟨p,c,rfl,hP,c1,q⟩:=h
 exact ⟨zdy K,(zaf (zaE (i:=2) zbU.nd rfl (Or.inl rfl) (zb9 zad))
 (zaf (zcq PassesOwn.never rfl (zcb rfl T.z_range (zaa (zaA zcp zag (zak G__law_draw (hr.mono (by decide)) rfl T.m__law_draw T.F__law_draw.kp T.b__law_draw .nil zaC (zaa (pv 0) (zaa (pv 1) zad)))) zad)) (zam (i:=3) zbU.nd rfl (Or.inl rfl))
 (zaf (zaE (i:=4) zbU.nd rfl (Or.inl rfl) (zaA zcp zag (zak G__law_draw (hr.mono (by decide)) rfl T.m__law_draw T.F__law_draw.kp T.b__law_draw .nil zaC (zaa (pv 0) (zaa (zaN zbj (zb9 (zaa zag (zaa zag (zaa zag zad)))) (zak G__law_draw (hr.mono (by decide)) rfl T.m__law_draw T.F__law_draw.kp T.b__law_draw .nil zaC (zaa (pv 0) (zaa zag zad))) (fun _ _=>rfl)) zad)))))
 (zaf (zaE (i:=5) zbU.nd rfl (Or.inl rfl) (zaA zcp zag (zak G__law_draw (hr.mono (by decide)) rfl T.m__law_draw T.F__law_draw.kp T.b__law_draw .nil zaC (zaa (pv 0) (zaa (zaN zbj (zb9 (zaa zag (zaa zag zad))) (zak G__law_draw (hr.mono (by decide)) rfl T.m__law_draw T.F__law_draw.kp T.b__law_draw .nil zaC (zaa (pv 0) (zaa zag zad))) (fun _ _=>rfl)) zad)))))
 (zal (zej (zk8 PySem.F.plainAttrs_list PySem.F.slot_list_append PySem.F.type_list_append zc1 (pv 2) (zaa (zbk (zaa (pv 4) (zaa (zaA zcp zag (zak G__law_draw (hr.mono (by decide)) rfl T.m__law_draw T.F__law_draw.kp T.b__law_draw .nil zaC (zaa (pv 0) (zaa (pv 5) zad)))) (zaa (pv 5) zad)))) zad)))))))
 (zal (zaK (pv 2))))),
  zhk hP c1 q⟩
theorem zlj {t b:Int} (h:b≠0) (hb:Bd 8000 b):(sg t b).natAbs.log2<9000:=zfa 8000 (zhM h) (hb.le (zri h))
def zjD:Sp:=fun vs H Q _=>∃ t b:Int,vs=[.int t,.int b]∧0<b∧Bd 8000 b∧∀ (r:Addr) (H':Hp),zaO H H'→H' r=some (.tup (fr (Rat.divInt t b)))→Q (.ref r) H'
def zdE:TS :=
 (zbo (zcJ (zab (tOp (rI (fun _ j=>j≠0∧j.natAbs.log2<9000) fun i j=>.int (i.fdiv j)) (zac 0) (zac 2)) (zab (tOp (rI (fun _ j=>j≠0∧j.natAbs.log2<9000) fun i j=>.int (i.fdiv j)) (zac 1) (zac 2)) zan))))
theorem zcH (D:zch) (σ:St) (H:Hp):zdE D σ H=(zbo (zcJ (zab (tOp (rI (fun _ j=>j≠0∧j.natAbs.log2<9000) fun i j=>.int (i.fdiv j)) (zac 0) (zac 2)) (zab (tOp (rI (fun _ j=>j≠0∧j.natAbs.log2<9000) fun i j=>.int (i.fdiv j)) (zac 1) (zac 2)) zan)))) D σ H:=rfl
def zdj:TS :=
 (zaR (zaZ (zac 1) (zae 2))
 (zaR (zaZ (tOp (rI (fun _ j=>j≠0) fun i j=>.int (i.fmod j)) (zac 0) (zac 1)) (zae 3))
 (zaR (zhQ (zbE (tOp (rI0 fun i j=>.bl (decide (j<i))) (zac 3) (tC (.int 0)))) (tPar 2 3 (zab (zac 3) (zab (tOp (rI (fun _ j=>j≠0) fun i j=>.int (i.fmod j)) (zac 2) (zac 3)) zan))))
 (zdE))))
theorem zf7 {t b:Int} (h:0<b) (hb:Bd 8000 b) (q:∀ (r:Addr) (H':Hp),zaO H H'→H' r=some (.tup (fr (Rat.divInt t b)))→Q (.ref r) H') :
  zdj { nx:=fun _ H'=>Q .non H',rt:=Q } (L2.start ["_law_top","_law_bottom","_law_one","_law_other"] [.int t,.int b]) H:=by
 unfold zdj
 simp_all only [zcH,zac]
 have h0:b≠0:=by omega
 have e0:sg t b=(Int.gcd t b:Int):=by unfold sg;rw [if_neg (by omega)]
 have f0:=Int.fmod_nonneg_of_pos t h
 have g0:Int.gcd b (t.fmod b)=Int.gcd t b:=by
  have e:t.fmod b=t - b*(t.fdiv b):=Int.fmod_def t b
  rw [e,Int.gcd_comm t b]
  have:t - b*t.fdiv b=t+b*(-(t.fdiv b)):=by rw [Int.mul_neg];omega
  rw [this]
  exact Int.gcd_add_mul_left_right b t _
 refine ⟨h0,?_⟩
 refine zhc (fun σ H'=>H'=H∧∃ u v,σ=[some (.int t),some (.int b),some (.int u),some (.int v)]∧0≤u∧0≤v∧Int.gcd u v=Int.gcd t b) (fun σ _=>match σ with | [_,_,_,some (.int v)]=>v.toNat | _=>0) ?_ ?_ ?_
 ·exact ⟨rfl,_,_,rfl,by omega,f0,g0⟩
 ·rintro σ H' ⟨rfl,u,v,rfl,hu,hv,hg⟩
  simp_all only [zcH,zac]
  refine zez (fun c=>?_) (fun c=>?_)
  ·have hv':0<v:=by omega
   refine ⟨by omega,hv,Int.fmod_nonneg_of_pos u hv',?_,?_⟩
   ·rw [zhS hu hv',hg]
   ·have:=Int.fmod_lt_of_pos u hv'
    omega
  ·have c':v=0:=by omega
   subst c'
   have e:u=sg t b:=by
    rw [e0,← hg,zgq u hu]
   subst e
   refine ⟨zhM h0,zlj h0 hb,zhM h0,zlj h0 hb,by decide,fun p hp=>q p _ (zao hp _) ?_⟩
   rw [fr,(zh0 h0).1,(zh0 h0).2]
   exact zaj
 ·rintro σ H1 Q1 Q2 hQ ⟨v,hv,k,hk,h,h1,b,hb,h2⟩
  exact ⟨v,hv,k,hk,h,h1,b,hb,hQ _ _ h2⟩
theorem zb6:zay ["_law_top","_law_bottom","_law_one","_law_other"] ["_law_top","_law_bottom"] (zah zdn):=⟨rfl,rfl,rfl,by decide +kernel,rfl,by decide +kernel,by decide +kernel⟩
theorem zd2 (T:Txt K mg a):zb0 P w K mg base CX0 1 a.f__law_lowest a.d__law_lowest ["_law_top","_law_bottom"] zjD:=by
 refine T.F__law_lowest.ok zb6 (fun vs H Q E h=>?_) (fun cdv A outer s H vs Q E hr h=>?_)
 ·obtain ⟨t,b,rfl,h,hb,q⟩:=h
  rfl
 obtain ⟨t,b,rfl,h,hb,q⟩:=h
 exact ⟨zdj,(zaf (zaE (i:=2) zb6.nd rfl (Or.inl rfl) (pv 1))
 (zaf (zaE (i:=3) zb6.nd rfl (Or.inl rfl) (zaA zfH (pv 0) (pv 1)))
 (zaf (zgY PassesOwn.never (zbH zkH (pv 3) zag (zbD _)) (zal (zrO (i:=2) (j:=3) rfl zb6.nd rfl rfl (by decide) rfl rfl (zaa (pv 3) (zaa (zaA zfH (pv 2) (pv 3)) zad)) rfl)))
 (zal (zaK (zbk (zaa (zaA zct (pv 0) (pv 2)) (zaa (zaA zct (pv 1) (pv 2)) zad)))))))),
  zf7 h hb q⟩
def zh7:Sp:=fun vs H Q _=>∃ (p:Addr) (b:Box) (n:Int),vs=[.ref p,.int n]∧H p=some (.tup (bx b))∧GB b∧0≤n∧n≤60∧∀ (r:Addr) (H':Hp),zaO H H'→H' r=some (.tup [.int ((b.2.2 - b.2.1) ^ n.toNat),.int (b.2.2 ^ n.toNat)])→Q (.ref r) H'
def zeF (K:PySem.W.Frag):TS :=
 (zaR (zaZ (tOp (rI IntMulOk fun i j=>.int (i*j)) (zac 2) (tOp (rI0 fun i j=>.int (i - j)) (tOp (zbu K) (zac 0) (tC (.int 2))) (tOp (zbu K) (zac 0) (tC (.int 1))))) (zae 2))
 (zaZ (tOp (rI IntMulOk fun i j=>.int (i*j)) (zac 3) (tOp (zbu K) (zac 0) (tC (.int 2)))) (zae 3)))
theorem zco (K:PySem.W.Frag) (D:zch) (σ:St) (H:Hp):zeF K D σ H=(zaR (zaZ (tOp (rI IntMulOk fun i j=>.int (i*j)) (zac 2) (tOp (rI0 fun i j=>.int (i - j)) (tOp (zbu K) (zac 0) (tC (.int 2))) (tOp (zbu K) (zac 0) (tC (.int 1))))) (zae 2))
 (zaZ (tOp (rI IntMulOk fun i j=>.int (i*j)) (zac 3) (tOp (zbu K) (zac 0) (tC (.int 2)))) (zae 3))) D σ H:=rfl
def zea (K:PySem.W.Frag):TS :=
 (zaR (zaZ (tC (.int 1)) (zae 2))
 (zaR (zaZ (tC (.int 1)) (zae 3))
 (zaR (zgr (zfV (zab (zac 1) zan)) (zae 4)
 (zeF K))
 (zbo (zcJ (zab (zac 2) (zab (zac 3) zan)))))))
theorem zhL {p:Addr} {b:Box} {n:Int} (hp:H p=some (.tup (bx b))) (g:GB b) (n0:0≤n) (n1:n≤60) (q:∀ (r:Addr) (H':Hp),zaO H H'→H' r=some (.tup [.int ((b.2.2 - b.2.1) ^ n.toNat),.int (b.2.2 ^ n.toNat)])→Q (.ref r) H') :
  zea K { nx:=fun _ H'=>Q .non H',rt:=Q } (L2.start ["_law_box","_law_many","_law_top","_law_bottom","_law_turn"] [.ref p,.int n]) H:=by
 unfold zea
 obtain ⟨g1,g2,g3,g4,g5⟩:=g
 have hP:=SqT.of (K:=K) hp
 simp_all only [zco,zac]
 refine ⟨by omega,by omega,?_⟩
 refine zb3 (fun i σ H'=>H'=H∧∃ k,σ=[some (.ref p),some (.int n),some (.int ((b.2.2 - b.2.1) ^ i)),some (.int (b.2.2 ^ i)),k]) ⟨rfl,none,by rw [Int.pow_zero,Int.pow_zero]⟩ ?_ ?_
 ·rintro i σ H' hi ⟨rfl,k,rfl⟩
  simp_all only [zco,zac]
  refine ⟨_,hP,_,rfl,_,hP,_,rfl,_,rfl,_,rfl,ziO (by omega) (by omega),_,hP,_,rfl,_,rfl,ziO (by omega) (by omega),?_⟩
  rw [Int.pow_succ,Int.pow_succ]
  exact ⟨rfl,rfl⟩
 ·rintro σ H' ⟨rfl,k,rfl⟩
  simp_all only [zco,zac]
  exact ⟨by decide,fun r hr=>q r _ (zao hr _) zaj⟩
theorem zbS:zay ["_law_box","_law_many","_law_top","_law_bottom","_law_turn"] ["_law_box","_law_many"] (zah zev):=⟨rfl,rfl,rfl,by decide +kernel,rfl,by decide +kernel,by decide +kernel⟩
theorem zfg (T:Txt K mg a):zb0 P w K mg base CX0 1 a.f__law_miss a.d__law_miss ["_law_box","_law_many"] zh7:=by
 refine T.F__law_miss.ok zbS (fun vs H Q E h=>?_) (fun cdv A outer s H vs Q E hr h=>?_)
 ·obtain ⟨p,b,n,rfl,hp,g,n0,n1,q⟩:=h
  rfl
 obtain ⟨p,b,n,rfl,hp,g,n0,n1,q⟩:=h
 exact ⟨zea K,(zaf (zaE (i:=2) zbS.nd rfl (Or.inl rfl) zag)
 (zaf (zaE (i:=3) zbS.nd rfl (Or.inl rfl) zag)
 (zaf (zcq PassesOwn.never rfl (zcb rfl T.z_range (zaa (pv 1) zad)) (zam (i:=4) zbS.nd rfl (Or.inl rfl))
 (zaf (zaE (i:=2) zbS.nd rfl (Or.inl rfl) (zaA zaL (pv 2) (zaA zcD (zaN zaD (pv 0) zag (fun _ _=>rfl)) (zaN zaD (pv 0) zag (fun _ _=>rfl)))))
 (zal (zaE (i:=3) zbS.nd rfl (Or.inl rfl) (zaA zaL (pv 3) (zaN zaD (pv 0) zag (fun _ _=>rfl)))))))
 (zal (zaK (zbk (zaa (pv 2) (zaa (pv 3) zad)))))))),
  zhL hp g n0 n1 q⟩
def zc8:Sp:=fun vs H Q _=>∃ (x y:Addr) (m1 m2:Nat) (s t u v:Int),vs=[.ref x,.ref y]∧H x=some (.tup [.int s,.int t])∧H y=some (.tup [.int u,.int v])∧0<t∧0<v∧Bd 30000 s∧Bd m1 t∧Bd 30000 u∧Bd m2 v∧m1+m2≤8000∧∀ (r:Addr) (H':Hp),zaO H H'→H' r=some (.tup (fr (Rat.divInt s t+Rat.divInt u v)))→Q (.ref r) H'
def zes (K:PySem.W.Frag):TS :=
 (zbo (zau zjD [] E0 (zab (tOp (rI0 fun i j=>.int (i+j)) (tOp (rI IntMulOk fun i j=>.int (i*j)) (tOp (zbu K) (zac 0) (tC (.int 0))) (tOp (zbu K) (zac 1) (tC (.int 1)))) (tOp (rI IntMulOk fun i j=>.int (i*j)) (tOp (zbu K) (zac 1) (tC (.int 0))) (tOp (zbu K) (zac 0) (tC (.int 1))))) (zab (tOp (rI IntMulOk fun i j=>.int (i*j)) (tOp (zbu K) (zac 0) (tC (.int 1))) (tOp (zbu K) (zac 1) (tC (.int 1)))) zan))))
theorem zih {x y:Addr} {m1 m2:Nat} {s t u v:Int} (hx:H x=some (.tup [.int s,.int t])) (hy:H y=some (.tup [.int u,.int v])) (t0:0<t) (v0:0<v) (bs:Bd 30000 s) (bt:Bd m1 t) (bu:Bd 30000 u) (bv:Bd m2 v) (hm:m1+m2≤8000) (q:∀ (r:Addr) (H':Hp),zaO H H'→H' r=some (.tup (fr (Rat.divInt s t+Rat.divInt u v)))→Q (.ref r) H') :
  zes K { nx:=fun _ H'=>Q .non H',rt:=Q } (L2.start ["_law_one","_law_other"] [.ref x,.ref y]) H:=by
 unfold zes
 simp_all only [zac]
 rw [Rat.divInt_add_divInt s u (by omega) (by omega)] at q
 have hx:=SqT.of (K:=K) hx
 have hy:=SqT.of (K:=K) hy
 exact ⟨_,hx,_,rfl,_,hy,_,rfl,_,rfl,_,rfl,zf4 30000 m2 bs bv (by omega),_,hy,_,rfl,_,hx,_,rfl,_,rfl,_,rfl,zf4 30000 m1 bu bt (by omega),_,hx,_,rfl,_,hy,_,rfl,_,rfl,_,rfl,zf4 m1 m2 bt bv (by omega),_,_,rfl,Int.mul_pos t0 v0,(bt.mul bv).mono hm,q⟩
theorem zhB:zay ["_law_one","_law_other"] ["_law_one","_law_other"] (zah zen):=⟨rfl,rfl,rfl,by decide +kernel,rfl,by decide +kernel,by decide +kernel⟩
theorem zdu (T:Txt K mg a):zb0 P w K mg base CX0 2 a.f__law_plus a.d__law_plus ["_law_one","_law_other"] zc8:=by
 have G__law_lowest:=zd2 (P:=P) (w:=w) (base:=base) T
 refine T.F__law_plus.ok zhB (fun vs H Q E h=>?_) (fun cdv A outer s H vs Q E hr h=>?_)
 ·obtain ⟨x,y,m1,m2,s,t,u,v,rfl,hx,hy,t0,v0,bs,bt,bu,bv,hm,q⟩:=h
  rfl
 obtain ⟨x,y,m1,m2,s,t,u,v,rfl,hx,hy,t0,v0,bs,bt,bu,bv,hm,q⟩:=h
 exact ⟨zes K,(zal (zaK (zak G__law_lowest (hr.mono (by decide)) rfl T.m__law_lowest T.F__law_lowest.kp T.b__law_lowest .nil zaC (zaa (zaA zcp (zaA zaL (zaN zaD (pv 0) zag (fun _ _=>rfl)) (zaN zaD (pv 1) zag (fun _ _=>rfl))) (zaA zaL (zaN zaD (pv 1) zag (fun _ _=>rfl)) (zaN zaD (pv 0) zag (fun _ _=>rfl)))) (zaa (zaA zaL (zaN zaD (pv 0) zag (fun _ _=>rfl)) (zaN zaD (pv 1) zag (fun _ _=>rfl))) zad))))),
  zih hx hy t0 v0 bs bt bu bv hm q⟩
def zew:Sp:=fun vs H Q _=>∃ (x y:Addr) (u v:Rat),vs=[.ref x,.ref y]∧H x=some (.tup (fr u))∧H y=some (.tup (fr v))∧Bq 30000 u∧Bq 30000 v∧Q (.bl (decide (u<v))) H
def zee (K:PySem.W.Frag):TS :=
 (zbo (tOp (rI0 fun i j=>.bl (decide (i<j))) (tOp (rI IntMulOk fun i j=>.int (i*j)) (tOp (zbu K) (zac 0) (tC (.int 0))) (tOp (zbu K) (zac 1) (tC (.int 1)))) (tOp (rI IntMulOk fun i j=>.int (i*j)) (tOp (zbu K) (zac 1) (tC (.int 0))) (tOp (zbu K) (zac 0) (tC (.int 1))))))
theorem zie {x y:Addr} {u v:Rat} (hx:H x=some (.tup (fr u))) (hy:H y=some (.tup (fr v))) (bu:Bq 30000 u) (bv:Bq 30000 v) (q:Q (.bl (decide (u<v))) H) :
  zee K { nx:=fun _ H'=>Q .non H',rt:=Q } (L2.start ["_law_one","_law_other"] [.ref x,.ref y]) H:=by
 unfold zee
 simp_all only [zac]
 have hx:=SqT.of (K:=K) hx
 have hy:=SqT.of (K:=K) hy
 rw [decide_eq_decide.mpr (Rat.lt_iff u v)] at q
 exact ⟨_,hx,_,rfl,_,hy,_,rfl,_,rfl,_,rfl,zf4 30000 30000 bu.top bv.bot,_,hy,_,rfl,_,hx,_,rfl,_,rfl,_,rfl,zf4 30000 30000 bv.top bu.bot,q⟩
theorem zhR:zay ["_law_one","_law_other"] ["_law_one","_law_other"] (zah zer):=⟨rfl,rfl,rfl,by decide +kernel,rfl,by decide +kernel,by decide +kernel⟩
theorem ze9 (T:Txt K mg a):zb0 P w K mg base CX0 1 a.f__law_less a.d__law_less ["_law_one","_law_other"] zew:=by
 refine T.F__law_less.ok zhR (fun vs H Q E h=>?_) (fun cdv A outer s H vs Q E hr h=>?_)
 ·obtain ⟨x,y,u,v,rfl,hx,hy,bu,bv,q⟩:=h
  rfl
 obtain ⟨x,y,u,v,rfl,hx,hy,bu,bv,q⟩:=h
 exact ⟨zee K,(zal (zaK (zep zhT (zaA zaL (zaN zaD (pv 0) zag (fun _ _=>rfl)) (zaN zaD (pv 1) zag (fun _ _=>rfl))) (zaA zaL (zaN zaD (pv 1) zag (fun _ _=>rfl)) (zaN zaD (pv 0) zag (fun _ _=>rfl))) (zbD _)))),
  zie hx hy bu bv q⟩
def zeJ:Sp:=fun vs H Q _=>∃ x:Int,vs=[.int x]∧Q (.bl true) H
def zdM (K:PySem.W.Frag):TS :=
 (zbo (zge (tCB (zho K) (zab (zac 0) (zab (tC (.ty "int")) zan))) (zmj (tCB (zho K) (zab (zac 0) (zab (tC (.ty "bool")) zan))))))
theorem zha {x:Int} (q:Q (.bl true) H):zdM K { nx:=fun _ H'=>Q .non H',rt:=Q } (L2.start ["_law_thing"] [.int x]) H:=by
 unfold zdM
 simp_all only [zac]
 refine zfM ⟨_,rfl,zn5 ?_⟩
 exact zfd ⟨_,rfl,q⟩
theorem zgM:zay ["_law_thing"] ["_law_thing"] (zah zdP):=⟨rfl,rfl,rfl,by decide +kernel,rfl,by decide +kernel,by decide +kernel⟩
theorem zeQ (T:Txt K mg a):zb0 P w K mg base CX0 1 a.f__law_whole a.d__law_whole ["_law_thing"] zeJ:=by
 refine T.F__law_whole.ok zgM (fun vs H Q E h=>?_) (fun cdv A outer s H vs Q E hr h=>?_)
 ·obtain ⟨x,rfl,q⟩:=h
  rfl
 obtain ⟨x,rfl,q⟩:=h
 exact ⟨zdM K,(zal (zaK (zgv (zaJ zbv rfl T.z_isinstance PyProof.Rows.boot_isinstance (zaa (pv 0) (zaa (zdh rfl T.z_int zjo rfl) zad))) (zh6 (znm (zaJ zbv rfl T.z_isinstance PyProof.Rows.boot_isinstance (zaa (pv 0) (zaa (zdh rfl T.z_bool zh4 rfl) zad)))))))),
  zha q⟩
structure Bxs (H:Hp) (l:Addr) (ts:List Addr) (bs:List Box):Prop where
 hl:H l=some (.lst (ts.map V.ref))
 hb:Tps bx H ts bs
 gb:∀ b∈bs,GB b
 l1:1≤bs.length
 l3:bs.length≤3
theorem Bxs.same {H H':Hp} {l:Addr} {ts:List Addr} {bs:List Box} (h:Bxs H l ts bs) (s:zaO H H'):Bxs H' l ts bs:=⟨s _ _ h.hl,h.hb.same s,h.gb,h.l1,h.l3⟩
theorem Bxs.ix {H:Hp} {l:Addr} {ts:List Addr} {bs:List Box} (h:Bxs H l ts bs) {i:Nat} (hi:i<bs.length):∃ (t:Addr) (b:Box),ts[i]?=some t∧bs[i]?=some b∧atI (ts.map V.ref) (i:Int)=some (.ref t)∧H t=some (.tup (bx b))∧GB b:=by
 have lt:=h.hb.1
 have e:ts[i]?=some (ts[i]'(by omega)):=List.getElem?_eq_getElem (by omega)
 obtain ⟨b,h1,h2⟩:=h.hb.at e
 exact ⟨_,b,e,h1,zec (by rw [List.getElem?_map,e];rfl),h2,h.gb b (zav h1)⟩
def GP (n:Nat) (ms:List Int):Prop:=ms.length=n∧∀ m∈ms,0≤m∧m≤11
def ziJ:Sp:=fun vs H Q _=>∃ (l pl:Addr) (ts:List Addr) (bs:List Box) (ms:List Int),vs=[.ref l,.ref pl]∧Bxs H l ts bs∧H pl=some (.lst (ms.map V.int))∧GP bs.length ms∧∀ H',zaO H H'→Q (.bl true) H'
def zeO (K:PySem.W.Frag):TS :=
 (zbo (tOp rEq (tCB (fun xs H Q=>∃ p ys,xs=[.ref p]∧(SqL K H p ys∨SqT K H p ys)∧Q (.int ys.length) H) (zab (zbn (zbN K (zac 1)) (zae 0) (tOr (zfn (tB (zau zeJ [] E0 (zab (zac 0) zan)))) (tOr (zbE (tOp (rI0 fun i j=>.bl (decide (i<j))) (zac 0) (tC (.int 0)))) (zbE (tOp (rI0 fun i j=>.bl (decide (j<i))) (zac 0) (tC (.int 60)))))) (zac 0) [none]) zan)) (tC (.int 0))))
theorem zbC (K:PySem.W.Frag) (D:zch) (σ:St) (H:Hp):zeO K D σ H=(zbo (tOp rEq (tCB (fun xs H Q=>∃ p ys,xs=[.ref p]∧(SqL K H p ys∨SqT K H p ys)∧Q (.int ys.length) H) (zab (zbn (zbN K (zac 1)) (zae 0) (tOr (zfn (tB (zau zeJ [] E0 (zab (zac 0) zan)))) (tOr (zbE (tOp (rI0 fun i j=>.bl (decide (i<j))) (zac 0) (tC (.int 0)))) (zbE (tOp (rI0 fun i j=>.bl (decide (j<i))) (zac 0) (tC (.int 60)))))) (zac 0) [none]) zan)) (tC (.int 0)))) D σ H:=rfl
def zeP (K:PySem.W.Frag):TS :=
 (zdt (tOr (zfn (tB (tCB (zho K) (zab (zac 1) (zab (tC (.ty "list")) zan))))) (zbE (tOp rNe (tCB (fun xs H Q=>∃ p ys,xs=[.ref p]∧(SqL K H p ys∨SqT K H p ys)∧Q (.int ys.length) H) (zab (zac 1) zan)) (tCB (fun xs H Q=>∃ p ys,xs=[.ref p]∧(SqL K H p ys∨SqT K H p ys)∧Q (.int ys.length) H) (zab (zac 0) zan))))) (zbo (tC (.bl false))) zbF)
theorem zbB (K:PySem.W.Frag) (D:zch) (σ:St) (H:Hp):zeP K D σ H=(zdt (tOr (zfn (tB (tCB (zho K) (zab (zac 1) (zab (tC (.ty "list")) zan))))) (zbE (tOp rNe (tCB (fun xs H Q=>∃ p ys,xs=[.ref p]∧(SqL K H p ys∨SqT K H p ys)∧Q (.int ys.length) H) (zab (zac 1) zan)) (tCB (fun xs H Q=>∃ p ys,xs=[.ref p]∧(SqL K H p ys∨SqT K H p ys)∧Q (.int ys.length) H) (zab (zac 0) zan))))) (zbo (tC (.bl false))) zbF) D σ H:=rfl
def zek (K:PySem.W.Frag):TS :=
 (zaR (zf5 (zeP K))
 (zeO K))
theorem zhI {l pl:Addr} {ts:List Addr} {bs:List Box} {ms:List Int} (B:Bxs H l ts bs) (hp:H pl=some (.lst (ms.map V.int))) (g:GP bs.length ms) (q:∀ H',zaO H H'→Q (.bl true) H') :
  zek K { nx:=fun _ H'=>Q .non H',rt:=Q } (L2.start ["_law_boxes_here","_law_thing"] [.ref l,.ref pl]) H:=by
 unfold zek
 simp_all only [zbC,zbB,zac]
 refine ⟨fun σ H'=>H'=H∧σ=[some (.ref l),some (.ref pl)],?_,?_⟩
 ·simp_all only [zbC,zbB,zac]
  refine zex hp ⟨true,rfl,?_⟩
  refine zez (fun z=>absurd z (by decide)) (fun _=>?_)
  refine ⟨_,.inl (SqL.of hp),_,.inl (SqL.of B.hl),?_⟩
  rw [List.length_map,List.length_map,B.hb.1,g.1]
  exact zez (fun z=>absurd rfl z) (fun _=>rfl)
 ·rintro σ H' ⟨e,rfl⟩
  rw [e]
  simp_all only [zbC,zbB,zac]
  refine ⟨⟨_,SqL.of hp⟩,fun D hD=>?_⟩
  refine zb4 (K:=K) (xs:=ms.map V.int) (fun i ys σ H'=>zaO H H'∧ys=[]∧∃ z,σ=[z]) ⟨zao hD _,rfl,_,rfl⟩ ?_ ?_ ?_
  ·rintro i ys σ H' _ ⟨s,_⟩
   exact SqL.of (s _ _ hp)
  ·rintro i x ys σ H' hx hD' ⟨s,rfl,z,rfl⟩
   obtain ⟨m,hm,rfl⟩:=zaB hx
   obtain ⟨m0,m1⟩:=g.2 m (zav hm)
   simp_all only [zbC,zbB,zac]
   refine ⟨m,rfl,true,rfl,?_⟩
   refine zez (fun z=>absurd z (by decide)) (fun _=>?_)
   refine zez (fun z=>absurd z (by omega)) (fun _=>?_)
   exact zez (fun z=>absurd z (by omega)) (fun _=>⟨_,hD',s,rfl⟩)
  ·rintro ys σ H' hD' ⟨s,rfl,z,rfl⟩
   simp_all only [zbC,zbB,zac]
   refine ⟨_,.inl (SqL.of hD'),?_⟩
   exact q _ s
theorem zhD:zay ["_law_boxes_here","_law_thing"] ["_law_boxes_here","_law_thing"] (zah zdc):=⟨rfl,rfl,rfl,by decide +kernel,rfl,by decide +kernel,by decide +kernel⟩
theorem zhr (T:Txt K mg a):zb0 P w K mg base CX0 2 a.f__law_plan a.d__law_plan ["_law_boxes_here","_law_thing"] ziJ:=by
 have G__law_whole:=zeQ (P:=P) (w:=w) (base:=base) T
 refine T.F__law_plan.ok zhD (fun vs H Q E h=>?_) (fun cdv A outer s H vs Q E hr h=>?_)
 ·obtain ⟨l,pl,ts,bs,ms,rfl,B,hp,g,q⟩:=h
  rfl
 obtain ⟨l,pl,ts,bs,ms,rfl,B,hp,g,q⟩:=h
 exact ⟨zek K,(zaf (zcI (zc3 (PW.pt (zfO (zcY (zb1 (zaJ zbv rfl T.z_isinstance PyProof.Rows.boot_isinstance (zaa (pv 1) (zaa (zdh rfl T.z_list zcd rfl) zad))))) (zfh (zbH zoH (zaJ za0 rfl T.z_len PySem.boot_len (zaa (pv 1) zad)) (zaJ za0 rfl T.z_len PySem.boot_len (zaa (pv 0) zad)) (zbD _))))) (zal (zaK zgI)) zbq))
 (zal (zaK (zep zjU (zaJ za0 rfl T.z_len PySem.boot_len (zaa (zbG (sc:=zah zdc) (N:=["_law_boxes_here","_law_thing"]) (Nc:=["_law_one"]) (cap:=[none]) rfl rfl rfl (.of (by decide +kernel)) (zbe (pv 1)) (fun _ _ _ _=>(zam (i:=0) (show List.Nodup (["_law_one"]:List Str) from by decide) rfl (Or.inl rfl))) (fun _ _ _ _=>(znX (PW.pt (zfO (zcY (zb1 (zak G__law_whole (hr.mono (by decide)) rfl T.m__law_whole T.F__law_whole.kp T.b__law_whole .nil zaC (zaa (pv 0) zad)))) (zfO (zbH zhT (pv 0) zag (zbD _)) (zfh (zbH zkH (pv 0) zag (zbD _)))))))) (fun _ _ _ _=>(pv 0))) zad)) zag (zbD _))))),
  zhI B hp g q⟩
def zeb:Sp:=fun vs H Q _=>∃ (l pl:Addr) (ts:List Addr) (bs:List Box) (ms:List Int),vs=[.ref l,.ref pl]∧Bxs H l ts bs∧H pl=some (.lst (ms.map V.int))∧GP bs.length ms∧∀ H',zaO H H'→Q (.int (zax bs ms).sum) H'
def zdG (K:PySem.W.Frag):TS :=
 (zbo (tCB (zij K) (zab (zbn (zfV (zab (tCB (fun xs H Q=>∃ p ys,xs=[.ref p]∧(SqL K H p ys∨SqT K H p ys)∧Q (.int ys.length) H) (zab (zac 0) zan)) zan)) (zae 0) zaM (tOp (rI IntMulOk fun i j=>.int (i*j)) (tOp (zbu K) (tOp (zcX K) (zac 2) (zac 0)) (tC (.int 0))) (tOp (zcX K) (zac 1) (zac 0))) [none,some 1,some 0]) zan)))
theorem zgw {l pl:Addr} {ts:List Addr} {bs:List Box} {ms:List Int} (B:Bxs H l ts bs) (hp:H pl=some (.lst (ms.map V.int))) (g:GP bs.length ms) (q:∀ H',zaO H H'→Q (.int (zax bs ms).sum) H') :
  zdG K { nx:=fun _ H'=>Q .non H',rt:=Q } (L2.start ["_law_boxes_here","_law_plan_here"] [.ref l,.ref pl]) H:=by
 unfold zdG
 simp_all only [zac]
 have l3:=B.l3
 refine ⟨_,.inl (SqL.of B.hl),?_⟩
 rw [List.length_map,B.hb.1]
 refine ⟨by omega,by omega,fun D hD=>?_⟩
 refine zis (fun i ys σ H'=>zaO H H'∧ys=((zax bs ms).take i).map V.int∧∃ z,σ=[z,some (.ref pl),some (.ref l)]) ⟨zao hD _,rfl,_,rfl⟩ ?_ ?_
 ·rintro i ys σ H' hi hD' ⟨s,rfl,z,rfl⟩
  have hi':i<bs.length:=by omega
  obtain ⟨t,b,et,eb,ea,hb,gb⟩:=(B.same s).ix hi'
  have em:ms[i]?=some (ms[i]'(by rw [g.1];exact hi')):=List.getElem?_eq_getElem _
  obtain ⟨m0,m1⟩:=g.2 _ (zav em)
  simp_all only [zac]
  have z0:(0:Int)+(i:Int)=(i:Int):=Int.zero_add _
  rw [z0]
  refine ⟨_,SqL.of (s _ _ B.hl),_,ea,_,rfl,_,SqT.of hb,_,rfl,_,SqL.of (s _ _ hp),_,zec (by rw [List.getElem?_map,em];rfl),_,rfl,_,rfl,ziO (by omega) (by omega),_,hD',za4 (by rw [List.length_map,List.length_take];omega),_,zaj,s.put hD,?_⟩
  rw [zax,zeI _ _ _ eb em,List.map_append]
  rfl
 ·rintro ys σ H' hD' ⟨s,rfl,z,rfl⟩
  have e:(zax bs ms).take ((bs.length:Int) - 0).toNat=zax bs ms:=List.take_of_length_le (by rw [zax,List.length_zipWith];omega)
  simp_all only [zac]
  refine ⟨_,SqL.of hD',?_⟩
  first | exact e ▸ q _ s | (rw [List.take_of_length_le (by rw [zax,List.length_zipWith];omega)];exact q _ s)
theorem zhm:zay ["_law_boxes_here","_law_plan_here"] ["_law_boxes_here","_law_plan_here"] (zah zcO):=⟨rfl,rfl,rfl,by decide +kernel,rfl,by decide +kernel,by decide +kernel⟩
theorem zdf (T:Txt K mg a):zb0 P w K mg base CX0 1 a.f__law_price a.d__law_price ["_law_boxes_here","_law_plan_here"] zeb:=by
 refine T.F__law_price.ok zhm (fun vs H Q E h=>?_) (fun cdv A outer s H vs Q E hr h=>?_)
 ·obtain ⟨l,pl,ts,bs,ms,rfl,B,hp,g,q⟩:=h
  rfl
 obtain ⟨l,pl,ts,bs,ms,rfl,B,hp,g,q⟩:=h
 exact ⟨zdG K,(zal (zaK (zaJ (zcs rfl) rfl T.z_sum PyProof.Rows.boot_sum (zaa (zbG (sc:=zah zcO) (N:=["_law_boxes_here","_law_plan_here"]) (Nc:=["_law_k","_law_plan_here","_law_boxes_here"]) (cap:=[none,some 1,some 0]) rfl rfl rfl (.of (by decide +kernel)) (zcb rfl T.z_range (zaa (zaJ za0 rfl T.z_len PySem.boot_len (zaa (pv 0) zad)) zad)) (fun _ _ _ _=>(zam (i:=0) (show List.Nodup (["_law_k","_law_plan_here","_law_boxes_here"]:List Str) from by decide) rfl (Or.inl rfl))) (fun _ _ _ _=>zbb) (fun _ _ _ _=>(zaA zaL (zaN zaD (zaN zbj (pv 2) (pv 0) (fun _ _=>rfl)) zag (fun _ _=>rfl)) (zaN zbj (pv 1) (pv 0) (fun _ _=>rfl))))) zad)))),
  zgw B hp g q⟩
theorem zc6 {α:Type} {g1 g2:α→V} {p D:Addr} {us:List Addr} {as:List α} {te:TE} {rest:St} {x0 y0:Option V} {vs:List V} (hp:H p=some (.lst (us.map V.ref))) (T:Tps (fun a=>[g1 a,g2 a]) H us as) (lq:vs.length=as.length) (l6:vs.length≤1000) (hD:H D=none)
  (st:∀ (i:Nat) (a:α) (v:V) (H':Hp) (R:VK),as[i]?=some a→vs[i]?=some v→zaO H H'→(∀ H2:Hp,zaO H' H2→R v H2)→te (some (g1 a)::some (g2 a)::rest) H' R)
  (hd:∀ H':Hp,zaO H H'→H' D=some (.lst vs)→Q (.ref D) H') :
  zfc (Itl K p) (zcA K 2 (zaz (zae 0) (zaz (zae 1) zcy))) zaM te D Q (x0::y0::rest) (upd H D (.lst [])):=by
 refine zb4 (K:=K) (xs:=us.map V.ref) (fun i ys σ H'=>zaO H H'∧ys=vs.take i∧∃ x y,σ=x::y::rest) ⟨zao hD _,rfl,_,_,rfl⟩ ?_ ?_ ?_
 ·rintro i ys σ H' _ ⟨s,_⟩
  exact SqL.of (s _ _ hp)
 ·rintro i x ys σ H' hx hD' ⟨s,rfl,u,v,rfl⟩
  obtain ⟨t,ht,rfl⟩:=zaB hx
  obtain ⟨a,ha1,ha2⟩:=T.at ht
  have i1:=(List.getElem?_eq_some_iff.mp ha1).1
  have hw:vs[i]?=some (vs[i]'(by omega)):=List.getElem?_eq_getElem (by omega)
  refine ⟨t,_,rfl,SqT.of (s _ _ ha2),rfl,_,_,rfl,_,_,rfl,rfl,?_⟩
  refine st i a _ _ _ ha1 hw s fun H2 s2=>?_
  refine ⟨D,_,_,rfl,rfl,s2 _ _ hD',za4 (by rw [List.length_take];omega),_,zaj,(s.trans s2).put hD,?_,_,_,rfl⟩
  rw [List.take_add_one,hw]
  rfl
 ·rintro ys σ H' hD' ⟨s,rfl,u,v,rfl⟩
  rw [List.length_map,T.1,← lq,List.take_length] at hD'
  exact hd H' s hD'
abbrev Mp:=Addr×List Int×Int
abbrev mt1 (x:Mp):V:=.ref x.1
abbrev mt2 (x:Mp):V:=.int x.2.2
structure Mx (H:Hp) (ml:Addr) (us:List Addr) (xs:List Mp) (n:Nat):Prop where
 hm:H ml=some (.lst (us.map V.ref))
 tp:Tps (fun x=>[mt1 x,mt2 x]) H us xs
 pl:∀ x∈xs,H x.1=some (.lst (x.2.1.map V.int))
 gp:∀ x∈xs,GP n x.2.1
 gw:∀ x∈xs,1≤x.2.2∧x.2.2≤30000
 l1:1≤xs.length
 l4:xs.length≤4
theorem Mx.same {H H':Hp} {ml:Addr} {us:List Addr} {xs:List Mp} {n:Nat} (h:Mx H ml us xs n) (s:zaO H H'):Mx H' ml us xs n :=
 ⟨s _ _ h.hm,h.tp.same s,fun x hx=>s _ _ (h.pl x hx),h.gp,h.gw,h.l1,h.l4⟩
def zb2 (xs:List Mp):Int:=(xs.map fun x=>x.2.2).sum
def prs (bs:List Box) (xs:List Mp):Int:=(xs.map fun x=>x.2.2*(zax bs x.2.1).sum).sum
theorem zla:∀ xs:List Mp,(∀ x∈xs,1≤x.2.2∧x.2.2≤30000)→(xs.length:Int)≤zb2 xs∧zb2 xs≤30000*(xs.length:Int)
 | [],_=>by simp [zb2]
 | x::xs,h=>by
  have ih:=zla xs fun y hy=>h y (List.mem_cons_of_mem _ hy)
  have h1:=h x List.mem_cons_self
  have e:zb2 (x::xs)=x.2.2+zb2 xs:=rfl
  rw [e,List.length_cons]
  omega
theorem Mx.ws {H:Hp} {ml:Addr} {us:List Addr} {xs:List Mp} {n:Nat} (h:Mx H ml us xs n):1≤zb2 xs∧zb2 xs≤120000:=by
 have:=zla xs h.gw
 have:=h.l1
 have:=h.l4
 omega
def tm (b:Box) (W:Int) (k:Nat) (x:Mp):Rat:=Rat.divInt (x.2.2*(b.2.2 ^ (x.2.1.getD k 0).toNat - (b.2.2 - b.2.1) ^ (x.2.1.getD k 0).toNat)) (b.2.2 ^ (x.2.1.getD k 0).toNat*W)
def chM (b:Box) (k:Nat) (xs:List Mp):Rat:=(xs.map (tm b (zb2 xs) k)).sum
theorem zo6 {b:Box} (g:GB b) {n:Int} (n1:n≤11):Bd 67 (b.2.2 ^ n.toNat)∧Bd 67 ((b.2.2 - b.2.1) ^ n.toNat):=by
 obtain ⟨g1,g2,g3,g4,g5⟩:=g
 exact ⟨(zeu (by omega) g5 _).mono (by omega),(zeu (by omega) (by omega) _).mono (by omega)⟩
theorem zmK {b:Box} (g:GB b) {W n w:Int} (n1:n≤11) (W0:1≤W) (W1:W≤120000) (w0:1≤w) (w1:w≤30000):Bd 90 (w*(b.2.2 ^ n.toNat - (b.2.2 - b.2.1) ^ n.toNat))∧0<b.2.2 ^ n.toNat*W∧Bd 90 (b.2.2 ^ n.toNat*W):=by
 obtain ⟨p1,p2⟩:=zo6 g n1
 have o:=zdK g n
 have bw:Bd 15 w:=by show w.natAbs<2 ^ 15;omega
 have bW:Bd 17 W:=by show W.natAbs<2 ^ 17;omega
 exact ⟨(bw.mul (p1.sub p2)).mono (by decide),Int.mul_pos o (by omega),(p1.mul bW).mono (by decide)⟩
def zfz:Sp:=fun vs H Q _=>∃ (l ml:Addr) (ts:List Addr) (bs:List Box) (us:List Addr) (xs:List Mp) (k:Nat) (b:Box),vs=[.ref l,.ref ml,.int k]∧Bxs H l ts bs∧Mx H ml us xs bs.length∧bs[k]?=some b∧∀ (r:Addr) (H':Hp),zaO H H'→H' r=some (.tup (fr (chM b k xs)))→Bq 410 (chM b k xs)→Q (.ref r) H'
def zdL (K:PySem.W.Frag):TS :=
 (zaR (zaZ (zau zh7 [] E0 (zab (tOp (zcX K) (zac 0) (zac 2)) (zab (tOp (zcX K) (zac 5) (zac 2)) zan))) (zcA K 2 (zaz (zae 7) (zaz (zae 8) zcy))))
 (zaZ (zau zc8 [] E0 (zab (zac 3) (zab (zcJ (zab (tOp (rI IntMulOk fun i j=>.int (i*j)) (zac 6) (tOp (rI0 fun i j=>.int (i - j)) (zac 8) (zac 7))) (zab (tOp (rI IntMulOk fun i j=>.int (i*j)) (zac 8) (zac 4)) zan))) zan))) (zae 3)))
theorem zaY (K:PySem.W.Frag) (D:zch) (σ:St) (H:Hp):zdL K D σ H=(zaR (zaZ (zau zh7 [] E0 (zab (tOp (zcX K) (zac 0) (zac 2)) (zab (tOp (zcX K) (zac 5) (zac 2)) zan))) (zcA K 2 (zaz (zae 7) (zaz (zae 8) zcy))))
 (zaZ (zau zc8 [] E0 (zab (zac 3) (zab (zcJ (zab (tOp (rI IntMulOk fun i j=>.int (i*j)) (zac 6) (tOp (rI0 fun i j=>.int (i - j)) (zac 8) (zac 7))) (zab (tOp (rI IntMulOk fun i j=>.int (i*j)) (zac 8) (zac 4)) zan))) zan))) (zae 3))) D σ H:=rfl
def zc9 (K:PySem.W.Frag):TS :=
 (zaR (zaZ (zcJ (zab (tC (.int 0)) (zab (tC (.int 1)) zan))) (zae 3))
 (zaR (zaZ (tCB (zij K) (zab (zbn (zbN K (zac 1)) (zcA K 2 (zaz (zae 0) (zaz (zae 1) zcy))) zaM (zac 1) [none,none]) zan)) (zae 4))
 (zaR (zgr (zbN K (zac 1)) (zcA K 2 (zaz (zae 5) (zaz (zae 6) zcy)))
 (zdL K))
 (zbo (zac 3)))))
theorem zgg {l ml:Addr} {ts:List Addr} {bs:List Box} {us:List Addr} {xs:List Mp} {k:Nat} {b:Box} (B:Bxs H l ts bs) (M:Mx H ml us xs bs.length) (hk:bs[k]?=some b) (q:∀ (r:Addr) (H':Hp),zaO H H'→H' r=some (.tup (fr (chM b k xs)))→Bq 410 (chM b k xs)→Q (.ref r) H') :
  zc9 K { nx:=fun _ H'=>Q .non H',rt:=Q } (L2.start ["_law_boxes_here","_law_mix_here","_law_k","_law_total","_law_whole_here","_law_plan_here","_law_weight","_law_top","_law_bottom"] [.ref l,.ref ml,.int k]) H:=by
 unfold zc9
 obtain ⟨W0,W1⟩:=M.ws
 have l4:=M.l4
 have kl:=(List.getElem?_eq_some_iff.mp hk).1
 simp_all only [zaY,zac]
 refine ⟨by decide,fun r0 n0=>?_⟩
 have s0:=zao n0 (.tup [.int 0,.int 1])
 have h0:(L2.upd H r0 (.tup [.int 0,.int 1])) r0=some (.tup [.int 0,.int 1]):=zaj
 generalize L2.upd H r0 (.tup [.int 0,.int 1])=H0 at s0 h0 ⊢
 have M0:=M.same s0
 refine ⟨⟨_,SqL.of M0.hm⟩,fun D hD=>?_⟩
 refine zc6 (g1:=mt1) (g2:=mt2) (vs:=(xs.map fun x=>x.2.2).map V.int) M0.hm M0.tp (by simp) (by simp;omega) hD (fun i x v H' R hx hv s kk=>?_) fun H1 s1 h1=>?_
 ·obtain ⟨w,hw,rfl⟩:=zaB hv
  obtain ⟨y,hy,rfl⟩:=zaB hw
  rw [hx] at hy
  cases hy
  simp_all only [zaY,zac]
  exact kk _ (.refl _)
 simp_all only [zaY,zac]
 refine ⟨_,SqL.of h1,?_⟩
 have eW:(xs.map fun x=>x.2.2).sum=zb2 xs:=rfl
 rw [eW]
 have M1:=M0.same s1
 refine ⟨⟨_,SqL.of M1.hm⟩,?_⟩
 refine zce (K:=K) (xs:=us.map V.ref) (fun i σ H'=>zaO H1 H'∧∃ (r:Addr) (y5 y6 y7 y8:Option V),H' r=some (.tup (fr (((xs.take i).map (tm b (zb2 xs) k)).sum)))∧Bq (101*i+1) ((xs.take i).map (tm b (zb2 xs) k)).sum∧σ=[some (.ref l),some (.ref ml),some (.int k),some (.ref r),some (.int (zb2 xs)),y5,y6,y7,y8]) ⟨.refl _,r0,_,_,_,_,s1 _ _ h0,⟨by show (0:Nat)<2 ^ 1;decide,by show (1:Nat)<2 ^ 1;decide⟩,rfl⟩ ?_ ?_ ?_
 ·rintro i σ H' _ ⟨s,_⟩
  exact SqL.of (s _ _ M1.hm)
 ·rintro i v σ H2 hx ⟨s2,r,y5,y6,y7,y8,hr,br,rfl⟩
  obtain ⟨u,eu,rfl⟩:=zaB hx
  obtain ⟨x,ex,hu⟩:=M1.tp.at eu
  have li:=(List.getElem?_eq_some_iff.mp ex).1
  have gx:=M.gp x (zav ex)
  have gwx:=M.gw x (zav ex)
  have S2:=s0.trans (s1.trans s2)
  obtain ⟨t,b',et,eb,ea,hb,gb⟩:=(B.same S2).ix kl
  rw [hk] at eb
  cases eb
  have em:x.2.1[k]?=some (x.2.1[k]'(by rw [gx.1];exact kl)):=List.getElem?_eq_getElem _
  have eg:x.2.1.getD k 0=x.2.1[k]'(by rw [gx.1];exact kl):=by rw [List.getD_eq_getElem?_getD,em];rfl
  rw [← eg] at em
  obtain ⟨m0,m1⟩:=gx.2 _ (zav em)
  simp_all only [zaY,zac]
  refine ⟨_,SqT.of (s2 _ _ hu),rfl,_,_,rfl,_,_,rfl,rfl,?_⟩
  simp_all only [zaY,zac]
  have hpl:=S2 _ _ (M.pl x (zav ex))
  refine ⟨_,SqL.of (S2 _ _ B.hl),_,ea,_,SqL.of hpl,_,zec (by rw [List.getElem?_map,em];rfl),t,b,_,rfl,hb,gb,m0,by omega,fun z H3 s3 h3=>?_⟩
  simp_all only [zaY,zac]
  obtain ⟨p1,p2⟩:=zo6 gb m1
  obtain ⟨t1,t2,t3⟩:=zmK gb m1 W0 W1 gwx.1 gwx.2
  refine ⟨_,SqT.of h3,rfl,_,_,rfl,_,_,rfl,rfl,?_⟩
  simp_all only [zaY,zac]
  refine ⟨zqB (by omega) (by omega),ziO (by omega) (by omega),by decide,fun y ny=>?_⟩
  have s4:=zao ny (.tup [V.int (x.2.2*(b.2.2 ^ (x.2.1.getD k 0).toNat - (b.2.2 - b.2.1) ^ (x.2.1.getD k 0).toNat)),V.int (b.2.2 ^ (x.2.1.getD k 0).toNat*zb2 xs)])
  have h4:(L2.upd H3 y (.tup [V.int (x.2.2*(b.2.2 ^ (x.2.1.getD k 0).toNat - (b.2.2 - b.2.1) ^ (x.2.1.getD k 0).toNat)),V.int (b.2.2 ^ (x.2.1.getD k 0).toNat*zb2 xs)])) y=some (.tup [V.int (x.2.2*(b.2.2 ^ (x.2.1.getD k 0).toNat - (b.2.2 - b.2.1) ^ (x.2.1.getD k 0).toNat)),V.int (b.2.2 ^ (x.2.1.getD k 0).toNat*zb2 xs)]):=zaj
  generalize L2.upd H3 y (.tup [V.int (x.2.2*(b.2.2 ^ (x.2.1.getD k 0).toNat - (b.2.2 - b.2.1) ^ (x.2.1.getD k 0).toNat)),V.int (b.2.2 ^ (x.2.1.getD k 0).toNat*zb2 xs)])=H4 at s4 h4 ⊢
  refine ⟨r,y,_,_,_,_,_,_,rfl,s4 _ _ (s3 _ _ hr),h4,zcn _,t2,br.top.mono (by omega),br.bot,t1.mono (by decide),t3,by omega,fun r' H5 s5 h5=>?_⟩
  rw [Rat.num_divInt_den] at h5
  have e:((xs.take (i+1)).map (tm b (zb2 xs) k)).sum=((xs.take i).map (tm b (zb2 xs) k)).sum+tm b (zb2 xs) k x:=by
   rw [List.take_add_one,ex,List.map_append,List.sum_append]
   show _+(tm b (zb2 xs) k x+0)=_
   rw [Rat.add_zero]
  refine ⟨s2.trans (s3.trans (s4.trans s5)),r',by rw [e];exact h5,?_,rfl⟩
  rw [e]
  have bt:Bq 100 (tm b (zb2 xs) k x):=zbd (by omega) (t1.mono (by decide)) (t3.mono (by decide))
  have ba:=Bq.add2 br bt
  exact ba.mono (by omega)
 ·rintro σ H2 ⟨s2,r,y5,y6,y7,y8,hr,br,rfl⟩
  rw [List.length_map,M.tp.1,List.take_length] at hr br
  simp_all only [zaY,zac]
  exact q r H2 (s0.trans (s1.trans s2)) hr (br.mono (by omega))
theorem zbc:zay ["_law_boxes_here","_law_mix_here","_law_k","_law_total","_law_whole_here","_law_plan_here","_law_weight","_law_top","_law_bottom"] ["_law_boxes_here","_law_mix_here","_law_k"] (zah zcw):=⟨rfl,rfl,rfl,by decide +kernel,rfl,by decide +kernel,by decide +kernel⟩
theorem zgh (T:Txt K mg a):zb0 P w K mg base CX0 3 a.f__law_chance a.d__law_chance ["_law_boxes_here","_law_mix_here","_law_k"] zfz:=by
 have G__law_miss:=zfg (P:=P) (w:=w) (base:=base) T
 have G__law_plus:=zdu (P:=P) (w:=w) (base:=base) T
 refine T.F__law_chance.ok zbc (fun vs H Q E h=>?_) (fun cdv A outer s H vs Q E hr h=>?_)
 ·obtain ⟨l,ml,ts,bs,us,xs,k,b,rfl,B,M,hk,q⟩:=h
  rfl
 obtain ⟨l,ml,ts,bs,us,xs,k,b,rfl,B,M,hk,q⟩:=h
 exact ⟨zc9 K,(zaf (zaE (i:=3) zbc.nd rfl (Or.inl rfl) (zbk (zaa zag (zaa zag zad))))
 (zaf (zaE (i:=4) zbc.nd rfl (Or.inl rfl) (zaJ (zcs rfl) rfl T.z_sum PyProof.Rows.boot_sum (zaa (zbG (sc:=zah zcw) (N:=["_law_boxes_here","_law_mix_here","_law_k","_law_total","_law_whole_here","_law_plan_here","_law_weight","_law_top","_law_bottom"]) (Nc:=["_law_plan_here","_law_weight"]) (cap:=[none,none]) rfl rfl rfl (.of (by decide +kernel)) (zbe (pv 1)) (fun _ _ _ _=>(zbm rfl (zat (zam (i:=0) (show List.Nodup (["_law_plan_here","_law_weight"]:List Str) from by decide) rfl (Or.inl rfl)) (zat (zam (i:=1) (show List.Nodup (["_law_plan_here","_law_weight"]:List Str) from by decide) rfl (Or.inl rfl)) za3)))) (fun _ _ _ _=>zbb) (fun _ _ _ _=>(pv 1))) zad)))
 (zaf (zcq PassesOwn.never rfl (zbe (pv 1)) (zbm rfl (zat (zam (i:=5) zbc.nd rfl (Or.inl rfl)) (zat (zam (i:=6) zbc.nd rfl (Or.inl rfl)) za3)))
 (zaf (zdq (zak G__law_miss (hr.mono (by decide)) rfl T.m__law_miss T.F__law_miss.kp T.b__law_miss .nil zaC (zaa (zaN zbj (pv 0) (pv 2) (fun _ _=>rfl)) (zaa (zaN zbj (pv 5) (pv 2) (fun _ _=>rfl)) zad))) (zbm rfl (zat (zam (i:=7) zbc.nd rfl (Or.inl rfl)) (zat (zam (i:=8) zbc.nd rfl (Or.inl rfl)) za3))))
 (zal (zaE (i:=3) zbc.nd rfl (Or.inl rfl) (zak G__law_plus (hr.mono (by decide)) rfl T.m__law_plus T.F__law_plus.kp T.b__law_plus .nil zaC (zaa (pv 3) (zaa (zbk (zaa (zaA zaL (pv 6) (zaA zcD (pv 8) (pv 7))) (zaa (zaA zaL (pv 8) (pv 4)) zad))) zad)))))))
 (zal (zaK (pv 3)))))),
  zgg B M hk q⟩
def ziA:Sp:=fun vs H Q _=>∃ (l ml:Addr) (ts:List Addr) (bs:List Box) (us:List Addr) (xs:List Mp) (bud:Int),vs=[.ref l,.int bud,.ref ml]∧Bxs H l ts bs∧Mx H ml us xs bs.length∧prs bs xs≤bud*zb2 xs∧∀ H',zaO H H'→Q (.bl true) H'
def zd0 (K:PySem.W.Frag):TS :=
 (zdt (tOr (zfn (tB (zau zeJ [] E0 (zab (tOp (zbu K) (zac 3) (tC (.int 1))) zan)))) (zbE (tOp (rI0 fun i j=>.bl (decide (i<j))) (tOp (zbu K) (zac 3) (tC (.int 1))) (tC (.int 1))))) (zbo (tC (.bl false))) zbF)
theorem zaG (K:PySem.W.Frag) (D:zch) (σ:St) (H:Hp):zd0 K D σ H=(zdt (tOr (zfn (tB (zau zeJ [] E0 (zab (tOp (zbu K) (zac 3) (tC (.int 1))) zan)))) (zbE (tOp (rI0 fun i j=>.bl (decide (i<j))) (tOp (zbu K) (zac 3) (tC (.int 1))) (tC (.int 1))))) (zbo (tC (.bl false))) zbF) D σ H:=rfl
def zd8 (K:PySem.W.Frag):TS :=
 (zdt (tOr (zfn (tB (tCB (zho K) (zab (zac 3) (zab (tC (.ty "tuple")) zan))))) (tOr (zbE (tOp rNe (tCB (fun xs H Q=>∃ p ys,xs=[.ref p]∧(SqL K H p ys∨SqT K H p ys)∧Q (.int ys.length) H) (zab (zac 3) zan)) (tC (.int 2)))) (zfn (tB (zau ziJ [] E0 (zab (zac 0) (zab (tOp (zbu K) (zac 3) (tC (.int 0))) zan))))))) (zbo (tC (.bl false))) zbF)
theorem zaH (K:PySem.W.Frag) (D:zch) (σ:St) (H:Hp):zd8 K D σ H=(zdt (tOr (zfn (tB (tCB (zho K) (zab (zac 3) (zab (tC (.ty "tuple")) zan))))) (tOr (zbE (tOp rNe (tCB (fun xs H Q=>∃ p ys,xs=[.ref p]∧(SqL K H p ys∨SqT K H p ys)∧Q (.int ys.length) H) (zab (zac 3) zan)) (tC (.int 2)))) (zfn (tB (zau ziJ [] E0 (zab (zac 0) (zab (tOp (zbu K) (zac 3) (tC (.int 0))) zan))))))) (zbo (tC (.bl false))) zbF) D σ H:=rfl
def zd4 (K:PySem.W.Frag):TS :=
 (zaR (zaZ (tCB (zij K) (zab (zbn (zbN K (zac 2)) (zcA K 2 (zaz (zae 0) (zaz (zae 1) zcy))) zaM (zac 1) [none,none]) zan)) (zae 4))
 (zbo (tOp (rI0 fun i j=>.bl (decide (i≤j))) (tCB (zij K) (zab (zbn (zbN K (zac 2)) (zcA K 2 (zaz (zae 0) (zaz (zae 1) zcy))) zaM (tOp (rI IntMulOk fun i j=>.int (i*j)) (zac 1) (zau zeb [] E0 (zab (zac 2) (zab (zac 0) zan)))) [none,none,some 0]) zan)) (tOp (rI IntMulOk fun i j=>.int (i*j)) (zac 1) (zac 4)))))
theorem zaI (K:PySem.W.Frag) (D:zch) (σ:St) (H:Hp):zd4 K D σ H=(zaR (zaZ (tCB (zij K) (zab (zbn (zbN K (zac 2)) (zcA K 2 (zaz (zae 0) (zaz (zae 1) zcy))) zaM (zac 1) [none,none]) zan)) (zae 4))
 (zbo (tOp (rI0 fun i j=>.bl (decide (i≤j))) (tCB (zij K) (zab (zbn (zbN K (zac 2)) (zcA K 2 (zaz (zae 0) (zaz (zae 1) zcy))) zaM (tOp (rI IntMulOk fun i j=>.int (i*j)) (zac 1) (zau zeb [] E0 (zab (zac 2) (zab (zac 0) zan)))) [none,none,some 0]) zan)) (tOp (rI IntMulOk fun i j=>.int (i*j)) (zac 1) (zac 4))))) D σ H:=rfl
def zd1 (K:PySem.W.Frag):TS :=
 (zdt (tOr (zfn (tB (tCB (zho K) (zab (zac 2) (zab (tC (.ty "list")) zan))))) (zbE (tOp rEq (tCB (fun xs H Q=>∃ p ys,xs=[.ref p]∧(SqL K H p ys∨SqT K H p ys)∧Q (.int ys.length) H) (zab (zac 2) zan)) (tC (.int 0))))) (zbo (tC (.bl false))) zbF)
theorem zaF (K:PySem.W.Frag) (D:zch) (σ:St) (H:Hp):zd1 K D σ H=(zdt (tOr (zfn (tB (tCB (zho K) (zab (zac 2) (zab (tC (.ty "list")) zan))))) (zbE (tOp rEq (tCB (fun xs H Q=>∃ p ys,xs=[.ref p]∧(SqL K H p ys∨SqT K H p ys)∧Q (.int ys.length) H) (zab (zac 2) zan)) (tC (.int 0))))) (zbo (tC (.bl false))) zbF) D σ H:=rfl
def zdx (K:PySem.W.Frag):TS :=
 (zaR (zf5 (zd1 K))
 (zaR (zgr (zbN K (zac 2)) (zae 3)
 (zaR (zf5 (zd8 K))
 (zd0 K)))
 (zd4 K)))
theorem zgJ {l ml:Addr} {ts:List Addr} {bs:List Box} {us:List Addr} {xs:List Mp} {bud:Int} (B:Bxs H l ts bs) (M:Mx H ml us xs bs.length) (hb:prs bs xs≤bud*zb2 xs) (q:∀ H',zaO H H'→Q (.bl true) H') :
  zdx K { nx:=fun _ H'=>Q .non H',rt:=Q } (L2.start ["_law_boxes_here","_law_budget","_law_mix_here","_law_part","_law_whole_here"] [.ref l,.int bud,.ref ml]) H:=by
 unfold zdx
 obtain ⟨W0,W1⟩:=M.ws
 have l4:=M.l4
 have l1:=M.l1
 simp_all only [zaG,zaH,zaI,zaF,zac]
 refine ⟨fun σ H'=>H'=H∧σ=[some (.ref l),some (.int bud),some (.ref ml),none,none],?_,?_⟩
 ·simp_all only [zaG,zaH,zaI,zaF,zac]
  refine zex M.hm ⟨true,rfl,?_⟩
  refine zez (fun z=>absurd z (by decide)) (fun _=>?_)
  refine ⟨_,.inl (SqL.of M.hm),?_⟩
  rw [List.length_map,M.tp.1]
  exact zez (fun z=>absurd z (by omega)) (fun _=>rfl)
 ·rintro σ H' ⟨e,rfl⟩
  rw [e]
  simp_all only [zaG,zaH,zaI,zaF,zac]
  refine ⟨⟨_,SqL.of M.hm⟩,?_⟩
  refine zce (K:=K) (xs:=us.map V.ref) (fun i σ H'=>zaO H H'∧∃ y,σ=[some (.ref l),some (.int bud),some (.ref ml),y,none]) ⟨.refl _,_,rfl⟩ ?_ ?_ ?_
  ·rintro i σ H' _ ⟨s,_⟩
   exact SqL.of (s _ _ M.hm)
  ·rintro i v σ H1 hx ⟨s1,y,rfl⟩
   obtain ⟨u,eu,rfl⟩:=zaB hx
   obtain ⟨x,ex,hu⟩:=M.tp.at eu
   have hu1:=s1 _ _ hu
   have gwx:=M.gw x (zav ex)
   simp_all only [zaG,zaH,zaI,zaF,zac]
   refine ⟨fun σ H'=>zaO H1 H'∧σ=[some (.ref l),some (.int bud),some (.ref ml),some (.ref u),none],?_,?_⟩
   ·simp_all only [zaG,zaH,zaI,zaF,zac]
    refine zfA hu1 ⟨true,rfl,?_⟩
    refine zez (fun z=>absurd z (by decide)) (fun _=>?_)
    refine ⟨_,.inr (SqT.of hu1),?_⟩
    refine zez (fun z=>absurd rfl z) (fun _=>?_)
    refine ⟨_,SqT.of hu1,_,rfl,l,x.1,ts,bs,x.2.1,rfl,B.same s1,s1 _ _ (M.pl x (zav ex)),M.gp x (zav ex),fun H2 s2=>⟨true,rfl,?_⟩⟩
    exact zez (fun z=>absurd z (by decide)) (fun _=>s2)
   ·rintro σ H2 ⟨s2,rfl⟩
    have hu2:=s2 _ _ hu1
    simp_all only [zaG,zaH,zaI,zaF,zac]
    refine ⟨_,SqT.of hu2,_,rfl,x.2.2,rfl,true,rfl,?_⟩
    refine zez (fun z=>absurd z (by decide)) (fun _=>?_)
    refine ⟨_,SqT.of hu2,_,rfl,x.2.2,rfl,?_⟩
    exact zez (fun z=>absurd z (by omega)) (fun _=>s1.trans s2)
  ·rintro σ H1 ⟨s1,y,rfl⟩
   have M1:=M.same s1
   simp_all only [zaG,zaH,zaI,zaF,zac]
   refine ⟨⟨_,SqL.of M1.hm⟩,fun D hD=>?_⟩
   refine zc6 (g1:=mt1) (g2:=mt2) (vs:=(xs.map fun x=>x.2.2).map V.int) M1.hm M1.tp (by simp) (by simp;omega) hD (fun i x v H' R hx hv s kk=>?_) fun H2 s2 h2=>?_
   ·obtain ⟨w,hw,rfl⟩:=zaB hv
    obtain ⟨y,hy,rfl⟩:=zaB hw
    rw [hx] at hy
    cases hy
    simp_all only [zaG,zaH,zaI,zaF,zac]
    exact kk _ (.refl _)
   simp_all only [zaG,zaH,zaI,zaF,zac]
   refine ⟨_,SqL.of h2,?_⟩
   have M2:=M1.same s2
   have B2:=B.same (s1.trans s2)
   refine ⟨⟨_,SqL.of M2.hm⟩,fun D2 hD2=>?_⟩
   refine zc6 (g1:=mt1) (g2:=mt2) (vs:=(xs.map fun x=>x.2.2*(zax bs x.2.1).sum).map V.int) M2.hm M2.tp (by simp) (by simp;omega) hD2 (fun i x v H' R hx hv s kk=>?_) fun H3 s3 h3=>?_
   ·obtain ⟨w,hw,rfl⟩:=zaB hv
    obtain ⟨y,hy,rfl⟩:=zaB hw
    rw [hx] at hy
    cases hy
    have gwx:=M.gw x (zav hx)
    simp_all only [zaG,zaH,zaI,zaF,zac]
    refine ⟨l,x.1,ts,bs,x.2.1,rfl,B2.same s,s _ _ (M2.pl x (zav hx)),M.gp x (zav hx),fun H4 s4=>?_⟩
    simp_all only [zaG,zaH,zaI,zaF,zac]
    exact ⟨zqB (by omega) (by omega),kk _ s4⟩
   simp_all only [zaG,zaH,zaI,zaF,zac]
   refine ⟨_,SqL.of h3,ziO (by show _<zb2 xs;omega) (by show zb2 xs<_;omega),?_⟩
   have e:decide ((xs.map fun x=>x.2.2*(zax bs x.2.1).sum).sum≤bud*(xs.map fun x=>x.2.2).sum)=true:=decide_eq_true hb
   rw [e]
   exact q _ (s1.trans (s2.trans s3))
theorem zdp:zay ["_law_boxes_here","_law_budget","_law_mix_here","_law_part","_law_whole_here"] ["_law_boxes_here","_law_budget","_law_mix_here"] (zah zca):=⟨rfl,rfl,rfl,by decide +kernel,rfl,by decide +kernel,by decide +kernel⟩
theorem zgA (T:Txt K mg a):zb0 P w K mg base CX0 3 a.f__law_keeps a.d__law_keeps ["_law_boxes_here","_law_budget","_law_mix_here"] ziA:=by
 have G__law_plan:=zhr (P:=P) (w:=w) (base:=base) T
 have G__law_price:=zdf (P:=P) (w:=w) (base:=base) T
 have G__law_whole:=zeQ (P:=P) (w:=w) (base:=base) T
 refine T.F__law_keeps.ok zdp (fun vs H Q E h=>?_) (fun cdv A outer s H vs Q E hr h=>?_)
 ·obtain ⟨l,ml,ts,bs,us,xs,bud,rfl,B,M,hb,q⟩:=h
  rfl
 obtain ⟨l,ml,ts,bs,us,xs,bud,rfl,B,M,hb,q⟩:=h
 exact ⟨zdx K,(zaf (zcI (zc3 (PW.pt (zfO (zcY (zb1 (zaJ zbv rfl T.z_isinstance PyProof.Rows.boot_isinstance (zaa (pv 2) (zaa (zdh rfl T.z_list zcd rfl) zad))))) (zfh (zbH zjU (zaJ za0 rfl T.z_len PySem.boot_len (zaa (pv 2) zad)) zag (zbD _))))) (zal (zaK zgI)) zbq))
 (zaf (zcq PassesOwn.never rfl (zbe (pv 2)) (zam (i:=3) zdp.nd rfl (Or.inl rfl))
 (zaf (zcI (zc3 (PW.pt (zfO (zcY (zb1 (zaJ zbv rfl T.z_isinstance PyProof.Rows.boot_isinstance (zaa (pv 3) (zaa (zdh rfl T.z_tuple zgn rfl) zad))))) (zfO (zbH zoH (zaJ za0 rfl T.z_len PySem.boot_len (zaa (pv 3) zad)) zag (zbD _)) (zfh (zcY (zb1 (zak G__law_plan (hr.mono (by decide)) rfl T.m__law_plan T.F__law_plan.kp T.b__law_plan .nil zaC (zaa (pv 0) (zaa (zaN zaD (pv 3) zag (fun _ _=>rfl)) zad))))))))) (zal (zaK zgI)) zbq))
 (zal (zc3 (PW.pt (zfO (zcY (zb1 (zak G__law_whole (hr.mono (by decide)) rfl T.m__law_whole T.F__law_whole.kp T.b__law_whole .nil zaC (zaa (zaN zaD (pv 3) zag (fun _ _=>rfl)) zad)))) (zfh (zbH zhT (zaN zaD (pv 3) zag (fun _ _=>rfl)) zag (zbD _))))) (zal (zaK zgI)) zbq))))
 (zaf (zaE (i:=4) zdp.nd rfl (Or.inl rfl) (zaJ (zcs rfl) rfl T.z_sum PyProof.Rows.boot_sum (zaa (zbG (sc:=zah zca) (N:=["_law_boxes_here","_law_budget","_law_mix_here","_law_part","_law_whole_here"]) (Nc:=["_law_plan_here","_law_weight"]) (cap:=[none,none]) rfl rfl rfl (.of (by decide +kernel)) (zbe (pv 2)) (fun _ _ _ _=>(zbm rfl (zat (zam (i:=0) (show List.Nodup (["_law_plan_here","_law_weight"]:List Str) from by decide) rfl (Or.inl rfl)) (zat (zam (i:=1) (show List.Nodup (["_law_plan_here","_law_weight"]:List Str) from by decide) rfl (Or.inl rfl)) za3)))) (fun _ _ _ _=>zbb) (fun _ _ _ _=>(pv 1))) zad)))
 (zal (zaK (zep zjY (zaJ (zcs rfl) rfl T.z_sum PyProof.Rows.boot_sum (zaa (zbG (sc:=zah zca) (N:=["_law_boxes_here","_law_budget","_law_mix_here","_law_part","_law_whole_here"]) (Nc:=["_law_plan_here","_law_weight","_law_boxes_here"]) (cap:=[none,none,some 0]) rfl rfl rfl (.of (by decide +kernel)) (zbe (pv 2)) (fun _ _ _ _=>(zbm rfl (zat (zam (i:=0) (show List.Nodup (["_law_plan_here","_law_weight","_law_boxes_here"]:List Str) from by decide) rfl (Or.inl rfl)) (zat (zam (i:=1) (show List.Nodup (["_law_plan_here","_law_weight","_law_boxes_here"]:List Str) from by decide) rfl (Or.inl rfl)) za3)))) (fun _ _ _ _=>zbb) (fun _ _ _ _=>(zaA zaL (pv 1) (zak G__law_price (hr.mono (by decide)) rfl T.m__law_price T.F__law_price.kp T.b__law_price .nil zaC (zaa (pv 2) (zaa (pv 0) zad)))))) zad)) (zaA zaL (pv 1) (pv 4)) (zbD _))))))),
  zgJ B M hb q⟩
def zgV:Sp:=fun vs H Q _=>∃ (l ml:Addr) (ts:List Addr) (bs:List Box) (us:List Addr) (xs:List Mp),vs=[.ref l,.ref ml]∧Bxs H l ts bs∧Mx H ml us xs bs.length∧∀ (r:Addr) (m:Rat) (H':Hp),zaO H H'→H' r=some (.tup (fr m))→Bq 410 m→m≤1→(∀ (k:Nat) b,bs[k]?=some b→m≤chM b k xs)→Q (.ref r) H'
def zdZ:TS :=
 (zaR (zaZ (zau zfz [] E0 (zab (zac 0) (zab (zac 1) (zab (zac 3) zan)))) (zae 4))
 (zdt (tB (zau zew [] E0 (zab (zac 4) (zab (zac 2) zan)))) (zaZ (zac 4) (zae 2)) zbF))
theorem zbK (D:zch) (σ:St) (H:Hp):zdZ D σ H=(zaR (zaZ (zau zfz [] E0 (zab (zac 0) (zab (zac 1) (zab (zac 3) zan)))) (zae 4))
 (zdt (tB (zau zew [] E0 (zab (zac 4) (zab (zac 2) zan)))) (zaZ (zac 4) (zae 2)) zbF)) D σ H:=rfl
def zdF (K:PySem.W.Frag):TS :=
 (zaR (zaZ (zcJ (zab (tC (.int 1)) (zab (tC (.int 1)) zan))) (zae 2))
 (zaR (zgr (zfV (zab (tCB (fun xs H Q=>∃ p ys,xs=[.ref p]∧(SqL K H p ys∨SqT K H p ys)∧Q (.int ys.length) H) (zab (zac 0) zan)) zan)) (zae 3)
 (zdZ))
 (zbo (zac 2))))
theorem zhn {l ml:Addr} {ts:List Addr} {bs:List Box} {us:List Addr} {xs:List Mp} (B:Bxs H l ts bs) (M:Mx H ml us xs bs.length) (q:∀ (r:Addr) (m:Rat) (H':Hp),zaO H H'→H' r=some (.tup (fr m))→Bq 410 m→m≤1→(∀ (k:Nat) b,bs[k]?=some b→m≤chM b k xs)→Q (.ref r) H') :
  zdF K { nx:=fun _ H'=>Q .non H',rt:=Q } (L2.start ["_law_boxes_here","_law_mix_here","_law_least_here","_law_k","_law_chance_here"] [.ref l,.ref ml]) H:=by
 unfold zdF
 have l3:=B.l3
 simp_all only [zbK,zac]
 refine ⟨by decide,fun r0 n0=>?_⟩
 have s0:=zao n0 (.tup [.int 1,.int 1])
 have h0:(L2.upd H r0 (.tup [.int 1,.int 1])) r0=some (.tup [.int 1,.int 1]):=zaj
 generalize L2.upd H r0 (.tup [.int 1,.int 1])=H0 at s0 h0 ⊢
 refine ⟨_,.inl (SqL.of (s0 _ _ B.hl)),?_⟩
 rw [List.length_map,B.hb.1]
 refine ⟨by omega,by omega,?_⟩
 refine zb3 (fun i σ H'=>zaO H0 H'∧∃ (r:Addr) (m:Rat) (y z:Option V),H' r=some (.tup (fr m))∧Bq 410 m∧m≤1∧(∀ (k:Nat) b,k<i→bs[k]?=some b→m≤chM b k xs)∧σ=[some (.ref l),some (.ref ml),some (.ref r),y,z]) ⟨.refl _,r0,1,_,_,h0,⟨by show (1:Nat)<2 ^ 410;exact Nat.one_lt_two_pow (by decide),by show (1:Nat)<2 ^ 410;exact Nat.one_lt_two_pow (by decide)⟩,Rat.le_refl,fun k b hk=>absurd hk (Nat.not_lt_zero k),rfl⟩ ?_ ?_
 ·rintro i σ H1 hi ⟨s1,r,m,y,z,hr,bm,m1,hm,rfl⟩
  have S1:=s0.trans s1
  have eb:bs[i]?=some (bs[i]'(by omega)):=List.getElem?_eq_getElem (by omega)
  simp_all only [zbK,zac]
  rw [Int.zero_add]
  refine ⟨l,ml,ts,bs,us,xs,i,_,rfl,B.same S1,M.same S1,eb,fun c H2 s2 h2 bc=>?_⟩
  simp_all only [zbK,zac]
  refine ⟨c,r,_,m,rfl,h2,s2 _ _ hr,bc.mono (by decide),bm.mono (by decide),_,rfl,?_⟩
  by_cases cc:chM (bs[i]'(by omega)) i xs<m
  ·rw [if_pos (decide_eq_true cc)]
   refine ⟨s1.trans s2,c,_,h2,bc,Rat.le_trans (Rat.le_of_lt cc) m1,fun k b hk e=>?_,rfl⟩
   by_cases ck:k=i
   ·subst ck
    rw [eb] at e
    cases e
    exact Rat.le_refl
   ·exact Rat.le_trans (Rat.le_of_lt cc) (hm k b (by omega) e)
  ·rw [if_neg (by simpa using cc)]
   refine ⟨s1.trans s2,r,m,s2 _ _ hr,bm,m1,fun k b hk e=>?_,rfl⟩
   by_cases ck:k=i
   ·subst ck
    rw [eb] at e
    cases e
    exact Rat.not_lt.mp cc
   ·exact hm k b (by omega) e
 ·rintro σ H1 ⟨s1,r,m,y,z,hr,bm,m1,hm,rfl⟩
  simp_all only [zbK,zac]
  exact q r m H1 (s0.trans s1) hr bm m1 fun k b e=>hm k b (by have:=(List.getElem?_eq_some_iff.mp e).1;omega) e
theorem zbT:zay ["_law_boxes_here","_law_mix_here","_law_least_here","_law_k","_law_chance_here"] ["_law_boxes_here","_law_mix_here"] (zah zdI):=⟨rfl,rfl,rfl,by decide +kernel,rfl,by decide +kernel,by decide +kernel⟩
theorem zhi (T:Txt K mg a):zb0 P w K mg base CX0 4 a.f__law_least a.d__law_least ["_law_boxes_here","_law_mix_here"] zgV:=by
 have G__law_chance:=zgh (P:=P) (w:=w) (base:=base) T
 have G__law_less:=ze9 (P:=P) (w:=w) (base:=base) T
 refine T.F__law_least.ok zbT (fun vs H Q E h=>?_) (fun cdv A outer s H vs Q E hr h=>?_)
 ·obtain ⟨l,ml,ts,bs,us,xs,rfl,B,M,q⟩:=h
  rfl
 obtain ⟨l,ml,ts,bs,us,xs,rfl,B,M,q⟩:=h
 exact ⟨zdF K,(zaf (zaE (i:=2) zbT.nd rfl (Or.inl rfl) (zbk (zaa zag (zaa zag zad))))
 (zaf (zcq PassesOwn.never rfl (zcb rfl T.z_range (zaa (zaJ za0 rfl T.z_len PySem.boot_len (zaa (pv 0) zad)) zad)) (zam (i:=3) zbT.nd rfl (Or.inl rfl))
 (zaf (zaE (i:=4) zbT.nd rfl (Or.inl rfl) (zak G__law_chance (hr.mono (by decide)) rfl T.m__law_chance T.F__law_chance.kp T.b__law_chance .nil zaC (zaa (pv 0) (zaa (pv 1) (zaa (pv 3) zad)))))
 (zal (zc3 (zb1 (zak G__law_less (hr.mono (by decide)) rfl T.m__law_less T.F__law_less.kp T.b__law_less .nil zaC (zaa (pv 4) (zaa (pv 2) zad)))) (zal (zaE (i:=2) zbT.nd rfl (Or.inl rfl) (pv 4))) zbq))))
 (zal (zaK (pv 2))))),
  zhn B M q⟩
def zd7 (bs:List Box) (Ws ms:List Int):List Rat:=List.zipWith (fun (w:Int) (c:Rat)=>(w:Rat)*c) Ws (zfs bs ms)
theorem zlD {b:Box} (g:GB b) (w n:Int):Rat.divInt (w*(b.2.2 ^ n.toNat - (b.2.2 - b.2.1) ^ n.toNat)) (b.2.2 ^ n.toNat)=(w:Rat)*chq b n:=by
 unfold chq
 rw [Rat.divInt_eq_div,Rat.divInt_eq_div,Rat.intCast_mul]
 have o:=zdK g n
 have on:((b.2.2 ^ n.toNat:Int):Rat)≠0:=fun z=>by
  have:(b.2.2 ^ n.toNat:Int)=0:=by exact_mod_cast z
  omega
 grind
def zgx:Sp:=fun vs H Q _=>∃ (l wl pl:Addr) (ts:List Addr) (bs:List Box) (Ws ms:List Int),vs=[.ref l,.ref wl,.ref pl]∧Bxs H l ts bs∧H wl=some (.lst (Ws.map V.int))∧H pl=some (.lst (ms.map V.int))∧GP bs.length ms∧Ws.length=bs.length∧(∀ w∈Ws,Bd 1600 w)∧∀ (r:Addr) (H':Hp),zaO H H'→H' r=some (.tup (fr (zhp bs Ws ms)))→Bq 5200 (zhp bs Ws ms)→Q (.ref r) H'
def zbO (K:PySem.W.Frag):TS :=
 (zaR (zaZ (zau zh7 [] E0 (zab (tOp (zcX K) (zac 0) (zac 4)) (zab (tOp (zcX K) (zac 2) (zac 4)) zan))) (zcA K 2 (zaz (zae 5) (zaz (zae 6) zcy))))
 (zaZ (zau zc8 [] E0 (zab (zac 3) (zab (zcJ (zab (tOp (rI IntMulOk fun i j=>.int (i*j)) (tOp (zcX K) (zac 1) (zac 4)) (tOp (rI0 fun i j=>.int (i - j)) (zac 6) (zac 5))) (zab (zac 6) zan))) zan))) (zae 3)))
theorem zaQ (K:PySem.W.Frag) (D:zch) (σ:St) (H:Hp):zbO K D σ H=(zaR (zaZ (zau zh7 [] E0 (zab (tOp (zcX K) (zac 0) (zac 4)) (zab (tOp (zcX K) (zac 2) (zac 4)) zan))) (zcA K 2 (zaz (zae 5) (zaz (zae 6) zcy))))
 (zaZ (zau zc8 [] E0 (zab (zac 3) (zab (zcJ (zab (tOp (rI IntMulOk fun i j=>.int (i*j)) (tOp (zcX K) (zac 1) (zac 4)) (tOp (rI0 fun i j=>.int (i - j)) (zac 6) (zac 5))) (zab (zac 6) zan))) zan))) (zae 3))) D σ H:=rfl
def zbw (K:PySem.W.Frag):TS :=
 (zaR (zaZ (zcJ (zab (tC (.int 0)) (zab (tC (.int 1)) zan))) (zae 3))
 (zaR (zgr (zfV (zab (tCB (fun xs H Q=>∃ p ys,xs=[.ref p]∧(SqL K H p ys∨SqT K H p ys)∧Q (.int ys.length) H) (zab (zac 0) zan)) zan)) (zae 4)
 (zbO K))
 (zbo (zac 3))))
theorem zcZ {l wl pl:Addr} {ts:List Addr} {bs:List Box} {Ws ms:List Int} (B:Bxs H l ts bs) (hw:H wl=some (.lst (Ws.map V.int))) (hp:H pl=some (.lst (ms.map V.int))) (g:GP bs.length ms) (lw:Ws.length=bs.length) (bw:∀ w∈Ws,Bd 1600 w) (q:∀ (r:Addr) (H':Hp),zaO H H'→H' r=some (.tup (fr (zhp bs Ws ms)))→Bq 5200 (zhp bs Ws ms)→Q (.ref r) H') :
  zbw K { nx:=fun _ H'=>Q .non H',rt:=Q } (L2.start ["_law_boxes_here","_law_weights","_law_plan_here","_law_total","_law_k","_law_top","_law_bottom"] [.ref l,.ref wl,.ref pl]) H:=by
 unfold zbw
 have l3:=B.l3
 have lf:(zd7 bs Ws ms).length=bs.length:=by rw [zd7,List.length_zipWith,zfs,List.length_zipWith,lw,g.1];omega
 simp_all only [zaQ,zac]
 refine ⟨by decide,fun r0 n0=>?_⟩
 have s0:=zao n0 (.tup [.int 0,.int 1])
 have h0:(L2.upd H r0 (.tup [.int 0,.int 1])) r0=some (.tup [.int 0,.int 1]):=zaj
 generalize L2.upd H r0 (.tup [.int 0,.int 1])=H0 at s0 h0 ⊢
 refine ⟨_,.inl (SqL.of (s0 _ _ B.hl)),?_⟩
 rw [List.length_map,B.hb.1]
 refine ⟨by omega,by omega,?_⟩
 refine zb3 (fun i σ H'=>zaO H0 H'∧∃ (r:Addr) (y z w:Option V),H' r=some (.tup (fr ((zd7 bs Ws ms).take i).sum))∧Bq (1701*i+1) ((zd7 bs Ws ms).take i).sum∧σ=[some (.ref l),some (.ref wl),some (.ref pl),some (.ref r),y,z,w]) ⟨.refl _,r0,_,_,_,h0,⟨by show (0:Nat)<2 ^ 1;decide,by show (1:Nat)<2 ^ 1;decide⟩,rfl⟩ ?_ ?_
 ·rintro i σ H1 hi ⟨s1,r,y,z,w,hr,br,rfl⟩
  have hi':i<bs.length:=by omega
  have S1:=s0.trans s1
  obtain ⟨t,b,et,eb,ea,hb,gb⟩:=(B.same S1).ix hi'
  have em:ms[i]?=some (ms[i]'(by rw [g.1];exact hi')):=List.getElem?_eq_getElem _
  have ew:Ws[i]?=some (Ws[i]'(by rw [lw];exact hi')):=List.getElem?_eq_getElem _
  generalize ms[i]'(by rw [g.1];exact hi')=m at em
  generalize Ws[i]'(by rw [lw];exact hi')=x at ew
  obtain ⟨m0,m1⟩:=g.2 _ (zav em)
  have bx1:=bw _ (zav ew)
  obtain ⟨p1,p2⟩:=zo6 gb m1
  have o:=zdK gb m
  have bt:=bx1.mul (p1.sub p2)
  simp_all only [zaQ,zac]
  rw [Int.zero_add]
  refine ⟨_,SqL.of (S1 _ _ B.hl),_,ea,_,SqL.of (S1 _ _ hp),_,zec (by rw [List.getElem?_map,em];rfl),t,b,m,rfl,hb,gb,m0,by omega,fun c H2 s2 h2=>?_⟩
  simp_all only [zaQ,zac]
  refine ⟨_,SqT.of h2,rfl,_,_,rfl,_,_,rfl,rfl,?_⟩
  simp_all only [zaQ,zac]
  refine ⟨_,SqL.of (s2 _ _ (S1 _ _ hw)),_,zec (by rw [List.getElem?_map,ew];rfl),_,rfl,zf4 1600 68 bx1 (p1.sub p2),by decide,fun d nd=>?_⟩
  have s3:=zao nd (.tup [V.int (x*(b.2.2 ^ m.toNat - (b.2.2 - b.2.1) ^ m.toNat)),V.int (b.2.2 ^ m.toNat)])
  have h3:(L2.upd H2 d (.tup [V.int (x*(b.2.2 ^ m.toNat - (b.2.2 - b.2.1) ^ m.toNat)),V.int (b.2.2 ^ m.toNat)])) d=some (.tup [V.int (x*(b.2.2 ^ m.toNat - (b.2.2 - b.2.1) ^ m.toNat)),V.int (b.2.2 ^ m.toNat)]):=zaj
  generalize L2.upd H2 d (.tup [V.int (x*(b.2.2 ^ m.toNat - (b.2.2 - b.2.1) ^ m.toNat)),V.int (b.2.2 ^ m.toNat)])=H3 at s3 h3 ⊢
  refine ⟨r,d,_,_,_,_,_,_,rfl,s3 _ _ (s2 _ _ hr),h3,zcn _,o,br.top.mono (by omega),br.bot,bt.mono (by decide),p1,by omega,fun r' H4 s4 h4=>?_⟩
  rw [Rat.num_divInt_den] at h4
  have et:(zd7 bs Ws ms)[i]?=some ((x:Rat)*chq b m):=by
   rw [zd7,List.getElem?_zipWith,ew,zfs,List.getElem?_zipWith,eb,em]
  have e:((zd7 bs Ws ms).take (i+1)).sum=((zd7 bs Ws ms).take i).sum+Rat.divInt (x*(b.2.2 ^ m.toNat - (b.2.2 - b.2.1) ^ m.toNat)) (b.2.2 ^ m.toNat):=by
   rw [List.take_add_one,et,List.sum_append,zlD gb]
   show _+((x:Rat)*chq b m+0)=_
   rw [Rat.add_zero]
  refine ⟨s1.trans (s2.trans (s3.trans s4)),r',by rw [e];exact h4,?_,rfl⟩
  rw [e]
  have bt2:Bq 1700 (Rat.divInt (x*(b.2.2 ^ m.toNat - (b.2.2 - b.2.1) ^ m.toNat)) (b.2.2 ^ m.toNat)):=zbd (by omega) (bt.mono (by decide)) (p1.mono (by decide))
  exact (br.add2 bt2).mono (by omega)
 ·rintro σ H1 ⟨s1,r,y,z,w,hr,br,rfl⟩
  have e:(zd7 bs Ws ms).take (bs.length:Int).toNat=zd7 bs Ws ms:=List.take_of_length_le (by omega)
  rw [e] at hr br
  simp_all only [zaQ,zac]
  exact q r H1 (s0.trans s1) hr (br.mono (by omega))
theorem zaS:zay ["_law_boxes_here","_law_weights","_law_plan_here","_law_total","_law_k","_law_top","_law_bottom"] ["_law_boxes_here","_law_weights","_law_plan_here"] (zah zby):=⟨rfl,rfl,rfl,by decide +kernel,rfl,by decide +kernel,by decide +kernel⟩
theorem zc4 (T:Txt K mg a):zb0 P w K mg base CX0 3 a.f__law_found_by_weights a.d__law_found_by_weights ["_law_boxes_here","_law_weights","_law_plan_here"] zgx:=by
 have G__law_miss:=zfg (P:=P) (w:=w) (base:=base) T
 have G__law_plus:=zdu (P:=P) (w:=w) (base:=base) T
 refine T.F__law_found_by_weights.ok zaS (fun vs H Q E h=>?_) (fun cdv A outer s H vs Q E hr h=>?_)
 ·obtain ⟨l,wl,pl,ts,bs,Ws,ms,rfl,B,hw,hp,g,lw,bw,q⟩:=h
  rfl
 obtain ⟨l,wl,pl,ts,bs,Ws,ms,rfl,B,hw,hp,g,lw,bw,q⟩:=h
 exact ⟨zbw K,(zaf (zaE (i:=3) zaS.nd rfl (Or.inl rfl) (zbk (zaa zag (zaa zag zad))))
 (zaf (zcq PassesOwn.never rfl (zcb rfl T.z_range (zaa (zaJ za0 rfl T.z_len PySem.boot_len (zaa (pv 0) zad)) zad)) (zam (i:=4) zaS.nd rfl (Or.inl rfl))
 (zaf (zdq (zak G__law_miss (hr.mono (by decide)) rfl T.m__law_miss T.F__law_miss.kp T.b__law_miss .nil zaC (zaa (zaN zbj (pv 0) (pv 4) (fun _ _=>rfl)) (zaa (zaN zbj (pv 2) (pv 4) (fun _ _=>rfl)) zad))) (zbm rfl (zat (zam (i:=5) zaS.nd rfl (Or.inl rfl)) (zat (zam (i:=6) zaS.nd rfl (Or.inl rfl)) za3))))
 (zal (zaE (i:=3) zaS.nd rfl (Or.inl rfl) (zak G__law_plus (hr.mono (by decide)) rfl T.m__law_plus T.F__law_plus.kp T.b__law_plus .nil zaC (zaa (pv 3) (zaa (zbk (zaa (zaA zaL (zaN zbj (pv 1) (pv 4) (fun _ _=>rfl)) (zaA zcD (pv 6) (pv 5))) (zaa (pv 6) zad))) zad)))))))
 (zal (zaK (pv 3))))),
  zcZ B hw hp g lw bw q⟩
theorem zi7 (k:Nat):(List.replicate k [V.int 0]).flatten=(List.replicate k (0:Int)).map V.int:=by
 induction k with
 | zero=>rfl
 | succ k ih =>
  rw [List.replicate_succ,List.flatten_cons,ih,List.replicate_succ,List.map_cons]
  rfl
theorem zjc (bs:List Box) (k:Nat):(zax bs (List.replicate k 0)).sum=0:=zdQ bs _ fun n hn=>(List.mem_replicate.mp hn).2
theorem ziI:∀ (bs:List Box) (ms:List Int),(∀ b∈bs,GB b)→(∀ m∈ms,0≤m∧m≤11)→0≤(zax bs ms).sum∧(zax bs ms).sum≤660*(bs.length:Int)
 | [],_,_,_=>by simp [zax]
 | _::_,[],_,_=>by simp [zax];omega
 | b::bs,m::ms,gb,h=>by
  obtain ⟨z1,z2⟩:=ziI bs ms (fun x hx=>gb x (List.mem_cons_of_mem _ hx)) (fun x hx=>h x (List.mem_cons_of_mem _ hx))
  obtain ⟨g1,g2,_⟩:=gb b List.mem_cons_self
  obtain ⟨m0,m1⟩:=h m List.mem_cons_self
  have a1:0≤b.1*m:=Int.mul_nonneg (by omega) m0
  have a2:b.1*m≤60*11:=Int.mul_le_mul g2 m1 m0 (by decide)
  have e:(zax (b::bs) (m::ms)).sum=b.1*m+(zax bs ms).sum:=rfl
  rw [e,List.length_cons]
  omega
theorem znd (bs:List Box) (gb:∀ b∈bs,GB b) (l3:bs.length≤3):∀ xs:List Mp,(∀ x∈xs,GP bs.length x.2.1∧1≤x.2.2∧x.2.2≤4)→0≤prs bs xs∧prs bs xs≤7920*(xs.length:Int)
 | [],_=>by simp [prs]
 | x::xs,h=>by
  obtain ⟨z1,z2⟩:=znd bs gb l3 xs fun y hy=>h y (List.mem_cons_of_mem _ hy)
  obtain ⟨g,w0,w1⟩:=h x List.mem_cons_self
  obtain ⟨c0,c1⟩:=ziI bs x.2.1 gb g.2
  have a1:0≤x.2.2*(zax bs x.2.1).sum:=Int.mul_nonneg (by omega) c0
  have a2:x.2.2*(zax bs x.2.1).sum≤4*1980:=Int.mul_le_mul w1 (by omega) c0 (by decide)
  have e:prs bs (x::xs)=x.2.2*(zax bs x.2.1).sum+prs bs xs:=rfl
  rw [e,List.length_cons]
  omega
theorem zn8 {p b w:Int} (b0:0<b) (h:b*w<p) (w0:0≤w):1≤0 - (0 - p).fdiv b - w∧0 - (0 - p).fdiv b - w≤p∧p≤b*(w+(0 - (0 - p).fdiv b - w)):=by
 have e:=Int.mul_fdiv_add_fmod (0 - p) b
 have f0:=Int.fmod_nonneg_of_pos (0 - p) b0
 have f1:=Int.fmod_lt_of_pos (0 - p) b0
 generalize (0 - p).fdiv b=d at e ⊢
 generalize (0 - p).fmod b=f at e f0 f1
 have e2:b*(w+(0 - d - w))=-(b*d):=by
  rw [show w+(0 - d - w)=-d by omega,Int.mul_neg]
 rw [e2]
 have c1:0<0 - d - w:=by
  refine Classical.byContradiction fun c=>?_
  have:-d≤w:=by omega
  have m:=Int.mul_le_mul_of_nonneg_left this (Int.le_of_lt b0)
  rw [Int.mul_neg] at m
  omega
 have c2:-d≤p:=by
  have m:1*(-d - 1)≤b*(-d - 1):=Int.mul_le_mul_of_nonneg_right (by omega) (by omega)
  rw [Int.one_mul,Int.mul_sub,Int.mul_neg,Int.mul_one] at m
  omega
 refine ⟨by omega,by omega,by omega⟩
def zc0:Sp:=fun vs H Q _=>∃ (p l:Addr) (c bud:Int) (ts:List Addr) (bs:List Box),vs=[.ref p,.ref l,.int bud]∧Drw H p c∧c<1000∧Bxs (Off p p H) l ts bs∧0≤bud∧bud≤60∧∀ (ml:Addr) (us:List Addr) (xs:List Mp) (c':Int) (H':Hp),zaO (Off p p H) (Off p p H')→Drw H' p c'→c'≤c+22→Mx (Off p p H') ml us xs bs.length→prs bs xs≤bud*zb2 xs→Q (.ref ml) H'
def zbY (K:PySem.W.Frag):TS :=
 (zdt (zpz (zbE (tOp (rI0 fun i j=>.bl (decide (j<i))) (zac 5) (tOp (rI IntMulOk fun i j=>.int (i*j)) (zac 2) (zac 6)))) (zbE (tOp rEq (zac 2) (tC (.int 0))))) (zbo (zeo (zab (zcJ (zab (tOp zpp (zeo (zab (tC (.int 0)) zan)) (tCB (fun xs H Q=>∃ p ys,xs=[.ref p]∧(SqL K H p ys∨SqT K H p ys)∧Q (.int ys.length) H) (zab (zac 1) zan))) (zab (tC (.int 1)) zan))) zan))) zbF)
theorem zap (K:PySem.W.Frag) (D:zch) (σ:St) (H:Hp):zbY K D σ H=(zdt (zpz (zbE (tOp (rI0 fun i j=>.bl (decide (j<i))) (zac 5) (tOp (rI IntMulOk fun i j=>.int (i*j)) (zac 2) (zac 6)))) (zbE (tOp rEq (zac 2) (tC (.int 0))))) (zbo (zeo (zab (zcJ (zab (tOp zpp (zeo (zab (tC (.int 0)) zan)) (tCB (fun xs H Q=>∃ p ys,xs=[.ref p]∧(SqL K H p ys∨SqT K H p ys)∧Q (.int ys.length) H) (zab (zac 1) zan))) (zab (tC (.int 1)) zan))) zan))) zbF) D σ H:=rfl
def zbW (K:PySem.W.Frag):TS :=
 (zdt (zpz (zbE (tOp (rI0 fun i j=>.bl (decide (j<i))) (zac 5) (tOp (rI IntMulOk fun i j=>.int (i*j)) (zac 2) (zac 6)))) (zbE (tOp (rI0 fun i j=>.bl (decide (j<i))) (zac 2) (tC (.int 0))))) (zeB (tBM K "list" zbf (zac 3) (zab (zcJ (zab (tOp zpp (zeo (zab (tC (.int 0)) zan)) (tCB (fun xs H Q=>∃ p ys,xs=[.ref p]∧(SqL K H p ys∨SqT K H p ys)∧Q (.int ys.length) H) (zab (zac 1) zan))) (zab (tOp (rI0 fun i j=>.int (i - j)) (tOp (rI0 fun i j=>.int (i - j)) (tC (.int 0)) (tOp (rI (fun _ j=>j≠0∧j.natAbs.log2<9000) fun i j=>.int (i.fdiv j)) (tOp (rI0 fun i j=>.int (i - j)) (tC (.int 0)) (zac 5)) (zac 2))) (zac 6)) zan))) zan))) zbF)
theorem zaq (K:PySem.W.Frag) (D:zch) (σ:St) (H:Hp):zbW K D σ H=(zdt (zpz (zbE (tOp (rI0 fun i j=>.bl (decide (j<i))) (zac 5) (tOp (rI IntMulOk fun i j=>.int (i*j)) (zac 2) (zac 6)))) (zbE (tOp (rI0 fun i j=>.bl (decide (j<i))) (zac 2) (tC (.int 0))))) (zeB (tBM K "list" zbf (zac 3) (zab (zcJ (zab (tOp zpp (zeo (zab (tC (.int 0)) zan)) (tCB (fun xs H Q=>∃ p ys,xs=[.ref p]∧(SqL K H p ys∨SqT K H p ys)∧Q (.int ys.length) H) (zab (zac 1) zan))) (zab (tOp (rI0 fun i j=>.int (i - j)) (tOp (rI0 fun i j=>.int (i - j)) (tC (.int 0)) (tOp (rI (fun _ j=>j≠0∧j.natAbs.log2<9000) fun i j=>.int (i.fdiv j)) (tOp (rI0 fun i j=>.int (i - j)) (tC (.int 0)) (zac 5)) (zac 2))) (zac 6)) zan))) zan))) zbF) D σ H:=rfl
def zcM (K:PySem.W.Frag):TS :=
 (zeB (tBM K "list" zbf (zac 3) (zab (zcJ (zab (zbn (zbN K (zac 1)) (zae 0) zaM (zau za2 [] E0 (zab (zac 1) (zab (tOp (zcX K) (zeo (zab (tC (.int 3)) (zab (tC (.int 12)) zan))) (zau za2 [] E0 (zab (zac 1) (zab (tC (.int 2)) zan)))) zan))) [none,some 0]) (zab (tOp (rI0 fun i j=>.int (i+j)) (tC (.int 1)) (zau za2 [] E0 (zab (zac 0) (zab (tC (.int 4)) zan)))) zan))) zan)))
theorem zas (K:PySem.W.Frag) (D:zch) (σ:St) (H:Hp):zcM K D σ H=(zeB (tBM K "list" zbf (zac 3) (zab (zcJ (zab (zbn (zbN K (zac 1)) (zae 0) zaM (zau za2 [] E0 (zab (zac 1) (zab (tOp (zcX K) (zeo (zab (tC (.int 3)) (zab (tC (.int 12)) zan))) (zau za2 [] E0 (zab (zac 1) (zab (tC (.int 2)) zan)))) zan))) [none,some 0]) (zab (tOp (rI0 fun i j=>.int (i+j)) (tC (.int 1)) (zau za2 [] E0 (zab (zac 0) (zab (tC (.int 4)) zan)))) zan))) zan))) D σ H:=rfl
def zcK (K:PySem.W.Frag):TS :=
 (zaR (zaZ (tCB (zij K) (zab (zbn (zbN K (zac 3)) (zcA K 2 (zaz (zae 0) (zaz (zae 1) zcy))) zaM (tOp (rI IntMulOk fun i j=>.int (i*j)) (zac 1) (zau zeb [] E0 (zab (zac 2) (zab (zac 0) zan)))) [none,none,some 1]) zan)) (zae 5))
 (zaR (zaZ (tCB (zij K) (zab (zbn (zbN K (zac 3)) (zcA K 2 (zaz (zae 0) (zaz (zae 1) zcy))) zaM (zac 1) [none,none]) zan)) (zae 6))
 (zaR (zf5 (zbW K))
 (zaR (zf5 (zbY K))
 (zbo (zac 3))))))
theorem zar (K:PySem.W.Frag) (D:zch) (σ:St) (H:Hp):zcK K D σ H=(zaR (zaZ (tCB (zij K) (zab (zbn (zbN K (zac 3)) (zcA K 2 (zaz (zae 0) (zaz (zae 1) zcy))) zaM (tOp (rI IntMulOk fun i j=>.int (i*j)) (zac 1) (zau zeb [] E0 (zab (zac 2) (zab (zac 0) zan)))) [none,none,some 1]) zan)) (zae 5))
 (zaR (zaZ (tCB (zij K) (zab (zbn (zbN K (zac 3)) (zcA K 2 (zaz (zae 0) (zaz (zae 1) zcy))) zaM (zac 1) [none,none]) zan)) (zae 6))
 (zaR (zf5 (zbW K))
 (zaR (zf5 (zbY K))
 (zbo (zac 3)))))) D σ H:=rfl
def zck (K:PySem.W.Frag):TS :=
 (zaR (zaZ (zeo zan) (zae 3))
 (zaR (zgr (zfV (zab (tOp (rI0 fun i j=>.int (i+j)) (tC (.int 1)) (zau za2 [] E0 (zab (zac 0) (zab (tC (.int 3)) zan)))) zan)) (zae 4)
 (zcM K))
 (zcK K)))
theorem ze1 {p l:Addr} {c bud:Int} {ts:List Addr} {bs:List Box} (hP:Drw H p c) (c1:c<1000) (B:Bxs (Off p p H) l ts bs) (d0:0≤bud) (d1:bud≤60) (q:∀ (ml:Addr) (us:List Addr) (xs:List Mp) (c':Int) (H':Hp),zaO (Off p p H) (Off p p H')→Drw H' p c'→c'≤c+22→Mx (Off p p H') ml us xs bs.length→prs bs xs≤bud*zb2 xs→Q (.ref ml) H') :
  zck K { nx:=fun _ H'=>Q .non H',rt:=Q } (L2.start ["_law_left_here","_law_boxes_here","_law_budget","_law_mix_here","_law_turn","_law_price_here","_law_whole_here"] [.ref p,.ref l,.int bud]) H:=by
 unfold zck
 have c0:=hP.c0
 have l3:=B.l3
 have lt:=B.hb.1
 simp_all only [zap,zaq,zas,zar,zac]
 refine ⟨by decide,fun ml hml=>?_⟩
 obtain ⟨H1,e1,P1,s1,h1,_⟩:=hP.mk2 hml (.lst [])
 have nml:=hP.new hml
 have fml:Off p p H ml=none:=zf3 hml
 rw [← e1]
 refine ⟨p,c,3,rfl,P1,by omega,by decide,by decide,fun r H2 r0 r1 o2 P2=>?_⟩
 simp_all only [zap,zaq,zas,zar,zac]
 refine ⟨by omega,by omega,?_⟩
 refine zb3 (fun i σ H'=>∃ (us:List Addr) (xs:List Mp) (u:Int),zaO (Off p p H) (Off p p H')∧Drw H' p u∧u≤c+1+7*i∧Off p p H' ml=some (.lst (us.map V.ref))∧Tps (fun x=>[mt1 x,mt2 x]) (Off p p H') us xs∧(∀ x∈xs,Off p p H' x.1=some (.lst (x.2.1.map V.int))∧x.1≠ml)∧(∀ x∈xs,GP bs.length x.2.1∧1≤x.2.2∧x.2.2≤4)∧xs.length=i∧∃ y,σ=[some (.ref p),some (.ref l),some (.int bud),some (.ref ml),y,none,none]) ?_ ?_ ?_
 ·exact ⟨[],[],c+1,by rw [o2];exact s1,P2,by omega,by rw [o2];exact h1,.nil,by simp,by simp,rfl,_,rfl⟩
 ·rintro i σ H3 hi ⟨us,xs,u,s3,P3,hu,hm3,T3,hx3,gx3,lx,y,rfl⟩
  have u0:=P3.c0
  have hl3:=s3 _ _ B.hl
  simp_all only [zap,zaq,zas,zar,zac]
  refine ⟨.inl ⟨rfl,_,SqL.of (zbl _ _ _ _ _ hm3)⟩,⟨_,SqL.of (zbl _ _ _ _ _ hl3)⟩,fun D hD=>?_⟩
  have nD:=P3.new hD
  have fD:Off p p H3 D=none:=zf3 hD
  refine zb4 (K:=K) (xs:=ts.map V.ref) (fun j ys σ H'=>∃ (ns:List Int) (v:Int),ys=ns.map V.int∧ns.length=j∧(∀ n∈ns,0≤n∧n≤11)∧zaO (Off p p H3) (Off p p H')∧Drw H' p v∧v≤u+2*j∧∃ k,σ=[k,some (.ref p)]) ?_ ?_ ?_ ?_
  ·refine ⟨[],u,rfl,rfl,by simp,?_,P3.upd nD,by omega,_,rfl⟩
   rw [zeZ nD nD]
   exact zao fD _
  ·rintro j ys σ H' _ ⟨ns,v,_,_,_,s,_⟩
   exact SqL.of (zbl _ _ _ _ _ (s _ _ hl3))
  ·rintro j x ys σ H4 hj hD4 ⟨ns,v,rfl,ln,gn,s4,P4,hv,k,rfl⟩
   have v0:=P4.c0
   have lj:=(List.getElem?_eq_some_iff.mp hj).1
   rw [List.length_map] at lj
   simp_all only [zap,zaq,zas,zar,zac]
   refine ⟨by decide,fun d hd=>?_⟩
   obtain ⟨H5,e5,P5,s5,h5,_⟩:=P4.mk2 hd (.lst [.int 3,.int 12])
   rw [← e5]
   refine ⟨p,v,2,rfl,P5,by omega,by decide,by decide,fun r1 H6 r10 r11 o6 P6=>?_⟩
   obtain ⟨m1,em1,hm1⟩:=at2 (x:=3) (y:=12) r10 r11
   rw [← o6] at h5 s5
   simp_all only [zap,zaq,zas,zar,zac]
   refine ⟨_,SqL.of (zbl _ _ _ _ _ h5),_,em1,?_⟩
   refine ⟨p,v+1,m1,rfl,P6,by omega,by omega,by omega,fun r2 H7 r20 r21 o7 P7=>?_⟩
   rw [← o7] at s5
   have hD7:Off p p H7 D=some (.lst (ns.map V.int)):=s5 _ _ (by rw [zfe nD nD];exact hD4)
   refine ⟨_,zbl _ _ _ _ _ hD7,za4 (by rw [List.length_map];omega),?_⟩
   obtain ⟨H8,e8,P8,s8,h8,k8⟩:=P7.put nD (s4.trans s5) fD (.lst (ns.map V.int++[V.int r2]))
   rw [← e8]
   refine ⟨_,zbl _ _ _ _ _ h8,ns++[r2],by rw [List.map_append];rfl,by rw [List.length_append,ln];rfl,fun n hn=>?_,s8,_,P8,by omega⟩
   rcases List.mem_append.mp hn with z | z
   ·exact gn n z
   ·rw [List.mem_singleton.mp z]
    omega
  ·rintro ys σ H4 hD4 ⟨ns,v,rfl,ln,gn,s4,P4,hv,k,rfl⟩
   rw [List.length_map,lt] at ln hv
   have v0:=P4.c0
   have hDo:Off p p H4 D=some (.lst (ns.map V.int)):=by rw [zfe nD nD];exact hD4
   refine ⟨p,v,4,rfl,P4,by omega,by decide,by decide,fun w H5 w0 w1 o5 P5=>?_⟩
   rw [← o5] at s4 hDo
   simp_all only [zap,zaq,zas,zar,zac]
   refine ⟨by decide,fun b hb=>?_⟩
   obtain ⟨H6,e6,P6,s6,h6,_⟩:=P5.mk2 hb (.tup [.ref D,.int (1+w)])
   rw [← e6]
   have S6:=s4.trans s6
   have hm6:=S6 _ _ hm3
   refine ⟨_,zbl _ _ _ _ _ hm6,za4 (by rw [List.length_map,T3.1];omega),?_⟩
   obtain ⟨H7,e7,P7,s7,h7,k7⟩:=P6.put nml (s3.trans S6) fml (.lst (us.map V.ref++[V.ref b]))
   rw [← e7]
   have bm:b≠ml:=fun z=>by
    subst z
    rw [hm6] at h6
    cases h6
   have Dm:D≠ml:=fun z=>by
    subst z
    rw [hm3] at fD
    cases fD
   refine ⟨s7,us++[b],xs++[(D,ns,1+w)],_,P7,by omega,by rw [h7,List.map_append];rfl,?_,fun x hx=>?_,fun x hx=>?_,by rw [List.length_append,lx];rfl⟩
   ·refine T3.put (fun x v e=>?_) (by rw [k7 _ bm];exact h6)
    have nx:x≠ml:=fun z=>by
     subst z
     rw [e] at hm3
     cases hm3
    rw [k7 _ nx]
    exact S6 _ _ e
   ·rcases List.mem_append.mp hx with z | z
    ·obtain ⟨z1,z2⟩:=hx3 x z
     exact ⟨by rw [k7 _ z2];exact S6 _ _ z1,z2⟩
    ·rw [List.mem_singleton.mp z]
     exact ⟨by rw [k7 _ Dm];exact s6 _ _ hDo,Dm⟩
   ·rcases List.mem_append.mp hx with z | z
    ·exact gx3 x z
    ·rw [List.mem_singleton.mp z]
     exact ⟨⟨ln,gn⟩,by show 1≤1+w;omega,by show 1+w≤4;omega⟩
 ·rintro σ H3 ⟨us,xs,u,s3,P3,hu,hm3,T3,hx3,gx3,lx,y,rfl⟩
  have M3:Mx (Off p p H3) ml us xs bs.length:=⟨hm3,T3,fun x hx=>(hx3 x hx).1,fun x hx=>(gx3 x hx).1,fun x hx=>⟨(gx3 x hx).2.1,by have:=(gx3 x hx).2.2;omega⟩,by omega,by omega⟩
  have M:=M3.same (zbl p p H3)
  have B3:=B.same s3
  have Bh:=B3.same (zbl p p H3)
  obtain ⟨z1,z2⟩:=znd bs B.gb l3 xs gx3
  obtain ⟨W0,W1⟩:=M.ws
  simp_all only [zap,zaq,zas,zar,zac]
  refine ⟨⟨_,SqL.of M.hm⟩,fun D hD=>?_⟩
  refine zc6 (g1:=mt1) (g2:=mt2) (vs:=(xs.map fun x=>x.2.2*(zax bs x.2.1).sum).map V.int) M.hm M.tp (by simp) (by simp;omega) hD (fun i x v H' R hx hv s kk=>?_) fun H4 s4 h4=>?_
  ·obtain ⟨w,hw,rfl⟩:=zaB hv
   obtain ⟨y,hy,rfl⟩:=zaB hw
   rw [hx] at hy
   cases hy
   have gwx:=M.gw x (zav hx)
   simp_all only [zap,zaq,zas,zar,zac]
   refine ⟨l,x.1,ts,bs,x.2.1,rfl,Bh.same s,s _ _ (M.pl x (zav hx)),M.gp x (zav hx),fun H4 s4=>?_⟩
   simp_all only [zap,zaq,zas,zar,zac]
   exact ⟨zqB (by omega) (by omega),kk _ s4⟩
  simp_all only [zap,zaq,zas,zar,zac]
  refine ⟨_,SqL.of h4,?_⟩
  have M4:=M.same s4
  refine ⟨⟨_,SqL.of M4.hm⟩,fun D2 hD2=>?_⟩
  refine zc6 (g1:=mt1) (g2:=mt2) (vs:=(xs.map fun x=>x.2.2).map V.int) M4.hm M4.tp (by simp) (by simp;omega) hD2 (fun i x v H' R hx hv s kk=>?_) fun H5 s5 h5=>?_
  ·obtain ⟨w,hw,rfl⟩:=zaB hv
   obtain ⟨y,hy,rfl⟩:=zaB hw
   rw [hx] at hy
   cases hy
   simp_all only [zap,zaq,zas,zar,zac]
   exact kk _ (.refl _)
  simp_all only [zap,zaq,zas,zar,zac]
  refine ⟨_,SqL.of h5,?_⟩
  have ep:(xs.map fun x=>x.2.2*(zax bs x.2.1).sum).sum=prs bs xs:=rfl
  have ew:(xs.map fun x=>x.2.2).sum=zb2 xs:=rfl
  rw [ep,ew]
  have S5:=s4.trans s5
  have P5:=P3.same S5
  have O5:=zfr p p S5
  have M5:=M3.same O5
  have B5:=B3.same O5
  have mW:IntMulOk bud (zb2 xs):=zqB (by omega) (by omega)
  refine ⟨fun σ H'=>∃ (vs:List Addr) (ys:List Mp),zaO (Off p p H) (Off p p H')∧Drw H' p u∧Mx (Off p p H') ml vs ys bs.length∧((bud=0∧bud*zb2 xs<prs bs xs)∨prs bs ys≤bud*zb2 ys)∧σ=[some (.ref p),some (.ref l),some (.int bud),some (.ref ml),y,some (.int (prs bs xs)),some (.int (zb2 xs))],?_,?_⟩
  ·simp_all only [zap,zaq,zas,zar,zac]
   refine ⟨mW,?_⟩
   by_cases cc:bud*zb2 xs<prs bs xs
   ·rw [if_pos (by simpa using cc)]
    by_cases cb:0<bud
    ·rw [if_pos (by simpa using cb)]
     refine ⟨.inl ⟨rfl,_,SqL.of (zbl _ _ _ _ _ M5.hm)⟩,by decide,fun e1 f1=>?_⟩
     obtain ⟨H6,e6,P6,s6,h6,S6⟩:=P5.mk2 f1 (.lst [V.int 0])
     rw [← e6]
     refine ⟨_,.inl (SqL.of (S6 _ _ (zbl _ _ _ _ _ B5.hl))),_,zbl _ _ _ _ _ h6,by rw [List.length_map];omega,by rw [List.length_map];omega,Nat.le_trans (show _≤1000 by rw [List.length_map,List.length_singleton];omega) (by decide),fun e2 f2=>?_⟩
     have el:(((ts.map V.ref).length:Nat):Int).toNat=bs.length:=by rw [List.length_map,lt];omega
     rw [el,zi7]
     obtain ⟨H7,e7,P7,s7,h7,S7⟩:=P6.mk2 f2 (.lst ((List.replicate bs.length (0:Int)).map V.int))
     rw [← e7]
     refine ⟨by omega,zfa 6 (by omega) (by omega),by decide,fun e3 f3=>?_⟩
     obtain ⟨r1,r2,r3⟩:=zn8 cb cc (by omega)
     generalize hw:0 - (0 - prs bs xs).fdiv bud - zb2 xs=w at r1 r2 r3 ⊢
     obtain ⟨H8,e8,P8,s8,h8,S8⟩:=P7.mk2 f3 (.tup [.ref e2,.int w])
     rw [← e8]
     have O8:=s6.trans (s7.trans s8)
     have M8:=M5.same O8
     refine ⟨_,zbl _ _ _ _ _ M8.hm,za4 (by rw [List.length_map,M8.tp.1];omega),?_⟩
     obtain ⟨H9,e9,P9,s9,h9,k9⟩:=P8.put nml ((s3.trans O5).trans O8) fml (.lst (us.map V.ref++[V.ref e3]))
     rw [← e9]
     have n3:e3≠ml:=fun z=>by
      subst z
      rw [M8.hm] at h8
      cases h8
     have n2:e2≠ml:=fun z=>by
      subst z
      have:=s6 _ _ M5.hm
      rw [zf3 f2] at this
      cases this
     have nx:∀ x∈xs,x.1≠ml:=fun x hx=>(hx3 x hx).2
     refine ⟨s9,P9,us++[e3],xs++[(e2,List.replicate bs.length 0,w)],⟨by rw [h9,List.map_append];rfl,?_,fun x hx=>?_,fun x hx=>?_,fun x hx=>?_,by rw [List.length_append];omega,by rw [List.length_append,List.length_singleton];omega⟩,.inr ?_⟩
     ·refine M8.tp.put (fun x v e=>?_) (by rw [k9 _ n3];exact h8)
      have nx:x≠ml:=fun z=>by
       subst z
       rw [M8.hm] at e
       cases e
      rw [k9 _ nx]
      exact e
     ·rcases List.mem_append.mp hx with z | z
      ·rw [k9 _ (nx x z)]
       exact M8.pl x z
      ·rw [List.mem_singleton.mp z,k9 _ n2]
       exact s8 _ _ h7
     ·rcases List.mem_append.mp hx with z | z
      ·exact M8.gp x z
      ·rw [List.mem_singleton.mp z]
       exact ⟨List.length_replicate,fun m hm=>by rw [(List.mem_replicate.mp hm).2];decide⟩
     ·rcases List.mem_append.mp hx with z | z
      ·exact M8.gw x z
      ·rw [List.mem_singleton.mp z]
       exact ⟨r1,by show w≤30000;omega⟩
     ·have e10:prs bs (xs++[(e2,List.replicate bs.length 0,w)])=prs bs xs:=by
       unfold prs
       rw [List.map_append,List.sum_append,List.map_cons,List.map_nil,List.sum_cons,List.sum_nil,zjc,Int.mul_zero]
       omega
      have e11:zb2 (xs++[(e2,List.replicate bs.length 0,w)])=zb2 xs+w:=by
       unfold zb2
       rw [List.map_append,List.sum_append,List.map_cons,List.map_nil,List.sum_cons,List.sum_nil,Int.add_zero]
      rw [e10,e11]
      exact r3
    ·rw [if_neg (by simpa using cb)]
     exact ⟨s3.trans O5,P5,_,_,M5,.inl ⟨by omega,cc⟩⟩
   ·rw [if_neg (by simpa using cc)]
    exact ⟨s3.trans O5,P5,_,_,M5,.inr (by omega)⟩
  ·rintro σ H6 ⟨vs,ys,s6,P6,M6,dj,rfl⟩
   simp_all only [zap,zaq,zas,zar,zac]
   refine ⟨fun σ H'=>H'=H6∧prs bs ys≤bud*zb2 ys∧σ=[some (.ref p),some (.ref l),some (.int bud),some (.ref ml),y,some (.int (prs bs xs)),some (.int (zb2 xs))],?_,?_⟩
   ·simp_all only [zap,zaq,zas,zar,zac]
    have B6:=(B.same s6).same (zbl p p H6)
    refine ⟨mW,?_⟩
    by_cases cc:bud*zb2 xs<prs bs xs
    ·rw [if_pos cc]
     by_cases cb:bud=0
     ·rw [if_pos cb]
      refine ⟨by decide,fun e1 f1=>?_⟩
      obtain ⟨H7,e7,P7,s7,h7,S7⟩:=P6.mk2 f1 (.lst [V.int 0])
      rw [← e7]
      refine ⟨_,.inl (SqL.of (S7 _ _ B6.hl)),_,zbl _ _ _ _ _ h7,by rw [List.length_map];omega,by rw [List.length_map];omega,Nat.le_trans (show _≤1000 by rw [List.length_map,List.length_singleton];omega) (by decide),fun e2 f2=>?_⟩
      have el:(((ts.map V.ref).length:Nat):Int).toNat=bs.length:=by rw [List.length_map,lt];omega
      rw [el,zi7]
      obtain ⟨H8,e8,P8,s8,h8,S8⟩:=P7.mk2 f2 (.lst ((List.replicate bs.length (0:Int)).map V.int))
      rw [← e8]
      refine ⟨by decide,fun e3 f3=>?_⟩
      obtain ⟨H9,e9,P9,s9,h9,S9⟩:=P8.mk2 f3 (.tup [.ref e2,.int 1])
      rw [← e9]
      refine ⟨by decide,fun e4 f4=>?_⟩
      obtain ⟨Ha,ea,Pa,sa,ha,Sa⟩:=P9.mk2 f4 (.lst [V.ref e3])
      rw [← ea]
      refine q e4 [e3] [(e2,List.replicate bs.length 0,1)] u Ha (s6.trans (s7.trans (s8.trans (s9.trans sa)))) Pa (by omega) ⟨ha,⟨rfl,fun i t x h1 h2=>?_⟩,fun x hx=>?_,fun x hx=>?_,fun x hx=>?_,by show 1≤1;decide,by show 1≤4;decide⟩ ?_
      ·match i with
       | 0 =>
        cases h1
        cases h2
        exact sa _ _ h9
       | i+1=>cases h1
      ·rw [List.mem_singleton.mp hx]
       exact sa _ _ (s9 _ _ h8)
      ·rw [List.mem_singleton.mp hx]
       exact ⟨List.length_replicate,fun m hm=>by rw [(List.mem_replicate.mp hm).2];decide⟩
      ·rw [List.mem_singleton.mp hx]
       exact ⟨by show (1:Int)≤1;decide,by show (1:Int)≤30000;decide⟩
      ·have e10:prs bs [(e2,List.replicate bs.length 0,1)]=0:=by
        show 1*(zax bs (List.replicate bs.length 0)).sum+0=0
        rw [zjc]
        rfl
       rw [e10,cb,Int.zero_mul]
       exact Int.le_refl 0
     ·rw [if_neg cb]
      rcases dj with ⟨z,_⟩ | z
      ·exact absurd z cb
      ·exact z
    ·rw [if_neg cc]
     rcases dj with ⟨_,z⟩ | z
     ·exact absurd z cc
     ·exact z
   ·rintro σ H7 ⟨rfl,hy,rfl⟩
    simp_all only [zap,zaq,zas,zar,zac]
    exact q ml vs ys u _ s6 P6 (by omega) M6 hy
theorem zbs:zay ["_law_left_here","_law_boxes_here","_law_budget","_law_mix_here","_law_turn","_law_price_here","_law_whole_here"] ["_law_left_here","_law_boxes_here","_law_budget"] (zah zbh):=⟨rfl,rfl,rfl,by decide +kernel,rfl,by decide +kernel,by decide +kernel⟩
theorem ze6 (T:Txt K mg a):zb0 P w K mg base CX0 3 a.f__law_drawn_mix a.d__law_drawn_mix ["_law_left_here","_law_boxes_here","_law_budget"] zc0:=by
 have G__law_draw:=zdz (P:=P) (w:=w) (base:=base) T
 have G__law_price:=zdf (P:=P) (w:=w) (base:=base) T
 refine T.F__law_drawn_mix.ok zbs (fun vs H Q E h=>?_) (fun cdv A outer s H vs Q E hr h=>?_)
 ·obtain ⟨p,l,c,bud,ts,bs,rfl,hP,c1,B,d0,d1,q⟩:=h
  rfl
 obtain ⟨p,l,c,bud,ts,bs,rfl,hP,c1,B,d0,d1,q⟩:=h
 exact ⟨zck K,(zaf (zaE (i:=3) zbs.nd rfl (Or.inl rfl) (zb9 zad))
 (zaf (zcq PassesOwn.never rfl (zcb rfl T.z_range (zaa (zaA zcp zag (zak G__law_draw (hr.mono (by decide)) rfl T.m__law_draw T.F__law_draw.kp T.b__law_draw .nil zaC (zaa (pv 0) (zaa zag zad)))) zad)) (zam (i:=4) zbs.nd rfl (Or.inl rfl))
 (zal (zej (zk8 PySem.F.plainAttrs_list PySem.F.slot_list_append PySem.F.type_list_append zc1 (pv 3) (zaa (zbk (zaa (zbG (sc:=zah zbh) (N:=["_law_left_here","_law_boxes_here","_law_budget","_law_mix_here","_law_turn","_law_price_here","_law_whole_here"]) (Nc:=["_law_box","_law_left_here"]) (cap:=[none,some 0]) rfl rfl rfl (.of (by decide +kernel)) (zbe (pv 1)) (fun _ _ _ _=>(zam (i:=0) (show List.Nodup (["_law_box","_law_left_here"]:List Str) from by decide) rfl (Or.inl rfl))) (fun _ _ _ _=>zbb) (fun _ _ _ _=>(zak G__law_draw (hr.mono (by decide)) rfl T.m__law_draw T.F__law_draw.kp T.b__law_draw .nil zaC (zaa (pv 1) (zaa (zaN zbj (zb9 (zaa zag (zaa zag zad))) (zak G__law_draw (hr.mono (by decide)) rfl T.m__law_draw T.F__law_draw.kp T.b__law_draw .nil zaC (zaa (pv 1) (zaa zag zad))) (fun _ _=>rfl)) zad))))) (zaa (zaA zcp zag (zak G__law_draw (hr.mono (by decide)) rfl T.m__law_draw T.F__law_draw.kp T.b__law_draw .nil zaC (zaa (pv 0) (zaa zag zad)))) zad))) zad)))))
 (zaf (zaE (i:=5) zbs.nd rfl (Or.inl rfl) (zaJ (zcs rfl) rfl T.z_sum PyProof.Rows.boot_sum (zaa (zbG (sc:=zah zbh) (N:=["_law_left_here","_law_boxes_here","_law_budget","_law_mix_here","_law_turn","_law_price_here","_law_whole_here"]) (Nc:=["_law_plan_here","_law_weight","_law_boxes_here"]) (cap:=[none,none,some 1]) rfl rfl rfl (.of (by decide +kernel)) (zbe (pv 3)) (fun _ _ _ _=>(zbm rfl (zat (zam (i:=0) (show List.Nodup (["_law_plan_here","_law_weight","_law_boxes_here"]:List Str) from by decide) rfl (Or.inl rfl)) (zat (zam (i:=1) (show List.Nodup (["_law_plan_here","_law_weight","_law_boxes_here"]:List Str) from by decide) rfl (Or.inl rfl)) za3)))) (fun _ _ _ _=>zbb) (fun _ _ _ _=>(zaA zaL (pv 1) (zak G__law_price (hr.mono (by decide)) rfl T.m__law_price T.F__law_price.kp T.b__law_price .nil zaC (zaa (pv 2) (zaa (pv 0) zad)))))) zad)))
 (zaf (zaE (i:=6) zbs.nd rfl (Or.inl rfl) (zaJ (zcs rfl) rfl T.z_sum PyProof.Rows.boot_sum (zaa (zbG (sc:=zah zbh) (N:=["_law_left_here","_law_boxes_here","_law_budget","_law_mix_here","_law_turn","_law_price_here","_law_whole_here"]) (Nc:=["_law_plan_here","_law_weight"]) (cap:=[none,none]) rfl rfl rfl (.of (by decide +kernel)) (zbe (pv 3)) (fun _ _ _ _=>(zbm rfl (zat (zam (i:=0) (show List.Nodup (["_law_plan_here","_law_weight"]:List Str) from by decide) rfl (Or.inl rfl)) (zat (zam (i:=1) (show List.Nodup (["_law_plan_here","_law_weight"]:List Str) from by decide) rfl (Or.inl rfl)) za3)))) (fun _ _ _ _=>zbb) (fun _ _ _ _=>(pv 1))) zad)))
 (zaf (zcI (zc3 (PW.pt (zni (zbH zkH (pv 5) (zaA zaL (pv 2) (pv 6)) (zbD _)) (zj9 (zbH zkH (pv 2) zag (zbD _))))) (zal (zej (zk8 PySem.F.plainAttrs_list PySem.F.slot_list_append PySem.F.type_list_append zc1 (pv 3) (zaa (zbk (zaa (zaA zna (zb9 (zaa zag zad)) (zaJ za0 rfl T.z_len PySem.boot_len (zaa (pv 1) zad))) (zaa (zaA zcD (zaA zcD zag (zaA zct (zaA zcD zag (pv 5)) (pv 2))) (pv 6)) zad))) zad)))) zbq))
 (zaf (zcI (zc3 (PW.pt (zni (zbH zkH (pv 5) (zaA zaL (pv 2) (pv 6)) (zbD _)) (zj9 (zbH zjU (pv 2) zag (zbD _))))) (zal (zaK (zb9 (zaa (zbk (zaa (zaA zna (zb9 (zaa zag zad)) (zaJ za0 rfl T.z_len PySem.boot_len (zaa (pv 1) zad))) (zaa zag zad))) zad)))) zbq))
 (zal (zaK (pv 3))))))))),
  ze1 hP c1 B d0 d1 q⟩
theorem tm_is {b:Box} (g:GB b) {W:Int} (W0:1≤W) (k:Nat) (x:Mp):tm b W k x*(W:Rat)=(x.2.2:Rat)*chq b (x.2.1.getD k 0):=by
 rw [← zlD g]
 unfold tm
 have o:=zdK g (x.2.1.getD k 0)
 rw [Rat.divInt_eq_div,Rat.divInt_eq_div,Rat.intCast_mul (b.2.2 ^ (x.2.1.getD k 0).toNat) W]
 have on:((b.2.2 ^ (x.2.1.getD k 0).toNat:Int):Rat)≠0:=fun z=>by
  have:(b.2.2 ^ (x.2.1.getD k 0).toNat:Int)=0:=by exact_mod_cast z
  omega
 have wn:(W:Rat)≠0:=fun z=>by
  have:W=0:=by exact_mod_cast z
  omega
 generalize ((x.2.2*(b.2.2 ^ (x.2.1.getD k 0).toNat - (b.2.2 - b.2.1) ^ (x.2.1.getD k 0).toNat):Int):Rat)=A
 generalize ((b.2.2 ^ (x.2.1.getD k 0).toNat:Int):Rat)=C at on ⊢
 generalize (W:Rat)=D at wn ⊢
 grind
theorem zl2:∀ (bs:List Box) (Ws ms:List Int),Ws.length=bs.length→ms.length=bs.length→zhp bs Ws ms=((List.zip bs Ws).zipIdx.map fun y=>(y.1.2:Rat)*chq y.1.1 (ms.getD y.2 0)).sum:=by
 intro bs Ws ms l1 l2
 unfold zhp
 congr 1
 refine List.ext_getElem? fun i=>?_
 rw [List.getElem?_zipWith,zfs,List.getElem?_zipWith,List.getElem?_map,List.getElem?_zipIdx]
 by_cases c:i<bs.length
 ·have e1:bs[i]?=some (bs[i]'c):=List.getElem?_eq_getElem c
  have e2:Ws[i]?=some (Ws[i]'(by omega)):=List.getElem?_eq_getElem _
  have e3:ms[i]?=some (ms[i]'(by omega)):=List.getElem?_eq_getElem _
  have e4:(List.zip bs Ws)[i]?=some (bs[i]'c,Ws[i]'(by omega)):=List.getElem?_zip_eq_some.mpr ⟨e1,e2⟩
  rw [e1,e2,e3,e4]
  simp only [Option.map_some,Nat.zero_add]
  rw [List.getD_eq_getElem?_getD,e3]
  rfl
 ·have e1:bs[i]?=none:=List.getElem?_eq_none (by omega)
  have e2:Ws[i]?=none:=List.getElem?_eq_none (by omega)
  have e4:(List.zip bs Ws)[i]?=none:=List.getElem?_eq_none (by rw [List.length_zip];omega)
  rw [e1,e2,e4]
  rfl
theorem zbi {α:Type} (f:α→Rat) (c:Rat):∀ l:List α,(l.map f).sum*c=(l.map fun x=>f x*c).sum
 | []=>by
  simp only [List.map_nil,List.sum_nil]
  grind
 | x::l=>by
  rw [List.map_cons,List.sum_cons,List.map_cons,List.sum_cons,← zbi f c l]
  grind
theorem zhj {α:Type} (f g:α→Rat):∀ l:List α,(l.map fun x=>f x+g x).sum=(l.map f).sum+(l.map g).sum
 | []=>by
  simp only [List.map_nil,List.sum_nil]
  grind
 | x::l=>by
  simp only [List.map_cons,List.sum_cons]
  rw [zhj f g l]
  grind
theorem zjh {α:Type}:∀ l:List α,(l.map fun _=>(0:Rat)).sum=0
 | []=>rfl
 | _::l=>by
  rw [List.map_cons,List.sum_cons,zjh l,Rat.add_zero]
theorem zjf {α β:Type} (f:α→β→Rat) (l:List α):∀ m:List β,(l.map fun x=>(m.map fun y=>f x y).sum).sum=(m.map fun y=>(l.map fun x=>f x y).sum).sum
 | []=>by
  simp only [List.map_nil,List.sum_nil]
  exact zjh l
 | y::m=>by
  simp only [List.map_cons,List.sum_cons]
  rw [zhj,zjf f l m]
theorem zkT {α:Type} (f g:α→Rat):∀ l:List α,(∀ x∈l,f x≤g x)→(l.map f).sum≤(l.map g).sum
 | [],_=>Rat.le_refl
 | x::l,h=>by
  have ih:=zkT f g l fun y hy=>h y (List.mem_cons_of_mem _ hy)
  have hx:=h x List.mem_cons_self
  rw [List.map_cons,List.sum_cons,List.map_cons,List.sum_cons]
  grind
theorem zft {α:Type} (f:α→Int):∀ l:List α,(((l.map f).sum:Int):Rat)=(l.map fun x=>(f x:Rat)).sum
 | []=>rfl
 | x::l=>by
  rw [List.map_cons,List.sum_cons,List.map_cons,List.sum_cons,Rat.intCast_add,zft f l]
theorem zmf {bs:List Box} {bud:Int} {W P m:Rat} {Ws:List Int} {xs:List Mp} (gb:∀ b∈bs,GB b) (Pp:Pap bs bud W Ws P) (gp:∀ x∈xs,GP bs.length x.2.1) (gw:∀ x∈xs,1≤x.2.2) (w1:1≤zb2 xs) (hb:prs bs xs≤bud*zb2 xs) (hm:∀ (k:Nat) b,bs[k]?=some b→m≤chM b k xs):m≤W:=by
 have S0:(0:Rat)<(Ws.sum:Rat):=by exact_mod_cast Pp.wp
 have T0:(0:Rat)<(zb2 xs:Rat):=by exact_mod_cast (show (0:Int)<zb2 xs by omega)
 have wc:(zb2 xs:Rat)=(xs.map fun x=>(x.2.2:Rat)).sum:=zft _ xs
 have A:(xs.map fun x=>(x.2.2:Rat)*zhp bs Ws x.2.1).sum≤W*(Ws.sum:Rat)*(zb2 xs:Rat):=by
  have h1:=zkT (fun x:Mp=>(x.2.2:Rat)*zhp bs Ws x.2.1) (fun x=>W*(Ws.sum:Rat)*(x.2.2:Rat)+P*((x.2.2*(zax bs x.2.1).sum - bud*x.2.2:Int):Rat)) xs fun x hx=>by
   have h:=Pp.hi x.2.1 (gp x hx).1 fun n hn=>((gp x hx).2 n hn).1
   have w0:(0:Rat)≤(x.2.2:Rat):=by exact_mod_cast (show (0:Int)≤x.2.2 by have:=gw x hx;omega)
   have h2:=Rat.mul_le_mul_of_nonneg_left h w0
   rw [Rat.intCast_sub,Rat.intCast_mul,Rat.intCast_mul]
   rw [Rat.intCast_sub] at h2
   grind
  rw [zhj] at h1
  have e1:(xs.map fun x=>W*(Ws.sum:Rat)*(x.2.2:Rat)).sum=W*(Ws.sum:Rat)*(zb2 xs:Rat):=by
   rw [wc,Rat.mul_comm (W*(Ws.sum:Rat)),zbi]
   congr 1
   exact List.map_congr_left fun x _=>Rat.mul_comm _ _
  have e2:(xs.map fun x=>P*((x.2.2*(zax bs x.2.1).sum - bud*x.2.2:Int):Rat)).sum=P*((prs bs xs - bud*zb2 xs:Int):Rat):=by
   rw [Rat.mul_comm P,Rat.intCast_sub,Rat.intCast_mul bud,wc,prs,zft,Rat.sub_eq_add_neg,← Rat.neg_mul,Rat.mul_comm (-(bud:Rat)),zbi _ (-(bud:Rat)),← zhj,zbi]
   congr 1
   refine List.map_congr_left fun x _=>?_
   rw [Rat.intCast_sub,Rat.intCast_mul bud]
   grind
  rw [e1,e2] at h1
  have n1:((prs bs xs - bud*zb2 xs:Int):Rat)≤0:=by exact_mod_cast (show prs bs xs - bud*zb2 xs≤0 by omega)
  have n2:=Rat.mul_le_mul_of_nonneg_left n1 Pp.p0
  grind
 have Bq':(xs.map fun x=>(x.2.2:Rat)*zhp bs Ws x.2.1).sum=((List.zip bs Ws).zipIdx.map fun y=>(y.1.2:Rat)*(chM y.1.1 y.2 xs*(zb2 xs:Rat))).sum:=by
  have e1:(xs.map fun x=>(x.2.2:Rat)*zhp bs Ws x.2.1)=xs.map fun x=>((List.zip bs Ws).zipIdx.map fun y=>(y.1.2:Rat)*((x.2.2:Rat)*chq y.1.1 (x.2.1.getD y.2 0))).sum:=by
   refine List.map_congr_left fun x hx=>?_
   rw [zl2 bs Ws x.2.1 Pp.len (gp x hx).1,Rat.mul_comm,zbi]
   congr 1
   exact List.map_congr_left fun y _=>by grind
  rw [e1,zjf]
  congr 1
  refine List.map_congr_left fun y hy=>?_
  obtain ⟨i,ei⟩:=List.getElem?_of_mem hy
  rw [List.getElem?_zipIdx] at ei
  obtain ⟨z,ez,e⟩:=Option.map_eq_some_iff.mp ei
  rw [List.getElem?_zip_eq_some] at ez
  have g:GB y.1.1:=by
   rw [← e]
   exact gb _ (zav ez.1)
  unfold chM
  rw [zbi,Rat.mul_comm (y.1.2:Rat),zbi]
  congr 1
  refine List.map_congr_left fun x _=>?_
  rw [tm_is g w1]
  grind
 have C:=zkT (fun y:(Box×Int)×Nat=>(y.1.2:Rat)*(m*(zb2 xs:Rat))) (fun y=>(y.1.2:Rat)*(chM y.1.1 y.2 xs*(zb2 xs:Rat))) (List.zip bs Ws).zipIdx fun y hy=>by
  obtain ⟨i,ei⟩:=List.getElem?_of_mem hy
  rw [List.getElem?_zipIdx] at ei
  obtain ⟨z,ez,e⟩:=Option.map_eq_some_iff.mp ei
  rw [List.getElem?_zip_eq_some] at ez
  rw [← e]
  have h:=hm (0+i) z.1 (by rw [Nat.zero_add];exact ez.1)
  have h1:=Rat.mul_le_mul_of_nonneg_right h (Rat.le_of_lt T0)
  have w0:(0:Rat)≤(z.2:Rat):=by exact_mod_cast Pp.w0 _ (zav ez.2)
  exact Rat.mul_le_mul_of_nonneg_left h1 w0
 rw [← Bq'] at C
 have D:((List.zip bs Ws).zipIdx.map fun y=>(y.1.2:Rat)*(m*(zb2 xs:Rat))).sum=(Ws.sum:Rat)*(m*(zb2 xs:Rat)):=by
  rw [← zbi (fun y:(Box×Int)×Nat=>(y.1.2:Rat))]
  congr 1
  rw [← zft (fun y:(Box×Int)×Nat=>y.1.2)]
  congr 2
  show List.map (Prod.snd ∘ Prod.fst) (List.zip bs Ws).zipIdx=Ws
  rw [← List.map_map (f:=Prod.fst) (g:=Prod.snd),List.zipIdx_map_fst,List.map_snd_zip (by have:=Pp.len;omega)]
 rw [D] at C
 have E:=Rat.le_trans C A
 have F:(0:Rat)<(Ws.sum:Rat)*(zb2 xs:Rat):=Rat.mul_pos S0 T0
 refine Classical.byContradiction fun c=>?_
 have c':W<m:=Rat.not_le.mp c
 have G:=Rat.mul_lt_mul_of_pos_right c' F
 grind
def zlY (K:PySem.W.Frag):Sp:=fun vs H Q _=>∃ (p:Addr) (ns:List Int),vs=[.ref p]∧SqL K H p (ns.map V.int)∧ns.length≤63∧(∀ x∈ns,x.natAbs<2 ^ 2 ^ 20)∧∀ H',Q (.bl true) H'
def zeW (K:PySem.W.Frag):TS :=
 (zaR (zaZ (tOp (zbu K) (tOp (zcX K) (zac 12) (tC (.int 0))) (tC (.int 0))) (zae 13))
 (zaR (zaZ (zau zc8 [] E0 (zab (zcJ (zab (tOp (rI IntMulOk fun i j=>.int (i*j)) (tOp (zbu K) (zac 5) (tC (.int 0))) (tCB (zij K) (zab (zac 8) zan))) (zab (tOp (zbu K) (zac 5) (tC (.int 1))) zan))) (zab (zau zjD [] E0 (zab (tOp (zbu K) (zac 9) (tC (.int 0))) (zab (tOp (zbu K) (zac 9) (tC (.int 1))) zan))) zan))) (zae 14))
 (zaR (zaZ (tOp (rI0 fun i j=>.int (i - j)) (tOp (rI0 fun i j=>.int (i - j)) (zau zeb [] E0 (zab (zac 3) (zab (zac 13) zan))) (zac 4)) (tC (.int 1))) (zae 15))
 (zaR (zaZ (zau zc8 [] E0 (zab (zac 14) (zab (zcJ (zab (tOp (rI IntMulOk fun i j=>.int (i*j)) (tOp (zbu K) (zac 9) (tC (.int 0))) (zac 15)) (zab (tOp (zbu K) (zac 9) (tC (.int 1))) zan))) zan))) (zae 14))
 (zdt (tB (zau zew [] E0 (zab (zac 14) (zab (zau zgx [] E0 (zab (zac 3) (zab (zac 8) (zab (zac 13) zan)))) zan)))) (zbo (tC (.bl false))) zbF)))))
theorem zbr (K:PySem.W.Frag) (D:zch) (σ:St) (H:Hp):zeW K D σ H=(zaR (zaZ (tOp (zbu K) (tOp (zcX K) (zac 12) (tC (.int 0))) (tC (.int 0))) (zae 13))
 (zaR (zaZ (zau zc8 [] E0 (zab (zcJ (zab (tOp (rI IntMulOk fun i j=>.int (i*j)) (tOp (zbu K) (zac 5) (tC (.int 0))) (tCB (zij K) (zab (zac 8) zan))) (zab (tOp (zbu K) (zac 5) (tC (.int 1))) zan))) (zab (zau zjD [] E0 (zab (tOp (zbu K) (zac 9) (tC (.int 0))) (zab (tOp (zbu K) (zac 9) (tC (.int 1))) zan))) zan))) (zae 14))
 (zaR (zaZ (tOp (rI0 fun i j=>.int (i - j)) (tOp (rI0 fun i j=>.int (i - j)) (zau zeb [] E0 (zab (zac 3) (zab (zac 13) zan))) (zac 4)) (tC (.int 1))) (zae 15))
 (zaR (zaZ (zau zc8 [] E0 (zab (zac 14) (zab (zcJ (zab (tOp (rI IntMulOk fun i j=>.int (i*j)) (tOp (zbu K) (zac 9) (tC (.int 0))) (zac 15)) (zab (tOp (zbu K) (zac 9) (tC (.int 1))) zan))) zan))) (zae 14))
 (zdt (tB (zau zew [] E0 (zab (zac 14) (zab (zau zgx [] E0 (zab (zac 3) (zab (zac 8) (zab (zac 13) zan)))) zan)))) (zbo (tC (.bl false))) zbF))))) D σ H:=rfl
def zfT:TS :=
 (zdt (tOr (zfn (tB (zau ziA [] E0 (zab (zac 3) (zab (zac 4) (zab (zac 12) zan)))))) (tB (zau zew [] E0 (zab (zac 5) (zab (zau zgV [] E0 (zab (zac 3) (zab (zac 12) zan))) zan))))) (zbo (tC (.bl false))) zbF)
theorem zbt (D:zch) (σ:St) (H:Hp):zfT D σ H=(zdt (tOr (zfn (tB (zau ziA [] E0 (zab (zac 3) (zab (zac 4) (zab (zac 12) zan)))))) (tB (zau zew [] E0 (zab (zac 5) (zab (zau zgV [] E0 (zab (zac 3) (zab (zac 12) zan))) zan))))) (zbo (tC (.bl false))) zbF) D σ H:=rfl
def zlo (K:PySem.W.Frag):TS :=
 (zaR (zaZ (zau (zlg K) [] E0 (zab (zeo (zab (zac 1) zan)) (zab (tC (.int 0)) zan))) (zae 2))
 (zaR (zaZ (zau zfL [] E0 (zab (zac 2) (zab (tC (.int 3)) zan))) (zae 3))
 (zaR (zaZ (zau za2 [] E0 (zab (zac 2) (zab (tOp (zcX K) (zeo (zab (tC (.int 6)) (zab (tC (.int 61)) zan))) (zau za2 [] E0 (zab (zac 2) (zab (tC (.int 2)) zan)))) zan))) (zae 4))
 (zaR (zaZ (zau zdo [] E0 (zab (tCB (fun xs H Q=>∃ p ys,xs=[.ref p]∧(SqL K H p ys∨SqT K H p ys)∧∀ l,H l=none→Q (.ref l) (upd H l (.lst ys))) (zab (zac 3) zan)) (zab (zac 4) zan))) (zcA K 3 (zaz (zae 5) (zaz (zae 6) (zaz (zae 7) zcy)))))
 (zaR (zaZ (zac 7) (zcA K 3 (zaz (zae 8) (zaz (zae 9) (zaz (zae 10) zcy)))))
 (zgr (zfV (zab (tC (.int 4)) zan)) (zae 11)
 (zaR (zaZ (zau zc0 [] E0 (zab (zac 2) (zab (zac 3) (zab (zac 4) zan)))) (zae 12))
 (zaR (zf5 (zfT))
 (zeW K)))))))))
theorem zbp (K:PySem.W.Frag) (D:zch) (σ:St) (H:Hp):zlo K D σ H=(zaR (zaZ (zau (zlg K) [] E0 (zab (zeo (zab (zac 1) zan)) (zab (tC (.int 0)) zan))) (zae 2))
 (zaR (zaZ (zau zfL [] E0 (zab (zac 2) (zab (tC (.int 3)) zan))) (zae 3))
 (zaR (zaZ (zau za2 [] E0 (zab (zac 2) (zab (tOp (zcX K) (zeo (zab (tC (.int 6)) (zab (tC (.int 61)) zan))) (zau za2 [] E0 (zab (zac 2) (zab (tC (.int 2)) zan)))) zan))) (zae 4))
 (zaR (zaZ (zau zdo [] E0 (zab (tCB (fun xs H Q=>∃ p ys,xs=[.ref p]∧(SqL K H p ys∨SqT K H p ys)∧∀ l,H l=none→Q (.ref l) (upd H l (.lst ys))) (zab (zac 3) zan)) (zab (zac 4) zan))) (zcA K 3 (zaz (zae 5) (zaz (zae 6) (zaz (zae 7) zcy)))))
 (zaR (zaZ (zac 7) (zcA K 3 (zaz (zae 8) (zaz (zae 9) (zaz (zae 10) zcy)))))
 (zgr (zfV (zab (tC (.int 4)) zan)) (zae 11)
 (zaR (zaZ (zau zc0 [] E0 (zab (zac 2) (zab (zac 3) (zab (zac 4) zan)))) (zae 12))
 (zaR (zf5 (zfT))
 (zeW K))))))))) D σ H:=rfl
def zon (K:PySem.W.Frag):TS :=
 (zaR (zgr (zbN K (tOp zq0 (zeo (zab (tC (.int 0)) zan)) (tSl (zra K) (zac 0) zfQ (zlG (tC (.int 40)))))) (zae 1)
 (zlo K))
 (zbo (tC (.bl true))))
theorem zhy (u:Rat):Rat.divInt u.num (u.den:Int)=u:=Rat.num_divInt_den u
theorem zqz:∀ Ws:List Int,(∀ w∈Ws,Bd 1600 w)→Bd (1600+Ws.length) Ws.sum
 | [],_=>by show (0:Nat)<2 ^ _;exact Nat.pow_pos (by decide)
 | w::Ws,h=>by
  have ih:=zqz Ws fun x hx=>h x (List.mem_cons_of_mem _ hx)
  have h1:=h w List.mem_cons_self
  rw [List.sum_cons,List.length_cons]
  exact ((h1.mono (Nat.le_add_right 1600 Ws.length)).add ih)
theorem zl8 {p0 p l wr mr pr wl pp cl:Addr} {cell c bud:Int} {ts:List Addr} {bs:List Box} {W P:Rat} {Ws:List Int} {t:V} {x12 x13 x14 x15:Option V} {D:zch} (hP:Drw H p c) (c1:c<900) (B:Bxs (Off p p H) l ts bs) (d0:0≤bud) (d1:bud≤60) (hw:Off p p H wr=some (.tup (fr W))) (hwl:Off p p H wl=some (.lst (Ws.map V.int))) (hpp:Off p p H pp=some (.tup (fr P))) (A:Pap bs bud W Ws P)
  (hD:∀ (c':Int) (u12 u13 u14 u15:Option V) (H':Hp),zaO (Off p p H) (Off p p H')→Drw H' p c'→c'≤c+22→D.nx [some (.ref p0),some (.int cell),some (.ref p),some (.ref l),some (.int bud),some (.ref wr),some (.ref mr),some (.ref pr),some (.ref wl),some (.ref pp),some (.ref cl),some t,u12,u13,u14,u15] H') :
  (zaR (zaZ (zau zc0 [] E0 (zab (zac 2) (zab (zac 3) (zab (zac 4) zan)))) (zae 12)) (zaR (zf5 zfT) (zeW K))) D [some (.ref p0),some (.int cell),some (.ref p),some (.ref l),some (.int bud),some (.ref wr),some (.ref mr),some (.ref pr),some (.ref wl),some (.ref pp),some (.ref cl),some t,x12,x13,x14,x15] H:=by
 simp_all only [zbr,zbt,zbp,zac]
 refine ⟨p,l,c,bud,ts,bs,rfl,hP,by omega,B,d0,d1,fun ml us xs c' H1 s1 P1 hc1 M1 hb=>?_⟩
 have Mh:=M1.same (zbl p p H1)
 have B1:=B.same s1
 have Bh:=B1.same (zbl p p H1)
 obtain ⟨W0,W1⟩:=M1.ws
 have L1:=M1.l1
 refine ⟨fun σ H'=>zaO H1 H'∧σ=[some (.ref p0),some (.int cell),some (.ref p),some (.ref l),some (.int bud),some (.ref wr),some (.ref mr),some (.ref pr),some (.ref wl),some (.ref pp),some (.ref cl),some t,some (.ref ml),x13,x14,x15],?_,?_⟩
 ·simp_all only [zbr,zbt,zbp,zac]
  refine ⟨l,ml,ts,bs,us,xs,bud,rfl,Bh,Mh,hb,fun H2 s2=>⟨true,rfl,?_⟩⟩
  refine zez (fun z=>absurd z (by decide)) (fun _=>?_)
  refine ⟨l,ml,ts,bs,us,xs,rfl,Bh.same s2,Mh.same s2,fun r m H3 s3 hr bm m1 hm=>?_⟩
  have hle:m≤W:=zmf B.gb A M1.gp (fun x hx=>(M1.gw x hx).1) W0 hb hm
  refine ⟨wr,r,W,m,rfl,s3 _ _ (s2 _ _ (zbl _ _ _ _ _ (s1 _ _ hw))),hr,A.vb.mono (by decide),bm.mono (by decide),false,?_,?_⟩
  ·rw [decide_eq_false (Rat.not_lt.mpr hle)]
  ·exact zez (fun z=>absurd z (by decide)) (fun _=>s2.trans s3)
 ·rintro σ H2 ⟨s2,rfl⟩
  have S2:=s1.trans (zfr p p s2)
  have M2:=Mh.same s2
  have B2:=Bh.same s2
  have P2:=P1.same s2
  have hw2:H2 wr=some (.tup (fr W)):=zbl _ _ _ _ _ (S2 _ _ hw)
  have hwl2:H2 wl=some (.lst (Ws.map V.int)):=zbl _ _ _ _ _ (S2 _ _ hwl)
  have hpp2:H2 pp=some (.tup (fr P)):=zbl _ _ _ _ _ (S2 _ _ hpp)
  have lu:=M2.tp.1
  have eu:us[0]?=some (us[0]'(by omega)):=List.getElem?_eq_getElem (by omega)
  obtain ⟨x,ex,hu⟩:=M2.tp.at eu
  have gx:=M1.gp x (zav ex)
  have bS:Bd 1603 Ws.sum:=(zqz Ws A.wb).mono (by have:=A.len;have:=B.l3;omega)
  have l3:=B.l3
  obtain ⟨k0,k1⟩:=ziI bs x.2.1 B.gb gx.2
  show zeW K D _ H2
  simp_all only [zbr,zbt,zbp,zac]
  refine ⟨_,SqL.of M2.hm,_,zec (j:=0) (by rw [List.getElem?_map,eu];rfl),_,rfl,_,SqT.of hu,_,rfl,?_⟩
  have dW:=zcn W
  have dP:=zcn P
  refine ⟨_,SqT.of hw2,_,rfl,Ws,SqL.of hwl2,_,rfl,zf4 1200 1603 A.vb.top bS,_,SqT.of hw2,_,rfl,by decide,fun a1 f1=>?_⟩
  have s3:=zao f1 (.tup [V.int (W.num*Ws.sum),V.int (W.den:Int)])
  have h3:(L2.upd H2 a1 (.tup [V.int (W.num*Ws.sum),V.int (W.den:Int)])) a1=some (.tup [V.int (W.num*Ws.sum),V.int (W.den:Int)]):=zaj
  generalize L2.upd H2 a1 (.tup [V.int (W.num*Ws.sum),V.int (W.den:Int)])=H3 at s3 h3 ⊢
  have hpp3:=SqT.of (K:=K) (s3 _ _ hpp2)
  refine ⟨_,hpp3,_,rfl,_,hpp3,_,rfl,_,_,rfl,dP,A.pb.bot.mono (by decide),fun a2 H4 s4 h4=>?_⟩
  rw [zhy] at h4
  refine ⟨a1,a2,1200,1600,_,_,_,_,rfl,s4 _ _ h3,h4,dW,dP,(A.vb.top.mul bS).mono (by decide),A.vb.bot,A.pb.top.mono (by decide),A.pb.bot,by decide,fun a3 H5 s5 h5=>?_⟩
  have S5:=s3.trans (s4.trans s5)
  have eW:Rat.divInt (W.num*Ws.sum) (W.den:Int)=W*(Ws.sum:Rat):=by
   rw [Rat.divInt_eq_div,Rat.intCast_mul]
   have h:=zhy W
   rw [Rat.divInt_eq_div] at h
   have z:((W.den:Int):Rat)≠0:=fun z=>by
    have:(W.den:Int)=0:=by exact_mod_cast z
    omega
   generalize ((W.den:Int):Rat)=d at h z ⊢
   generalize (W.num:Rat)=n at h ⊢
   grind
  rw [eW,zhy] at h5
  have b1:Bq 2803 (W*(Ws.sum:Rat)):=by
   rw [← eW]
   exact zbd (by omega) ((A.vb.top.mul bS).mono (by decide)) (A.vb.bot.mono (by decide))
  have b2:=b1.add2 A.pb
  refine ⟨l,x.1,ts,bs,x.2.1,rfl,B2.same S5,S5 _ _ (M2.pl x (zav ex)),gx,fun H6 s6=>?_⟩
  simp_all only [zbr,zbt,zbp,zac]
  have S6:=S5.trans s6
  have hpp6:=SqT.of (K:=K) (S6 _ _ hpp2)
  refine ⟨_,hpp6,_,rfl,_,rfl,ziO (by omega) (by omega),_,hpp6,_,rfl,by decide,fun a4 f4=>?_⟩
  have s7:=zao f4 (.tup [V.int (P.num*((zax bs x.2.1).sum - bud - 1)),V.int (P.den:Int)])
  have h7:(L2.upd H6 a4 (.tup [V.int (P.num*((zax bs x.2.1).sum - bud - 1)),V.int (P.den:Int)])) a4=some (.tup [V.int (P.num*((zax bs x.2.1).sum - bud - 1)),V.int (P.den:Int)]):=zaj
  generalize L2.upd H6 a4 (.tup [V.int (P.num*((zax bs x.2.1).sum - bud - 1)),V.int (P.den:Int)])=H7 at s7 h7 ⊢
  have bb:Bd 12 ((zax bs x.2.1).sum - bud - 1):=by show Int.natAbs _<2 ^ 12;omega
  have eP:Rat.divInt (P.num*((zax bs x.2.1).sum - bud - 1)) (P.den:Int)=P*(((zax bs x.2.1).sum - bud - 1:Int):Rat):=by
   rw [Rat.divInt_eq_div,Rat.intCast_mul]
   have h:=zhy P
   rw [Rat.divInt_eq_div] at h
   have z:((P.den:Int):Rat)≠0:=fun z=>by
    have:(P.den:Int)=0:=by exact_mod_cast z
    omega
   generalize ((P.den:Int):Rat)=d at h z ⊢
   generalize (P.num:Rat)=n at h ⊢
   grind
  have b3:Bq 1612 (P*(((zax bs x.2.1).sum - bud - 1:Int):Rat)):=by
   rw [← eP]
   exact zbd (by omega) (A.pb.top.mul bb) (A.pb.bot.mono (by decide))
  refine ⟨a3,a4,4404,1600,_,_,_,_,rfl,s7 _ _ (s6 _ _ h5),h7,zcn _,dP,b2.top.mono (by decide),b2.bot,(A.pb.top.mul bb).mono (by decide),A.pb.bot,by decide,fun a5 H8 s8 h8=>?_⟩
  rw [eP,zhy] at h8
  have S8:=S6.trans (s7.trans s8)
  refine ⟨l,wl,x.1,ts,bs,Ws,x.2.1,rfl,B2.same S8,S8 _ _ hwl2,S8 _ _ (M2.pl x (zav ex)),gx,A.len,A.wb,fun a6 H9 s9 h9 b9=>?_⟩
  have hle:zhp bs Ws x.2.1≤W*(Ws.sum:Rat)+P+P*(((zax bs x.2.1).sum - bud - 1:Int):Rat):=by
   have h:=A.hi x.2.1 gx.1 fun n hn=>(gx.2 n hn).1
   rw [Rat.intCast_sub] at h
   rw [Rat.intCast_sub,Rat.intCast_sub]
   rw [show ((1:Int):Rat)=1 from rfl]
   generalize ((zax bs x.2.1).sum:Rat)=C at h ⊢
   generalize (bud:Rat)=D' at h ⊢
   grind
  refine ⟨a5,a6,_,_,rfl,s9 _ _ h8,h9,(b2.add2 b3).mono (by decide),b9.mono (by decide),false,?_,?_⟩
  ·rw [decide_eq_false (Rat.not_lt.mpr hle)]
  ·refine zez (fun z=>absurd z (by decide)) (fun _=>?_)
   have S9:=S8.trans s9
   exact hD c' _ _ _ _ H9 (S2.trans (zfr p p S9)) (P2.same S9) hc1
open HT in
theorem zqK (ns:List Int):zj3 (ns.map V.int) none (some 40)=(ns.take 40).map V.int:=by
 unfold zj3
 rw [zi8,Nat.sub_zero,List.drop_zero]
 have e:sIx (ns.map V.int).length (ns.map V.int).length (some 40)=min 40 (ns.map V.int).length:=zll _ _ 40
 rw [e,List.map_take]
 by_cases c:40≤(ns.map V.int).length
 ·rw [Nat.min_eq_left c]
 ·have c':(ns.map V.int).length≤40:=by omega
  rw [Nat.min_eq_right c',List.take_of_length_le (Nat.le_refl _),List.take_of_length_le c']
theorem zqX {p0:Addr} {ns:List Int} (hS:SqL K H p0 (ns.map V.int)) (hl:ns.length≤63) (hb:∀ x∈ns,x.natAbs<2 ^ 2 ^ 20) (q:∀ H',Q (.bl true) H') :
  zon K { nx:=fun _ H'=>Q .non H',rt:=Q } (L2.start ["_law_script","_law_cell","_law_left_here","_law_boxes_here","_law_budget","_law_worth","_law_told","_law_paper","_law_weights","_law_price_here","_law_counts","_law_turn","_law_mix_here","_law_plan_here","_law_bound","_law_beyond"] [.ref p0]) H:=by
 unfold zon
 simp_all only [zbr,zbt,zbp,zac]
 refine ⟨by decide,fun e1 g1=>⟨_,(zao g1 _).seq hS,fun e2 g2=>⟨_,zao g2 _ _ _ zaj,_,zaj,?_,fun e3 g3=>?_⟩⟩⟩
 ·rw [zqK,List.length_map,List.length_take,List.length_singleton]
  simp only [sizeLine]
  omega
 rw [zqK] at g3 ⊢
 have e:[V.int 0]++(ns.take 40).map V.int=(0::ns.take 40).map V.int:=rfl
 rw [e]
 have hc:∀ x∈0::ns.take 40,x.natAbs<2 ^ 2 ^ 20:=fun x hx=>by
  rcases List.mem_cons.mp hx with rfl | hx
  ·exact Nat.two_pow_pos _
  ·exact hb x (List.mem_of_mem_take hx)
 generalize (0::ns.take 40)=cs at hc ⊢
 have h3:(L2.upd (L2.upd (L2.upd H e1 (.lst [V.int 0])) e2 (.lst ((ns.take 40).map V.int))) e3 (.lst (cs.map V.int))) e3=some (.lst (cs.map V.int)):=zaj
 generalize L2.upd (L2.upd (L2.upd H e1 (.lst [V.int 0])) e2 (.lst ((ns.take 40).map V.int))) e3 (.lst (cs.map V.int))=H3 at h3 ⊢
 refine ⟨⟨_,SqL.of h3⟩,?_⟩
 refine zce (K:=K) (xs:=cs.map V.int) (fun i σ H'=>zaO H3 H'∧∃ u1 u2 u3 u4 u5 u6 u7 u8 u9 u10 u11 u12 u13 u14 u15,σ=[some (.ref p0),u1,u2,u3,u4,u5,u6,u7,u8,u9,u10,u11,u12,u13,u14,u15]) ⟨.refl _,_,_,_,_,_,_,_,_,_,_,_,_,_,_,_,rfl⟩ ?_ ?_ ?_
 ·rintro i σ H' _ ⟨s,_⟩
  exact SqL.of (s _ _ h3)
 ·rintro i x σ H4 hi ⟨s4,u1,u2,u3,u4,u5,u6,u7,u8,u9,u10,u11,u12,u13,u14,u15,rfl⟩
  obtain ⟨cell,ec,rfl⟩:=zaB hi
  simp_all only [zbr,zbt,zbp,zac]
  refine ⟨by decide,fun d gd=>?_⟩
  refine ⟨d,cell,rfl,zaj,hc cell (zav ec),fun p H5 s5 fp P5=>?_⟩
  have s45:=(s4.add gd).trans s5
  have fp3:H3 p=none:=(s4.add gd).free fp
  simp_all only [zbr,zbt,zbp,zac]
  refine ⟨p,0,rfl,P5,by decide,fun l ts bs c H6 s6 P6 hc6 hl6 T6 gb l1 l3=>?_⟩
  simp_all only [zbr,zbt,zbp,zac]
  refine ⟨by decide,fun d2 gd2=>?_⟩
  obtain ⟨H7,e7,P7,s7,h7,_⟩:=P6.mk2 gd2 (.lst [.int 6,.int 61])
  rw [← e7]
  have c0:=P6.c0
  refine ⟨p,c,2,rfl,P7,by omega,by decide,by decide,fun r H8 r0 r1 o8 P8=>?_⟩
  obtain ⟨m,em,hm⟩:=at2 (x:=6) (y:=61) r0 r1
  rw [← o8] at h7 s7
  simp_all only [zbr,zbt,zbp,zac]
  refine ⟨_,SqL.of (zbl _ _ _ _ _ h7),_,em,?_⟩
  refine ⟨p,c+1,m,rfl,P8,by omega,by omega,by omega,fun bud H9 b0 b1 o9 P9=>?_⟩
  rw [← o9] at s7
  have B9:Bxs (Off p p H9) l ts bs:=⟨s7 _ _ hl6,T6.same s7,gb,l1,l3⟩
  have Bh:=B9.same (zbl p p H9)
  refine ⟨_,.inl (SqL.of Bh.hl),fun l2 f2=>?_⟩
  obtain ⟨Ha,ea,Pa,sa,ha,Sa⟩:=P9.mk2 f2 (.lst (ts.map V.ref))
  rw [← ea]
  have Ba:=Bh.same Sa
  refine ⟨l2,ts,bs,bud,rfl,zbl _ _ _ _ _ ha,Ba.hb,gb,l1,l3,b0,by omega,fun r wr mr pr wl pp cl W P Ws Hb sb a1 a2 a3 a4 a5 A fw=>?_⟩
  simp_all only [zbr,zbt,zbp,zac]
  refine ⟨_,SqT.of a1,rfl,_,_,rfl,_,_,rfl,_,_,rfl,rfl,pr,rfl,_,SqT.of a3,rfl,_,_,rfl,_,_,rfl,_,_,rfl,rfl,by decide,by decide,?_⟩
  have Pb:=Pa.same sb
  obtain ⟨n0,f0,hpb,_⟩:=Pb.hp
  have nw:wr≠p:=fun z=>by
   subst z
   rw [a2] at hpb
   cases hpb
  have np:pp≠p:=fun z=>by
   subst z
   rw [a5] at hpb
   cases hpb
  have nl:wl≠p:=Pa.new fw
  have Sb:zaO (Off p p H6) (Off p p Hb):=s7.trans (sa.trans (zfr p p sb))
  have B6:Bxs (Off p p H6) l ts bs:=⟨hl6,T6,gb,l1,l3⟩
  have Bb:=B6.same Sb
  refine zb3 (fun j σ H'=>∃ c',zaO (Off p p Hb) (Off p p H')∧Drw H' p c'∧c'≤18+22*(j:Int)∧∃ v11 v12 v13 v14 v15,σ=[some (.ref p0),some (.int cell),some (.ref p),some (.ref l),some (.int bud),some (.ref wr),some (.ref mr),some (.ref pr),some (.ref wl),some (.ref pp),some (.ref cl),v11,v12,v13,v14,v15]) ⟨_,.refl _,Pb,by omega,_,_,_,_,_,rfl⟩ ?_ ?_
  ·rintro j σ Hc hj ⟨c',sc,Pc,hc',v11,v12,v13,v14,v15,rfl⟩
   show (zaR (zaZ (zau zc0 [] E0 (zab (zac 2) (zab (zac 3) (zab (zac 4) zan)))) (zae 12)) (zaR (zf5 zfT) (zeW K))) _ [some (.ref p0),some (.int cell),some (.ref p),some (.ref l),some (.int bud),some (.ref wr),some (.ref mr),some (.ref pr),some (.ref wl),some (.ref pp),some (.ref cl),some (.int (0+j)),v12,v13,v14,v15] Hc
   refine zl8 Pc (by omega) (Bb.same sc) b0 (by omega) (sc _ _ (by rw [zfe nw nw];exact a2)) (sc _ _ (by rw [zfe nl nl];exact a4)) (sc _ _ (by rw [zfe np np];exact a5)) A fun c2 w12 w13 w14 w15 Hd sd Pd hd=>⟨c2,sc.trans sd,Pd,by omega,_,_,_,_,_,rfl⟩
  ·rintro σ Hc ⟨c',sc,Pc,hc',v11,v12,v13,v14,v15,rfl⟩
   exact ⟨zox fp3 s45 (s6.trans (Sb.trans sc)),_,_,_,_,_,_,_,_,_,_,_,_,_,_,_,rfl⟩
 ·rintro σ H4 ⟨s4,u1,u2,u3,u4,u5,u6,u7,u8,u9,u10,u11,u12,u13,u14,u15,rfl⟩
  simp_all only [zbr,zbt,zbp,zac]
  exact q H4
theorem zb8:zay ["_law_script","_law_cell","_law_left_here","_law_boxes_here","_law_budget","_law_worth","_law_told","_law_paper","_law_weights","_law_price_here","_law_counts","_law_turn","_law_mix_here","_law_plan_here","_law_bound","_law_beyond"] ["_law_script"] (zah zoG):=⟨rfl,rfl,rfl,by decide +kernel,rfl,by decide +kernel,by decide +kernel⟩
theorem zrg (T:Txt K mg a):zb0 P w K mg base CX0 8 a.f_law a.d_law ["_law_script"] (zlY K):=by
 have G__law_boxes:=zgS (P:=P) (w:=w) (base:=base) T
 have G__law_draw:=zdz (P:=P) (w:=w) (base:=base) T
 have G__law_drawn_mix:=ze6 (P:=P) (w:=w) (base:=base) T
 have G__law_found_by_weights:=zc4 (P:=P) (w:=w) (base:=base) T
 have G__law_keeps:=zgA (P:=P) (w:=w) (base:=base) T
 have G__law_least:=zhi (P:=P) (w:=w) (base:=base) T
 have G__law_left:=zhK (P:=P) (w:=w) (base:=base) T
 have G__law_less:=ze9 (P:=P) (w:=w) (base:=base) T
 have G__law_lowest:=zd2 (P:=P) (w:=w) (base:=base) T
 have G__law_plus:=zdu (P:=P) (w:=w) (base:=base) T
 have G__law_price:=zdf (P:=P) (w:=w) (base:=base) T
 have G_budget_worth:=zfU (P:=P) (w:=w) (base:=base) T
 refine T.F_law.ok zb8 (fun vs H Q E h=>?_) (fun cdv A outer s H vs Q E hr h=>?_)
 ·obtain ⟨p,ns,rfl,hS,hl,hb,q⟩:=h
  rfl
 obtain ⟨p,ns,rfl,hS,hl,hb,q⟩:=h
 exact ⟨zon K,(zaf (zcq PassesOwn.never rfl (zbe (zaA zng (zb9 (zaa zag zad)) (zjs zkf (pv 0) zkG (zlw zag)))) (zam (i:=1) zb8.nd rfl (Or.inl rfl))
 (zaf (zaE (i:=2) zb8.nd rfl (Or.inl rfl) (zak G__law_left (hr.mono (by decide)) rfl T.m__law_left T.F__law_left.kp T.b__law_left .nil zaC (zaa (zb9 (zaa (pv 1) zad)) (zaa zag zad))))
 (zaf (zaE (i:=3) zb8.nd rfl (Or.inl rfl) (zak G__law_boxes (hr.mono (by decide)) rfl T.m__law_boxes T.F__law_boxes.kp T.b__law_boxes .nil zaC (zaa (pv 2) (zaa zag zad))))
 (zaf (zaE (i:=4) zb8.nd rfl (Or.inl rfl) (zak G__law_draw (hr.mono (by decide)) rfl T.m__law_draw T.F__law_draw.kp T.b__law_draw .nil zaC (zaa (pv 2) (zaa (zaN zbj (zb9 (zaa zag (zaa zag zad))) (zak G__law_draw (hr.mono (by decide)) rfl T.m__law_draw T.F__law_draw.kp T.b__law_draw .nil zaC (zaa (pv 2) (zaa zag zad))) (fun _ _=>rfl)) zad))))
 (zaf (zdq (zak G_budget_worth (hr.mono (by decide)) rfl T.m_budget_worth T.F_budget_worth.kp T.b_budget_worth .nil zaC (zaa (zdC zcc rfl T.z_list zcd (zaa (pv 3) zad)) (zaa (pv 4) zad))) (zbm rfl (zat (zam (i:=5) zb8.nd rfl (Or.inl rfl)) (zat (zam (i:=6) zb8.nd rfl (Or.inl rfl)) (zat (zam (i:=7) zb8.nd rfl (Or.inl rfl)) za3)))))
 (zaf (zdq (pv 7) (zbm rfl (zat (zam (i:=8) zb8.nd rfl (Or.inl rfl)) (zat (zam (i:=9) zb8.nd rfl (Or.inl rfl)) (zat (zam (i:=10) zb8.nd rfl (Or.inl rfl)) za3)))))
 (zal (zcq PassesOwn.never rfl (zcb rfl T.z_range (zaa zag zad)) (zam (i:=11) zb8.nd rfl (Or.inl rfl))
 (zaf (zaE (i:=12) zb8.nd rfl (Or.inl rfl) (zak G__law_drawn_mix (hr.mono (by decide)) rfl T.m__law_drawn_mix T.F__law_drawn_mix.kp T.b__law_drawn_mix .nil zaC (zaa (pv 2) (zaa (pv 3) (zaa (pv 4) zad)))))
 (zaf (zcI (zc3 (PW.pt (zfO (zcY (zb1 (zak G__law_keeps (hr.mono (by decide)) rfl T.m__law_keeps T.F__law_keeps.kp T.b__law_keeps .nil zaC (zaa (pv 3) (zaa (pv 4) (zaa (pv 12) zad)))))) (zfh (zb1 (zak G__law_less (hr.mono (by decide)) rfl T.m__law_less T.F__law_less.kp T.b__law_less .nil zaC (zaa (pv 5) (zaa (zak G__law_least (hr.mono (by decide)) rfl T.m__law_least T.F__law_least.kp T.b__law_least .nil zaC (zaa (pv 3) (zaa (pv 12) zad))) zad))))))) (zal (zaK zgI)) zbq))
 (zaf (zaE (i:=13) zb8.nd rfl (Or.inl rfl) (zaN zaD (zaN zbj (pv 12) zag (fun _ _=>rfl)) zag (fun _ _=>rfl)))
 (zaf (zaE (i:=14) zb8.nd rfl (Or.inl rfl) (zak G__law_plus (hr.mono (by decide)) rfl T.m__law_plus T.F__law_plus.kp T.b__law_plus .nil zaC (zaa (zbk (zaa (zaA zaL (zaN zaD (pv 5) zag (fun _ _=>rfl)) (zaJ (zcs rfl) rfl T.z_sum PyProof.Rows.boot_sum (zaa (pv 8) zad))) (zaa (zaN zaD (pv 5) zag (fun _ _=>rfl)) zad))) (zaa (zak G__law_lowest (hr.mono (by decide)) rfl T.m__law_lowest T.F__law_lowest.kp T.b__law_lowest .nil zaC (zaa (zaN zaD (pv 9) zag (fun _ _=>rfl)) (zaa (zaN zaD (pv 9) zag (fun _ _=>rfl)) zad))) zad))))
 (zaf (zaE (i:=15) zb8.nd rfl (Or.inl rfl) (zaA zcD (zaA zcD (zak G__law_price (hr.mono (by decide)) rfl T.m__law_price T.F__law_price.kp T.b__law_price .nil zaC (zaa (pv 3) (zaa (pv 13) zad))) (pv 4)) zag))
 (zaf (zaE (i:=14) zb8.nd rfl (Or.inl rfl) (zak G__law_plus (hr.mono (by decide)) rfl T.m__law_plus T.F__law_plus.kp T.b__law_plus .nil zaC (zaa (pv 14) (zaa (zbk (zaa (zaA zaL (zaN zaD (pv 9) zag (fun _ _=>rfl)) (pv 15)) (zaa (zaN zaD (pv 9) zag (fun _ _=>rfl)) zad))) zad))))
 (zal (zc3 (zb1 (zak G__law_less (hr.mono (by decide)) rfl T.m__law_less T.F__law_less.kp T.b__law_less .nil zaC (zaa (pv 14) (zaa (zak G__law_found_by_weights (hr.mono (by decide)) rfl T.m__law_found_by_weights T.F__law_found_by_weights.kp T.b__law_found_by_weights .nil zaC (zaa (pv 3) (zaa (pv 8) (zaa (pv 13) zad)))) zad)))) (zal (zaK zgI)) zbq))))))))))))))))
 (zal (zaK zgI))),
  zqX hS hl hb q⟩
end
theorem zpu {us:List Value} {n:Nat} (h:us.length=n+1):∃ a t,us=a::t∧t.length=n:=by
 cases us with
 | nil=>cases h
 | cons a t=>exact ⟨a,t,rfl,Nat.succ.inj h⟩
theorem zj4 {us:List Value} (h:us.length=1):∃ a0,us=[a0]:=by
 obtain ⟨a0,u0,rfl,h0⟩:=zpu h
 cases List.eq_nil_of_length_eq_zero h0
 exact ⟨a0,rfl⟩
theorem zeL {us:List Value} (h:us.length=2):∃ a0,∃ a1,us=[a0,a1]:=by
 obtain ⟨a0,u0,rfl,h0⟩:=zpu h
 obtain ⟨a1,u1,rfl,h1⟩:=zpu h0
 cases List.eq_nil_of_length_eq_zero h1
 exact ⟨a0,a1,rfl⟩
theorem znj {us:List Value} (h:us.length=3):∃ a0,∃ a1,∃ a2,us=[a0,a1,a2]:=by
 obtain ⟨a0,u0,rfl,h0⟩:=zpu h
 obtain ⟨a1,u1,rfl,h1⟩:=zpu h0
 obtain ⟨a2,u2,rfl,h2⟩:=zpu h1
 cases List.eq_nil_of_length_eq_zero h2
 exact ⟨a0,a1,a2,rfl⟩
theorem zrf {K:PySem.W.Frag} {h:Heap} {mg:Str→Option Value} (X:K.In h) (G:h.Ns mainGlobals mg)
  {f0 f1 f2 f3 f4 f5 f6 f7 f8 f9 f10 f11 f12 f13 f14 f15 f16 f17 f18 f19 f20 f21 f22 f23 f24 f25 f26 f27 f28 f29 f30 f31 f32 f33 f34 f35 f36 f37 f38 f39 f40 f41 f42 f43 f44 f45 f46 f47 f48:Addr} {d0 d1 d2 d3 d4 d5 d6 d7 d8 d9 d10 d11 d12 d13 d14 d15 d16 d17 d18 d19 d20 d21 d22 d23 d24 d25 d26 d27 d28 d29 d30 d31 d32 d33 d34 d35 d36 d37 d38 d39 d40 d41 d42 d43 d44 d45 d46 d47 d48:FuncData}
  (F0:Fun K "divisor" "divisor" zfy f0 d0) (m0:mg "divisor"=some (.ref f0))
  (F1:Fun K "ratio" "ratio" ziM f1 d1) (m1:mg "ratio"=some (.ref f1))
  (F2:Fun K "plus" "plus" zkQ f2 d2) (m2:mg "plus"=some (.ref f2))
  (F3:Fun K "minus" "minus" ziY f3 d3) (m3:mg "minus"=some (.ref f3))
  (F4:Fun K "times" "times" ziC f4 d4) (m4:mg "times"=some (.ref f4))
  (F5:Fun K "over" "over" zkm f5 d5) (m5:mg "over"=some (.ref f5))
  (F6:Fun K "below" "below" ziD f6 d6) (m6:mg "below"=some (.ref f6))
  (F7:Fun K "common" "common" zfp f7 d7) (m7:mg "common"=some (.ref f7))
  (F8:Fun K "shared_divisor" "shared_divisor" zcl f8 d8) (m8:mg "shared_divisor"=some (.ref f8))
  (F9:Fun K "lowest" "lowest" zfw f9 d9) (m9:mg "lowest"=some (.ref f9))
  (F10:Fun K "is_whole" "is_whole" zeX f10 d10) (m10:mg "is_whole"=some (.ref f10))
  (F11:Fun K "is_within" "is_within" zeg f11 d11) (m11:mg "is_within"=some (.ref f11))
  (F12:Fun K "is_box" "is_box" zg9 f12 d12) (m12:mg "is_box"=some (.ref f12))
  (F13:Fun K "look_boxes" "look_boxes" zcL f13 d13) (m13:mg "look_boxes"=some (.ref f13))
  (F14:Fun K "look_budget" "look_budget" zdm f14 d14) (m14:mg "look_budget"=some (.ref f14))
  (F15:Fun K "power" "power" zi0 f15 d15) (m15:mg "power"=some (.ref f15))
  (F16:Fun K "missed" "missed" zgW f16 d16) (m16:mg "missed"=some (.ref f16))
  (F17:Fun K "chance" "chance" zgO f17 d17) (m17:mg "chance"=some (.ref f17))
  (F18:Fun K "gain" "gain" zkE f18 d18) (m18:mg "gain"=some (.ref f18))
  (F19:Fun K "cost_sum" "cost_sum" zdT f19 d19) (m19:mg "cost_sum"=some (.ref f19))
  (F20:Fun K "added" "added" ziw f20 d20) (m20:mg "added"=some (.ref f20))
  (F21:Fun K "least_chance" "least_chance" zcW f21 d21) (m21:mg "least_chance"=some (.ref f21))
  (F22:Fun K "fair_weights" "fair_weights" zb5 f22 d22) (m22:mg "fair_weights"=some (.ref f22))
  (F23:Fun K "chance_for" "chance_for" zcg f23 d23) (m23:mg "chance_for"=some (.ref f23))
  (F24:Fun K "counts_and_worth" "counts_and_worth" zba f24 d24) (m24:mg "counts_and_worth"=some (.ref f24))
  (F25:Fun K "look_shares" "look_shares" zcz f25 d25) (m25:mg "look_shares"=some (.ref f25))
  (F26:Fun K "mix_of" "mix_of" zdS f26 d26) (m26:mg "mix_of"=some (.ref f26))
  (F27:Fun K "paper_of" "paper_of" zdX f27 d27) (m27:mg "paper_of"=some (.ref f27))
  (F28:Fun K "sure_answer" "sure_answer" zcu f28 d28) (m28:mg "sure_answer"=some (.ref f28))
  (F29:Fun K "is_sure" "is_sure" zdB f29 d29) (m29:mg "is_sure"=some (.ref f29))
  (F30:Fun K "budget_worth" "budget_worth" zcT f30 d30) (m30:mg "budget_worth"=some (.ref f30))
  (F31:Fun K "_law_mix" "_law_mix" zeY f31 d31) (m31:mg "_law_mix"=some (.ref f31))
  (F32:Fun K "_law_cell_at" "_law_cell_at" zcR f32 d32) (m32:mg "_law_cell_at"=some (.ref f32))
  (F33:Fun K "_law_left" "_law_left" zet f33 d33) (m33:mg "_law_left"=some (.ref f33))
  (F34:Fun K "_law_draw" "_law_draw" zel f34 d34) (m34:mg "_law_draw"=some (.ref f34))
  (F35:Fun K "_law_boxes" "_law_boxes" zdw f35 d35) (m35:mg "_law_boxes"=some (.ref f35))
  (F36:Fun K "_law_whole" "_law_whole" zdP f36 d36) (m36:mg "_law_whole"=some (.ref f36))
  (F37:Fun K "_law_lowest" "_law_lowest" zdn f37 d37) (m37:mg "_law_lowest"=some (.ref f37))
  (F38:Fun K "_law_miss" "_law_miss" zev f38 d38) (m38:mg "_law_miss"=some (.ref f38))
  (F39:Fun K "_law_plus" "_law_plus" zen f39 d39) (m39:mg "_law_plus"=some (.ref f39))
  (F40:Fun K "_law_less" "_law_less" zer f40 d40) (m40:mg "_law_less"=some (.ref f40))
  (F41:Fun K "_law_plan" "_law_plan" zdc f41 d41) (m41:mg "_law_plan"=some (.ref f41))
  (F42:Fun K "_law_price" "_law_price" zcO f42 d42) (m42:mg "_law_price"=some (.ref f42))
  (F43:Fun K "_law_chance" "_law_chance" zcw f43 d43) (m43:mg "_law_chance"=some (.ref f43))
  (F44:Fun K "_law_keeps" "_law_keeps" zca f44 d44) (m44:mg "_law_keeps"=some (.ref f44))
  (F45:Fun K "_law_drawn_mix" "_law_drawn_mix" zbh f45 d45) (m45:mg "_law_drawn_mix"=some (.ref f45))
  (F46:Fun K "_law_least" "_law_least" zdI f46 d46) (m46:mg "_law_least"=some (.ref f46))
  (F47:Fun K "_law_found_by_weights" "_law_found_by_weights" zby f47 d47) (m47:mg "_law_found_by_weights"=some (.ref f47))
  (F48:Fun K "law" "law" zoG f48 d48) (m48:mg "law"=some (.ref f48))
  (z_set:mg "set"=none)
  (z_isinstance:mg "isinstance"=none)
  (z_range:mg "range"=none)
  (z_all:mg "all"=none)
  (z_sorted:mg "sorted"=none)
  (z_abs:mg "abs"=none)
  (z_sum:mg "sum"=none)
  (z_len:mg "len"=none)
  (z_list:mg "list"=none)
  (z_zip:mg "zip"=none)
  (z_int:mg "int"=none)
  (z_bool:mg "bool"=none)
  (z_tuple:mg "tuple"=none)
  (z_max:mg "max"=none)
  {c_NoNumber c_NoBoxes c_NoBudget:Addr}
  (ac_NoNumber:mg "NoNumber"=some (.ref c_NoNumber))
  (ac_NoBoxes:mg "NoBoxes"=some (.ref c_NoBoxes))
  (ac_NoBudget:mg "NoBudget"=some (.ref c_NoBudget))
  {k_MOST_BOXES:Tok} (ak_MOST_BOXES:mg "MOST_BOXES"=some (.int 6 k_MOST_BOXES))
  {k_MOST_COST:Tok} (ak_MOST_COST:mg "MOST_COST"=some (.int 60 k_MOST_COST))
  {k_MOST_OF:Tok} (ak_MOST_OF:mg "MOST_OF"=some (.int 50 k_MOST_OF))
  {k_MOST_BUDGET:Tok} (ak_MOST_BUDGET:mg "MOST_BUDGET"=some (.int 60 k_MOST_BUDGET))
  (xc_NoNumber:PySem.W.excIn K c_NoNumber zjG "ValueError.__new__"=true)
  (xc_NoBoxes:PySem.W.excIn K c_NoBoxes zjG "ValueError.__new__"=true)
  (xc_NoBudget:PySem.W.excIn K c_NoBudget zjG "ValueError.__new__"=true)
  : Txt K mg ⟨f0,d0,f1,d1,f2,d2,f3,d3,f4,d4,f5,d5,f6,d6,f7,d7,f8,d8,f9,d9,f10,d10,f11,d11,f12,d12,f13,d13,f14,d14,f15,d15,f16,d16,f17,d17,f18,d18,f19,d19,f20,d20,f21,d21,f22,d22,f23,d23,f24,d24,f25,d25,f26,d26,f27,d27,f28,d28,f29,d29,f30,d30,f31,d31,f32,d32,f33,d33,f34,d34,f35,d35,f36,d36,f37,d37,f38,d38,f39,d39,f40,d40,f41,d41,f42,d42,f43,d43,f44,d44,f45,d45,f46,d46,f47,d47,f48,d48,c_NoNumber,c_NoBoxes,c_NoBudget,k_MOST_BOXES,k_MOST_COST,k_MOST_OF,k_MOST_BUDGET⟩:=by
 exact ⟨F0,F0.binds fun _ _ _ _ _ _ us hl=>by obtain ⟨_,_,rfl⟩:=zeL hl;rfl,m0,F1,F1.binds fun _ _ _ _ _ _ us hl=>by obtain ⟨_,_,rfl⟩:=zeL hl;rfl,m1,F2,F2.binds fun _ _ _ _ _ _ us hl=>by obtain ⟨_,_,rfl⟩:=zeL hl;rfl,m2,F3,F3.binds fun _ _ _ _ _ _ us hl=>by obtain ⟨_,_,rfl⟩:=zeL hl;rfl,m3,F4,F4.binds fun _ _ _ _ _ _ us hl=>by obtain ⟨_,_,rfl⟩:=zeL hl;rfl,m4,F5,F5.binds fun _ _ _ _ _ _ us hl=>by obtain ⟨_,_,rfl⟩:=zeL hl;rfl,m5,F6,F6.binds fun _ _ _ _ _ _ us hl=>by obtain ⟨_,_,rfl⟩:=zeL hl;rfl,m6,F7,F7.binds fun _ _ _ _ _ _ us hl=>by obtain ⟨_,rfl⟩:=zj4 hl;rfl,m7,F8,F8.binds fun _ _ _ _ _ _ us hl=>by obtain ⟨_,rfl⟩:=zj4 hl;rfl,m8,F9,F9.binds fun _ _ _ _ _ _ us hl=>by obtain ⟨_,rfl⟩:=zj4 hl;rfl,m9,F10,F10.binds fun _ _ _ _ _ _ us hl=>by obtain ⟨_,rfl⟩:=zj4 hl;rfl,m10,F11,F11.binds fun _ _ _ _ _ _ us hl=>by obtain ⟨_,_,_,rfl⟩:=znj hl;rfl,m11,F12,F12.binds fun _ _ _ _ _ _ us hl=>by obtain ⟨_,rfl⟩:=zj4 hl;rfl,m12,F13,F13.binds fun _ _ _ _ _ _ us hl=>by obtain ⟨_,rfl⟩:=zj4 hl;rfl,m13,F14,F14.binds fun _ _ _ _ _ _ us hl=>by obtain ⟨_,rfl⟩:=zj4 hl;rfl,m14,F15,F15.binds fun _ _ _ _ _ _ us hl=>by obtain ⟨_,_,rfl⟩:=zeL hl;rfl,m15,F16,F16.binds fun _ _ _ _ _ _ us hl=>by obtain ⟨_,_,rfl⟩:=zeL hl;rfl,m16,F17,F17.binds fun _ _ _ _ _ _ us hl=>by obtain ⟨_,_,rfl⟩:=zeL hl;rfl,m17,F18,F18.binds fun _ _ _ _ _ _ us hl=>by obtain ⟨_,_,rfl⟩:=zeL hl;rfl,m18,F19,F19.binds fun _ _ _ _ _ _ us hl=>by obtain ⟨_,_,rfl⟩:=zeL hl;rfl,m19,F20,F20.binds fun _ _ _ _ _ _ us hl=>by obtain ⟨_,rfl⟩:=zj4 hl;rfl,m20,F21,F21.binds fun _ _ _ _ _ _ us hl=>by obtain ⟨_,rfl⟩:=zj4 hl;rfl,m21,F22,F22.binds fun _ _ _ _ _ _ us hl=>by obtain ⟨_,_,rfl⟩:=zeL hl;rfl,m22,F23,F23.binds fun _ _ _ _ _ _ us hl=>by obtain ⟨_,_,_,rfl⟩:=znj hl;rfl,m23,F24,F24.binds fun _ _ _ _ _ _ us hl=>by obtain ⟨_,_,rfl⟩:=zeL hl;rfl,m24,F25,F25.binds fun _ _ _ _ _ _ us hl=>by obtain ⟨_,_,_,rfl⟩:=znj hl;rfl,m25,F26,F26.binds fun _ _ _ _ _ _ us hl=>by obtain ⟨_,_,_,rfl⟩:=znj hl;rfl,m26,F27,F27.binds fun _ _ _ _ _ _ us hl=>by obtain ⟨_,_,rfl⟩:=zeL hl;rfl,m27,F28,F28.binds fun _ _ _ _ _ _ us hl=>by obtain ⟨_,rfl⟩:=zj4 hl;rfl,m28,F29,F29.binds fun _ _ _ _ _ _ us hl=>by obtain ⟨_,_,rfl⟩:=zeL hl;rfl,m29,F30,F30.binds fun _ _ _ _ _ _ us hl=>by obtain ⟨_,_,rfl⟩:=zeL hl;rfl,m30,F31,F31.binds fun _ _ _ _ _ _ us hl=>by obtain ⟨_,_,rfl⟩:=zeL hl;rfl,m31,F32,F32.binds fun _ _ _ _ _ _ us hl=>by obtain ⟨_,_,rfl⟩:=zeL hl;rfl,m32,F33,F33.binds fun _ _ _ _ _ _ us hl=>by obtain ⟨_,_,rfl⟩:=zeL hl;rfl,m33,F34,F34.binds fun _ _ _ _ _ _ us hl=>by obtain ⟨_,_,rfl⟩:=zeL hl;rfl,m34,F35,F35.binds fun _ _ _ _ _ _ us hl=>by obtain ⟨_,_,rfl⟩:=zeL hl;rfl,m35,F36,F36.binds fun _ _ _ _ _ _ us hl=>by obtain ⟨_,rfl⟩:=zj4 hl;rfl,m36,F37,F37.binds fun _ _ _ _ _ _ us hl=>by obtain ⟨_,_,rfl⟩:=zeL hl;rfl,m37,F38,F38.binds fun _ _ _ _ _ _ us hl=>by obtain ⟨_,_,rfl⟩:=zeL hl;rfl,m38,F39,F39.binds fun _ _ _ _ _ _ us hl=>by obtain ⟨_,_,rfl⟩:=zeL hl;rfl,m39,F40,F40.binds fun _ _ _ _ _ _ us hl=>by obtain ⟨_,_,rfl⟩:=zeL hl;rfl,m40,F41,F41.binds fun _ _ _ _ _ _ us hl=>by obtain ⟨_,_,rfl⟩:=zeL hl;rfl,m41,F42,F42.binds fun _ _ _ _ _ _ us hl=>by obtain ⟨_,_,rfl⟩:=zeL hl;rfl,m42,F43,F43.binds fun _ _ _ _ _ _ us hl=>by obtain ⟨_,_,_,rfl⟩:=znj hl;rfl,m43,F44,F44.binds fun _ _ _ _ _ _ us hl=>by obtain ⟨_,_,_,rfl⟩:=znj hl;rfl,m44,F45,F45.binds fun _ _ _ _ _ _ us hl=>by obtain ⟨_,_,_,rfl⟩:=znj hl;rfl,m45,F46,F46.binds fun _ _ _ _ _ _ us hl=>by obtain ⟨_,_,rfl⟩:=zeL hl;rfl,m46,F47,F47.binds fun _ _ _ _ _ _ us hl=>by obtain ⟨_,_,_,rfl⟩:=znj hl;rfl,m47,F48,F48.binds fun _ _ _ _ _ _ us hl=>by obtain ⟨_,rfl⟩:=zj4 hl;rfl,m48,z_set,z_isinstance,z_range,z_all,z_sorted,z_abs,z_sum,z_len,z_list,z_zip,z_int,z_bool,z_tuple,z_max,ac_NoNumber,ac_NoBoxes,ac_NoBudget,ak_MOST_BOXES,ak_MOST_COST,ak_MOST_OF,ak_MOST_BUDGET,xc_NoNumber,xc_NoBoxes,xc_NoBudget⟩
theorem zqe {K:PySem.W.Frag} {w:World} {mg:Str→Option Value} {h:Heap} {fa:Addr} {P:Program} (X:K.In h) (G:h.Ns mainGlobals mg) (hfa:mg "law"=some (.ref fa)) {a:Ad} (T:Txt K mg a) :
  ∃ fd:FuncData,(∀ (s:Shared) (u:Value),BindsTo s fd ⟨[u],[]⟩ [("_law_script",u)])∧∀ base:Heap,K.In base→base.Ns mainGlobals mg→zb0 P w K mg base CX0 8 fa fd ["_law_script"] (zlY K):=by
 have e:=hfa.symm.trans T.m_law
 cases e
 refine ⟨a.d_law,fun s v=>?_,fun base _ _=>zrg T⟩
 obtain ⟨oc,od,kV,doc,pm,an,cdv,ct,osl,e,lk,hcd⟩:=T.F_law.ex
 rw [e]
 exact .of_eq rfl
theorem walk {l:PySem.W.OpenLaw} {q:Program} {loose:List Str} {XP:(Str→Option Value)→Heap→Prop} {YP:World→Heap→Prop} {d:DefRec} {K:Params→PySem.W.Frag} (hn:l.most=some 63) (hdf:d.params.defaults=[])
  (hY:∀ (w:World) (h:Heap),YP w h→(K w.params).In h)
  (F:∀ (w:World) (mg:Str→Option Value) (fa:Addr) (h:Heap),(K w.params).In h→h.Ns mainGlobals mg→mg d.name=some (.ref fa) →
   ∃ fd:FuncData,(∀ (s:Shared) (u:Value),BindsTo s fd ⟨[u],[]⟩ [("_law_script",u)])∧∀ base:Heap,(K w.params).In base→base.Ns mainGlobals mg→zb0 l.prog w (K w.params) mg base CX0 8 fa fd ["_law_script"] (zlY (K w.params))) :
  PySem.W.WalkO q loose XP YP l.row.toRowW d [] (fun f vs=>PySem.call f vs) :=
 L2.zma (n:=63) (k:=8) (x:="_law_script") (CX:=fun _=>CX0) (sp:=fun w=>zlY (K w.params)) hn (by decide) hdf ⟨rfl,by decide,by decide⟩ hY F (fun _ _ a ns hb hl _ hS=>⟨a,ns,rfl,hS,hl,hb,fun _=>rfl⟩) fun _ _ _ _ _ z=>z
end My
open PySem PySem.W in
theorem My.walk_at {K:Params→Frag} {w:World} {h:Heap} {l:OpenLaw} {q:Program} {loose:List Str} {XP:(Str→Option Value)→Heap→Prop} {d:DefRec} {C:Prop} (_:(K w.params).In h)
  (use:WalkO q loose XP (fun w h=>(K w.params).In h) l.row.toRowW d [] (fun f vs=>PySem.call f vs)→C) (W:WalkO q loose XP (fun w h=>(K w.params).In h) l.row.toRowW d [] (fun f vs=>PySem.call f vs)):C:=use W
noncomputable section
namespace Hd
open PySem PySem.W.Fast
structure Q (α : Type) where
  a : α
  b : α
  c : α
  d : α
  e : α
  f : α
  g : α
  h : α
class X where
  s : Q (Q (Q Str))
  t : Q (Q (Q String))
  r : Q (Q (Q Obj))
  p : Program
  P : Params
def sp (p : Program) (n : Nat) : Stmt := (p.main.body.drop n).headD (.Pass ⟨0, 0, 0, 0⟩)
def st [x : X] (n : Nat) : Stmt := sp x.p n
def cb : Stmt → List Stmt
  | .ClassDef _ _ _ b .. => b
  | _ => []
def sm [x : X] (n k : Nat) : Stmt := ((cb (st n)).drop k).headD (.Pass ⟨0, 0, 0, 0⟩)
def fn (s : Stmt) (q : Str) (g : Addr) (c : List (Str × Addr)) (d k o m : Value) (a : Option Addr) (z t : Value) (b : Addr) : FuncData := match s with
  | .FunctionDef n p y _ _ _ u .. => ⟨n, q, p, .stmts y, u, g, c, d, k, o, m, a, z, t, b⟩
  | _ => default
abbrev z := W.BT.nil
def N (o : Obj) (l r : W.BT) : W.BT := .node o l r
def L (o : Obj) : W.BT := .node o .nil .nil
def e [x : X] (s : Str) (n : Nat) (v : Value) : DictEntry := ⟨PyData.keyHash x.P s, .str s n, v⟩
def vR (n : Nat) : Option Value := some (.ref n)
def vr (n : Nat) : Value := .ref n
def vO : Value := .int 0 0
def vI (n : Int) : Value := .int n 0
def vS (s : Str) (n : Tok) : Value := .str s n
def vY (s : String) : Value := .type s
def vB (s : String) : Value := .builtin s
section
variable [x : X]
def i0 := e x.s.a.a.d 165 (vS x.s.a.a.e 187)
def i1 := e x.s.a.a.f 166 .none
def i2 := e x.s.a.a.g 167 .none
def i3 := e x.s.a.a.h 168 (vB x.t.a.a.e)
def i4 := e x.s.a.b.a 169 .none
def i5 := e x.s.a.b.b 170 (vr 6)
def i6 := e x.s.a.b.c 171 (vr 4)
def i7 := e x.s.a.b.d 173 (vS x.s.a.a.b 172)
def i8 := e x.s.a.b.e 174 .none
def i9 := e x.s.a.b.f 206 (vr 24)
def i10 := e x.s.a.b.g 196 (vS x.s.a.a.e 187)
def i11 := e x.s.a.b.h 198 (vS x.s.a.b.f 197)
def i12 := e x.s.a.c.a 200 (.int 2 199)
def i13 := e x.s.a.c.b 201 (vr 22)
def i14 := e x.s.a.c.c 203 (vr 25)
def i15 := e x.s.a.a.f 204 .none
def i16 := e x.s.a.c.d 222 (vr 37)
def i17 := e x.s.a.b.g 214 (vS x.s.a.a.e 187)
def i18 := e x.s.a.b.h 216 (vS x.s.a.c.d 215)
def i19 := e x.s.a.c.a 218 (.int 4 217)
def i20 := e x.s.a.c.b 219 (vr 35)
def i21 := e x.s.a.a.f 220 .none
def i22 := e x.s.a.c.e 238 (vr 49)
def i23 := e x.s.a.b.g 230 (vS x.s.a.a.e 187)
def i24 := e x.s.a.b.h 232 (vS x.s.a.c.e 231)
def i25 := e x.s.a.c.a 234 (.int 6 233)
def i26 := e x.s.a.c.b 235 (vr 47)
def i27 := e x.s.a.a.f 236 .none
def i28 := e x.s.a.a.d 165 (vS x.s.a.c.f 255)
def i29 := e x.s.a.c.g 254 (vr 61)
def i30 := e x.s.a.c.h 265 (vr 70)
def i31 := e x.s.a.d.a 274 (vr 77)
def i32 := e x.s.a.d.b 282 (vr 84)
def i33 := e x.s.a.d.c 290 (vr 91)
def i34 := e x.s.a.d.d 298 (vr 98)
def i35 := e x.s.a.b.g 246 (vS x.s.a.a.e 187)
def i36 := e x.s.a.b.h 248 (vS x.s.a.c.g 247)
def i37 := e x.s.a.c.a 250 (.int 8 249)
def i38 := e x.s.a.c.b 251 (vr 59)
def i39 := e x.s.a.a.f 252 .none
def i40 := e x.s.a.a.d 165 (vS x.s.a.e.c 354)
def i41 := e x.s.a.e.d 306 (vr 105)
def i42 := e x.s.a.e.e 314 (vr 112)
def i43 := e x.s.a.e.f 320 (vr 117)
def i44 := e x.s.a.e.g 329 (vr 124)
def i45 := e x.s.a.e.h 335 (vr 129)
def i46 := e x.s.a.f.a 344 (vr 136)
def i47 := e x.s.a.f.b 353 (vr 143)
def i48 := e x.s.a.f.c 357 (.int 6 356)
def i49 := e x.s.a.f.d 359 (.int 60 358)
def i50 := e x.s.a.f.e 361 (.int 50 360)
def i51 := e x.s.a.f.f 363 (.int 60 362)
def i52 := e x.s.a.f.g 373 (vr 150)
def i53 := e x.s.a.f.h 379 (vr 155)
def i54 := e x.s.a.g.a 386 (vr 162)
def i55 := e x.s.a.g.b 396 (vr 169)
def i56 := e x.s.b.a.a 404 (vr 176)
def i57 := e x.s.b.a.b 414 (vr 183)
def i58 := e x.s.b.a.c 424 (vr 190)
def i59 := e x.s.b.a.d 430 (vr 195)
def i60 := e x.s.b.a.e 439 (vr 202)
def i61 := e x.s.b.a.f 448 (vr 209)
def i62 := e x.s.b.a.g 454 (vr 214)
def i63 := e x.s.b.a.h 460 (vr 219)
def i64 := e x.s.b.b.a 466 (vr 224)
def i65 := e x.s.b.b.b 472 (vr 229)
def i66 := e x.s.b.b.c 478 (vr 234)
def i67 := e x.s.b.b.d 484 (vr 239)
def i68 := e x.s.b.b.e 490 (vr 244)
def i69 := e x.s.b.b.f 496 (vr 249)
def i70 := e x.s.a.a.d 165 (vS x.s.b.c.d 507)
def i71 := e x.s.b.c.e 506 (vr 256)
def i72 := e x.s.b.c.f 517 (vr 263)
def i73 := e x.s.b.c.g 525 (vr 270)
def i74 := e x.s.b.c.h 534 (vr 277)
def i75 := e x.s.b.d.a 544 (vr 284)
def i76 := e x.s.b.d.b 556 (vr 291)
def i77 := e x.s.b.d.c 563 (vr 298)
def i78 := e x.s.b.d.d 572 (vr 305)
def i79 := e x.s.b.d.e 582 (vr 312)
def i80 := e x.s.b.d.f 593 (vr 319)
def i81 := e x.s.b.d.g 601 (vr 326)
def i82 := e x.s.b.d.h 609 (vr 333)
def i83 := e x.s.b.g.h 615 (vr 338)
def i84 := e x.s.b.h.a 621 (vr 343)
def i85 := e x.s.b.h.b 627 (vr 348)
def i86 := e x.s.b.h.c 633 (vr 353)
def i87 := e x.s.b.h.d 639 (vr 358)
def i88 := e x.s.b.h.e 653 (vr 365)
def i89 := e x.s.b.h.f 659 (vr 370)
def i90 := e x.s.b.h.g 665 (vr 375)
def i91 := e x.s.b.h.h 676 (vr 382)
def i92 := e x.s.c.a.a 689 (vr 389)
def i93 := e x.s.c.a.b 711 (vr 396)
def zai : Obj := ⟨(vY x.t.a.a.a), none, (.seq #[] 0), #[]⟩
def zaw : Obj := ⟨.none, none, (.fields #[]), #[]⟩
def zkR : Obj := ⟨(vY x.t.a.a.b), none, (.fields #[(vS x.s.a.a.a 182), (vS x.s.a.a.a 183), (vS x.s.a.a.b 184), (vI 1), vO, vO, vO, vO, (vr 11), (.bool false), (vI 181), (vr 12), .none, .none, .none, .none, (vI 185), (vI 1), (vS x.s.a.a.b 186)]), #[]⟩
def zlt : Obj := ⟨(vY x.t.a.a.c), none, .plain, #[(vR 13), (vR 3), (vR 3), none, (some (vS x.s.a.a.c 164)), none, (vR 0)]⟩
def b762 : Obj := ⟨(vY x.t.a.a.d), none, (.dict #[i0, i1, i2, i3, i4, i5, i6, i7, i8, i9] 10), #[]⟩
def b763 : Obj := ⟨.none, none, (.fields #[(vI 2), vO, (vr 20)]), #[]⟩
def zmH : Obj := ⟨(vY x.t.a.a.a), none, (.seq #[(vY x.t.a.a.f)] 0), #[]⟩
def zey : Obj := ⟨(vY x.t.a.a.g), none, (.fields #[(vB x.t.a.a.h), (vY x.t.a.b.a)]), #[]⟩
def zmk : Obj := ⟨(vY x.t.a.a.d), none, (.dict #[i10, i11, i12, i13] 4), #[]⟩
def zlK : Obj := ⟨(vY x.t.a.a.b), none, (.fields #[(vS x.s.a.b.f 191), (vS x.s.a.b.f 192), (vS x.s.a.a.b 193), (vI 2), vO, vO, vO, vO, (vr 18), (.bool false), (vI 181), (vr 19), .none, .none, .none, .none, (vI 194), (vI 2), (vS x.s.a.a.b 195)]), #[]⟩
def zmc : Obj := ⟨(vY x.t.a.a.c), none, .plain, #[(vR 20), (vR 3), (vR 17), none, (some (vS x.s.a.a.e 187)), none, (vR 0)]⟩
def zlP : Obj := ⟨(vY x.t.a.a.d), none, (.dict #[i10, i12, i13, i14, i15] 3), #[]⟩
def b773 : Obj := ⟨(vY x.t.a.b.a), none, (.cls ⟨x.s.a.b.f, [(vY x.t.a.a.f)], [(vr 24), (vY x.t.a.a.f), (vY x.t.a.b.b), (vY x.t.a.b.c), (vY x.t.a.b.d)], 23, x.s.a.b.f, true, [], [], false, none, false⟩), #[(vR 15), none, (some (vS x.s.a.b.f 189)), (some (vS x.s.a.b.f 197)), (some (vB x.t.a.b.e)), (some (.bool true))]⟩
def zm0 : Obj := ⟨(vY x.t.a.b.f), none, (.fields #[(vS x.s.a.c.c 202), (vr 24), (vB x.t.a.b.g), .none]), #[]⟩
def zl9 : Obj := ⟨(vY x.t.a.b.h), none, (.fields #[(vr 24), (vr 24), (vr 24)]), #[]⟩
def zlU : Obj := ⟨(vY x.t.a.a.g), none, (.fields #[(vB x.t.a.c.a), (vr 24)]), #[]⟩
def b777 : Obj := ⟨(vY x.t.a.a.d), none, (.dict #[i0, i1, i2, i3, i4, i5, i6, i7, i8, i9, i16] 11), #[]⟩
def b778 : Obj := ⟨.none, none, (.fields #[(vI 2), vO, (vr 20), (vI 4), vO, (vr 33)]), #[]⟩
def b779 : Obj := ⟨(vY x.t.a.b.a), none, (.cls ⟨x.s.a.b.f, [(vY x.t.a.a.f)], [(vr 24), (vY x.t.a.a.f), (vY x.t.a.b.b), (vY x.t.a.b.c), (vY x.t.a.b.d)], 23, x.s.a.b.f, true, [], [(vr 37)], false, none, false⟩), #[(vR 15), none, (some (vS x.s.a.b.f 189)), (some (vS x.s.a.b.f 197)), (some (vB x.t.a.b.e)), (some (.bool true))]⟩
def zga : Obj := ⟨(vY x.t.a.a.a), none, (.seq #[(vr 24)] 0), #[]⟩
def zm8 : Obj := ⟨(vY x.t.a.a.d), none, (.dict #[i17, i18, i19, i20] 4), #[]⟩
def znp : Obj := ⟨(vY x.t.a.a.b), none, (.fields #[(vS x.s.a.c.d 209), (vS x.s.a.c.d 210), (vS x.s.a.a.b 211), (vI 4), vO, vO, vO, vO, (vr 31), (.bool false), (vI 181), (vr 32), .none, .none, .none, .none, (vI 212), (vI 4), (vS x.s.a.a.b 213)]), #[]⟩
def znl : Obj := ⟨(vY x.t.a.a.c), none, .plain, #[(vR 33), (vR 3), (vR 30), none, (some (vS x.s.a.a.e 187)), none, (vR 0)]⟩
def znb : Obj := ⟨(vY x.t.a.a.d), none, (.dict #[i17, i19, i20, i21] 2), #[]⟩
def zno : Obj := ⟨(vY x.t.a.b.a), none, (.cls ⟨x.s.a.c.d, [(vr 24)], [(vr 37), (vr 24), (vY x.t.a.a.f), (vY x.t.a.b.b), (vY x.t.a.b.c), (vY x.t.a.b.d)], 36, x.s.a.c.d, true, [], [], false, none, false⟩), #[(vR 28), none, (some (vS x.s.a.c.d 207)), (some (vS x.s.a.c.d 215)), (some (vB x.t.a.b.e)), (some (.bool true))]⟩
def znh : Obj := ⟨(vY x.t.a.b.h), none, (.fields #[(vr 37), (vr 37), (vr 37)]), #[]⟩
def zm9 : Obj := ⟨(vY x.t.a.a.g), none, (.fields #[(vB x.t.a.c.a), (vr 37)]), #[]⟩
def b792 : Obj := ⟨(vY x.t.a.a.d), none, (.dict #[i0, i1, i2, i3, i4, i5, i6, i7, i8, i9, i16, i22] 12), #[]⟩
def b793 : Obj := ⟨.none, none, (.fields #[(vI 2), vO, (vr 20), (vI 4), vO, (vr 33), (vI 6), vO, (vr 45)]), #[]⟩
def b794 : Obj := ⟨(vY x.t.a.b.a), none, (.cls ⟨x.s.a.b.f, [(vY x.t.a.a.f)], [(vr 24), (vY x.t.a.a.f), (vY x.t.a.b.b), (vY x.t.a.b.c), (vY x.t.a.b.d)], 23, x.s.a.b.f, true, [], [(vr 37), (vr 49)], false, none, false⟩), #[(vR 15), none, (some (vS x.s.a.b.f 189)), (some (vS x.s.a.b.f 197)), (some (vB x.t.a.b.e)), (some (.bool true))]⟩
def zoy : Obj := ⟨(vY x.t.a.a.d), none, (.dict #[i23, i24, i25, i26] 4), #[]⟩
def znC : Obj := ⟨(vY x.t.a.a.b), none, (.fields #[(vS x.s.a.c.e 225), (vS x.s.a.c.e 226), (vS x.s.a.a.b 227), (vI 6), vO, vO, vO, vO, (vr 43), (.bool false), (vI 181), (vr 44), .none, .none, .none, .none, (vI 228), (vI 6), (vS x.s.a.a.b 229)]), #[]⟩
def zom : Obj := ⟨(vY x.t.a.a.c), none, .plain, #[(vR 45), (vR 3), (vR 42), none, (some (vS x.s.a.a.e 187)), none, (vR 0)]⟩
def zpe : Obj := ⟨(vY x.t.a.a.d), none, (.dict #[i23, i25, i26, i27] 2), #[]⟩
def znQ : Obj := ⟨(vY x.t.a.b.a), none, (.cls ⟨x.s.a.c.e, [(vr 24)], [(vr 49), (vr 24), (vY x.t.a.a.f), (vY x.t.a.b.b), (vY x.t.a.b.c), (vY x.t.a.b.d)], 48, x.s.a.c.e, true, [], [], false, none, false⟩), #[(vR 40), none, (some (vS x.s.a.c.e 223)), (some (vS x.s.a.c.e 231)), (some (vB x.t.a.b.e)), (some (.bool true))]⟩
def zph : Obj := ⟨(vY x.t.a.b.h), none, (.fields #[(vr 49), (vr 49), (vr 49)]), #[]⟩
def zoh : Obj := ⟨(vY x.t.a.a.g), none, (.fields #[(vB x.t.a.c.a), (vr 49)]), #[]⟩
def b807 : Obj := ⟨(vY x.t.a.a.d), none, (.dict #[i28, i1, i2, i3, i4, i5, i6, i7, i8, i9, i16, i22, i29, i30, i31, i32, i33, i34] 18), #[]⟩
def b808 : Obj := ⟨.none, none, (.fields #[(vI 2), vO, (vr 20), (vI 4), vO, (vr 33), (vI 6), vO, (vr 45), (vI 8), vO, (vr 57), (vI 11), vO, (vr 69), (vI 19), vO, (vr 76), (vI 26), vO, (vr 83), (vI 28), vO, (vr 90), (vI 30), vO, (vr 97)]), #[]⟩
def zpH : Obj := ⟨(vY x.t.a.b.a), none, (.cls ⟨x.s.a.b.f, [(vY x.t.a.a.f)], [(vr 24), (vY x.t.a.a.f), (vY x.t.a.b.b), (vY x.t.a.b.c), (vY x.t.a.b.d)], 23, x.s.a.b.f, true, [], [(vr 37), (vr 49), (vr 61)], false, none, false⟩), #[(vR 15), none, (some (vS x.s.a.b.f 189)), (some (vS x.s.a.b.f 197)), (some (vB x.t.a.b.e)), (some (.bool true))]⟩
def zpN : Obj := ⟨(vY x.t.a.a.d), none, (.dict #[i35, i36, i37, i38] 4), #[]⟩
def zpG : Obj := ⟨(vY x.t.a.a.b), none, (.fields #[(vS x.s.a.c.g 241), (vS x.s.a.c.g 242), (vS x.s.a.a.b 243), (vI 8), vO, vO, vO, vO, (vr 55), (.bool false), (vI 181), (vr 56), .none, .none, .none, .none, (vI 244), (vI 8), (vS x.s.a.a.b 245)]), #[]⟩
def zpw : Obj := ⟨(vY x.t.a.a.c), none, .plain, #[(vR 57), (vR 3), (vR 54), none, (some (vS x.s.a.a.e 187)), none, (vR 0)]⟩
def zpv : Obj := ⟨(vY x.t.a.a.d), none, (.dict #[i35, i37, i38, i39] 2), #[]⟩
def zpr : Obj := ⟨(vY x.t.a.b.a), none, (.cls ⟨x.s.a.c.g, [(vr 24)], [(vr 61), (vr 24), (vY x.t.a.a.f), (vY x.t.a.b.b), (vY x.t.a.b.c), (vY x.t.a.b.d)], 60, x.s.a.c.g, true, [], [], false, none, false⟩), #[(vR 52), none, (some (vS x.s.a.c.g 239)), (some (vS x.s.a.c.g 247)), (some (vB x.t.a.b.e)), (some (.bool true))]⟩
def zpl : Obj := ⟨(vY x.t.a.b.h), none, (.fields #[(vr 61), (vr 61), (vr 61)]), #[]⟩
def zpK : Obj := ⟨(vY x.t.a.a.g), none, (.fields #[(vB x.t.a.c.a), (vr 61)]), #[]⟩
def zpq : Obj := ⟨(vY x.t.a.a.a), none, (.seq #[(vS x.s.a.d.e 260), (vS x.s.a.d.f 261), (vS x.s.a.d.g 262)] 0), #[]⟩
def zpL : Obj := ⟨.none, none, (.func (fn (st 6) x.s.a.c.h 0 [] .none .none .none .none none .none .none 0)), #[]⟩
def zpR : Obj := ⟨(vY x.t.a.a.b), none, (.fields #[(vS x.s.a.c.h 257), (vS x.s.a.c.h 258), (vS x.s.a.a.b 259), (vI 11), (vI 2), vO, vO, (vI 3), (vr 64), (.bool true), (vI 181), (vr 65), .none, (vr 66), (vr 67), (vr 68), (vI 263), (vI 11), (vS x.s.a.a.b 264)]), #[]⟩
def zpn : Obj := ⟨(vY x.t.a.c.b), none, (.func (fn (st 6) x.s.a.c.h 3 [] .none .none .none (vS x.s.a.c.f 255) none (vr 69) .none 0)), #[]⟩
def zpO : Obj := ⟨(vY x.t.a.a.a), none, (.seq #[(vS x.s.a.d.h 269), (vS x.s.a.e.a 270), (vS x.s.a.e.b 271)] 0), #[]⟩
def zpk : Obj := ⟨.none, none, (.func (fn (st 7) x.s.a.d.a 0 [] .none .none .none .none none .none .none 0)), #[]⟩
def zpB : Obj := ⟨(vY x.t.a.a.b), none, (.fields #[(vS x.s.a.d.a 266), (vS x.s.a.d.a 267), (vS x.s.a.a.b 268), (vI 19), (vI 2), vO, vO, (vI 3), (vr 71), (.bool true), (vI 181), (vr 72), .none, (vr 73), (vr 74), (vr 75), (vI 272), (vI 19), (vS x.s.a.a.b 273)]), #[]⟩
def zpx : Obj := ⟨(vY x.t.a.c.b), none, (.func (fn (st 7) x.s.a.d.a 3 [] .none .none .none (vS x.s.a.c.f 255) none (vr 76) .none 0)), #[]⟩
def zpt : Obj := ⟨(vY x.t.a.a.a), none, (.seq #[(vS x.s.a.d.e 278), (vS x.s.a.d.f 279)] 0), #[]⟩
def zpE : Obj := ⟨.none, none, (.func (fn (st 8) x.s.a.d.b 0 [] .none .none .none .none none .none .none 0)), #[]⟩
def zpM : Obj := ⟨(vY x.t.a.a.b), none, (.fields #[(vS x.s.a.d.b 275), (vS x.s.a.d.b 276), (vS x.s.a.a.b 277), (vI 26), (vI 2), vO, vO, (vI 3), (vr 78), (.bool true), (vI 181), (vr 79), .none, (vr 80), (vr 81), (vr 82), (vI 280), (vI 26), (vS x.s.a.a.b 281)]), #[]⟩
def zpA : Obj := ⟨(vY x.t.a.c.b), none, (.func (fn (st 8) x.s.a.d.b 3 [] .none .none .none (vS x.s.a.c.f 255) none (vr 83) .none 0)), #[]⟩
def zpF : Obj := ⟨(vY x.t.a.a.a), none, (.seq #[(vS x.s.a.d.e 286), (vS x.s.a.d.f 287)] 0), #[]⟩
def zpy : Obj := ⟨.none, none, (.func (fn (st 9) x.s.a.d.c 0 [] .none .none .none .none none .none .none 0)), #[]⟩
def zps : Obj := ⟨(vY x.t.a.a.b), none, (.fields #[(vS x.s.a.d.c 283), (vS x.s.a.d.c 284), (vS x.s.a.a.b 285), (vI 28), (vI 2), vO, vO, (vI 3), (vr 85), (.bool true), (vI 181), (vr 86), .none, (vr 87), (vr 88), (vr 89), (vI 288), (vI 28), (vS x.s.a.a.b 289)]), #[]⟩
def zpm : Obj := ⟨(vY x.t.a.c.b), none, (.func (fn (st 9) x.s.a.d.c 3 [] .none .none .none (vS x.s.a.c.f 255) none (vr 90) .none 0)), #[]⟩
def zpo : Obj := ⟨(vY x.t.a.a.a), none, (.seq #[(vS x.s.a.d.e 294), (vS x.s.a.d.f 295)] 0), #[]⟩
def zpQ : Obj := ⟨.none, none, (.func (fn (st 10) x.s.a.d.d 0 [] .none .none .none .none none .none .none 0)), #[]⟩
def zpP : Obj := ⟨(vY x.t.a.a.b), none, (.fields #[(vS x.s.a.d.d 291), (vS x.s.a.d.d 292), (vS x.s.a.a.b 293), (vI 30), (vI 2), vO, vO, (vI 3), (vr 92), (.bool true), (vI 181), (vr 93), .none, (vr 94), (vr 95), (vr 96), (vI 296), (vI 30), (vS x.s.a.a.b 297)]), #[]⟩
def zpC : Obj := ⟨(vY x.t.a.c.b), none, (.func (fn (st 10) x.s.a.d.d 3 [] .none .none .none (vS x.s.a.c.f 255) none (vr 97) .none 0)), #[]⟩
def b857 : Obj := ⟨(vY x.t.a.a.d), none, (.dict #[i40, i1, i2, i3, i4, i5, i6, i7, i8, i9, i16, i22, i29, i30, i31, i32, i33, i34, i41, i42, i43, i44, i45, i46, i47, i48, i49, i50, i51, i52, i53, i54, i55] 33), #[]⟩
def b858 : Obj := ⟨.none, none, (.fields #[(vI 2), vO, (vr 20), (vI 4), vO, (vr 33), (vI 6), vO, (vr 45), (vI 8), vO, (vr 57), (vI 11), vO, (vr 69), (vI 19), vO, (vr 76), (vI 26), vO, (vr 83), (vI 28), vO, (vr 90), (vI 30), vO, (vr 97), (vI 32), vO, (vr 104), (vI 34), vO, (vr 111), (vI 36), vO, (vr 116), (vI 41), vO, (vr 123), (vI 46), vO, (vr 128), (vI 50), vO, (vr 135), (vI 52), vO, (vr 142), (vI 59), vO, (vr 149), (vI 64), vO, (vr 154), (vI 67), vO, (vr 161), (vI 70), vO, (vr 168)]), #[]⟩
def zqy : Obj := ⟨(vY x.t.a.a.a), none, (.seq #[(vS x.s.a.d.e 302), (vS x.s.a.d.f 303)] 0), #[]⟩
def zqL : Obj := ⟨.none, none, (.func (fn (st 11) x.s.a.e.d 0 [] .none .none .none .none none .none .none 0)), #[]⟩
def zqk : Obj := ⟨(vY x.t.a.a.b), none, (.fields #[(vS x.s.a.e.d 299), (vS x.s.a.e.d 300), (vS x.s.a.a.b 301), (vI 32), (vI 2), vO, vO, (vI 3), (vr 99), (.bool true), (vI 181), (vr 100), .none, (vr 101), (vr 102), (vr 103), (vI 304), (vI 32), (vS x.s.a.a.b 305)]), #[]⟩
def zqU : Obj := ⟨(vY x.t.a.c.b), none, (.func (fn (st 11) x.s.a.e.d 3 [] .none .none .none (vS x.s.a.c.f 255) none (vr 104) .none 0)), #[]⟩
def zq8 : Obj := ⟨(vY x.t.a.a.a), none, (.seq #[(vS x.s.a.d.e 310), (vS x.s.a.d.f 311)] 0), #[]⟩
def zrq : Obj := ⟨.none, none, (.func (fn (st 12) x.s.a.e.e 0 [] .none .none .none .none none .none .none 0)), #[]⟩
def zrt : Obj := ⟨(vY x.t.a.a.b), none, (.fields #[(vS x.s.a.e.e 307), (vS x.s.a.e.e 308), (vS x.s.a.a.b 309), (vI 34), (vI 2), vO, vO, (vI 3), (vr 106), (.bool true), (vI 181), (vr 107), .none, (vr 108), (vr 109), (vr 110), (vI 312), (vI 34), (vS x.s.a.a.b 313)]), #[]⟩
def zpT : Obj := ⟨(vY x.t.a.c.b), none, (.func (fn (st 12) x.s.a.e.e 3 [] .none .none .none (vS x.s.a.c.f 255) none (vr 111) .none 0)), #[]⟩
def zrv : Obj := ⟨.none, none, (.func (fn (st 13) x.s.a.e.f 0 [] .none .none .none .none none .none .none 0)), #[]⟩
def zrc : Obj := ⟨(vY x.t.a.a.b), none, (.fields #[(vS x.s.a.e.f 315), (vS x.s.a.e.f 316), (vS x.s.a.a.b 317), (vI 36), (vI 1), vO, vO, (vI 3), (vr 113), (.bool true), (vI 181), (vr 114), .none, .none, .none, (vr 115), (vI 318), (vI 36), (vS x.s.a.a.b 319)]), #[]⟩
def zrC : Obj := ⟨(vY x.t.a.c.b), none, (.func (fn (st 13) x.s.a.e.f 3 [] .none .none .none (vS x.s.a.c.f 255) none (vr 116) .none 0)), #[]⟩
def zrl : Obj := ⟨(vY x.t.a.a.a), none, (.seq #[(vS x.s.a.g.c 324), (vS x.s.a.e.b 325), (vS x.s.a.g.d 326)] 0), #[]⟩
def zqQ : Obj := ⟨.none, none, (.func (fn (st 14) x.s.a.e.g 0 [] .none .none .none .none none .none .none 0)), #[]⟩
def zrx : Obj := ⟨(vY x.t.a.a.b), none, (.fields #[(vS x.s.a.e.g 321), (vS x.s.a.e.g 322), (vS x.s.a.a.b 323), (vI 41), (vI 1), vO, vO, (vI 3), (vr 118), (.bool true), (vI 181), (vr 119), .none, (vr 120), (vr 121), (vr 122), (vI 327), (vI 41), (vS x.s.a.a.b 328)]), #[]⟩
def zpX : Obj := ⟨(vY x.t.a.c.b), none, (.func (fn (st 14) x.s.a.e.g 3 [] .none .none .none (vS x.s.a.c.f 255) none (vr 123) .none 0)), #[]⟩
def zq9 : Obj := ⟨.none, none, (.func (fn (st 15) x.s.a.e.h 0 [] .none .none .none .none none .none .none 0)), #[]⟩
def zrn : Obj := ⟨(vY x.t.a.a.b), none, (.fields #[(vS x.s.a.e.h 330), (vS x.s.a.e.h 331), (vS x.s.a.a.b 332), (vI 46), (vI 1), vO, vO, (vI 3), (vr 125), (.bool true), (vI 181), (vr 126), .none, .none, .none, (vr 127), (vI 333), (vI 46), (vS x.s.a.a.b 334)]), #[]⟩
def zpZ : Obj := ⟨(vY x.t.a.c.b), none, (.func (fn (st 15) x.s.a.e.h 3 [] .none .none .none (vS x.s.a.c.f 255) none (vr 128) .none 0)), #[]⟩
def zqI : Obj := ⟨(vY x.t.a.a.a), none, (.seq #[(vS x.s.a.g.e 341)] 0), #[]⟩
def zrF : Obj := ⟨.none, none, (.func (fn (st 17) x.s.a.f.a 0 [] .none .none .none .none none .none .none 0)), #[]⟩
def zry : Obj := ⟨(vY x.t.a.a.b), none, (.fields #[(vS x.s.a.f.a 338), (vS x.s.a.f.a 339), (vS x.s.a.a.b 340), (vI 50), (vI 1), vO, vO, (vI 3), (vr 130), (.bool true), (vI 181), (vr 131), .none, (vr 132), (vr 133), (vr 134), (vI 342), (vI 50), (vS x.s.a.a.b 343)]), #[]⟩
def zrs : Obj := ⟨(vY x.t.a.c.b), none, (.func (fn (st 17) x.s.a.f.a 3 [] .none .none .none (vS x.s.a.g.f 336) none (vr 135) .none 0)), #[]⟩
def zrp : Obj := ⟨(vY x.t.a.a.a), none, (.seq #[(vS x.s.a.g.e 348), (vS x.s.a.g.g 349), (vS x.s.a.g.h 350)] 0), #[]⟩
def zq1 : Obj := ⟨.none, none, (.func (fn (st 18) x.s.a.f.b 0 [] .none .none .none .none none .none .none 0)), #[]⟩
def zq3 : Obj := ⟨(vY x.t.a.a.b), none, (.fields #[(vS x.s.a.f.b 345), (vS x.s.a.f.b 346), (vS x.s.a.a.b 347), (vI 52), (vI 3), vO, vO, (vI 3), (vr 137), (.bool true), (vI 181), (vr 138), .none, (vr 139), (vr 140), (vr 141), (vI 351), (vI 52), (vS x.s.a.a.b 352)]), #[]⟩
def zrK : Obj := ⟨(vY x.t.a.c.b), none, (.func (fn (st 18) x.s.a.f.b 3 [] .none .none .none (vS x.s.a.g.f 336) none (vr 142) .none 0)), #[]⟩
def zqf : Obj := ⟨(vY x.t.a.a.a), none, (.seq #[(vS x.s.a.g.e 367), (vS x.s.a.h.a 368), (vS x.s.a.h.b 369), (vS x.s.a.h.c 370)] 0), #[]⟩
def zpS : Obj := ⟨.none, none, (.func (fn (st 24) x.s.a.f.g 0 [] .none .none .none .none none .none .none 0)), #[]⟩
def zqA : Obj := ⟨(vY x.t.a.a.b), none, (.fields #[(vS x.s.a.f.g 364), (vS x.s.a.f.g 365), (vS x.s.a.a.b 366), (vI 59), (vI 1), vO, vO, (vI 3), (vr 144), (.bool true), (vI 181), (vr 145), .none, (vr 146), (vr 147), (vr 148), (vI 371), (vI 59), (vS x.s.a.a.b 372)]), #[]⟩
def zqn : Obj := ⟨(vY x.t.a.c.b), none, (.func (fn (st 24) x.s.a.f.g 3 [] .none .none .none (vS x.s.a.e.c 354) none (vr 149) .none 0)), #[]⟩
def zrT : Obj := ⟨.none, none, (.func (fn (st 25) x.s.a.f.h 0 [] .none .none .none .none none .none .none 0)), #[]⟩
def zqW : Obj := ⟨(vY x.t.a.a.b), none, (.fields #[(vS x.s.a.f.h 374), (vS x.s.a.f.h 375), (vS x.s.a.a.b 376), (vI 64), (vI 1), vO, vO, (vI 3), (vr 151), (.bool true), (vI 181), (vr 152), .none, .none, .none, (vr 153), (vI 377), (vI 64), (vS x.s.a.a.b 378)]), #[]⟩
def zrU : Obj := ⟨(vY x.t.a.c.b), none, (.func (fn (st 25) x.s.a.f.h 3 [] .none .none .none (vS x.s.a.e.c 354) none (vr 154) .none 0)), #[]⟩
def zrd : Obj := ⟨(vY x.t.a.a.a), none, (.seq #[(vS x.s.a.h.d 383)] 0), #[]⟩
def zrb : Obj := ⟨.none, none, (.func (fn (st 26) x.s.a.g.a 0 [] .none .none .none .none none .none .none 0)), #[]⟩
def zp1 : Obj := ⟨(vY x.t.a.a.b), none, (.fields #[(vS x.s.a.g.a 380), (vS x.s.a.g.a 381), (vS x.s.a.a.b 382), (vI 67), (vI 1), vO, vO, (vI 3), (vr 156), (.bool true), (vI 181), (vr 157), .none, (vr 158), (vr 159), (vr 160), (vI 384), (vI 67), (vS x.s.a.a.b 385)]), #[]⟩
def zq6 : Obj := ⟨(vY x.t.a.c.b), none, (.func (fn (st 26) x.s.a.g.a 3 [] .none .none .none (vS x.s.a.e.c 354) none (vr 161) .none 0)), #[]⟩
def zqt : Obj := ⟨(vY x.t.a.a.a), none, (.seq #[(vS x.s.a.h.e 390), (vS x.s.a.h.f 391), (vS x.s.a.h.g 392), (vS x.s.a.h.h 393)] 0), #[]⟩
def zrh : Obj := ⟨.none, none, (.func (fn (st 27) x.s.a.g.b 0 [] .none .none .none .none none .none .none 0)), #[]⟩
def zrB : Obj := ⟨(vY x.t.a.a.b), none, (.fields #[(vS x.s.a.g.b 387), (vS x.s.a.g.b 388), (vS x.s.a.a.b 389), (vI 70), (vI 2), vO, vO, (vI 3), (vr 163), (.bool true), (vI 181), (vr 164), .none, (vr 165), (vr 166), (vr 167), (vI 394), (vI 70), (vS x.s.a.a.b 395)]), #[]⟩
def zp6 : Obj := ⟨(vY x.t.a.c.b), none, (.func (fn (st 27) x.s.a.g.b 3 [] .none .none .none (vS x.s.a.e.c 354) none (vr 168) .none 0)), #[]⟩
def b930 : Obj := ⟨(vY x.t.a.a.d), none, (.dict #[i40, i1, i2, i3, i4, i5, i6, i7, i8, i9, i16, i22, i29, i30, i31, i32, i33, i34, i41, i42, i43, i44, i45, i46, i47, i48, i49, i50, i51, i52, i53, i54, i55, i56, i57, i58, i59, i60, i61, i62, i63, i64, i65, i66, i67, i68, i69] 47), #[]⟩
def b931 : Obj := ⟨.none, none, (.fields #[(vI 2), vO, (vr 20), (vI 4), vO, (vr 33), (vI 6), vO, (vr 45), (vI 8), vO, (vr 57), (vI 11), vO, (vr 69), (vI 19), vO, (vr 76), (vI 26), vO, (vr 83), (vI 28), vO, (vr 90), (vI 30), vO, (vr 97), (vI 32), vO, (vr 104), (vI 34), vO, (vr 111), (vI 36), vO, (vr 116), (vI 41), vO, (vr 123), (vI 46), vO, (vr 128), (vI 50), vO, (vr 135), (vI 52), vO, (vr 142), (vI 59), vO, (vr 149), (vI 64), vO, (vr 154), (vI 67), vO, (vr 161), (vI 70), vO, (vr 168), (vI 75), vO, (vr 175), (vI 77), vO, (vr 182), (vI 80), vO, (vr 189), (vI 83), vO, (vr 194), (vI 85), vO, (vr 201), (vI 90), vO, (vr 208), (vI 96), vO, (vr 213), (vI 98), vO, (vr 218), (vI 104), vO, (vr 223), (vI 113), vO, (vr 228), (vI 115), vO, (vr 233), (vI 128), vO, (vr 238), (vI 132), vO, (vr 243), (vI 135), vO, (vr 248)]), #[]⟩
def b934 : Obj := ⟨(vY x.t.a.a.a), none, (.seq #[(vS x.s.b.b.g 400), (vS x.s.a.h.f 401)] 0), #[]⟩
def b936 : Obj := ⟨.none, none, (.func (fn (st 28) x.s.b.a.a 0 [] .none .none .none .none none .none .none 0)), #[]⟩
def b937 : Obj := ⟨(vY x.t.a.a.b), none, (.fields #[(vS x.s.b.a.a 397), (vS x.s.b.a.a 398), (vS x.s.a.a.b 399), (vI 75), (vI 2), vO, vO, (vI 3), (vr 170), (.bool true), (vI 181), (vr 171), .none, (vr 172), (vr 173), (vr 174), (vI 402), (vI 75), (vS x.s.a.a.b 403)]), #[]⟩
def b938 : Obj := ⟨(vY x.t.a.c.b), none, (.func (fn (st 28) x.s.b.a.a 3 [] .none .none .none (vS x.s.a.e.c 354) none (vr 175) .none 0)), #[]⟩
def b941 : Obj := ⟨(vY x.t.a.a.a), none, (.seq #[(vS x.s.b.b.g 408), (vS x.s.a.h.f 409), (vS x.s.a.d.h 410), (vS x.s.a.e.a 411)] 0), #[]⟩
def b943 : Obj := ⟨.none, none, (.func (fn (st 29) x.s.b.a.b 0 [] .none .none .none .none none .none .none 0)), #[]⟩
def b944 : Obj := ⟨(vY x.t.a.a.b), none, (.fields #[(vS x.s.b.a.b 405), (vS x.s.b.a.b 406), (vS x.s.a.a.b 407), (vI 77), (vI 2), vO, vO, (vI 3), (vr 177), (.bool true), (vI 181), (vr 178), .none, (vr 179), (vr 180), (vr 181), (vI 412), (vI 77), (vS x.s.a.a.b 413)]), #[]⟩
def b945 : Obj := ⟨(vY x.t.a.c.b), none, (.func (fn (st 29) x.s.b.a.b 3 [] .none .none .none (vS x.s.a.e.c 354) none (vr 182) .none 0)), #[]⟩
def b948 : Obj := ⟨(vY x.t.a.a.a), none, (.seq #[(vS x.s.b.b.g 418), (vS x.s.a.h.f 419), (vS x.s.a.d.h 420), (vS x.s.a.e.a 421)] 0), #[]⟩
def b950 : Obj := ⟨.none, none, (.func (fn (st 30) x.s.b.a.c 0 [] .none .none .none .none none .none .none 0)), #[]⟩
def b951 : Obj := ⟨(vY x.t.a.a.b), none, (.fields #[(vS x.s.b.a.c 415), (vS x.s.b.a.c 416), (vS x.s.a.a.b 417), (vI 80), (vI 2), vO, vO, (vI 3), (vr 184), (.bool true), (vI 181), (vr 185), .none, (vr 186), (vr 187), (vr 188), (vI 422), (vI 80), (vS x.s.a.a.b 423)]), #[]⟩
def b952 : Obj := ⟨(vY x.t.a.c.b), none, (.func (fn (st 30) x.s.b.a.c 3 [] .none .none .none (vS x.s.a.e.c 354) none (vr 189) .none 0)), #[]⟩
def b955 : Obj := ⟨.none, none, (.func (fn (st 31) x.s.b.a.d 0 [] .none .none .none .none none .none .none 0)), #[]⟩
def b956 : Obj := ⟨(vY x.t.a.a.b), none, (.fields #[(vS x.s.b.a.d 425), (vS x.s.b.a.d 426), (vS x.s.a.a.b 427), (vI 83), (vI 2), vO, vO, (vI 3), (vr 191), (.bool true), (vI 181), (vr 192), .none, .none, .none, (vr 193), (vI 428), (vI 83), (vS x.s.a.a.b 429)]), #[]⟩
def b957 : Obj := ⟨(vY x.t.a.c.b), none, (.func (fn (st 31) x.s.b.a.d 3 [] .none .none .none (vS x.s.a.e.c 354) none (vr 194) .none 0)), #[]⟩
def b960 : Obj := ⟨(vY x.t.a.a.a), none, (.seq #[(vS x.s.b.b.h 434), (vS x.s.b.c.a 435), (vS x.s.b.c.b 436)] 0), #[]⟩
def b962 : Obj := ⟨.none, none, (.func (fn (st 32) x.s.b.a.e 0 [] .none .none .none .none none .none .none 0)), #[]⟩
def b963 : Obj := ⟨(vY x.t.a.a.b), none, (.fields #[(vS x.s.b.a.e 431), (vS x.s.b.a.e 432), (vS x.s.a.a.b 433), (vI 85), (vI 1), vO, vO, (vI 3), (vr 196), (.bool true), (vI 181), (vr 197), .none, (vr 198), (vr 199), (vr 200), (vI 437), (vI 85), (vS x.s.a.a.b 438)]), #[]⟩
def b964 : Obj := ⟨(vY x.t.a.c.b), none, (.func (fn (st 32) x.s.b.a.e 3 [] .none .none .none (vS x.s.a.e.c 354) none (vr 201) .none 0)), #[]⟩
def b967 : Obj := ⟨(vY x.t.a.a.a), none, (.seq #[(vS x.s.b.c.c 443), (vS x.s.a.g.g 444), (vS x.s.a.d.e 445)] 0), #[]⟩
def b969 : Obj := ⟨.none, none, (.func (fn (st 33) x.s.b.a.f 0 [] .none .none .none .none none .none .none 0)), #[]⟩
def b970 : Obj := ⟨(vY x.t.a.a.b), none, (.fields #[(vS x.s.b.a.f 440), (vS x.s.b.a.f 441), (vS x.s.a.a.b 442), (vI 90), (vI 1), vO, vO, (vI 3), (vr 203), (.bool true), (vI 181), (vr 204), .none, (vr 205), (vr 206), (vr 207), (vI 446), (vI 90), (vS x.s.a.a.b 447)]), #[]⟩
def b971 : Obj := ⟨(vY x.t.a.c.b), none, (.func (fn (st 33) x.s.b.a.f 3 [] .none .none .none (vS x.s.a.e.c 354) none (vr 208) .none 0)), #[]⟩
def b974 : Obj := ⟨.none, none, (.func (fn (st 34) x.s.b.a.g 0 [] .none .none .none .none none .none .none 0)), #[]⟩
def b975 : Obj := ⟨(vY x.t.a.a.b), none, (.fields #[(vS x.s.b.a.g 449), (vS x.s.b.a.g 450), (vS x.s.a.a.b 451), (vI 96), (vI 2), vO, vO, (vI 3), (vr 210), (.bool true), (vI 181), (vr 211), .none, .none, .none, (vr 212), (vI 452), (vI 96), (vS x.s.a.a.b 453)]), #[]⟩
def b976 : Obj := ⟨(vY x.t.a.c.b), none, (.func (fn (st 34) x.s.b.a.g 3 [] .none .none .none (vS x.s.a.e.c 354) none (vr 213) .none 0)), #[]⟩
def b979 : Obj := ⟨.none, none, (.func (fn (st 35) x.s.b.a.h 0 [] .none .none .none .none none .none .none 0)), #[]⟩
def b980 : Obj := ⟨(vY x.t.a.a.b), none, (.fields #[(vS x.s.b.a.h 455), (vS x.s.b.a.h 456), (vS x.s.a.a.b 457), (vI 98), (vI 3), vO, vO, (vI 3), (vr 215), (.bool true), (vI 181), (vr 216), .none, .none, .none, (vr 217), (vI 458), (vI 98), (vS x.s.a.a.b 459)]), #[]⟩
def b981 : Obj := ⟨(vY x.t.a.c.b), none, (.func (fn (st 35) x.s.b.a.h 3 [] .none .none .none (vS x.s.a.e.c 354) none (vr 218) .none 0)), #[]⟩
def b984 : Obj := ⟨.none, none, (.func (fn (st 36) x.s.b.b.a 0 [] .none .none .none .none none .none .none 0)), #[]⟩
def b985 : Obj := ⟨(vY x.t.a.a.b), none, (.fields #[(vS x.s.b.b.a 461), (vS x.s.b.b.a 462), (vS x.s.a.a.b 463), (vI 104), (vI 2), vO, vO, (vI 3), (vr 220), (.bool true), (vI 181), (vr 221), .none, .none, .none, (vr 222), (vI 464), (vI 104), (vS x.s.a.a.b 465)]), #[]⟩
def b986 : Obj := ⟨(vY x.t.a.c.b), none, (.func (fn (st 36) x.s.b.b.a 3 [] .none .none .none (vS x.s.a.e.c 354) none (vr 223) .none 0)), #[]⟩
def b989 : Obj := ⟨.none, none, (.func (fn (st 37) x.s.b.b.b 0 [] .none .none .none .none none .none .none 0)), #[]⟩
def b990 : Obj := ⟨(vY x.t.a.a.b), none, (.fields #[(vS x.s.b.b.b 467), (vS x.s.b.b.b 468), (vS x.s.a.a.b 469), (vI 113), (vI 3), vO, vO, (vI 3), (vr 225), (.bool true), (vI 181), (vr 226), .none, .none, .none, (vr 227), (vI 470), (vI 113), (vS x.s.a.a.b 471)]), #[]⟩
def b991 : Obj := ⟨(vY x.t.a.c.b), none, (.func (fn (st 37) x.s.b.b.b 3 [] .none .none .none (vS x.s.a.e.c 354) none (vr 228) .none 0)), #[]⟩
def b994 : Obj := ⟨.none, none, (.func (fn (st 38) x.s.b.b.c 0 [] .none .none .none .none none .none .none 0)), #[]⟩
def b995 : Obj := ⟨(vY x.t.a.a.b), none, (.fields #[(vS x.s.b.b.c 473), (vS x.s.b.b.c 474), (vS x.s.a.a.b 475), (vI 115), (vI 3), vO, vO, (vI 3), (vr 230), (.bool true), (vI 181), (vr 231), .none, .none, .none, (vr 232), (vI 476), (vI 115), (vS x.s.a.a.b 477)]), #[]⟩
def b996 : Obj := ⟨(vY x.t.a.c.b), none, (.func (fn (st 38) x.s.b.b.c 3 [] .none .none .none (vS x.s.a.e.c 354) none (vr 233) .none 0)), #[]⟩
def b999 : Obj := ⟨.none, none, (.func (fn (st 39) x.s.b.b.d 0 [] .none .none .none .none none .none .none 0)), #[]⟩
def zlX : Obj := ⟨(vY x.t.a.a.b), none, (.fields #[(vS x.s.b.b.d 479), (vS x.s.b.b.d 480), (vS x.s.a.a.b 481), (vI 128), (vI 2), vO, vO, (vI 3), (vr 235), (.bool true), (vI 181), (vr 236), .none, .none, .none, (vr 237), (vI 482), (vI 128), (vS x.s.a.a.b 483)]), #[]⟩
def zmo : Obj := ⟨(vY x.t.a.c.b), none, (.func (fn (st 39) x.s.b.b.d 3 [] .none .none .none (vS x.s.a.e.c 354) none (vr 238) .none 0)), #[]⟩
def zl7 : Obj := ⟨.none, none, (.func (fn (st 40) x.s.b.b.e 0 [] .none .none .none .none none .none .none 0)), #[]⟩
def zmY : Obj := ⟨(vY x.t.a.a.b), none, (.fields #[(vS x.s.b.b.e 485), (vS x.s.b.b.e 486), (vS x.s.a.a.b 487), (vI 132), (vI 1), vO, vO, (vI 3), (vr 240), (.bool true), (vI 181), (vr 241), .none, .none, .none, (vr 242), (vI 488), (vI 132), (vS x.s.a.a.b 489)]), #[]⟩
def zmU : Obj := ⟨(vY x.t.a.c.b), none, (.func (fn (st 40) x.s.b.b.e 3 [] .none .none .none (vS x.s.a.e.c 354) none (vr 243) .none 0)), #[]⟩
def zms : Obj := ⟨.none, none, (.func (fn (st 41) x.s.b.b.f 0 [] .none .none .none .none none .none .none 0)), #[]⟩
def zlZ : Obj := ⟨(vY x.t.a.a.b), none, (.fields #[(vS x.s.b.b.f 491), (vS x.s.b.b.f 492), (vS x.s.a.a.b 493), (vI 135), (vI 2), vO, vO, (vI 3), (vr 245), (.bool true), (vI 181), (vr 246), .none, .none, .none, (vr 247), (vI 494), (vI 135), (vS x.s.a.a.b 495)]), #[]⟩
def zmh : Obj := ⟨(vY x.t.a.c.b), none, (.func (fn (st 41) x.s.b.b.f 3 [] .none .none .none (vS x.s.a.e.c 354) none (vr 248) .none 0)), #[]⟩
def b1012 : Obj := ⟨(vY x.t.a.a.d), none, (.dict #[i70, i1, i2, i3, i4, i5, i6, i7, i8, i9, i16, i22, i29, i30, i31, i32, i33, i34, i41, i42, i43, i44, i45, i46, i47, i48, i49, i50, i51, i52, i53, i54, i55, i56, i57, i58, i59, i60, i61, i62, i63, i64, i65, i66, i67, i68, i69, i71, i72, i73, i74, i75, i76, i77, i78, i79, i80, i81, i82] 59), #[]⟩
def b1013 : Obj := ⟨.none, none, (.fields #[(vI 2), vO, (vr 20), (vI 4), vO, (vr 33), (vI 6), vO, (vr 45), (vI 8), vO, (vr 57), (vI 11), vO, (vr 69), (vI 19), vO, (vr 76), (vI 26), vO, (vr 83), (vI 28), vO, (vr 90), (vI 30), vO, (vr 97), (vI 32), vO, (vr 104), (vI 34), vO, (vr 111), (vI 36), vO, (vr 116), (vI 41), vO, (vr 123), (vI 46), vO, (vr 128), (vI 50), vO, (vr 135), (vI 52), vO, (vr 142), (vI 59), vO, (vr 149), (vI 64), vO, (vr 154), (vI 67), vO, (vr 161), (vI 70), vO, (vr 168), (vI 75), vO, (vr 175), (vI 77), vO, (vr 182), (vI 80), vO, (vr 189), (vI 83), vO, (vr 194), (vI 85), vO, (vr 201), (vI 90), vO, (vr 208), (vI 96), vO, (vr 213), (vI 98), vO, (vr 218), (vI 104), vO, (vr 223), (vI 113), vO, (vr 228), (vI 115), vO, (vr 233), (vI 128), vO, (vr 238), (vI 132), vO, (vr 243), (vI 135), vO, (vr 248), (vI 137), vO, (vr 255), (vI 145), vO, (vr 262), (vI 148), vO, (vr 269), (vI 152), vO, (vr 276), (vI 157), vO, (vr 283), (vI 165), vO, (vr 290), (vI 172), vO, (vr 297), (vI 174), vO, (vr 304), (vI 181), vO, (vr 311), (vI 187), vO, (vr 318), (vI 194), vO, (vr 325), (vI 196), vO, (vr 332)]), #[]⟩
def zoc : Obj := ⟨(vY x.t.a.a.a), none, (.seq #[(vS x.s.b.e.a 500), (vS x.s.a.h.d 501), (vS x.s.b.e.b 502), (vS x.s.b.e.c 503)] 0), #[]⟩
def znK : Obj := ⟨.none, none, (.func (fn (st 42) x.s.b.c.e 0 [] .none .none .none .none none .none .none 0)), #[]⟩
def zoZ : Obj := ⟨(vY x.t.a.a.b), none, (.fields #[(vS x.s.b.c.e 497), (vS x.s.b.c.e 498), (vS x.s.a.a.b 499), (vI 137), (vI 2), vO, vO, (vI 3), (vr 250), (.bool true), (vI 181), (vr 251), .none, (vr 252), (vr 253), (vr 254), (vI 504), (vI 137), (vS x.s.a.a.b 505)]), #[]⟩
def zoQ : Obj := ⟨(vY x.t.a.c.b), none, (.func (fn (st 42) x.s.b.c.e 3 [] .none .none .none (vS x.s.a.e.c 354) none (vr 255) .none 0)), #[]⟩
def zoa : Obj := ⟨(vY x.t.a.a.a), none, (.seq #[(vS x.s.b.e.d 512), (vS x.s.b.e.e 513), (vS x.s.b.e.f 514)] 0), #[]⟩
def zoC : Obj := ⟨.none, none, (.func (fn (st 44) x.s.b.c.f 0 [] .none .none .none .none none .none .none 0)), #[]⟩
def zoJ : Obj := ⟨(vY x.t.a.a.b), none, (.fields #[(vS x.s.b.c.f 509), (vS x.s.b.c.f 510), (vS x.s.a.a.b 511), (vI 145), (vI 2), vO, vO, (vI 3), (vr 257), (.bool true), (vI 181), (vr 258), .none, (vr 259), (vr 260), (vr 261), (vI 515), (vI 145), (vS x.s.a.a.b 516)]), #[]⟩
def znM : Obj := ⟨(vY x.t.a.c.b), none, (.func (fn (st 44) x.s.b.c.f 3 [] .none .none .none (vS x.s.b.c.d 507) none (vr 262) .none 0)), #[]⟩
def zn3 : Obj := ⟨(vY x.t.a.a.a), none, (.seq #[(vS x.s.b.e.g 521), (vS x.s.b.e.e 522)] 0), #[]⟩
def znR : Obj := ⟨.none, none, (.func (fn (st 45) x.s.b.c.g 0 [] .none .none .none .none none .none .none 0)), #[]⟩
def zoA : Obj := ⟨(vY x.t.a.a.b), none, (.fields #[(vS x.s.b.c.g 518), (vS x.s.b.c.g 519), (vS x.s.a.a.b 520), (vI 148), (vI 2), vO, vO, (vI 3), (vr 264), (.bool true), (vI 181), (vr 265), .none, (vr 266), (vr 267), (vr 268), (vI 523), (vI 148), (vS x.s.a.a.b 524)]), #[]⟩
def znJ : Obj := ⟨(vY x.t.a.c.b), none, (.func (fn (st 45) x.s.b.c.g 3 [] .none .none .none (vS x.s.b.c.d 507) none (vr 269) .none 0)), #[]⟩
def zo2 : Obj := ⟨(vY x.t.a.a.a), none, (.seq #[(vS x.s.b.e.g 529), (vS x.s.b.e.e 530), (vS x.s.b.e.h 531)] 0), #[]⟩
def zoT : Obj := ⟨.none, none, (.func (fn (st 46) x.s.b.c.h 0 [] .none .none .none .none none .none .none 0)), #[]⟩
def znY : Obj := ⟨(vY x.t.a.a.b), none, (.fields #[(vS x.s.b.c.h 526), (vS x.s.b.c.h 527), (vS x.s.a.a.b 528), (vI 152), (vI 2), vO, vO, (vI 3), (vr 271), (.bool true), (vI 181), (vr 272), .none, (vr 273), (vr 274), (vr 275), (vI 532), (vI 152), (vS x.s.a.a.b 533)]), #[]⟩
def zoR : Obj := ⟨(vY x.t.a.c.b), none, (.func (fn (st 46) x.s.b.c.h 3 [] .none .none .none (vS x.s.b.c.d 507) none (vr 276) .none 0)), #[]⟩
def zpb : Obj := ⟨(vY x.t.a.a.a), none, (.seq #[(vS x.s.b.f.a 538), (vS x.s.b.f.b 539), (vS x.s.b.e.f 540), (vS x.s.b.f.c 541)] 0), #[]⟩
def zo7 : Obj := ⟨.none, none, (.func (fn (st 47) x.s.b.d.a 0 [] .none .none .none .none none .none .none 0)), #[]⟩
def zoz : Obj := ⟨(vY x.t.a.a.b), none, (.fields #[(vS x.s.b.d.a 535), (vS x.s.b.d.a 536), (vS x.s.a.a.b 537), (vI 157), (vI 2), vO, vO, (vI 3), (vr 278), (.bool true), (vI 181), (vr 279), .none, (vr 280), (vr 281), (vr 282), (vI 542), (vI 157), (vS x.s.a.a.b 543)]), #[]⟩
def zoe : Obj := ⟨(vY x.t.a.c.b), none, (.func (fn (st 47) x.s.b.d.a 3 [] .none .none .none (vS x.s.b.c.d 507) none (vr 283) .none 0)), #[]⟩
def znP : Obj := ⟨(vY x.t.a.a.a), none, (.seq #[(vS x.s.b.f.a 548), (vS x.s.b.f.d 549), (vS x.s.b.f.e 550), (vS x.s.b.e.e 551), (vS x.s.b.f.f 552), (vS x.s.b.f.g 553)] 0), #[]⟩
def zoo : Obj := ⟨.none, none, (.func (fn (st 48) x.s.b.d.b 0 [] .none .none .none .none none .none .none 0)), #[]⟩
def zoS : Obj := ⟨(vY x.t.a.a.b), none, (.fields #[(vS x.s.b.d.b 545), (vS x.s.b.d.b 546), (vS x.s.a.a.b 547), (vI 165), (vI 2), vO, vO, (vI 3), (vr 285), (.bool true), (vI 181), (vr 286), .none, (vr 287), (vr 288), (vr 289), (vI 554), (vI 165), (vS x.s.a.a.b 555)]), #[]⟩
def zn9 : Obj := ⟨(vY x.t.a.c.b), none, (.func (fn (st 48) x.s.b.d.b 3 [] .none .none .none (vS x.s.b.c.d 507) none (vr 290) .none 0)), #[]⟩
def zo0 : Obj := ⟨(vY x.t.a.a.a), none, (.seq #[(vS x.s.b.f.h 560)] 0), #[]⟩
def zoV : Obj := ⟨.none, none, (.func (fn (st 49) x.s.b.d.c 0 [] .none .none .none .none none .none .none 0)), #[]⟩
def znH : Obj := ⟨(vY x.t.a.a.b), none, (.fields #[(vS x.s.b.d.c 557), (vS x.s.b.d.c 558), (vS x.s.a.a.b 559), (vI 172), (vI 1), vO, vO, (vI 3), (vr 292), (.bool true), (vI 181), (vr 293), .none, (vr 294), (vr 295), (vr 296), (vI 561), (vI 172), (vS x.s.a.a.b 562)]), #[]⟩
def zn4 : Obj := ⟨(vY x.t.a.c.b), none, (.func (fn (st 49) x.s.b.d.c 3 [] .none .none .none (vS x.s.b.c.d 507) none (vr 297) .none 0)), #[]⟩
def zou : Obj := ⟨(vY x.t.a.a.a), none, (.seq #[(vS x.s.b.f.h 567), (vS x.s.b.g.a 568), (vS x.s.b.g.b 569)] 0), #[]⟩
def znF : Obj := ⟨.none, none, (.func (fn (st 50) x.s.b.d.d 0 [] .none .none .none .none none .none .none 0)), #[]⟩
def zpd : Obj := ⟨(vY x.t.a.a.b), none, (.fields #[(vS x.s.b.d.d 564), (vS x.s.b.d.d 565), (vS x.s.a.a.b 566), (vI 174), (vI 1), vO, vO, (vI 3), (vr 299), (.bool true), (vI 181), (vr 300), .none, (vr 301), (vr 302), (vr 303), (vI 570), (vI 174), (vS x.s.a.a.b 571)]), #[]⟩
def zo5 : Obj := ⟨(vY x.t.a.c.b), none, (.func (fn (st 50) x.s.b.d.d 3 [] .none .none .none (vS x.s.b.c.d 507) none (vr 304) .none 0)), #[]⟩
def zoW : Obj := ⟨(vY x.t.a.a.a), none, (.seq #[(vS x.s.b.g.c 576), (vS x.s.b.g.d 577), (vS x.s.b.g.a 578), (vS x.s.b.g.b 579)] 0), #[]⟩
def zok : Obj := ⟨.none, none, (.func (fn (st 51) x.s.b.d.e 0 [] .none .none .none .none none .none .none 0)), #[]⟩
def zpg : Obj := ⟨(vY x.t.a.a.b), none, (.fields #[(vS x.s.b.d.e 573), (vS x.s.b.d.e 574), (vS x.s.a.a.b 575), (vI 181), (vI 2), vO, vO, (vI 3), (vr 306), (.bool true), (vI 181), (vr 307), .none, (vr 308), (vr 309), (vr 310), (vI 580), (vI 181), (vS x.s.a.a.b 581)]), #[]⟩
def zof : Obj := ⟨(vY x.t.a.c.b), none, (.func (fn (st 51) x.s.b.d.e 3 [] .none .none .none (vS x.s.b.c.d 507) none (vr 311) .none 0)), #[]⟩
def zoq : Obj := ⟨(vY x.t.a.a.a), none, (.seq #[(vS x.s.b.g.e 586), (vS x.s.b.g.f 587), (vS x.s.b.g.c 588), (vS x.s.b.g.d 589), (vS x.s.b.g.g 590)] 0), #[]⟩
def zow : Obj := ⟨.none, none, (.func (fn (st 52) x.s.b.d.f 0 [] .none .none .none .none none .none .none 0)), #[]⟩
def znB : Obj := ⟨(vY x.t.a.a.b), none, (.fields #[(vS x.s.b.d.f 583), (vS x.s.b.d.f 584), (vS x.s.a.a.b 585), (vI 187), (vI 2), vO, vO, (vI 3), (vr 313), (.bool true), (vI 181), (vr 314), .none, (vr 315), (vr 316), (vr 317), (vI 591), (vI 187), (vS x.s.a.a.b 592)]), #[]⟩
def zn6 : Obj := ⟨(vY x.t.a.c.b), none, (.func (fn (st 52) x.s.b.d.f 3 [] .none .none .none (vS x.s.b.c.d 507) none (vr 318) .none 0)), #[]⟩
def zn0 : Obj := ⟨(vY x.t.a.a.a), none, (.seq #[(vS x.s.b.g.a 597), (vS x.s.b.g.b 598)] 0), #[]⟩
def zo9 : Obj := ⟨.none, none, (.func (fn (st 53) x.s.b.d.g 0 [] .none .none .none .none none .none .none 0)), #[]⟩
def zop : Obj := ⟨(vY x.t.a.a.b), none, (.fields #[(vS x.s.b.d.g 594), (vS x.s.b.d.g 595), (vS x.s.a.a.b 596), (vI 194), (vI 2), vO, vO, (vI 3), (vr 320), (.bool true), (vI 181), (vr 321), .none, (vr 322), (vr 323), (vr 324), (vI 599), (vI 194), (vS x.s.a.a.b 600)]), #[]⟩
def zod : Obj := ⟨(vY x.t.a.c.b), none, (.func (fn (st 53) x.s.b.d.g 3 [] .none .none .none (vS x.s.b.c.d 507) none (vr 325) .none 0)), #[]⟩
def zpa : Obj := ⟨(vY x.t.a.a.a), none, (.seq #[(vS x.s.b.g.a 605), (vS x.s.b.g.b 606)] 0), #[]⟩
def zpj : Obj := ⟨.none, none, (.func (fn (st 54) x.s.b.d.h 0 [] .none .none .none .none none .none .none 0)), #[]⟩
def zoM : Obj := ⟨(vY x.t.a.a.b), none, (.fields #[(vS x.s.b.d.h 602), (vS x.s.b.d.h 603), (vS x.s.a.a.b 604), (vI 196), (vI 2), vO, vO, (vI 3), (vr 327), (.bool true), (vI 181), (vr 328), .none, (vr 329), (vr 330), (vr 331), (vI 607), (vI 196), (vS x.s.a.a.b 608)]), #[]⟩
def zol : Obj := ⟨(vY x.t.a.c.b), none, (.func (fn (st 54) x.s.b.d.h 3 [] .none .none .none (vS x.s.b.c.d 507) none (vr 332) .none 0)), #[]⟩
def zrI : Obj := ⟨(vY x.t.a.a.d), none, (.dict #[i70, i1, i2, i3, i4, i5, i6, i7, i8, i9, i16, i22, i29, i30, i31, i32, i33, i34, i41, i42, i43, i44, i45, i46, i47, i48, i49, i50, i51, i52, i53, i54, i55, i56, i57, i58, i59, i60, i61, i62, i63, i64, i65, i66, i67, i68, i69, i71, i72, i73, i74, i75, i76, i77, i78, i79, i80, i81, i82, i83, i84, i85, i86, i87, i88, i89, i90, i91, i92, i93] 70), #[]⟩
def zqR : Obj := ⟨.none, none, (.fields #[(vI 2), vO, (vr 20), (vI 4), vO, (vr 33), (vI 6), vO, (vr 45), (vI 8), vO, (vr 57), (vI 11), vO, (vr 69), (vI 19), vO, (vr 76), (vI 26), vO, (vr 83), (vI 28), vO, (vr 90), (vI 30), vO, (vr 97), (vI 32), vO, (vr 104), (vI 34), vO, (vr 111), (vI 36), vO, (vr 116), (vI 41), vO, (vr 123), (vI 46), vO, (vr 128), (vI 50), vO, (vr 135), (vI 52), vO, (vr 142), (vI 59), vO, (vr 149), (vI 64), vO, (vr 154), (vI 67), vO, (vr 161), (vI 70), vO, (vr 168), (vI 75), vO, (vr 175), (vI 77), vO, (vr 182), (vI 80), vO, (vr 189), (vI 83), vO, (vr 194), (vI 85), vO, (vr 201), (vI 90), vO, (vr 208), (vI 96), vO, (vr 213), (vI 98), vO, (vr 218), (vI 104), vO, (vr 223), (vI 113), vO, (vr 228), (vI 115), vO, (vr 233), (vI 128), vO, (vr 238), (vI 132), vO, (vr 243), (vI 135), vO, (vr 248), (vI 137), vO, (vr 255), (vI 145), vO, (vr 262), (vI 148), vO, (vr 269), (vI 152), vO, (vr 276), (vI 157), vO, (vr 283), (vI 165), vO, (vr 290), (vI 172), vO, (vr 297), (vI 174), vO, (vr 304), (vI 181), vO, (vr 311), (vI 187), vO, (vr 318), (vI 194), vO, (vr 325), (vI 196), vO, (vr 332), (vI 198), vO, (vr 337), (vI 202), vO, (vr 342), (vI 204), vO, (vr 347), (vI 211), vO, (vr 352), (vI 221), vO, (vr 357), (vI 225), vO, (vr 364), (vI 233), vO, (vr 369), (vI 248), vO, (vr 374), (vI 259), vO, (vr 381), (vI 266), vO, (vr 388), (vI 272), vO, (vr 395)]), #[]⟩
def zpY : Obj := ⟨.none, none, (.func (fn (st 55) x.s.b.g.h 0 [] .none .none .none .none none .none .none 0)), #[]⟩
def zqq : Obj := ⟨(vY x.t.a.a.b), none, (.fields #[(vS x.s.b.g.h 610), (vS x.s.b.g.h 611), (vS x.s.a.a.b 612), (vI 198), (vI 2), vO, vO, (vI 3), (vr 334), (.bool true), (vI 181), (vr 335), .none, .none, .none, (vr 336), (vI 613), (vI 198), (vS x.s.a.a.b 614)]), #[]⟩
def zrA : Obj := ⟨(vY x.t.a.c.b), none, (.func (fn (st 55) x.s.b.g.h 3 [] .none .none .none (vS x.s.b.c.d 507) none (vr 337) .none 0)), #[]⟩
def zqp : Obj := ⟨.none, none, (.func (fn (st 56) x.s.b.h.a 0 [] .none .none .none .none none .none .none 0)), #[]⟩
def zqZ : Obj := ⟨(vY x.t.a.a.b), none, (.fields #[(vS x.s.b.h.a 616), (vS x.s.b.h.a 617), (vS x.s.a.a.b 618), (vI 202), (vI 2), vO, vO, (vI 3), (vr 339), (.bool true), (vI 181), (vr 340), .none, .none, .none, (vr 341), (vI 619), (vI 202), (vS x.s.a.a.b 620)]), #[]⟩
def zqu : Obj := ⟨(vY x.t.a.c.b), none, (.func (fn (st 56) x.s.b.h.a 3 [] .none .none .none (vS x.s.b.c.d 507) none (vr 342) .none 0)), #[]⟩
def zqO : Obj := ⟨.none, none, (.func (fn (st 57) x.s.b.h.b 0 [] .none .none .none .none none .none .none 0)), #[]⟩
def zrE : Obj := ⟨(vY x.t.a.a.b), none, (.fields #[(vS x.s.b.h.b 622), (vS x.s.b.h.b 623), (vS x.s.a.a.b 624), (vI 204), (vI 3), vO, vO, (vI 3), (vr 344), (.bool true), (vI 181), (vr 345), .none, .none, .none, (vr 346), (vI 625), (vI 204), (vS x.s.a.a.b 626)]), #[]⟩
def zrw : Obj := ⟨(vY x.t.a.c.b), none, (.func (fn (st 57) x.s.b.h.b 3 [] .none .none .none (vS x.s.b.c.d 507) none (vr 347) .none 0)), #[]⟩
def zrH : Obj := ⟨.none, none, (.func (fn (st 58) x.s.b.h.c 0 [] .none .none .none .none none .none .none 0)), #[]⟩
def zrz : Obj := ⟨(vY x.t.a.a.b), none, (.fields #[(vS x.s.b.h.c 628), (vS x.s.b.h.c 629), (vS x.s.a.a.b 630), (vI 211), (vI 3), vO, vO, (vI 3), (vr 349), (.bool true), (vI 181), (vr 350), .none, .none, .none, (vr 351), (vI 631), (vI 211), (vS x.s.a.a.b 632)]), #[]⟩
def zrm : Obj := ⟨(vY x.t.a.c.b), none, (.func (fn (st 58) x.s.b.h.c 3 [] .none .none .none (vS x.s.b.c.d 507) none (vr 352) .none 0)), #[]⟩
def zrS : Obj := ⟨.none, none, (.func (fn (st 59) x.s.b.h.d 0 [] .none .none .none .none none .none .none 0)), #[]⟩
def zru : Obj := ⟨(vY x.t.a.a.b), none, (.fields #[(vS x.s.b.h.d 634), (vS x.s.b.h.d 635), (vS x.s.a.a.b 636), (vI 221), (vI 4), vO, vO, (vI 3), (vr 354), (.bool true), (vI 181), (vr 355), .none, .none, .none, (vr 356), (vI 637), (vI 221), (vS x.s.a.a.b 638)]), #[]⟩
def zrj : Obj := ⟨(vY x.t.a.c.b), none, (.func (fn (st 59) x.s.b.h.d 3 [] .none .none .none (vS x.s.b.c.d 507) none (vr 357) .none 0)), #[]⟩
def zqg : Obj := ⟨(vY x.t.a.a.a), none, (.seq #[(vS x.s.b.g.e 643), (vS x.s.c.a.c 644), (vS x.s.c.a.d 645), (vS x.s.c.a.e 646), (vS x.s.c.a.f 647), (vS x.s.c.a.g 648), (vS x.s.b.g.c 649), (vS x.s.b.g.d 650)] 0), #[]⟩
def zqj : Obj := ⟨.none, none, (.func (fn (st 60) x.s.b.h.e 0 [] .none .none .none .none none .none .none 0)), #[]⟩
def zqs : Obj := ⟨(vY x.t.a.a.b), none, (.fields #[(vS x.s.b.h.e 640), (vS x.s.b.h.e 641), (vS x.s.a.a.b 642), (vI 225), (vI 4), vO, vO, (vI 3), (vr 359), (.bool true), (vI 181), (vr 360), .none, (vr 361), (vr 362), (vr 363), (vI 651), (vI 225), (vS x.s.a.a.b 652)]), #[]⟩
def zqY : Obj := ⟨(vY x.t.a.c.b), none, (.func (fn (st 60) x.s.b.h.e 3 [] .none .none .none (vS x.s.b.c.d 507) none (vr 364) .none 0)), #[]⟩
def zqJ : Obj := ⟨.none, none, (.func (fn (st 61) x.s.b.h.f 0 [] .none .none .none .none none .none .none 0)), #[]⟩
def zrR : Obj := ⟨(vY x.t.a.a.b), none, (.fields #[(vS x.s.b.h.f 654), (vS x.s.b.h.f 655), (vS x.s.a.a.b 656), (vI 233), (vI 4), vO, vO, (vI 3), (vr 366), (.bool true), (vI 181), (vr 367), .none, .none, .none, (vr 368), (vI 657), (vI 233), (vS x.s.a.a.b 658)]), #[]⟩
def zqm : Obj := ⟨(vY x.t.a.c.b), none, (.func (fn (st 61) x.s.b.h.f 3 [] .none .none .none (vS x.s.b.c.d 507) none (vr 369) .none 0)), #[]⟩
def zp9 : Obj := ⟨.none, none, (.func (fn (st 62) x.s.b.h.g 0 [] .none .none .none .none none .none .none 0)), #[]⟩
def zqd : Obj := ⟨(vY x.t.a.a.b), none, (.fields #[(vS x.s.b.h.g 660), (vS x.s.b.h.g 661), (vS x.s.a.a.b 662), (vI 248), (vI 3), vO, vO, (vI 3), (vr 371), (.bool true), (vI 181), (vr 372), .none, .none, .none, (vr 373), (vI 663), (vI 248), (vS x.s.a.a.b 664)]), #[]⟩
def zrP : Obj := ⟨(vY x.t.a.c.b), none, (.func (fn (st 62) x.s.b.h.g 3 [] .none .none .none (vS x.s.b.c.d 507) none (vr 374) .none 0)), #[]⟩
def zqi : Obj := ⟨(vY x.t.a.a.a), none, (.seq #[(vS x.s.c.a.h 669), (vS x.s.c.b.a 670), (vS x.s.c.b.b 671), (vS x.s.b.e.e 672), (vS x.s.c.b.c 673)] 0), #[]⟩
def zp3 : Obj := ⟨.none, none, (.func (fn (st 63) x.s.b.h.h 0 [] .none .none .none .none none .none .none 0)), #[]⟩
def zqG : Obj := ⟨(vY x.t.a.a.b), none, (.fields #[(vS x.s.b.h.h 666), (vS x.s.b.h.h 667), (vS x.s.a.a.b 668), (vI 259), (vI 2), vO, vO, (vI 3), (vr 376), (.bool true), (vI 181), (vr 377), .none, (vr 378), (vr 379), (vr 380), (vI 674), (vI 259), (vS x.s.a.a.b 675)]), #[]⟩
def zq7 : Obj := ⟨(vY x.t.a.c.b), none, (.func (fn (st 63) x.s.b.h.h 3 [] .none .none .none (vS x.s.b.c.d 507) none (vr 381) .none 0)), #[]⟩
def zrk : Obj := ⟨(vY x.t.a.a.a), none, (.seq #[(vS x.s.c.a.h 680), (vS x.s.c.b.d 681), (vS x.s.c.b.e 682), (vS x.s.c.b.f 683), (vS x.s.b.e.e 684), (vS x.s.b.g.c 685), (vS x.s.b.g.d 686)] 0), #[]⟩
def zpW : Obj := ⟨.none, none, (.func (fn (st 64) x.s.c.a.a 0 [] .none .none .none .none none .none .none 0)), #[]⟩
def zqc : Obj := ⟨(vY x.t.a.a.b), none, (.fields #[(vS x.s.c.a.a 677), (vS x.s.c.a.a 678), (vS x.s.a.a.b 679), (vI 266), (vI 3), vO, vO, (vI 3), (vr 383), (.bool true), (vI 181), (vr 384), .none, (vr 385), (vr 386), (vr 387), (vI 687), (vI 266), (vS x.s.a.a.b 688)]), #[]⟩
def zp0 : Obj := ⟨(vY x.t.a.c.b), none, (.func (fn (st 64) x.s.c.a.a 3 [] .none .none .none (vS x.s.b.c.d 507) none (vr 388) .none 0)), #[]⟩
def zqx : Obj := ⟨(vY x.t.a.a.a), none, (.seq #[(vS x.s.b.e.g 693), (vS x.s.b.e.h 694), (vS x.s.b.f.a 695), (vS x.s.c.a.h 696), (vS x.s.c.b.g 697), (vS x.s.c.b.h 698), (vS x.s.c.c.a 699), (vS x.s.c.c.b 700), (vS x.s.c.b.d 701), (vS x.s.c.a.d 702), (vS x.s.c.c.c 703), (vS x.s.b.g.g 704), (vS x.s.c.b.a 705), (vS x.s.c.b.e 706), (vS x.s.c.c.d 707), (vS x.s.c.c.e 708)] 0), #[]⟩
def zq5 : Obj := ⟨.none, none, (.func (fn (st 65) x.s.c.a.b 0 [] .none .none .none .none none .none .none 0)), #[]⟩
def zp2 : Obj := ⟨(vY x.t.a.a.b), none, (.fields #[(vS x.s.c.a.b 690), (vS x.s.c.a.b 691), (vS x.s.a.a.b 692), (vI 272), (vI 1), vO, vO, (vI 3), (vr 390), (.bool true), (vI 181), (vr 391), .none, (vr 392), (vr 393), (vr 394), (vI 709), (vI 272), (vS x.s.a.a.b 710)]), #[]⟩
def zqr : Obj := ⟨(vY x.t.a.c.b), none, (.func (fn (st 65) x.s.c.a.b 3 [] .none .none .none (vS x.s.b.c.d 507) none (vr 395) .none 0)), #[]⟩
def m759 : Heap := ⟨⟨[x.r.a.a.a, x.r.a.a.b, x.r.a.a.c, x.r.a.a.d, x.r.a.a.e, x.r.a.a.f, x.r.a.a.g, x.r.a.a.h, x.r.a.b.a, x.r.a.b.b, x.r.a.b.c, zai, zaw, zkR, zlt]⟩, ⟨[], [], [], 0, [], [], false, #[], [], 0, false, false, false, 0, [2000, 10, 10], false, 0, true, [], [], 0, false⟩⟩
def m760 : W.BT := (N x.r.a.a.a (N x.r.a.a.b (N x.r.a.a.d (L x.r.a.a.h) (L zai)) (N x.r.a.a.f (L x.r.a.b.b) (L zkR))) (N x.r.a.a.c (N x.r.a.a.e (L x.r.a.b.a) (L zaw)) (N x.r.a.a.g (L x.r.a.b.c) (L zlt))))
def m776 : W.BT := (N x.r.a.a.a (N x.r.a.a.b (N b762 (N x.r.a.a.h (L zmH) (L zlP)) (N zai (L zaw) (L zlU))) (N x.r.a.a.f (N x.r.a.b.b (L zmk) (L zm0)) (N zkR (L zmc) z))) (N x.r.a.a.c (N x.r.a.a.e (N x.r.a.b.a (L zey) (L b773)) (N b763 (L zlK) z)) (N x.r.a.a.g (N x.r.a.b.c (L zai) (L zl9)) (N zlt (L zai) z))))
def m791 : W.BT := (N x.r.a.a.a (N x.r.a.a.b (N b777 (N x.r.a.a.h (N zmH (L zai) z) (N zlP (L zm9) z)) (N zai (N zaw (L zai) z) (L zlU))) (N x.r.a.a.f (N x.r.a.b.b (N zmk (L znp) z) (L zm0)) (N zkR (N zmc (L zno) z) (L zey)))) (N x.r.a.a.c (N x.r.a.a.e (N x.r.a.b.a (N zey (L zaw) z) (L b779)) (N b778 (N zlK (L znb) z) (L zga))) (N x.r.a.a.g (N x.r.a.b.c (N zai (L znl) z) (L zl9)) (N zlt (N zai (L znh) z) (L zm8)))))
def m806 : W.BT := (N x.r.a.a.a (N x.r.a.a.b (N b792 (N x.r.a.a.h (N zmH (L zai) (L zai)) (N zlP (L zm9) z)) (N zai (N zaw (L zai) (L zoh)) (N zlU (L zai) z))) (N x.r.a.a.f (N x.r.a.b.b (N zmk (L znp) (L znQ)) (N zm0 (L zey) z)) (N zkR (N zmc (L zno) z) (N zey (L znC) z)))) (N x.r.a.a.c (N x.r.a.a.e (N x.r.a.b.a (N zey (L zaw) (L zpe)) (N b794 (L zga) z)) (N b793 (N zlK (L znb) z) (N zga (L zaw) z))) (N x.r.a.a.g (N x.r.a.b.c (N zai (L znl) (L zph)) (N zl9 (L zoy) z)) (N zlt (N zai (L znh) z) (N zm8 (L zom) z)))))
def m856 : W.BT := (N x.r.a.a.a (N x.r.a.a.b (N b807 (N x.r.a.a.h (N zmH (N zai (L zpK) (L zai)) (N zai (L zaw) z)) (N zlP (N zm9 (L zai) z) (N zai (L zpF) z))) (N zai (N zaw (N zai (L zai) z) (N zoh (L zpM) z)) (N zlU (N zai (L zpk) z) (N zai (L zpm) z)))) (N x.r.a.a.f (N x.r.a.b.b (N zmk (N znp (L zaw) (L zpP)) (N znQ (L zai) z)) (N zm0 (N zey (L zpO) z) (N zpG (L zpy) z))) (N zkR (N zmc (N zno (L zpR) z) (N zey (L zai) z)) (N zey (N znC (L zpx) z) (N zpr (L zaw) z))))) (N x.r.a.a.c (N x.r.a.a.e (N x.r.a.b.a (N zey (N zaw (L zai) (L zpQ)) (N zpe (L zpt) z)) (N zpH (N zga (L zaw) z) (N zaw (L zai) z))) (N b808 (N zlK (N znb (L zpL) z) (N zga (L zpA) z)) (N zga (N zaw (L zpB) z) (N zpv (L zai) z)))) (N x.r.a.a.g (N x.r.a.b.c (N zai (N znl (L zpq) (L zpC)) (N zph (L zpE) z)) (N zl9 (N zoy (L zai) z) (N zpw (L zps) z))) (N zlt (N zai (N znh (L zpn) z) (N zpN (L zaw) z)) (N zm8 (N zom (L zai) z) (N zpl (L zpo) z))))))
def m929 : W.BT := (N x.r.a.a.a (N x.r.a.a.b (N b857 (N x.r.a.a.h (N zmH (N zai (N zpK (L zq9) z) (N zai (L zai) z)) (N zai (N zaw (L zrK) z) (L zrt))) (N zlP (N zm9 (N zai (L zry) z) (N zqL (L zrh) z)) (N zai (N zpF (L zai) z) (L zaw)))) (N zai (N zaw (N zai (N zai (L zaw) z) (N zai (L zai) z)) (N zoh (N zpM (L zai) z) (L zrv))) (N zlU (N zai (N zpk (L zrp) z) (L zaw)) (N zai (N zpm (L zrU) z) (L zrx))))) (N x.r.a.a.f (N x.r.a.b.b (N zmk (N znp (N zaw (L zpZ) z) (N zpP (L zp1) z)) (N znQ (N zai (L zaw) z) (L zai))) (N zm0 (N zey (N zpO (L zai) z) (N zqU (L zp6) z)) (N zpG (N zpy (L zrT) z) (L zai)))) (N zkR (N zmc (N zno (N zpR (L zai) z) (N zqy (L zqt) z)) (N zey (N zai (L zqA) z) (L zrC))) (N zey (N znC (N zpx (L zq1) z) (L zai)) (N zpr (N zaw (L zaw) z) (L zai)))))) (N x.r.a.a.c (N x.r.a.a.e (N x.r.a.b.a (N zey (N zaw (N zai (L zrn) z) (N zpQ (L zrb) z)) (N zpe (N zpt (L zai) z) (L zpT))) (N zpH (N zga (N zaw (L zrs) z) (N zqk (L zrB) z)) (N zaw (N zai (L zaw) z) (L zrl)))) (N b858 (N zlK (N znb (N zpL (L zqI) z) (N zaw (L zaw) z)) (N zga (N zpA (L zpS) z) (L zrc))) (N zga (N zaw (N zpB (L zai) z) (L zq8)) (N zpv (N zai (L zai) z) (L zpX))))) (N x.r.a.a.g (N x.r.a.b.c (N zai (N znl (N zpq (L zai) z) (N zpC (L zq6) z)) (N zph (N zpE (L zqf) z) (L zaw))) (N zl9 (N zoy (N zai (L zaw) z) (L zai)) (N zpw (N zps (L zqW) z) (L zqQ)))) (N zlt (N zai (N znh (N zpn (L zrF) z) (N zai (L zai) z)) (N zpN (N zaw (L zqn) z) (L zai))) (N zm8 (N zom (N zai (L zq3) z) (L zrq)) (N zpl (N zpo (L zrd) z) (L zaw)))))))
def m1011 : W.BT := (N x.r.a.a.a (N x.r.a.a.b (N b930 (N x.r.a.a.h (N zmH (N zai (N zpK (L zq9) (L zai)) (N zai (L zai) (L b985))) (N zai (N zaw (L zrK) (L b969)) (N zrt (L b937) (L zmo)))) (N zlP (N zm9 (N zai (L zry) (L zai)) (N zqL (L zrh) (L zaw))) (N zai (N zpF (L zai) (L zai)) (N zaw (L b945) (L zms))))) (N zai (N zaw (N zai (N zai (L zaw) (L b957)) (N zai (L zai) (L b989))) (N zoh (N zpM (L zai) (L zaw)) (N zrv (L b941) (L zmY)))) (N zlU (N zai (N zpk (L zrp) (L zai)) (N zaw (L zaw) (L zai))) (N zai (N zpm (L zrU) (L b981)) (N zrx (L zai) z))))) (N x.r.a.a.f (N x.r.a.b.b (N zmk (N znp (N zaw (L zpZ) (L b955)) (N zpP (L zp1) (L zai))) (N znQ (N zai (L zaw) (L b971)) (N zai (L zai) (L zaw)))) (N zm0 (N zey (N zpO (L zai) (L b963)) (N zqU (L zp6) (L b995))) (N zpG (N zpy (L zrT) (L b979)) (N zai (L zaw) (L zmh))))) (N zkR (N zmc (N zno (N zpR (L zai) (L zaw)) (N zqy (L zqt) (L b991))) (N zey (N zai (L zqA) (L b975)) (N zrC (L b943) (L zai)))) (N zey (N znC (N zpx (L zq1) (L b967)) (N zai (L zai) (L b999))) (N zpr (N zaw (L zaw) (L zaw)) (N zai (L b951) z)))))) (N x.r.a.a.c (N x.r.a.a.e (N x.r.a.b.a (N zey (N zaw (N zai (L zrn) (L zaw)) (N zpQ (L zrb) (L b986))) (N zpe (N zpt (L zai) (L b970)) (N zpT (L b938) (L zai)))) (N zpH (N zga (N zaw (L zrs) (L b962)) (N zqk (L zrB) (L b994))) (N zaw (N zai (L zaw) (L zaw)) (N zrl (L zai) (L zlZ))))) (N b931 (N zlK (N znb (N zpL (L zqI) (L zai)) (N zaw (L zaw) (L b990))) (N zga (N zpA (L zpS) (L b974)) (N zrc (L zai) (L zmU)))) (N zga (N zaw (N zpB (L zai) (L zaw)) (N zq8 (L b934) (L zaw))) (N zpv (N zai (L zai) (L zai)) (N zpX (L b950) z))))) (N x.r.a.a.g (N x.r.a.b.c (N zai (N znl (N zpq (L zai) (L b956)) (N zpC (L zq6) (L zaw))) (N zph (N zpE (L zqf) (L zai)) (N zaw (L zaw) (L zl7)))) (N zl9 (N zoy (N zai (L zaw) (L b964)) (N zai (L zai) (L b996))) (N zpw (N zps (L zqW) (L b980)) (N zqQ (L b948) z)))) (N zlt (N zai (N znh (N zpn (L zrF) (L b960)) (N zai (L zai) (L zai))) (N zpN (N zaw (L zqn) (L b976)) (N zai (L b944) (L zaw)))) (N zm8 (N zom (N zai (L zq3) (L zai)) (N zrq (L b936) (L zlX))) (N zpl (N zpo (L zrd) (L b984)) (N zaw (L b952) z)))))))
def m1097 : W.BT := (N x.r.a.a.a (N x.r.a.a.b (N b1012 (N x.r.a.a.h (N zmH (N zai (N zpK (N zq9 (L zoZ) z) (N zai (L zn6) z)) (N zai (N zai (L znP) z) (L b985))) (N zai (N zaw (N zrK (L zai) z) (L b969)) (N zrt (N b937 (L znF) z) (L zmo)))) (N zlP (N zm9 (N zai (N zry (L znM) z) (N zai (L zai) z)) (N zqL (N zrh (L zai) z) (L zaw))) (N zai (N zpF (N zai (L zaw) z) (L zai)) (N zaw (N b945 (L zpg) z) (L zms))))) (N zai (N zaw (N zai (N zai (N zaw (L zoa) z) (N b957 (L zai) z)) (N zai (N zai (L zn9) z) (L b989))) (N zoh (N zpM (N zai (L zoT) z) (L zaw)) (N zrv (N b941 (L zaw) z) (L zmY)))) (N zlU (N zai (N zpk (N zrp (L zai) z) (N zai (L zpj) z)) (N zaw (N zaw (L zai) z) (L zai))) (N zai (N zpm (N zrU (L zoz) z) (L b981)) (N zrx (N zai (L zoq) z) (L zaw)))))) (N x.r.a.a.f (N x.r.a.b.b (N zmk (N znp (N zaw (N zpZ (L zai) z) (N b955 (L zaw) z)) (N zpP (N zp1 (L zoo) z) (L zai))) (N znQ (N zai (N zaw (L zo2) z) (L b971)) (N zai (N zai (L zo5) z) (L zaw)))) (N zm0 (N zey (N zpO (N zai (L zaw) z) (N b963 (L zpa) z)) (N zqU (N zp6 (L znH) z) (L b995))) (N zpG (N zpy (N zrT (L zai) z) (L b979)) (N zai (N zaw (L zai) z) (L zmh))))) (N zkR (N zmc (N zno (N zpR (N zai (L zoC) z) (N zaw (L zop) z)) (N zqy (N zqt (L zaw) z) (L b991))) (N zey (N zai (N zqA (L zoR) z) (L b975)) (N zrC (N b943 (L zai) z) (L zai)))) (N zey (N znC (N zpx (N zq1 (L zoA) z) (N b967 (L zol) z)) (N zai (N zai (L zou) z) (L b999))) (N zpr (N zaw (N zaw (L zai) z) (L zaw)) (N zai (N b951 (L zow) z) (L zai))))))) (N x.r.a.a.c (N x.r.a.a.e (N x.r.a.b.a (N zey (N zaw (N zai (N zrn (L zoQ) z) (N zaw (L zai) z)) (N zpQ (N zrb (L zai) z) (L b986))) (N zpe (N zpt (N zai (L zaw) z) (L b970)) (N zpT (N b938 (L zpd) z) (L zai)))) (N zpH (N zga (N zaw (N zrs (L zai) z) (N b962 (L zaw) z)) (N zqk (N zrB (L zoV) z) (L b994))) (N zaw (N zai (N zaw (L zpb) z) (L zaw)) (N zrl (N zai (L zof) z) (L zlZ))))) (N b1013 (N zlK (N znb (N zpL (N zqI (L zai) z) (N zai (L zo9) z)) (N zaw (N zaw (L zai) z) (L b990))) (N zga (N zpA (N zpS (L znY) z) (L b974)) (N zrc (N zai (L zoW) z) (L zmU)))) (N zga (N zaw (N zpB (N zai (L znR) z) (N zaw (L zoM) z)) (N zq8 (N b934 (L zaw) z) (L zaw))) (N zpv (N zai (N zai (L zoe) z) (L zai)) (N zpX (N b950 (L zai) z) (L zoc)))))) (N x.r.a.a.g (N x.r.a.b.c (N zai (N znl (N zpq (N zai (L zaw) z) (N b956 (L zn0) z)) (N zpC (N zq6 (L zoS) z) (L zaw))) (N zph (N zpE (N zqf (L zai) z) (L zai)) (N zaw (N zaw (L zai) z) (L zl7)))) (N zl9 (N zoy (N zai (N zaw (L zn3) z) (N b964 (L zai) z)) (N zai (N zai (L zn4) z) (L b996))) (N zpw (N zps (N zqW (L zo7) z) (L b980)) (N zqQ (N b948 (L zaw) z) (L zai))))) (N zlt (N zai (N znh (N zpn (N zrF (L zoJ) z) (N b960 (L zod) z)) (N zai (N zai (L zo0) z) (L zai))) (N zpN (N zaw (N zqn (L zai) z) (L b976)) (N zai (N b944 (L zok) z) (L zaw)))) (N zm8 (N zom (N zai (N zq3 (L znJ) z) (L zai)) (N zrq (N b936 (L zai) z) (L zlX))) (N zpl (N zpo (N zrd (L zaw) z) (L b984)) (N zaw (N b952 (L znB) z) (L znK))))))))
def m1162 : W.BT := (N x.r.a.a.a (N x.r.a.a.b (N zrI (N x.r.a.a.h (N zmH (N zai (N zpK (N zq9 (L zoZ) (L zai)) (N zai (L zn6) z)) (N zai (N zai (L znP) z) (N b985 (L zrH) z))) (N zai (N zaw (N zrK (L zai) z) (N b969 (L zaw) z)) (N zrt (N b937 (L znF) z) (N zmo (L zaw) z)))) (N zlP (N zm9 (N zai (N zry (L znM) (L zaw)) (N zai (L zai) z)) (N zqL (N zrh (L zai) z) (N zaw (L zai) z))) (N zai (N zpF (N zai (L zaw) z) (N zai (L zqu) z)) (N zaw (N b945 (L zpg) z) (N zms (L zrP) z))))) (N zai (N zaw (N zai (N zai (N zaw (L zoa) (L zpW)) (N b957 (L zai) z)) (N zai (N zai (L zn9) z) (N b989 (L zaw) z))) (N zoh (N zpM (N zai (L zoT) z) (N zaw (L zai) z)) (N zrv (N b941 (L zaw) z) (N zmY (L zai) z)))) (N zlU (N zai (N zpk (N zrp (L zai) (L zp2)) (N zai (L zpj) z)) (N zaw (N zaw (L zai) z) (N zai (L zqj) z))) (N zai (N zpm (N zrU (L zoz) z) (N b981 (L zrE) z)) (N zrx (N zai (L zoq) z) (N zaw (L zai) z)))))) (N x.r.a.a.f (N x.r.a.b.b (N zmk (N znp (N zaw (N zpZ (L zai) (L zrk)) (N b955 (L zaw) z)) (N zpP (N zp1 (L zoo) z) (N zai (L zrm) z))) (N znQ (N zai (N zaw (L zo2) z) (N b971 (L zqq) z)) (N zai (N zai (L zo5) z) (N zaw (L zrR) z)))) (N zm0 (N zey (N zpO (N zai (L zaw) (L zai)) (N b963 (L zpa) z)) (N zqU (N zp6 (L znH) z) (N b995 (L zqg) z))) (N zpG (N zpy (N zrT (L zai) z) (N b979 (L zaw) z)) (N zai (N zaw (L zai) z) (N zmh (L zaw) z))))) (N zkR (N zmc (N zno (N zpR (N zai (L zoC) (L zp0)) (N zaw (L zop) z)) (N zqy (N zqt (L zaw) z) (N b991 (L zru) z))) (N zey (N zai (N zqA (L zoR) z) (N b975 (L zqp) z)) (N zrC (N b943 (L zai) z) (N zai (L zp9) z)))) (N zey (N znC (N zpx (N zq1 (L zoA) z) (N b967 (L zol) z)) (N zai (N zai (L zou) z) (N b999 (L zqY) z))) (N zpr (N zaw (N zaw (L zai) z) (N zaw (L zai) z)) (N zai (N b951 (L zow) z) (N zai (L zqG) z))))))) (N x.r.a.a.c (N x.r.a.a.e (N x.r.a.b.a (N zey (N zaw (N zai (N zrn (L zoQ) (L zaw)) (N zaw (L zai) z)) (N zpQ (N zrb (L zai) z) (N b986 (L zrz) z))) (N zpe (N zpt (N zai (L zaw) z) (N b970 (L zpY) z)) (N zpT (N b938 (L zpd) z) (N zai (L zqJ) z)))) (N zpH (N zga (N zaw (N zrs (L zai) (L zqx)) (N b962 (L zaw) z)) (N zqk (N zrB (L zoV) z) (N b994 (L zaw) z))) (N zaw (N zai (N zaw (L zpb) z) (N zaw (L zai) z)) (N zrl (N zai (L zof) z) (N zlZ (L zai) z))))) (N zqR (N zlK (N znb (N zpL (N zqI (L zai) (L zqc)) (N zai (L zo9) z)) (N zaw (N zaw (L zai) z) (N b990 (L zrS) z))) (N zga (N zpA (N zpS (L znY) z) (N b974 (L zaw) z)) (N zrc (N zai (L zoW) z) (N zmU (L zaw) z)))) (N zga (N zaw (N zpB (N zai (L znR) (L zqr)) (N zaw (L zoM) z)) (N zq8 (N b934 (L zaw) z) (N zaw (L zqs) z))) (N zpv (N zai (N zai (L zoe) z) (N zai (L zrw) z)) (N zpX (N b950 (L zai) z) (N zoc (L zp3) z)))))) (N x.r.a.a.g (N x.r.a.b.c (N zai (N znl (N zpq (N zai (L zaw) (L zai)) (N b956 (L zn0) z)) (N zpC (N zq6 (L zoS) z) (N zaw (L zai) z))) (N zph (N zpE (N zqf (L zai) z) (N zai (L zrA) z)) (N zaw (N zaw (L zai) z) (N zl7 (L zqm) z)))) (N zl9 (N zoy (N zai (N zaw (L zn3) (L zq5)) (N b964 (L zai) z)) (N zai (N zai (L zn4) z) (N b996 (L zai) z))) (N zpw (N zps (N zqW (L zo7) z) (N b980 (L zqO) z)) (N zqQ (N b948 (L zaw) z) (N zai (L zqi) z))))) (N zlt (N zai (N znh (N zpn (N zrF (L zoJ) (L zai)) (N b960 (L zod) z)) (N zai (N zai (L zo0) z) (N zai (L zrj) z))) (N zpN (N zaw (N zqn (L zai) z) (N b976 (L zqZ) z)) (N zai (N b944 (L zok) z) (N zaw (L zqd) z)))) (N zm8 (N zom (N zai (N zq3 (L znJ) z) (N zai (L zai) z)) (N zrq (N b936 (L zai) z) (N zlX (L zai) z))) (N zpl (N zpo (N zrd (L zaw) z) (N b984 (L zaw) z)) (N zaw (N b952 (L znB) z) (N znK (L zq7) z))))))))
def m1163 : Heap := ⟨⟨[x.r.a.a.a, x.r.a.a.b, x.r.a.a.c, zrI, x.r.a.a.e, x.r.a.a.f, x.r.a.a.g, x.r.a.a.h, x.r.a.b.a, x.r.a.b.b, x.r.a.b.c, zai, zqR, zkR, zlt, zmH, zey, zmk, zai, zaw, zlK, zmc, zai, zlP, zpH, zm0, zl9, zlU, zga, zey, zm8, zai, zaw, znp, znl, zai, znb, zno, znh, zm9, zga, zey, zoy, zai, zaw, znC, zom, zai, zpe, znQ, zph, zoh, zga, zey, zpN, zai, zaw, zpG, zpw, zai, zpv, zpr, zpl, zpK, zai, zaw, zpq, zai, zpL, zpR, zpn, zai, zaw, zpO, zai, zpk, zpB, zpx, zai, zaw, zpt, zai, zpE, zpM, zpA, zai, zaw, zpF, zai, zpy, zps, zpm, zai, zaw, zpo, zai, zpQ, zpP, zpC, zai, zaw, zqy, zai, zqL, zqk, zqU, zai, zaw, zq8, zai, zrq, zrt, zpT, zai, zaw, zrv, zrc, zrC, zai, zaw, zrl, zai, zqQ, zrx, zpX, zai, zaw, zq9, zrn, zpZ, zai, zaw, zqI, zai, zrF, zry, zrs, zai, zaw, zrp, zai, zq1, zq3, zrK, zai, zaw, zqf, zai, zpS, zqA, zqn, zai, zaw, zrT, zqW, zrU, zai, zaw, zrd, zai, zrb, zp1, zq6, zai, zaw, zqt, zai, zrh, zrB, zp6, zai, zaw, b934, zai, b936, b937, b938, zai, zaw, b941, zai, b943, b944, b945, zai, zaw, b948, zai, b950, b951, b952, zai, zaw, b955, b956, b957, zai, zaw, b960, zai, b962, b963, b964, zai, zaw, b967, zai, b969, b970, b971, zai, zaw, b974, b975, b976, zai, zaw, b979, b980, b981, zai, zaw, b984, b985, b986, zai, zaw, b989, b990, b991, zai, zaw, b994, b995, b996, zai, zaw, b999, zlX, zmo, zai, zaw, zl7, zmY, zmU, zai, zaw, zms, zlZ, zmh, zai, zaw, zoc, zai, znK, zoZ, zoQ, zai, zaw, zoa, zai, zoC, zoJ, znM, zai, zaw, zn3, zai, znR, zoA, znJ, zai, zaw, zo2, zai, zoT, znY, zoR, zai, zaw, zpb, zai, zo7, zoz, zoe, zai, zaw, znP, zai, zoo, zoS, zn9, zai, zaw, zo0, zai, zoV, znH, zn4, zai, zaw, zou, zai, znF, zpd, zo5, zai, zaw, zoW, zai, zok, zpg, zof, zai, zaw, zoq, zai, zow, znB, zn6, zai, zaw, zn0, zai, zo9, zop, zod, zai, zaw, zpa, zai, zpj, zoM, zol, zai, zaw, zpY, zqq, zrA, zai, zaw, zqp, zqZ, zqu, zai, zaw, zqO, zrE, zrw, zai, zaw, zrH, zrz, zrm, zai, zaw, zrS, zru, zrj, zai, zaw, zqg, zai, zqj, zqs, zqY, zai, zaw, zqJ, zrR, zqm, zai, zaw, zp9, zqd, zrP, zai, zaw, zqi, zai, zp3, zqG, zq7, zai, zaw, zrk, zai, zpW, zqc, zp0, zai, zaw, zqx, zai, zq5, zp2, zqr]⟩, ⟨[], [], [], 0, [], [], false, #[], [], 0, false, false, false, 0, [2000, 10, 10], false, 0, true, [], [], 0, false⟩⟩
end
def m752v (p : Program) : Program := { p with main := { p.main with body := [sp p 1, sp p 2, sp p 3, sp p 4, sp p 6, sp p 7, sp p 8, sp p 9, sp p 10, sp p 11, sp p 12, sp p 13, sp p 14, sp p 15, sp p 17, sp p 18, sp p 20, sp p 21, sp p 22, sp p 23, sp p 24, sp p 25, sp p 26, sp p 27, sp p 28, sp p 29, sp p 30, sp p 31, sp p 32, sp p 33, sp p 34, sp p 35, sp p 36, sp p 37, sp p 38, sp p 39, sp p 40, sp p 41, sp p 42, sp p 44, sp p 45, sp p 46, sp p 47, sp p 48, sp p 49, sp p 50, sp p 51, sp p 52, sp p 53, sp p 54, sp p 55, sp p 56, sp p 57, sp p 58, sp p 59, sp p 60, sp p 61, sp p 62, sp p 63, sp p 64, sp p 65] } }
def m762s (p : Program) : List Stmt := [sp p 0, sp p 1]
def m777s (p : Program) : List Stmt := [sp p 2]
def m792s (p : Program) : List Stmt := [sp p 3]
def m807s (p : Program) : List Stmt := [sp p 4, sp p 5, sp p 6, sp p 7, sp p 8, sp p 9, sp p 10]
def m857s (p : Program) : List Stmt := [sp p 11, sp p 12, sp p 13, sp p 14, sp p 15, sp p 16, sp p 17, sp p 18, sp p 19, sp p 20, sp p 21, sp p 22, sp p 23, sp p 24, sp p 25, sp p 26, sp p 27]
def m930s (p : Program) : List Stmt := [sp p 28, sp p 29, sp p 30, sp p 31, sp p 32, sp p 33, sp p 34, sp p 35, sp p 36, sp p 37, sp p 38, sp p 39, sp p 40, sp p 41]
def m1012s (p : Program) : List Stmt := [sp p 42, sp p 43, sp p 44, sp p 45, sp p 46, sp p 47, sp p 48, sp p 49, sp p 50, sp p 51, sp p 52, sp p 53, sp p 54]
def m1098s (p : Program) : List Stmt := [sp p 55, sp p 56, sp p 57, sp p 58, sp p 59, sp p 60, sp p 61, sp p 62, sp p 63, sp p 64, sp p 65]
def u0 : Q Str := ⟨Str.ofString "<module>", Str.ofString "/claim/cut.py", Str.ofString "__main__", Str.ofString "__name__", Str.ofString "hideworth.errors", Str.ofString "__doc__", Str.ofString "__package__", Str.ofString "__loader__"⟩
def u1 : Q Str := ⟨Str.ofString "__spec__", Str.ofString "__annotations__", Str.ofString "__builtins__", Str.ofString "__file__", Str.ofString "__cached__", Str.ofString "HideError", Str.ofString "__module__", Str.ofString "__qualname__"⟩
def u2 : Q Str := ⟨Str.ofString "__firstlineno__", Str.ofString "__static_attributes__", Str.ofString "__weakref__", Str.ofString "NoNumber", Str.ofString "NoBoxes", Str.ofString "hideworth.ratios", Str.ofString "NoBudget", Str.ofString "divisor"⟩
def u3 : Q Str := ⟨Str.ofString "ratio", Str.ofString "plus", Str.ofString "minus", Str.ofString "times", Str.ofString "one", Str.ofString "other", Str.ofString "rest", Str.ofString "top"⟩
def u4 : Q Str := ⟨Str.ofString "bottom", Str.ofString "shared", Str.ofString "hideworth.boxes", Str.ofString "over", Str.ofString "below", Str.ofString "common", Str.ofString "shared_divisor", Str.ofString "lowest"⟩
def u5 : Q Str := ⟨Str.ofString "is_whole", Str.ofString "is_within", Str.ofString "MOST_BOXES", Str.ofString "MOST_COST", Str.ofString "MOST_OF", Str.ofString "MOST_BUDGET", Str.ofString "is_box", Str.ofString "look_boxes"⟩
def u6 : Q Str := ⟨Str.ofString "look_budget", Str.ofString "power", Str.ofString "numbers", Str.ofString "number", Str.ofString "thing", Str.ofString "hideworth.checks", Str.ofString "least", Str.ofString "most"⟩
def u7 : Q Str := ⟨Str.ofString "cost", Str.ofString "hits", Str.ofString "of", Str.ofString "budget", Str.ofString "base", Str.ofString "count", Str.ofString "product", Str.ofString "k"⟩
def u8 : Q Str := ⟨Str.ofString "missed", Str.ofString "chance", Str.ofString "gain", Str.ofString "cost_sum", Str.ofString "added", Str.ofString "least_chance", Str.ofString "fair_weights", Str.ofString "chance_for"⟩
def u9 : Q Str := ⟨Str.ofString "counts_and_worth", Str.ofString "look_shares", Str.ofString "mix_of", Str.ofString "paper_of", Str.ofString "sure_answer", Str.ofString "is_sure", Str.ofString "box", Str.ofString "fractions"⟩
def u10 : Q Str := ⟨Str.ofString "total", Str.ofString "fraction", Str.ofString "chances", Str.ofString "law_hideworth_k24_whole_no_mix_finds_more", Str.ofString "budget_worth", Str.ofString "_law_mix", Str.ofString "_law_cell_at", Str.ofString "_law_left"⟩
def u11 : Q Str := ⟨Str.ofString "_law_draw", Str.ofString "_law_boxes", Str.ofString "_law_whole", Str.ofString "_law_fraction", Str.ofString "_law_lowest", Str.ofString "_law_miss", Str.ofString "_law_plus", Str.ofString "_law_less"⟩
def u12 : Q Str := ⟨Str.ofString "boxes", Str.ofString "counts", Str.ofString "worth", Str.ofString "_law_number", Str.ofString "_law_k", Str.ofString "_law_mixed", Str.ofString "_law_script", Str.ofString "_law_cell"⟩
def u13 : Q Str := ⟨Str.ofString "_law_left_here", Str.ofString "_law_base", Str.ofString "_law_digit", Str.ofString "_law_most", Str.ofString "_law_found", Str.ofString "_law_cost", Str.ofString "_law_of", Str.ofString "_law_thing"⟩
def u14 : Q Str := ⟨Str.ofString "_law_one", Str.ofString "_law_other", Str.ofString "_law_top", Str.ofString "_law_bottom", Str.ofString "_law_box", Str.ofString "_law_many", Str.ofString "_law_turn", Str.ofString "_law_plan"⟩
def u15 : Q Str := ⟨Str.ofString "_law_price", Str.ofString "_law_chance", Str.ofString "_law_keeps", Str.ofString "_law_finds", Str.ofString "_law_marks", Str.ofString "_law_hides", Str.ofString "_law_drawn_mix", Str.ofString "_law_least"⟩
def u16 : Q Str := ⟨Str.ofString "_law_found_by_weights", Str.ofString "law", Str.ofString "_law_weight", Str.ofString "_law_price_here", Str.ofString "_law_count", Str.ofString "_law_gain", Str.ofString "_law_due", Str.ofString "_law_boxes_here"⟩
def u17 : Q Str := ⟨Str.ofString "_law_mix_here", Str.ofString "_law_least_here", Str.ofString "_law_chance_here", Str.ofString "_law_weights", Str.ofString "_law_plan_here", Str.ofString "_law_total", Str.ofString "_law_budget", Str.ofString "_law_worth"⟩
def u18 : Q Str := ⟨Str.ofString "_law_told", Str.ofString "_law_paper", Str.ofString "_law_counts", Str.ofString "_law_bound", Str.ofString "_law_beyond", Str.ofString "_law_beyond", Str.ofString "_law_beyond", Str.ofString "_law_beyond"⟩
def v0 : Q String := ⟨"tuple", "code", "frame", "dict", "__main__.__loader__#opaque", "ValueError", "builtin_function_or_method", "type.__prepare__"⟩
def v1 : Q String := ⟨"type", "Exception", "BaseException", "object", "ValueError.__new__", "getset_descriptor", "ExceptionGroup.__weakref__", "super"⟩
def v2 : Q String := ⟨"object.__init_subclass__", "function", "function", "function", "function", "function", "function", "function"⟩
def w0 (P : Params) : Q Obj := ⟨W.boot_o_0 P, W.boot_o_1 P, W.boot_o_2 P, W.boot_o_3 P, W.boot_o_4 P, W.boot_o_5 P, W.boot_o_6 P, W.boot_o_7 P⟩
def w1 (P : Params) : Q Obj := ⟨W.boot_o_8 P, W.boot_o_9 P, W.boot_o_10 P, W.boot_o_10 P, W.boot_o_10 P, W.boot_o_10 P, W.boot_o_10 P, W.boot_o_10 P⟩
lay_quick u0 u1 u2 u3 u4 u5 u6 u7 u8 u9 u10 u11 u12 u13 u14 u15 u16 u17 u18 v0 v1 v2 w0 w1 PySem.Challenge.pw_hideworth_k24_whole_no_mix_finds_more
def K (a' b' c' d' e' f' g' h' i' j' k' l' m' n' o' p' q' r' s' : Q Str) (t' u' v' : Q String) (w' x' : Params → Q Obj) (y' : Program) (P : Params) : X := ⟨⟨⟨a',b',c',d',e',f',g',h'⟩,⟨i',j',k',l',m',n',o',p'⟩,⟨q',r',s',s',s',s',s',s'⟩,⟨q',r',s',s',s',s',s',s'⟩,⟨q',r',s',s',s',s',s',s'⟩,⟨q',r',s',s',s',s',s',s'⟩,⟨q',r',s',s',s',s',s',s'⟩,⟨q',r',s',s',s',s',s',s'⟩⟩,⟨⟨t',u',v',v',v',v',v',v'⟩,⟨t',u',v',v',v',v',v',v'⟩,⟨t',u',v',v',v',v',v',v'⟩,⟨t',u',v',v',v',v',v',v'⟩,⟨t',u',v',v',v',v',v',v'⟩,⟨t',u',v',v',v',v',v',v'⟩,⟨t',u',v',v',v',v',v',v'⟩,⟨t',u',v',v',v',v',v',v'⟩⟩,⟨⟨w' P,x' P,x' P,x' P,x' P,x' P,x' P,x' P⟩,⟨w' P,x' P,x' P,x' P,x' P,x' P,x' P,x' P⟩,⟨w' P,x' P,x' P,x' P,x' P,x' P,x' P,x' P⟩,⟨w' P,x' P,x' P,x' P,x' P,x' P,x' P,x' P⟩,⟨w' P,x' P,x' P,x' P,x' P,x' P,x' P,x' P⟩,⟨w' P,x' P,x' P,x' P,x' P,x' P,x' P,x' P⟩,⟨w' P,x' P,x' P,x' P,x' P,x' P,x' P,x' P⟩,⟨w' P,x' P,x' P,x' P,x' P,x' P,x' P,x' P⟩⟩,y',P⟩
def k0 := K u0 u1 u2 u3 u4 u5 u6 u7 u8 u9 u10 u11 u12 u13 u14 u15 u16 u17 u18 v0 v1 v2 w0 w1 PySem.Challenge.pw_hideworth_k24_whole_no_mix_finds_more
def k1 := K tw13894225608423057668 tw17531079430653816501 tw13809737476558091540 tw2367299412457286945 tw1912701158020654693 tw2188347355606102534 tw16368670287772101220 tw14842115654739255404 tw4717311838995323452 tw594758545415977400 tw10895325593200808953 tw10037743213843438893 tw10009084784789568687 tw5084553986333570498 tw16641277437810104112 tw11875653558476324687 tw1672153094372761355 tw4580522010931877059 tw15163288008780518816 tw15633551313878501473 tw10735261366311057212 tw13734974896645664886 tw1278260381020688717 tw13492767390215788210 tw9530674703378188003
theorem ke : k0 = k1 := by
  unfold k0 k1
  rw [te13894225608423057668, te17531079430653816501, te13809737476558091540, te2367299412457286945, te1912701158020654693, te2188347355606102534, te16368670287772101220, te14842115654739255404, te4717311838995323452, te594758545415977400, te10895325593200808953, te10037743213843438893, te10009084784789568687, te5084553986333570498, te16641277437810104112, te11875653558476324687, te1672153094372761355, te4580522010931877059, te15163288008780518816, te15633551313878501473, te10735261366311057212, te13734974896645664886, te1278260381020688717, te13492767390215788210, te9530674703378188003]
theorem kE {β : Type _} (f : X → β) : (fun P => f (k0 P)) = fun P => f (k1 P) := congrArg (fun y P => f (y P)) ke
end Hd
namespace PySem.W.Fast
def tw11588825525495657021 : Program := Hd.m752v tw9530674703378188003
theorem te11588825525495657021 : Hd.m752v PySem.Challenge.pw_hideworth_k24_whole_no_mix_finds_more = tw11588825525495657021 := congrArg Hd.m752v te9530674703378188003
def tw5186017814848514852 (P : Params) : Heap := @Hd.m759 (Hd.k1 P)
theorem te5186017814848514852 : (fun P => @Hd.m759 (Hd.k0 P)) = tw5186017814848514852 := Hd.kE @Hd.m759
def tw10518449299393794908 (P : Params) : BT := @Hd.m760 (Hd.k1 P)
theorem te10518449299393794908 : (fun P => @Hd.m760 (Hd.k0 P)) = tw10518449299393794908 := Hd.kE @Hd.m760
def tw16241743954387070110 : List Stmt := Hd.m762s tw9530674703378188003
theorem te16241743954387070110 : Hd.m762s PySem.Challenge.pw_hideworth_k24_whole_no_mix_finds_more = tw16241743954387070110 := congrArg Hd.m762s te9530674703378188003
def tw14125040642123791682 (P : Params) : BT := @Hd.m776 (Hd.k1 P)
theorem te14125040642123791682 : (fun P => @Hd.m776 (Hd.k0 P)) = tw14125040642123791682 := Hd.kE @Hd.m776
def tw5815940837067855499 : List Stmt := Hd.m777s tw9530674703378188003
theorem te5815940837067855499 : Hd.m777s PySem.Challenge.pw_hideworth_k24_whole_no_mix_finds_more = tw5815940837067855499 := congrArg Hd.m777s te9530674703378188003
def tw8898181643705027950 (P : Params) : BT := @Hd.m791 (Hd.k1 P)
theorem te8898181643705027950 : (fun P => @Hd.m791 (Hd.k0 P)) = tw8898181643705027950 := Hd.kE @Hd.m791
def tw10489065368564933185 : List Stmt := Hd.m792s tw9530674703378188003
theorem te10489065368564933185 : Hd.m792s PySem.Challenge.pw_hideworth_k24_whole_no_mix_finds_more = tw10489065368564933185 := congrArg Hd.m792s te9530674703378188003
def tw9253540493322029507 (P : Params) : BT := @Hd.m806 (Hd.k1 P)
theorem te9253540493322029507 : (fun P => @Hd.m806 (Hd.k0 P)) = tw9253540493322029507 := Hd.kE @Hd.m806
def tw7967018621894429892 : List Stmt := Hd.m807s tw9530674703378188003
theorem te7967018621894429892 : Hd.m807s PySem.Challenge.pw_hideworth_k24_whole_no_mix_finds_more = tw7967018621894429892 := congrArg Hd.m807s te9530674703378188003
def tw12788496205236264144 (P : Params) : BT := @Hd.m856 (Hd.k1 P)
theorem te12788496205236264144 : (fun P => @Hd.m856 (Hd.k0 P)) = tw12788496205236264144 := Hd.kE @Hd.m856
def tw1986017104941806121 : List Stmt := Hd.m857s tw9530674703378188003
theorem te1986017104941806121 : Hd.m857s PySem.Challenge.pw_hideworth_k24_whole_no_mix_finds_more = tw1986017104941806121 := congrArg Hd.m857s te9530674703378188003
def tw16148223637097018061 (P : Params) : BT := @Hd.m929 (Hd.k1 P)
theorem te16148223637097018061 : (fun P => @Hd.m929 (Hd.k0 P)) = tw16148223637097018061 := Hd.kE @Hd.m929
def tw3429559862385911288 : List Stmt := Hd.m930s tw9530674703378188003
theorem te3429559862385911288 : Hd.m930s PySem.Challenge.pw_hideworth_k24_whole_no_mix_finds_more = tw3429559862385911288 := congrArg Hd.m930s te9530674703378188003
def tw18093960721066287644 (P : Params) : BT := @Hd.m1011 (Hd.k1 P)
theorem te18093960721066287644 : (fun P => @Hd.m1011 (Hd.k0 P)) = tw18093960721066287644 := Hd.kE @Hd.m1011
def tw719082629466213269 : List Stmt := Hd.m1012s tw9530674703378188003
theorem te719082629466213269 : Hd.m1012s PySem.Challenge.pw_hideworth_k24_whole_no_mix_finds_more = tw719082629466213269 := congrArg Hd.m1012s te9530674703378188003
def tw17318201934512730409 (P : Params) : BT := @Hd.m1097 (Hd.k1 P)
theorem te17318201934512730409 : (fun P => @Hd.m1097 (Hd.k0 P)) = tw17318201934512730409 := Hd.kE @Hd.m1097
def tw17909172822004218265 : List Stmt := Hd.m1098s tw9530674703378188003
theorem te17909172822004218265 : Hd.m1098s PySem.Challenge.pw_hideworth_k24_whole_no_mix_finds_more = tw17909172822004218265 := congrArg Hd.m1098s te9530674703378188003
def tw15694474446990785853 (P : Params) : BT := @Hd.m1162 (Hd.k1 P)
theorem te15694474446990785853 : (fun P => @Hd.m1162 (Hd.k0 P)) = tw15694474446990785853 := Hd.kE @Hd.m1162
def tw13035078368907242451 (P : Params) : Heap := @Hd.m1163 (Hd.k1 P)
theorem te13035078368907242451 : (fun P => @Hd.m1163 (Hd.k0 P)) = tw13035078368907242451 := Hd.kE @Hd.m1163
end PySem.W.Fast
end
open PySem PySem.W PyProof.Rows PySem.W.X PySem.W.ZRun
set_option maxRecDepth 100000 in
set_option maxHeartbeats 0 in
theorem PySem.Challenge.cw_hideworth_k24_whole_no_mix_finds_more_holds : PySem.Challenge.rw_hideworth_k24_whole_no_mix_finds_more.Holds := by
 w_on;o_law;z_head;(case hw=>w_witness2)
 k_fill
 intro w s0 s1 m0 m1 G Y fa o pm cd doc dV kV ho hd hc hD hm hg xs vs as L h1 h2 h3 h4 h5
 z_open Y L KX ZH ZN ZT
 refine My.walk_at (l:=PySem.Challenge.rw_hideworth_k24_whole_no_mix_finds_more) KX (fun W=>W w s0 s1 m0 m1 G KX fa o pm cd doc dV kV ho hd hc hD hm hg xs vs as h1 h2 h3 h4 h5) (My.walk (l:=PySem.Challenge.rw_hideworth_k24_whole_no_mix_finds_more) rfl rfl (fun _ _ h=>h) ?F)
 case F =>
  intro w mg fa h KX G hmg
  refine' My.zqe KX G hmg (My.zrf KX G (L2.zaP ?l0 ?c0 ?k0) (mg_of KX G ?a0) (L2.zaP ?l1 ?c1 ?k1) (mg_of KX G ?a1) (L2.zaP ?l2 ?c2 ?k2) (mg_of KX G ?a2) (L2.zaP ?l3 ?c3 ?k3) (mg_of KX G ?a3) (L2.zaP ?l4 ?c4 ?k4) (mg_of KX G ?a4) (L2.zaP ?l5 ?c5 ?k5) (mg_of KX G ?a5) (L2.zaP ?l6 ?c6 ?k6) (mg_of KX G ?a6) (L2.zaP ?l7 ?c7 ?k7) (mg_of KX G ?a7) (L2.zaP ?l8 ?c8 ?k8) (mg_of KX G ?a8) (L2.zaP ?l9 ?c9 ?k9) (mg_of KX G ?a9) (L2.zaP ?l10 ?c10 ?k10) (mg_of KX G ?a10) (L2.zaP ?l11 ?c11 ?k11) (mg_of KX G ?a11) (L2.zaP ?l12 ?c12 ?k12) (mg_of KX G ?a12) (L2.zaP ?l13 ?c13 ?k13) (mg_of KX G ?a13) (L2.zaP ?l14 ?c14 ?k14) (mg_of KX G ?a14) (L2.zaP ?l15 ?c15 ?k15) (mg_of KX G ?a15) (L2.zaP ?l16 ?c16 ?k16) (mg_of KX G ?a16) (L2.zaP ?l17 ?c17 ?k17) (mg_of KX G ?a17) (L2.zaP ?l18 ?c18 ?k18) (mg_of KX G ?a18) (L2.zaP ?l19 ?c19 ?k19) (mg_of KX G ?a19) (L2.zaP ?l20 ?c20 ?k20) (mg_of KX G ?a20) (L2.zaP ?l21 ?c21 ?k21) (mg_of KX G ?a21) (L2.zaP ?l22 ?c22 ?k22) (mg_of KX G ?a22) (L2.zaP ?l23 ?c23 ?k23) (mg_of KX G ?a23) (L2.zaP ?l24 ?c24 ?k24) (mg_of KX G ?a24) (L2.zaP ?l25 ?c25 ?k25) (mg_of KX G ?a25) (L2.zaP ?l26 ?c26 ?k26) (mg_of KX G ?a26) (L2.zaP ?l27 ?c27 ?k27) (mg_of KX G ?a27) (L2.zaP ?l28 ?c28 ?k28) (mg_of KX G ?a28) (L2.zaP ?l29 ?c29 ?k29) (mg_of KX G ?a29) (L2.zaP ?l30 ?c30 ?k30) (mg_of KX G ?a30) (L2.zaP ?l31 ?c31 ?k31) (mg_of KX G ?a31) (L2.zaP ?l32 ?c32 ?k32) (mg_of KX G ?a32) (L2.zaP ?l33 ?c33 ?k33) (mg_of KX G ?a33) (L2.zaP ?l34 ?c34 ?k34) (mg_of KX G ?a34) (L2.zaP ?l35 ?c35 ?k35) (mg_of KX G ?a35) (L2.zaP ?l36 ?c36 ?k36) (mg_of KX G ?a36) (L2.zaP ?l37 ?c37 ?k37) (mg_of KX G ?a37) (L2.zaP ?l38 ?c38 ?k38) (mg_of KX G ?a38) (L2.zaP ?l39 ?c39 ?k39) (mg_of KX G ?a39) (L2.zaP ?l40 ?c40 ?k40) (mg_of KX G ?a40) (L2.zaP ?l41 ?c41 ?k41) (mg_of KX G ?a41) (L2.zaP ?l42 ?c42 ?k42) (mg_of KX G ?a42) (L2.zaP ?l43 ?c43 ?k43) (mg_of KX G ?a43) (L2.zaP ?l44 ?c44 ?k44) (mg_of KX G ?a44) (L2.zaP ?l45 ?c45 ?k45) (mg_of KX G ?a45) (L2.zaP ?l46 ?c46 ?k46) (mg_of KX G ?a46) (L2.zaP ?l47 ?c47 ?k47) (mg_of KX G ?a47) (L2.zaP ?l48 ?c48 ?k48) (mg_of KX G ?a48) (mg_none_of KX G ?z_set) (mg_none_of KX G ?z_isinstance) (mg_none_of KX G ?z_range) (mg_none_of KX G ?z_all) (mg_none_of KX G ?z_sorted) (mg_none_of KX G ?z_abs) (mg_none_of KX G ?z_sum) (mg_none_of KX G ?z_len) (mg_none_of KX G ?z_list) (mg_none_of KX G ?z_zip) (mg_none_of KX G ?z_int) (mg_none_of KX G ?z_bool) (mg_none_of KX G ?z_tuple) (mg_none_of KX G ?z_max) (mg_of KX G ?ac_NoNumber) (mg_of KX G ?ac_NoBoxes) (mg_of KX G ?ac_NoBudget) (mg_of KX G ?ak_MOST_BOXES) (mg_of KX G ?ak_MOST_COST) (mg_of KX G ?ak_MOST_OF) (mg_of KX G ?ak_MOST_BUDGET) ?xc_NoNumber ?xc_NoBoxes ?xc_NoBudget)
  (case a0=>k_is);(case l0=>k_is);(case c0=>k_is);(case k0=>k_is)
  (case a1=>k_is);(case l1=>k_is);(case c1=>k_is);(case k1=>k_is)
  (case a2=>k_is);(case l2=>k_is);(case c2=>k_is);(case k2=>k_is)
  (case a3=>k_is);(case l3=>k_is);(case c3=>k_is);(case k3=>k_is)
  (case a4=>k_is);(case l4=>k_is);(case c4=>k_is);(case k4=>k_is)
  (case a5=>k_is);(case l5=>k_is);(case c5=>k_is);(case k5=>k_is)
  (case a6=>k_is);(case l6=>k_is);(case c6=>k_is);(case k6=>k_is)
  (case a7=>k_is);(case l7=>k_is);(case c7=>k_is);(case k7=>k_is)
  (case a8=>k_is);(case l8=>k_is);(case c8=>k_is);(case k8=>k_is)
  (case a9=>k_is);(case l9=>k_is);(case c9=>k_is);(case k9=>k_is)
  (case a10=>k_is);(case l10=>k_is);(case c10=>k_is);(case k10=>k_is)
  (case a11=>k_is);(case l11=>k_is);(case c11=>k_is);(case k11=>k_is)
  (case a12=>k_is);(case l12=>k_is);(case c12=>k_is);(case k12=>k_is)
  (case a13=>k_is);(case l13=>k_is);(case c13=>k_is);(case k13=>k_is)
  (case a14=>k_is);(case l14=>k_is);(case c14=>k_is);(case k14=>k_is)
  (case a15=>k_is);(case l15=>k_is);(case c15=>k_is);(case k15=>k_is)
  (case a16=>k_is);(case l16=>k_is);(case c16=>k_is);(case k16=>k_is)
  (case a17=>k_is);(case l17=>k_is);(case c17=>k_is);(case k17=>k_is)
  (case a18=>k_is);(case l18=>k_is);(case c18=>k_is);(case k18=>k_is)
  (case a19=>k_is);(case l19=>k_is);(case c19=>k_is);(case k19=>k_is)
  (case a20=>k_is);(case l20=>k_is);(case c20=>k_is);(case k20=>k_is)
  (case a21=>k_is);(case l21=>k_is);(case c21=>k_is);(case k21=>k_is)
  (case a22=>k_is);(case l22=>k_is);(case c22=>k_is);(case k22=>k_is)
  (case a23=>k_is);(case l23=>k_is);(case c23=>k_is);(case k23=>k_is)
  (case a24=>k_is);(case l24=>k_is);(case c24=>k_is);(case k24=>k_is)
  (case a25=>k_is);(case l25=>k_is);(case c25=>k_is);(case k25=>k_is)
  (case a26=>k_is);(case l26=>k_is);(case c26=>k_is);(case k26=>k_is)
  (case a27=>k_is);(case l27=>k_is);(case c27=>k_is);(case k27=>k_is)
  (case a28=>k_is);(case l28=>k_is);(case c28=>k_is);(case k28=>k_is)
  (case a29=>k_is);(case l29=>k_is);(case c29=>k_is);(case k29=>k_is)
  (case a30=>k_is);(case l30=>k_is);(case c30=>k_is);(case k30=>k_is)
  (case a31=>k_is);(case l31=>k_is);(case c31=>k_is);(case k31=>k_is)
  (case a32=>k_is);(case l32=>k_is);(case c32=>k_is);(case k32=>k_is)
  (case a33=>k_is);(case l33=>k_is);(case c33=>k_is);(case k33=>k_is)
  (case a34=>k_is);(case l34=>k_is);(case c34=>k_is);(case k34=>k_is)
  (case a35=>k_is);(case l35=>k_is);(case c35=>k_is);(case k35=>k_is)
  (case a36=>k_is);(case l36=>k_is);(case c36=>k_is);(case k36=>k_is)
  (case a37=>k_is);(case l37=>k_is);(case c37=>k_is);(case k37=>k_is)
  (case a38=>k_is);(case l38=>k_is);(case c38=>k_is);(case k38=>k_is)
  (case a39=>k_is);(case l39=>k_is);(case c39=>k_is);(case k39=>k_is)
  (case a40=>k_is);(case l40=>k_is);(case c40=>k_is);(case k40=>k_is)
  (case a41=>k_is);(case l41=>k_is);(case c41=>k_is);(case k41=>k_is)
  (case a42=>k_is);(case l42=>k_is);(case c42=>k_is);(case k42=>k_is)
  (case a43=>k_is);(case l43=>k_is);(case c43=>k_is);(case k43=>k_is)
  (case a44=>k_is);(case l44=>k_is);(case c44=>k_is);(case k44=>k_is)
  (case a45=>k_is);(case l45=>k_is);(case c45=>k_is);(case k45=>k_is)
  (case a46=>k_is);(case l46=>k_is);(case c46=>k_is);(case k46=>k_is)
  (case a47=>k_is);(case l47=>k_is);(case c47=>k_is);(case k47=>k_is)
  (case a48=>k_is);(case l48=>k_is);(case c48=>k_is);(case k48=>k_is)
  (case z_set=>k_is)
  (case z_isinstance=>k_is)
  (case z_range=>k_is)
  (case z_all=>k_is)
  (case z_sorted=>k_is)
  (case z_abs=>k_is)
  (case z_sum=>k_is)
  (case z_len=>k_is)
  (case z_list=>k_is)
  (case z_zip=>k_is)
  (case z_int=>k_is)
  (case z_bool=>k_is)
  (case z_tuple=>k_is)
  (case z_max=>k_is)
  (case ac_NoNumber=>k_is)
  (case ac_NoBoxes=>k_is)
  (case ac_NoBudget=>k_is)
  (case ak_MOST_BOXES=>k_is)
  (case ak_MOST_COST=>k_is)
  (case ak_MOST_OF=>k_is)
  (case ak_MOST_BUDGET=>k_is)
  (case xc_NoNumber=>k_exc)
  (case xc_NoBoxes=>k_exc)
  (case xc_NoBudget=>k_exc)
