import PyProof.Rows.All
import Wide.All
import OpenK.AllK
import Wide.FinOn
import Lean
import PyProof.EqAt
import PyProof.EqKinds
import PyProof.TupleCall
import KE.IntBitsLaws
import PyProof.NeKinds
import KE.KIsAll
import PyProof.ExcAttrAll.ValueError
import KE.RegKIsAll
import OpenK.KOwn
import PyProof.ConsumeWalk
import PyProof.SumWalkG
import PyProof.Rows.SeqCalls
import PyProof.Rows.SeqGen
import PyProof.ZipIter
import PyProof.Rows.ZipGen
import PyProof.Rows.FactsT2
import PyProof.WalkInts
import PyProof.SeqI3
import PyProof.AutoSeq1
import PyProof.WalksEnum
import PyProof.EnumMake
import PyProof.ListRange
import KE.KEqSeq
import PyProof.IsRules
import PyProof.ExcInit
import PyProof.InstStoreFacts
import KE.KLam
import KE.KMinKey
import OpenK.ZGo
import PySem.Challenge.RW_hideworth_k11_whole_worths_of_tables
set_option Elab.async false
set_option linter.all false
set_option maxRecDepth 100000
namespace L2
open PySem PySem.Spec PyProof.Rows
abbrev Key:=Sum Int Str
def zpq:Key→Value→Bool
 | .inl k,v=>Value.isInt k v
 | .inr x,v=>Value.isStrOf x v
def keyH (w:World):Key→Int
 | .inl k=>hashInt k
 | .inr x=>hashStr w x
theorem zbM:∀ {k:Key} {v:Value},zpq k v=true→(∃ i t,k=Sum.inl i∧v=Value.int i t)∨(∃ x t,k=Sum.inr x∧v=Value.str x t)
 | .inl i,v,h=>by
  obtain ⟨t,e⟩:=Value.isInt_shape (k:=i) (v:=v) h
  exact .inl ⟨i,t,rfl,e⟩
 | .inr x,v,h=>by
  obtain ⟨t,e⟩:=Value.isStrOf_shape (x:=x) (v:=v) h
  exact .inr ⟨x,t,rfl,e⟩
theorem zo3 (a b:Int):decide ((Sum.inl a:Key)=Sum.inl b)=(a == b):=by
 by_cases e:a=b
 ·subst e;simp
 ·have h:¬ (Sum.inl a:Key)=Sum.inl b:=fun q=>e (Sum.inl.inj q)
  rw [decide_eq_false h]
  exact (beq_eq_false_iff_ne.mpr e).symm
theorem zoW (a b:Str):decide ((Sum.inr a:Key)=Sum.inr b)=decide (a=b):=by
 by_cases e:a=b
 ·subst e;simp
 ·have h:¬ (Sum.inr a:Key)=Sum.inr b:=fun q=>e (Sum.inr.inj q)
  rw [decide_eq_false h,decide_eq_false e]
theorem zpi (a:Int) (b:Str):decide ((Sum.inl a:Key)=Sum.inr b)=false:=decide_eq_false (fun q=>nomatch q)
theorem zpK (a:Str) (b:Int):decide ((Sum.inr a:Key)=Sum.inl b)=false:=decide_eq_false (fun q=>nomatch q)
def zi1 (prog:Program) (w:World):PySem.KeyKind prog w Key where
 is:=zpq
 hash:=keyH w
 inj:=fun v a b ha hb=>by
  rcases zbM ha with ⟨i,t,rfl,rfl⟩ | ⟨x,t,rfl,rfl⟩
  ·rcases zbM hb with ⟨j,u,rfl,e⟩ | ⟨y,u,rfl,e⟩
   ·injection e with e1 _;rw [e1]
   ·exact nomatch e
  ·rcases zbM hb with ⟨j,u,rfl,e⟩ | ⟨y,u,rfl,e⟩
   ·exact nomatch e
   ·injection e with e1 _;rw [e1]
 byValue:=fun k v h=>by
  rcases zbM h with ⟨i,t,rfl,rfl⟩ | ⟨x,t,rfl,rfl⟩ <;> rfl
 pyHash:=fun hv h=>by
  rcases zbM hv with ⟨i,t,rfl,rfl⟩ | ⟨x,t,rfl,rfl⟩
  ·exact wpAny_pyHash_int h
  ·exact wpAny_pyHash_str h
 eqBool:=fun hu hv h=>by
  rcases zbM hu with ⟨i,t,rfl,rfl⟩ | ⟨x,t,rfl,rfl⟩
  ·rcases zbM hv with ⟨j,u,rfl,rfl⟩ | ⟨y,u,rfl,rfl⟩
   ·rw [zo3] at h;exact wpAny_eqBool_int h
   ·rw [zpi] at h;exact SeqAt.EqAt.int_str i t y u _ _ _ _ h
  ·rcases zbM hv with ⟨j,u,rfl,rfl⟩ | ⟨y,u,rfl,rfl⟩
   ·rw [zpK] at h;exact SeqAt.EqAt.str_int x t j u _ _ _ _ h
   ·rw [zoW] at h;exact wpAny_eqBool_str h
 «strs»:=fun k x t v h=>by
  rcases zbM h with ⟨i,u,rfl,e⟩ | ⟨y,u,rfl,e⟩
  ·exact nomatch e
  ·injection e with e1 _
   subst e1
   cases v <;> rfl
end L2
namespace L2
open PySem PySem.Spec PyProof.Rows
inductive V where
 | non | bl (b:Bool) | int (i:Int) | str (x:Str) | byt (b:Array UInt8) | flt (b:UInt64) | ref (a:Addr) | ty (n:String)
 deriving DecidableEq
def zb5:V→Value→Prop
 | .non,u=>u=Value.none
 | .bl b,u=>u=Value.bool b
 | .int i,u=>∃ t,u=Value.int i t
 | .str x,u=>∃ t,u=Value.str x t
 | .byt b,u=>∃ t,u=Value.bytes b t
 | .flt b,u=>∃ t,u=Value.float b t
 | .ref a,u=>u=Value.ref a
 | .ty n,u=>u=Value.type n
abbrev zbU:List V→List Value→Prop:=Paired zb5
theorem zbU.length {xs:List V} {us:List Value} (r:zbU xs us):xs.length=us.length:=Paired.length r
theorem zbU.get:∀ {xs:List V} {us:List Value} {i:Nat} {x:V},zbU xs us→xs[i]?=some x→∃ u,us[i]?=some u∧zb5 x u
 | _,_,_,_,.nil,e=>by simp at e
 | _,_,0,_,.cons r _,e=>by simp at e;subst e;exact ⟨_,rfl,r⟩
 | _,_,i+1,x,.cons _ t,e=>by
  obtain ⟨u,h1,h2⟩:=zbU.get (i:=i) (x:=x) t (by simpa using e)
  exact ⟨u,by simpa using h1,h2⟩
theorem zbU.set {x:V} {u:Value} (r:zb5 x u):∀ {xs:List V} {us:List Value} (i:Nat),zbU xs us→zbU (xs.set i x) (us.set i u)
 | _,_,_,.nil=>.nil
 | _,_,0,.cons _ t=>.cons r t
 | _,_,i+1,.cons q t=>.cons q (zbU.set r i t)
theorem zbU.append:∀ {xs ys:List V} {us ws:List Value},zbU xs us→zbU ys ws→zbU (xs++ys) (us++ws)
 | _,_,_,_,.nil,s=>s
 | _,_,_,_,.cons r t,s=>.cons r (zbU.append t s)
theorem zbU.take:∀ {xs:List V} {us:List Value} (n:Nat),zbU xs us→zbU (xs.take n) (us.take n)
 | _,_,0,_=>.nil
 | _,_,_+1,.nil=>.nil
 | _,_,n+1,.cons r t=>.cons r (zbU.take n t)
theorem zbU.drop:∀ {xs:List V} {us:List Value} (n:Nat),zbU xs us→zbU (xs.drop n) (us.drop n)
 | _,_,0,r=>r
 | _,_,_+1,.nil=>.nil
 | _,_,n+1,.cons _ t=>zbU.drop n t
def zlG:Option V→Option Value→Prop
 | some v,some u=>zb5 v u
 | none,none=>True
 | _,_=>False
def KV {κ:Type}:List (κ×V)→List (κ×Value)→Prop:=Paired fun (p:κ×V) (q:κ×Value)=>p.1=q.1∧zb5 p.2 q.2
def kV:Key→V
 | .inl i=>.int i
 | .inr x=>.str x
inductive HO where
  | lst (xs:List V)
  | tup (xs:List V)
  | dK (kvs:List (Key×V)) | dT (kvs:List (List Key×V))
  | set (S:Int→Bool) (n:Nat)
  | ins (C dx:Addr) (fs:List (Str×V))
  | own (x:Addr)
  | xd (fs:List (Str×V))
  | met (f x:Addr)
  | rng (lo hi:Int)
  | frz (o:Obj) (u:HO)
  | tbl (ps:Array Value)
  | ext (φ:Heap→Prop)
abbrev Hp:=Addr→Option HO
def upd (H:Hp) (a:Addr) (o:HO):Hp:=fun b=>if b=a then some o else H b
theorem zaf {H:Hp} {a:Addr} {o:HO}:upd H a o a=some o:=by unfold upd;rw [if_pos rfl]
theorem zam {H:Hp} {a b:Addr} {o:HO} (h:b≠a):upd H a o b=H b:=by unfold upd;rw [if_neg h]
theorem zhT {H:Hp} {a:Addr} {o u:HO}:upd (upd H a o) a u=upd H a u:=by
 funext b;unfold upd;split <;> rfl
theorem zaY {H:Hp} {a b:Addr} {o:HO} (h:H a=some o) (h':H b=none):a≠b:=by
 intro e;subst e;rw [h] at h';cases h'
section
variable (P:Program) (w:World)
def zcZ (H:Hp) (h:Heap) (a:Addr):HO→Prop
 | .lst xs=>xs.length≤sizeLine∧∃ (its:List Value) (n:Nat),zbU xs its∧h.get? a=some { cls:=.type "list",data:=.seq its.toArray n }
 | .tup xs=>xs.length≤sizeLine∧∃ its:List Value,zbU xs its∧IsTup h a its.toArray
 | .dK kvs=>kvs.length≤sizeLine∧(a == sysModules)=false∧∃ vs,KV kvs vs∧h.DictOf (zi1 P w) a vs
 | .dT kvs=>kvs.length≤sizeLine∧(a == sysModules)=false∧∃ xs:List (List Key×Addr×Value),
   Paired (fun (p:List Key×V) (q:List Key×Addr×Value)=>p.1=q.1∧H q.2.1=some (.tup (p.1.map kV))∧zb5 p.2 q.2.2) kvs xs ∧
   ∃ o es ep,h.get? a=some o∧o.ExactDict∧o.data=.dict es ep∧es.toList=xs.map (entryOfKey (tupleKind (zi1 P w)))∧(xs.map (·.1)).Nodup
 | .set S n=>h.SetOf (intKind P w) a S n
 | .ins C dx fs=>H dx=some (.own a)∧fs.length≤1000∧dx≠a∧h.get? a=some (PySem.W.instObj C dx) ∧
   ∃ mA,h.Ns1 dx mA∧(∀ f,zlG (fs.lookup f) (mA f))∧PySem.Within mA (fs.map (·.1))
 | .own _=>∃ o,h.get? a=some o
 | .xd fs=>∃ mA,h.Ns1 a mA∧∀ f,zlG (fs.lookup f) (mA f)
 | .rng lo hi=>∃ t u v,h.get? a=some { cls:=.type "range",data:=.fields #[.int lo t,.int hi u,.int 1 v] }
 | .frz o u=>h.get? a=some o∧zcZ H h a u
 | .tbl ps=>h.get? a=some { cls:=.none,data:=.fields ps }
 | .met f x=>h.get? a=some (PySem.W.methodObj (.ref f) (.ref x))
 | .ext φ=>φ h∧(∃ o,h.get? a=some o)∧∀ h1 h2:Heap,φ h1→(∀ o,h1.get? a=some o→h2.get? a=some o)→φ h2
def HOk (H:Hp) (h:Heap):Prop:=∀ a o,H a=some o→zcZ P w H h a o
end
section
variable {P:Program} {w:World} {H H':Hp} {h h':Heap} {a:Addr} {o:HO}
theorem zcZ.lt (x:zcZ P w H h a o):a<h.objs.size:=by
 cases o with
 | lst xs=>obtain ⟨_,_,_,_,e⟩:=x;exact Heap.lt_size e
 | tup xs=>obtain ⟨_,_,_,p⟩:=x;exact p.lt
 | dK kvs=>obtain ⟨_,_,_,_,o,_,_,e,_⟩:=x;exact Heap.lt_size e
 | dT kvs=>obtain ⟨_,_,_,_,o,_,_,e,_⟩:=x;exact Heap.lt_size e
 | set S n=>obtain ⟨o,_,_,_,e,_⟩:=x;exact Heap.lt_size e
 | ins C dx fs=>obtain ⟨_,_,_,e,_⟩:=x;exact Heap.lt_size e
 | own y=>obtain ⟨_,e⟩:=x;exact Heap.lt_size e
 | xd fs=>obtain ⟨_,⟨_,_,_,e,_⟩,_⟩:=x;exact Heap.lt_size e
 | rng lo hi=>obtain ⟨_,_,_,e⟩:=x;exact Heap.lt_size e
 | frz ob u=>obtain ⟨e,_⟩:=x;exact Heap.lt_size e
 | tbl ps=>exact Heap.lt_size (show h.get? a=some _ from x)
 | met f y=>exact Heap.lt_size (show h.get? a=some _ from x)
 | ext φ=>obtain ⟨_,⟨_,e⟩,_⟩:=x;exact Heap.lt_size e
theorem Paired.mapP {α β:Type} {F G:α→β→Prop}:∀ {l₁:List α} {l₂:List β},Paired F l₁ l₂→(∀ a b,F a b→G a b)→Paired G l₁ l₂
 | _,_,.nil,_=>.nil
 | _,_,.cons r t,f=>.cons (f _ _ r) (Paired.mapP t f)
theorem zcZ.stay (x:zcZ P w H h a o) (k:∀ b u,(b=a∨H b=some (.own a))→h.get? b=some u→h'.get? b=some u)
  (ho:∀ b,H b=some (.own a)→H' b=some (.own a)) (ht:∀ b xs,H b=some (.tup xs)→H' b=some (.tup xs)):zcZ P w H' h' a o:=by
 induction o with
 | lst xs=>obtain ⟨z,its,n,r,e⟩:=x;exact ⟨z,its,n,r,k _ _ (.inl rfl) e⟩
 | tup xs=>obtain ⟨z,its,r,ob,e,c⟩:=x;exact ⟨z,its,r,ob,k _ _ (.inl rfl) e,c⟩
 | dK kvs=>obtain ⟨z,y,vs,r,ob,es,ep,e,c⟩:=x;exact ⟨z,y,vs,r,ob,es,ep,k _ _ (.inl rfl) e,c⟩
 | dT kvs =>
  obtain ⟨z,y,xs,r,ob,es,ep,e,c⟩:=x
  exact ⟨z,y,xs,Paired.mapP r fun p q z=>⟨z.1,ht _ _ z.2.1,z.2.2⟩,ob,es,ep,k _ _ (.inl rfl) e,c⟩
 | set S n=>obtain ⟨ob,es,ep,t,e,c⟩:=x;exact ⟨ob,es,ep,t,k _ _ (.inl rfl) e,c⟩
 | ins C dx fs =>
  obtain ⟨d,z,ne,e,mA,⟨od,es,ep,e2,c⟩,r⟩:=x
  exact ⟨ho _ d,z,ne,k _ _ (.inl rfl) e,mA,⟨od,es,ep,k _ _ (.inr d) e2,c⟩,r⟩
 | own y=>obtain ⟨ob,e⟩:=x;exact ⟨ob,k _ _ (.inl rfl) e⟩
 | xd fs=>obtain ⟨mA,⟨od,es,ep,e,c⟩,r⟩:=x;exact ⟨mA,⟨od,es,ep,k _ _ (.inl rfl) e,c⟩,r⟩
 | rng lo hi=>obtain ⟨t,u,v,e⟩:=x;exact ⟨t,u,v,k _ _ (.inl rfl) e⟩
 | frz ob u ih=>obtain ⟨e,q⟩:=x;exact ⟨k _ _ (.inl rfl) e,ih q⟩
 | tbl ps =>
  have e:h.get? a=some { cls:=.none,data:=.fields ps }:=x
  show h'.get? a=some { cls:=.none,data:=.fields ps }
  exact k a _ (.inl rfl) e
 | met f y =>
  have e:h.get? a=some (PySem.W.methodObj (.ref f) (.ref y)):=x
  show h'.get? a=some (PySem.W.methodObj (.ref f) (.ref y))
  exact k a _ (.inl rfl) e
 | ext φ=>obtain ⟨p,⟨o,e⟩,st⟩:=x;exact ⟨st _ _ p fun o q=>k _ _ (.inl rfl) q,⟨o,k _ _ (.inl rfl) e⟩,st⟩
theorem HOk.lt (x:HOk P w H h) (e:H a=some o):a<h.objs.size:=(x a o e).lt
theorem HOk.fresh (x:HOk P w H h) (e:h.objs.size≤a):H a=none:=by
 cases q:H a with
 | none=>rfl
 | some u=>exact absurd (Nat.lt_of_lt_of_le (x.lt q) e) (Nat.lt_irrefl _)
theorem HOk.kept (x:HOk P w H h) (k:∀ b u,h.get? b=some u→h'.get? b=some u):HOk P w H h':=fun a o e =>
 (x a o e).stay (fun b u _ q=>k b u q) (fun _ q=>q) fun _ _ q=>q
theorem HOk.laid (x:HOk P w H h) (k:∀ b u,h.get? b=some u→h'.get? b=some u) (hp:h.objs.size≤a) (new:zcZ P w (upd H a o) h' a o):HOk P w (upd H a o) h':=fun b u e=>by
 have hn:=x.fresh hp
 by_cases hb:b=a
 ·subst hb;rw [zaf] at e;cases e;exact new
 ·rw [zam hb] at e
  exact (x b u e).stay (fun c v _ q=>k c v q) (fun c q=>by rw [zam (zaY q hn)];exact q) fun c xs q=>by rw [zam (zaY q hn)];exact q
end
def Rd (H:Hp) (a:Addr) (u:HO):Prop:=H a=some u∨∃ o,H a=some (.frz o u)
theorem Rd.ok {P:Program} {w:World} {H:Hp} {h:Heap} {a:Addr} {u:HO} (r:Rd H a u) (x:HOk P w H h):zcZ P w H h a u:=by
 rcases r with r | ⟨o,r⟩
 ·exact x a u r
 ·obtain ⟨_,q⟩:=x a _ r
  exact q
def Mut:Option HO→Prop
 | some (.lst _)=>True
 | some (.dK _)=>True
 | some (.dT _)=>True
 | some (.set _ _)=>True
 | some (.ins _ _ _)=>True
 | some (.ext _)=>True
 | _=>False
section
variable {P:Program} {w:World} {H:Hp} {h h':Heap} {x e:Addr} {o':HO}
theorem HOk.write (ok:HOk P w H h) (mu:Mut (H x)) (he:e=x∨H e=some (.own x)) (k:∀ b u,b≠e→h.get? b=some u→h'.get? b=some u) (heo:∃ u,h'.get? e=some u)
  (new:zcZ P w (upd H x o') h' x o'):HOk P w (upd H x o') h':=fun b u q=>by
 have nown:∀ c y,H c=some (.own y)→c≠x:=fun c y r z=>by subst z;rw [r] at mu;exact mu
 have ntup:∀ c xs,H c=some (.tup xs)→c≠x:=fun c xs r z=>by subst z;rw [r] at mu;exact mu
 by_cases hb:b=x
 ·subst hb;rw [zaf] at q;cases q;exact new
 ·rw [zam hb] at q
  by_cases hbe:b=e
  ·have q':H b=some (.own x):=by
    rcases he with z | z
    ·exact absurd (hbe.trans z) hb
    ·rw [hbe];exact z
   rw [q] at q';cases q'
   obtain ⟨v,hv⟩:=heo
   exact ⟨v,by rw [hbe];exact hv⟩
  ·refine (ok b u q).stay (fun c v hc r=>k c v ?_ r) (fun c r=>by rw [zam (nown c b r)];exact r) fun c xs r=>by rw [zam (ntup c xs r)];exact r
   rcases hc with rfl | hc
   ·exact hbe
   ·rintro rfl
    rcases he with z | z
    ·exact nown c b hc z
    ·rw [hc] at z;cases z;exact hb rfl
end
structure Un (fs ex:List Addr) (H H':Hp) (h h':Heap):Prop where
 keep:∀ b o,h.get? b=some o→H b=none→b∉fs→b∉ex→h'.get? b=some o
 slot:∀ b o,h.get? b=some o→H b=none→b∈fs→b∉ex→∃ sl,h'.get? b=some { o with slots:=sl }
 free:∀ b o,h.get? b=some o→H b=none→b∉ex→H' b=none
 there:∀ b o,h.get? b=some o→b∉ex→∃ o',h'.get? b=some o'
 tups:∀ b xs,H b=some (.tup xs)→H' b=some (.tup xs)
 frzs:∀ b o u,H b=some (.frz o u)→H' b=some (.frz o u)
 tbls:∀ b ps,H b=some (.tbl ps)→∃ more,H' b=some (.tbl (ps++more))
section
variable {fs fs' ex ex':List Addr} {H H1 H2:Hp} {h h1 h2 h':Heap} {a x e:Addr} {o:HO}
theorem Un.any (u:Un fs ex H H1 h h1) {b:Addr} {ob:Obj} (q:h.get? b=some ob) (n:H b=none) (hx:b∉ex):∃ sl,h1.get? b=some { ob with slots:=sl }:=by
 by_cases hb:b∈fs
 ·exact u.slot b ob q n hb hx
 ·exact ⟨ob.slots,u.keep b ob q n hb hx⟩
theorem Un.kept (k:∀ b u,h.get? b=some u→h'.get? b=some u):Un fs ex H H h h' :=
 ⟨fun b ob q _ _ _=>k b ob q,fun b ob q _ _ _=>⟨ob.slots,k b ob q⟩,fun _ _ _ n _=>n,fun b ob q _=>⟨ob,k b ob q⟩,fun _ _ q=>q,fun _ _ _ q=>q,fun _ ps q=>⟨#[],by rw [q];simp⟩⟩
theorem Un.refl:Un fs ex H H h h:=Un.kept fun _ _ q=>q
theorem Un.laid (k:∀ b u,h.get? b=some u→h'.get? b=some u) (hp:h.objs.size≤a) (hn:H a=none):Un fs ex H (upd H a o) h h' where
 keep:=fun b u q _ _ _=>k b u q
 slot:=fun b u q _ _ _=>⟨u.slots,k b u q⟩
 free:=fun b u q n _=>by rw [zam (Nat.ne_of_lt (Nat.lt_of_lt_of_le (Heap.lt_size q) hp))];exact n
 there:=fun b u q _=>⟨u,k b u q⟩
 tups:=fun b xs q=>by rw [zam (zaY q hn)];exact q
 frzs:=fun b u xs q=>by rw [zam (zaY q hn)];exact q
 tbls:=fun b ps q=>⟨#[],by rw [zam (zaY q hn),q];simp⟩
theorem Un.write (mu:Mut (H x)) (he:e=x∨H e=some (.own x)) (k:∀ b u,b≠e→h.get? b=some u→h'.get? b=some u) (heo:∃ u,h'.get? e=some u):Un fs ex H (upd H x o) h h':=by
 have hx:∀ b,H b=none→b≠x:=fun b n z=>by subst z;rw [n] at mu;exact mu
 have hb:∀ b,H b=none→b≠e:=fun b n z=>by
  subst z
  rcases he with r | r
  ·exact hx b n r
  ·rw [n] at r;cases r
 have hm:∀ b u,H b=some u→¬ Mut (some u)→b≠x:=fun b u q nm z=>by subst z;rw [q] at mu;exact nm mu
 refine ⟨fun b u q n _ _=>k b u (hb b n) q,fun b u q n _ _=>⟨u.slots,k b u (hb b n) q⟩,fun b u q n _=>by rw [zam (hx b n)];exact n,fun b u q _=>?_,
  fun b xs q=>by rw [zam (hm b _ q fun z=>z)];exact q,fun b u xs q=>by rw [zam (hm b _ q fun z=>z)];exact q,fun b ps q=>⟨#[],by rw [zam (hm b _ q fun z=>z),q];simp⟩⟩
 by_cases hbe:b=e
 ·subst hbe;exact heo
 ·exact ⟨u,k b u hbe q⟩
end
def trk (h:Heap) (H:Hp):List Addr:=(List.range h.objs.size).filter fun a=>(H a).isSome
def zlu (h:Heap) (H:Hp):Heap:=PySem.W.hideAll h (trk h H)
theorem zkS (h:Heap) (H:Hp):(zlu h H).objs.size=h.objs.size:=PySem.W.hideAll_size _ _
theorem zmm {h:Heap} {H:Hp} {b:Addr} {o:Obj} (e:h.get? b=some o) (n:H b=none):(zlu h H).get? b=some o :=
 PySem.W.hideAll_get _ e fun hm=>by
  have q:(H b).isSome=true:=(List.mem_filter.mp hm).2
  rw [n] at q;simp at q
theorem znF {h:Heap} {H:Hp} {b:Addr} {o:Obj} (e:(zlu h H).get? b=some o):h.get? b=some o∧H b=none:=by
 have e':h.get? b=some o:=PySem.W.of_hideAll (trk h H) e
 refine ⟨e',?_⟩
 cases q:H b with
 | none=>rfl
 | some x =>
  have hm:b∈trk h H:=List.mem_filter.mpr ⟨List.mem_range.mpr (Heap.lt_size e'),by simp [q]⟩
  have z:(zlu h H).get? b=none:=PySem.W.hideAll_none (trk h H) hm
  rw [z] at e;cases e
def zns (g h:Heap) (L:Addr):List (Addr×Obj):=(List.range h.objs.size).filterMap fun a=>if a=L∨(g.get? a).isSome=true then none else (h.get? a).map fun o=>(a,o)
def rest (g h:Heap) (L d:Addr):List (Addr×Obj):=(zns g h L).filter fun p=>decide (p.1≠d)
end L2
namespace L2
open PySem PySem.Spec PyProof.Rows
structure Mod (K:PySem.W.Frag) (mg:Str→Option Value) (base:Heap):Prop where
 kin:K.In base
 glob:base.Ns mainGlobals mg
 blt:∃ mb,base.Ns builtinsNs mb∧∀ x:Str,x≠"__name__"→mb x=bootBuiltins x
 nolimit:base.NoLimit
structure Cx where
 prog:Program
 w:World
 K:PySem.W.Frag
 mg:Str→Option Value
 base:Heap
 A:Around
 N:List Str
 s₀:Shared
 H₀:Hp
 env:Env
 outer:List Env
 stack:List Env
 ex:List Addr
 fn:Str→Bool
 calm:Bool
 pn:List (Addr×Obj)
 xe:Value→Shared→Prop
def frs (l:List Env):List Addr:=l.filterMap (·.frame)
abbrev Cx.fs (X:Cx):List Addr:=frs X.outer
def Vis (sc:Scope) (x:Str):Prop:=sc.names.lookup x=some .local∨sc.names.lookup x=some .cell∨sc.names.lookup x=some .free
def Loc (sc:Scope) (x:Str):Prop:=sc.names.lookup x=some .local∨sc.names.lookup x=some .cell
def Look (env:Env) (h:Heap) (m:Str→Option Value) (x:Str) (u:Value):Prop :=
 (env.kindOf x=some .local∧m x=some u)∨((env.kindOf x=some .cell∨env.kindOf x=some .free)∧∃ c,env.cells.lookup x=some c∧h.IsCell c (some u))
structure Cx.Ok (X:Cx):Prop where
 mod:Mod X.K X.mg X.base
 kind:X.env.scope.kind=.function
 glob:X.env.globals=mainGlobals
 blt:X.env.builtins=builtinsNs
 above:X.s₀.heap.objs.size≤X.env.locals
 inj:∀ x y c,X.env.cells.lookup x=some c→X.env.cells.lookup y=some c→x=y
 has:∀ x,(X.env.kindOf x=some .cell∨X.env.kindOf x=some .free)→∃ c,X.env.cells.lookup x=some c
 cab:∀ x c,X.fn x=true→X.env.cells.lookup x=some c→X.s₀.heap.objs.size≤c
 hd:X.calm=true→X.A.handled=none
 frames:X.A.frames=some X.stack
 stk:X.stack=X.outer∨(X.stack=X.env::X.outer∧X.env.frame=some X.env.locals)
 exf:∀ b∈X.ex,b≠X.env.locals∧∀ x c,X.env.cells.lookup x=some c→c≠b
 bs:∀ b o,X.base.get? b=some o→X.s₀.heap.get? b=some o∧X.H₀ b=none
 bsz:X.base.objs.size≤X.s₀.heap.objs.size
 noex:∀ b o,X.base.get? b=some o→b∉X.ex
 exfs:∀ b∈X.ex,b∉X.fs
 funs:X.s₀.heap.FunFrames X.base X.outer
 frf:∀ b∈X.fs,X.H₀ b=none
structure Inv (X:Cx) (pins:List (Addr×Obj)) (σ:List (Option V)) (H:Hp) (s:Shared):Prop where
 ok:X.Ok
 os:s.os=X.s₀.os
 bare:AllBare s.gens
 base:Un X.fs X.ex X.H₀ H X.s₀.heap s.heap
 loc:∃ m,s.heap.Ns X.env.locals m∧∀ (i:Nat) (x:Str) (v:V),X.N[i]?=some x→σ[i]?=some (some v)→Vis X.env.scope x→∃ u,zb5 v u∧Look X.env s.heap m x u
 cell:∀ x c,X.env.cells.lookup x=some c→∃ v,s.heap.IsCell c v
 free:H X.env.locals=none
 freeC:∀ x c,X.env.cells.lookup x=some c→H c=none
 pin:∀ p∈X.pn++pins,s.heap.get? p.1=some p.2∧H p.1=none∧p.1≠X.env.locals∧p.1∉X.fs∧∀ v,p.2.data≠.cell v
 hok:HOk X.prog X.w H s.heap
 len:σ.length=X.N.length
section
variable {X:Cx} {pins:List (Addr×Obj)} {σ:List (Option V)} {H H':Hp} {s:Shared} {h':Heap}
theorem Cx.Ok.nofr (ok:X.Ok) {b:Addr} {o:Obj} (e:X.base.get? b=some o):b∉X.fs:=fun hb=>by
 have:=(ok.funs.mem hb).1
 rw [e] at this;cases this
theorem Inv.bs (I:Inv X pins σ H s):∀ b o,X.base.get? b=some o→s.heap.get? b=some o∧H b=none:=fun b o e =>
 ⟨I.base.keep b o (I.ok.bs b o e).1 (I.ok.bs b o e).2 (I.ok.nofr e) (I.ok.noex b o e),I.base.free b o (I.ok.bs b o e).1 (I.ok.bs b o e).2 (I.ok.noex b o e)⟩
theorem Inv.bk (I:Inv X pins σ H s):∀ b o,X.base.get? b=some o→s.heap.get? b=some o:=fun b o e=>(I.bs b o e).1
theorem Inv.mod (I:Inv X pins σ H s):Mod X.K X.mg X.base:=I.ok.mod
theorem Inv.kIn (I:Inv X pins σ H s):X.K.In s.heap:=I.ok.mod.kin.keeps I.bk
theorem Inv.lt (I:Inv X pins σ H s):X.env.locals<s.heap.objs.size:=let ⟨_,hn,_⟩:=I.loc;hn.lt
theorem Inv.sz (I:Inv X pins σ H s):X.s₀.heap.objs.size≤s.heap.objs.size:=Nat.le_trans I.ok.above (Nat.le_of_lt I.lt)
theorem Inv.nofs (I:Inv X pins σ H s) {a:Addr} (h:s.heap.objs.size≤a):a∉X.fs:=fun hb=>by
 obtain ⟨_,o,ho,_⟩:=I.ok.funs.mem hb
 exact absurd (Nat.lt_of_lt_of_le (Heap.lt_size ho) (Nat.le_trans I.sz h)) (Nat.lt_irrefl _)
theorem Inv.cne (I:Inv X pins σ H s):∀ x c,X.env.cells.lookup x=some c→c≠X.env.locals:=fun x c e z=>by
 obtain ⟨v,o,ho,hd⟩:=I.cell x c e
 obtain ⟨m,⟨o',es,ep,ho',hd',_⟩,_⟩:=I.loc
 rw [z,ho'] at ho;cases ho;rw [hd'] at hd;cases hd
theorem Inv.funs (I:Inv X pins σ H s):s.heap.FunFrames X.base X.outer:=by
 have all:∀ (l:List Env),(∀ b∈frs l,b∈X.fs)→X.s₀.heap.FunFrames X.base l→s.heap.FunFrames X.base l:=by
  intro l
  induction l with
  | nil=>intro _ _;trivial
  | cons env r ih =>
   intro hs hl
   obtain ⟨hk,⟨L,o,hf,hn,ho,hd⟩,hr⟩:=hl
   have hL:L∈X.fs:=hs L (by unfold frs;rw [List.filterMap_cons,hf];exact List.mem_cons_self)
   obtain ⟨sl,e⟩:=I.base.slot L o ho (I.ok.frf L hL) hL fun z=>I.ok.exfs L z hL
   exact ⟨hk,⟨L,_,hf,hn,e,hd⟩,ih (fun b hb=>hs b (by unfold frs;rw [List.filterMap_cons,hf];exact List.mem_cons_of_mem _ hb)) hr⟩
 exact all X.outer (fun _ hb=>hb) I.ok.funs
theorem Inv.stack (I:Inv X pins σ H s):s.heap.FunFrames X.base X.stack:=by
 rcases I.ok.stk with e | ⟨e,hf⟩
 ·rw [e];exact I.funs
 ·rw [e]
  obtain ⟨m,hn,_⟩:=I.loc
  refine .cons (by rw [I.ok.kind];decide) hf hn ?_ I.funs
  exact Heap.get?_none_of_le (Nat.le_trans I.ok.bsz I.ok.above)
theorem Inv.stkSub (I:Inv X pins σ H s):∀ b∈frs X.stack,b∈X.env.locals::X.fs:=fun b hb=>by
 rcases I.ok.stk with e | ⟨e,hf⟩
 ·rw [e] at hb;exact List.mem_cons_of_mem _ hb
 ·rw [e] at hb
  unfold frs at hb
  rw [List.filterMap_cons,hf] at hb
  exact hb
theorem Inv.stkFree (I:Inv X pins σ H s):∀ b∈frs X.stack,H b=none:=fun b hb=>by
 rcases List.mem_cons.mp (I.stkSub b hb) with e | hb
 ·rw [e];exact I.free
 ·obtain ⟨_,o,ho,_⟩:=I.ok.funs.mem hb
  exact I.base.free b o ho (I.ok.frf b hb) fun z=>I.ok.exfs b z hb
theorem Inv.step {g':Array GenState} {t':Nat} {d':Drawn} {ch:List Addr} (I:Inv X pins σ H s)
  (hch:∀ b∈ch,(b∈X.ex∨X.s₀.heap.objs.size≤b)∧b≠X.env.locals∧(∀ x c,X.env.cells.lookup x=some c→c≠b)∧∀ p∈X.pn++pins,p.1≠b)
  (keep:∀ b o,b≠X.env.locals→b∉X.fs→b∉ch→s.heap.get? b=some o→H b=none→h'.get? b=some o)
  (slot:∀ b o,b≠X.env.locals→b∈X.fs→b∉ch→s.heap.get? b=some o→H b=none→∃ sl,h'.get? b=some { o with slots:=sl }) (free:∀ b o,b∉ch→s.heap.get? b=some o→H b=none→H' b=none)
  (there:∀ b o,b∉ch→s.heap.get? b=some o→∃ o',h'.get? b=some o')
  (tups:∀ b xs,H b=some (.tup xs)→H' b=some (.tup xs)) (frzs:∀ b o u,H b=some (.frz o u)→H' b=some (.frz o u)) (tbls:∀ b ps,H b=some (.tbl ps)→∃ more,H' b=some (.tbl (ps++more)))
  (ns:∀ m,s.heap.Ns X.env.locals m→h'.Ns X.env.locals m) (hok:HOk X.prog X.w H' h') (hg:AllBare g') :
  Inv X pins σ H' { s with heap:=h',gens:=g',drawn:=d',toks:=t' }:=by
 have neL:∀ b o,X.s₀.heap.get? b=some o→b≠X.env.locals:=fun b o e=>Nat.ne_of_lt (Nat.lt_of_lt_of_le (Heap.lt_size e) I.ok.above)
 have neC:∀ b o,X.s₀.heap.get? b=some o→b∉X.ex→b∉ch:=fun b o e hx hb=>by
  rcases (hch b hb).1 with z | z
  ·exact hx z
  ·exact absurd (Nat.lt_of_lt_of_le (Heap.lt_size e) z) (Nat.lt_irrefl _)
 have cellK:∀ x c,X.env.cells.lookup x=some c→∀ v,s.heap.IsCell c v→h'.IsCell c v:=fun x c e v ⟨o,ho,hd⟩=>by
  have nch:c∉ch:=fun z=>(hch c z).2.2.1 x c e rfl
  by_cases hc:c∈X.fs
  ·obtain ⟨sl,q⟩:=slot c o (I.cne x c e) hc nch ho (I.freeC x c e)
   exact ⟨_,q,hd⟩
  ·exact ⟨o,keep c o (I.cne x c e) hc nch ho (I.freeC x c e),hd⟩
 refine ⟨I.ok,I.os,hg,⟨fun b o e n hb hx=>?_,fun b o e n hb hx=>?_,fun b o e n hx=>?_,fun b o e hx=>?_,fun b xs e=>tups b xs (I.base.tups b xs e),fun b o xs e=>frzs b o xs (I.base.frzs b o xs e),fun b ps e=>?_⟩,?_,fun x c e=>?_,?_,fun x c e=>?_,fun p hp=>?_,hok,I.len⟩
 ·exact keep b o (neL b o e) hb (neC b o e hx) (I.base.keep b o e n hb hx) (I.base.free b o e n hx)
 ·obtain ⟨sl,e1⟩:=I.base.slot b o e n hb hx
  obtain ⟨sl',e2⟩:=slot b _ (neL b o e) hb (neC b o e hx) e1 (I.base.free b o e n hx)
  exact ⟨sl',e2⟩
 ·obtain ⟨o',e1⟩:=I.base.there b o e hx
  exact free b o' (neC b o e hx) e1 (I.base.free b o e n hx)
 ·obtain ⟨o',e1⟩:=I.base.there b o e hx
  exact there b o' (neC b o e hx) e1
 ·obtain ⟨m1,e1⟩:=I.base.tbls b ps e
  obtain ⟨m2,e2⟩:=tbls b _ e1
  exact ⟨m1++m2,by rw [e2,Array.append_assoc]⟩
 ·obtain ⟨m,hn,hl⟩:=I.loc
  refine ⟨m,ns m hn,fun i x v e1 e2 e3=>?_⟩
  obtain ⟨u,r,l⟩:=hl i x v e1 e2 e3
  refine ⟨u,r,?_⟩
  rcases l with l | ⟨k,c,e,z⟩
  ·exact .inl l
  ·exact .inr ⟨k,c,e,cellK x c e _ z⟩
 ·obtain ⟨v,z⟩:=I.cell x c e
  exact ⟨v,cellK x c e v z⟩
 ·obtain ⟨m,⟨o,_,_,ho,_⟩,_⟩:=I.loc
  exact free _ o (fun z=>(hch _ z).2.1 rfl) ho I.free
 ·obtain ⟨v,o,ho,hd⟩:=I.cell x c e
  exact free c o (fun z=>(hch c z).2.2.1 x c e rfl) ho (I.freeC x c e)
 ·obtain ⟨e,n,ne,nf,d⟩:=I.pin p hp
  have nch:p.1∉ch:=fun z=>(hch p.1 z).2.2.2 p hp rfl
  exact ⟨keep p.1 p.2 ne nf nch e n,free p.1 p.2 nch e n,ne,nf,d⟩
theorem Inv.un {t':Nat} (I:Inv X pins σ H s) (u:Un X.fs [] H H' s.heap h') (hok:HOk X.prog X.w H' h'):Inv X pins σ H' { s with heap:=h',toks:=t' }:=by
 obtain ⟨m,⟨o,es,ep,ho,r⟩,_⟩:=id I.loc
 obtain ⟨sl,hL⟩:=u.any ho I.free (by simp)
 exact I.step (g':=s.gens) (d':=s.drawn) (ch:=[]) (fun _ z=>nomatch z) (fun b o _ hb _ e n=>u.keep b o e n hb (by simp)) (fun b o _ hb _ e n=>u.slot b o e n hb (by simp)) (fun b o _ e n=>u.free b o e n (by simp)) (fun b o _ e=>u.there b o e (by simp)) u.tups u.frzs u.tbls (fun m' hm=>by
  obtain ⟨o',es',ep',ho',r'⟩:=hm
  rw [ho] at ho';cases ho'
  exact ⟨_,es',ep',hL,r'⟩) hok I.bare
theorem Inv.call {g':Array GenState} {t':Nat} {d':Drawn} {ch:List Addr} (I:Inv X pins σ H s) (u:Un (frs X.stack) ch H H' s.heap h') (hok:HOk X.prog X.w H' h') (hg:AllBare g')
  (hch:∀ b∈ch,(b∈X.ex∨X.s₀.heap.objs.size≤b)∧b≠X.env.locals∧(∀ x c,X.env.cells.lookup x=some c→c≠b)∧∀ p∈X.pn++pins,p.1≠b) :
  Inv X pins σ H' { s with heap:=h',gens:=g',drawn:=d',toks:=t' }:=by
 obtain ⟨m,⟨o,es,ep,ho,r⟩,_⟩:=id I.loc
 obtain ⟨sl,hL⟩:=u.any ho I.free fun z=>(hch _ z).2.1 rfl
 exact I.step (ch:=ch) hch (fun b o hL hb hc e n=>u.keep b o e n (fun z=>(List.mem_cons.mp (I.stkSub b z)).elim hL hb) hc) (fun b o _ _ hc e n=>u.any e n hc) (fun b o hc e n=>u.free b o e n hc) (fun b o hc e=>u.there b o e hc) u.tups u.frzs u.tbls (fun m' hm=>by
  obtain ⟨o',es',ep',ho',r'⟩:=hm
  rw [ho] at ho';cases ho'
  exact ⟨_,es',ep',hL,r'⟩) hok hg
theorem Inv.turned {t':Nat} {it:Addr} (I:Inv X pins σ H s) (k:∀ b o,b≠it→s.heap.get? b=some o→h'.get? b=some o) (hn:H it=none) (hL:it≠X.env.locals)
  (h1:it∈X.ex∨X.s₀.heap.objs.size≤it) (h2:∀ x c,X.env.cells.lookup x=some c→c≠it) (h3:∀ p∈X.pn++pins,p.1≠it):Inv X pins σ H { s with heap:=h',toks:=t' }:=by
 have nit:∀ b u,H b=some u→b≠it:=fun b u e z=>by rw [z,hn] at e;cases e
 refine I.step (g':=s.gens) (d':=s.drawn) (ch:=[it]) (fun b hb=>?_) (fun b o _ _ hc e _=>k b o (fun z=>hc (by simp [z])) e) (fun b o _ _ hc e _=>⟨o.slots,k b o (fun z=>hc (by simp [z])) e⟩) (fun _ _ _ _ n=>n)
  (fun b o hc e=>⟨o,k b o (fun z=>hc (by simp [z])) e⟩) (fun _ _ e=>e) (fun _ _ _ e=>e) (fun b ps e=>⟨#[],by rw [e];simp⟩) (fun m hm=>?_) (fun b u e=>?_) I.bare
 ·have e:b=it:=by simpa using hb
  subst e
  exact ⟨h1,hL,h2,h3⟩
 ·obtain ⟨o,es,ep,ho,r⟩:=hm
  exact ⟨o,es,ep,k _ o (Ne.symm hL) ho,r⟩
 ·refine (I.hok b u e).stay (fun c v hc q=>k c v ?_ q) (fun _ q=>q) fun _ _ q=>q
  rcases hc with z | z
  ·rw [z];exact nit b u e
  ·exact nit c _ z
theorem Inv.tok (I:Inv X pins σ H s) (t:Nat):Inv X pins σ H { s with toks:=t }:=I.un (h':=s.heap) (t':=t) Un.refl I.hok
theorem Inv.kept {t':Nat} (I:Inv X pins σ H s) (k:∀ b u,s.heap.get? b=some u→h'.get? b=some u):Inv X pins σ H { s with heap:=h',toks:=t' }:=I.un (Un.kept k) (I.hok.kept k)
theorem Inv.laid {a:Addr} {o:HO} {t':Nat} (I:Inv X pins σ H s) (k:∀ b u,s.heap.get? b=some u→h'.get? b=some u) (hp:s.heap.objs.size≤a) (new:zcZ X.prog X.w (upd H a o) h' a o) :
  Inv X pins σ (upd H a o) { s with heap:=h',toks:=t' }:=I.un (Un.laid k hp (I.hok.fresh hp)) (I.hok.laid k hp new)
theorem Inv.write {x e:Addr} {o:HO} {t':Nat} (I:Inv X pins σ H s) (mu:Mut (H x)) (he:e=x∨H e=some (.own x)) (k:∀ b u,b≠e→s.heap.get? b=some u→h'.get? b=some u) (heo:∃ u,h'.get? e=some u)
  (new:zcZ X.prog X.w (upd H x o) h' x o):Inv X pins σ (upd H x o) { s with heap:=h',toks:=t' }:=I.un (Un.write mu he k heo) (I.hok.write mu he k heo new)
theorem Inv.pins_of {pins':List (Addr×Obj)} (I:Inv X pins σ H s) (h:∀ p∈pins',s.heap.get? p.1=some p.2∧H p.1=none∧p.1≠X.env.locals∧p.1∉X.fs∧∀ v,p.2.data≠.cell v):Inv X pins' σ H s :=
 ⟨I.ok,I.os,I.bare,I.base,I.loc,I.cell,I.free,I.freeC,fun p hp=>(List.mem_append.mp hp).elim (fun z=>I.pin p (List.mem_append_left _ z)) (h p),I.hok,I.len⟩
theorem zjL {N:List Str} (hN:N.Nodup) {i j:Nat} {x:Str} (a:N[i]?=some x) (b:N[j]?=some x):i=j:=by
 obtain ⟨h1,e1⟩:=List.getElem?_eq_some_iff.mp a
 obtain ⟨h2,e2⟩:=List.getElem?_eq_some_iff.mp b
 exact (List.getElem_inj hN).mp (e1.trans e2.symm)
theorem zgq {M:Model} {A:Around} {E:Value→Shared→Prop} {i:Nat} {x:Str} {v:V} {u:Value} {Q:Unit→Shared→Prop} (I:Inv X pins σ H s) (hN:X.N.Nodup) (hi:X.N[i]?=some x) (hx:Loc X.env.scope x) (r:zb5 v u)
  (h:∀ s',Inv X pins (σ.set i (some v)) H s'→(∃ a,Heap.SameBut a s.heap s'.heap∧(a=X.env.locals∨X.env.cells.lookup x=some a))→Q () s') (hf:X.fn x=true∨X.env.scope.names.lookup x=some .local:=by first | exact .inl rfl | exact .inr rfl | assumption):wpAny M A (storeName X.env x u) Q E s:=by
 obtain ⟨m,hn,hl⟩:=id I.loc
 have hcls:(X.env.scope.kind == .class || (X.env.scope.kind == .module&&X.env.locals != X.env.globals))=false:=by rw [I.ok.kind];rfl
 have hiσ:i<σ.length:=by rw [I.len];exact (List.getElem?_eq_some_iff.mp hi).1
 have cne:=I.cne
 have tracked:∀ {a:Addr} {h':Heap},(∃ o,s.heap.get? a=some o∧H a=none)→Heap.SameBut a s.heap h'→HOk X.prog X.w H h':=fun {a h'} ha hs b ob e=>by
  obtain ⟨_,_,hfree⟩:=ha
  refine (I.hok b ob e).stay (fun c w' hc q=>(hs.2 c ?_).trans q) (fun _ q=>q) fun _ _ q=>q
  rintro rfl
  rcases hc with rfl | hc
  ·rw [hfree] at e;cases e
  ·rw [hfree] at hc;cases hc
 rcases hx with hk | hk
 ·refine wpAny_storeName_local hk hn (fun h' hn' hs=>?_) hcls
  obtain ⟨oL,_,_,hoL,_⟩:=id hn
  refine h _ ⟨I.ok,I.os,I.bare,⟨fun b o e n hb hx=>?_,fun b o e n hb hx=>?_,I.base.free,fun b o e hx=>?_,I.base.tups,I.base.frzs,I.base.tbls⟩,⟨_,hn',fun j y v' e1 e2 e3=>?_⟩,fun y c e=>?_,I.free,I.freeC,fun p hp=>?_,tracked ⟨oL,hoL,I.free⟩ hs,by simpa using I.len⟩ ⟨_,hs,.inl rfl⟩
  ·exact (hs.2 b (Nat.ne_of_lt (Nat.lt_of_lt_of_le (Heap.lt_size e) I.ok.above))).trans (I.base.keep b o e n hb hx)
  ·obtain ⟨sl,e1⟩:=I.base.slot b o e n hb hx
   exact ⟨sl,(hs.2 b (Nat.ne_of_lt (Nat.lt_of_lt_of_le (Heap.lt_size e) I.ok.above))).trans e1⟩
  ·obtain ⟨o',e1⟩:=I.base.there b o e hx
   exact ⟨o',(hs.2 b (Nat.ne_of_lt (Nat.lt_of_lt_of_le (Heap.lt_size e) I.ok.above))).trans e1⟩
  ·by_cases hj:j=i
   ·subst hj
    rw [hi] at e1;cases e1
    rw [List.getElem?_set_self hiσ] at e2
    cases e2
    exact ⟨u,r,.inl ⟨hk,by simp⟩⟩
   ·rw [List.getElem?_set_ne (Ne.symm hj)] at e2
    obtain ⟨u',r',q⟩:=hl j y v' e1 e2 e3
    refine ⟨u',r',?_⟩
    rcases q with ⟨k,e⟩ | ⟨k,c,e,z⟩
    ·refine .inl ⟨k,?_⟩
     have:y≠x:=fun e=>hj (zjL hN e1 (e ▸ hi))
     simp [this,e]
    ·exact .inr ⟨k,c,e,z.sameBut hs (cne y c e)⟩
  ·obtain ⟨w',z⟩:=I.cell y c e
   exact ⟨w',z.sameBut hs (cne y c e)⟩
  ·obtain ⟨e,n,ne,nf,d⟩:=I.pin p hp
   exact ⟨(hs.2 p.1 ne).trans e,n,ne,nf,d⟩
 ·have hfn:X.fn x=true:=by
   rcases hf with z | z
   ·exact z
   ·rw [z] at hk;cases hk
  obtain ⟨c,hc⟩:=I.ok.has x (.inl hk)
  obtain ⟨w',z⟩:=I.cell x c hc
  refine wpAny_storeName_cell I.ok.kind hk hc z (fun h' hc' hs=>?_)
  obtain ⟨oc,hoc,hocd⟩:=id z
  refine h { s with heap:=h' } ⟨I.ok,I.os,I.bare,⟨fun b o e n hb hx=>?_,fun b o e n hb hx=>?_,I.base.free,fun b o e hx=>?_,I.base.tups,I.base.frzs,I.base.tbls⟩,⟨m,hn.sameBut hs (Ne.symm (cne x c hc)),fun j y v' e1 e2 e3=>?_⟩,fun y c' e=>?_,I.free,I.freeC,fun p hp=>?_,tracked ⟨oc,hoc,I.freeC x c hc⟩ hs,by simpa using I.len⟩ ⟨c,hs,.inr hc⟩
  ·exact (hs.2 b (Nat.ne_of_lt (Nat.lt_of_lt_of_le (Heap.lt_size e) (I.ok.cab x c hfn hc)))).trans (I.base.keep b o e n hb hx)
  ·obtain ⟨sl,e1⟩:=I.base.slot b o e n hb hx
   exact ⟨sl,(hs.2 b (Nat.ne_of_lt (Nat.lt_of_lt_of_le (Heap.lt_size e) (I.ok.cab x c hfn hc)))).trans e1⟩
  ·obtain ⟨o',e1⟩:=I.base.there b o e hx
   exact ⟨o',(hs.2 b (Nat.ne_of_lt (Nat.lt_of_lt_of_le (Heap.lt_size e) (I.ok.cab x c hfn hc)))).trans e1⟩
  ·by_cases hj:j=i
   ·subst hj
    rw [hi] at e1;cases e1
    rw [List.getElem?_set_self hiσ] at e2
    cases e2
    exact ⟨u,r,.inr ⟨.inl hk,c,hc,hc'⟩⟩
   ·rw [List.getElem?_set_ne (Ne.symm hj)] at e2
    obtain ⟨u',r',q⟩:=hl j y v' e1 e2 e3
    refine ⟨u',r',?_⟩
    rcases q with q | ⟨k,c',e,z'⟩
    ·exact .inl q
    ·refine .inr ⟨k,c',e,z'.sameBut hs ?_⟩
     rintro rfl
     exact hj (zjL hN e1 (I.ok.inj _ _ _ e hc ▸ hi))
  ·by_cases hcc:c'=c
   ·subst hcc;exact ⟨_,hc'⟩
   ·obtain ⟨w2,z2⟩:=I.cell y c' e
    exact ⟨w2,z2.sameBut hs hcc⟩
  ·obtain ⟨e,n,ne,nf,d⟩:=I.pin p hp
   refine ⟨(hs.2 p.1 ?_).trans e,n,ne,nf,d⟩
   intro q
   rw [q,hoc] at e
   have q':oc=p.2:=Option.some.inj e
   exact d w' (by rw [← q'];exact hocd)
theorem zgc {M:Model} {A:Around} {E:Value→Shared→Prop} {i:Nat} {x:Str} {v:V} {u:Value} {Q:Unit→Shared→Prop} (I:Inv X pins σ H s) (hN:X.N.Nodup) (hi:X.N[i]?=some x) (hx:Loc X.env.scope x) (r:zb5 v u)
  (h:∀ s',Inv X pins (σ.set i (some v)) H s'→Q () s') (hf:X.fn x=true∨X.env.scope.names.lookup x=some .local:=by first | exact .inl rfl | exact .inr rfl | assumption):wpAny M A (storeName X.env x u) Q E s :=
 zgq I hN hi hx r (fun s' I' _=>h s' I') hf
theorem Inv.call' {s':Shared} {ch:List Addr} (I:Inv X pins σ H s) (ho:s'.os=s.os) (u:Un (frs X.stack) ch H H' s.heap s'.heap) (hok:HOk X.prog X.w H' s'.heap) (hg:AllBare s'.gens)
  (hch:∀ b∈ch,(b∈X.ex∨X.s₀.heap.objs.size≤b)∧b≠X.env.locals∧(∀ x c,X.env.cells.lookup x=some c→c≠b)∧∀ p∈X.pn++pins,p.1≠b):Inv X pins σ H' s':=by
 obtain ⟨h',g',d',t',o'⟩:=s'
 have e:o'=s.os:=ho
 subst e
 exact I.call (g':=g') (t':=t') (d':=d') u hok hg hch
end
abbrev XK:=Value→Option Addr→Hp→Prop
abbrev St:=List (Option V)
abbrev VK:=V→Hp→Prop
abbrev TE:=St→Hp→VK→Prop
abbrev TT:=St→Hp→(Bool→Hp→Prop)→Prop
abbrev TA:=St→Hp→(List V→Hp→Prop)→Prop
structure zce where
 nx:St→Hp→Prop
 rt:VK
 bk:St→Hp→Prop:=fun _ _=>False
 ct:St→Hp→Prop:=fun _ _=>False
abbrev TS:=zce→St→Hp→Prop
def EP (X:Cx) (pins:List (Addr×Obj)) (σ:St) (Q:VK) (u:Value) (s':Shared):Prop:=∃ v H',Inv X pins σ H' s'∧zb5 v u∧Q v H'
def TP (X:Cx) (pins:List (Addr×Obj)) (σ:St) (Q:Bool→Hp→Prop) (b:Bool) (s':Shared):Prop:=∃ H',Inv X pins σ H' s'∧Q b H'
def AP (X:Cx) (pins:List (Addr×Obj)) (σ:St) (Q:List V→Hp→Prop) (us:List Value) (s':Shared):Prop:=∃ vs H',Inv X pins σ H' s'∧zbU vs us∧Q vs H'
def SP (X:Cx) (pins:List (Addr×Obj)) (D:zce) (f:Flow) (s':Shared):Prop :=
 match f with
 | .next=>∃ σ' H',Inv X pins σ' H' s'∧D.nx σ' H'
 | .brk=>∃ σ' H',Inv X pins σ' H' s'∧D.bk σ' H'
 | .cont=>∃ σ' H',Inv X pins σ' H' s'∧D.ct σ' H'
 | .ret u=>∃ v σ' H',Inv X pins σ' H' s'∧zb5 v u∧D.rt v H'
def PE (X:Cx) (e:Expr) (t:TE):Prop :=
 ∀ (pins:List (Addr×Obj)) (s:Shared) (σ:St) (H:Hp) (Q:VK),Inv X pins σ H s→t σ H Q→wpAny (model X.prog X.w) X.A (eval e X.env) (EP X pins σ Q) X.xe s
def PT (X:Cx) (e:Expr) (t:TT):Prop :=
 ∀ (pins:List (Addr×Obj)) (s:Shared) (σ:St) (H:Hp) (Q:Bool→Hp→Prop),Inv X pins σ H s→t σ H Q→wpAny (model X.prog X.w) X.A (isTrue e X.env (eval e X.env)) (TP X pins σ Q) X.xe s
def PW (X:Cx) (e:Expr) (t:TT):Prop :=
 ∀ (whole:Sem Value) (pins:List (Addr×Obj)) (s:Shared) (σ:St) (H:Hp) (Q:Bool→Hp→Prop),Inv X pins σ H s→t σ H Q→wpAny (model X.prog X.w) X.A (isTrue e X.env whole) (TP X pins σ Q) X.xe s
theorem PW.pt {X:Cx} {e:Expr} {t:TT} (h:PW X e t):PT X e t:=h _
def PA (X:Cx) (es:List Expr) (t:TA):Prop :=
 ∀ (pos:Pos) (pins:List (Addr×Obj)) (s:Shared) (σ:St) (H:Hp) (Q:List V→Hp→Prop),Inv X pins σ H s→t σ H Q→wpAny (model X.prog X.w) X.A (spliced (backTo pos (starEach es X.env))) (AP X pins σ Q) X.xe s
def PS (X:Cx) (st:Stmt) (t:TS):Prop :=
 ∀ (pins:List (Addr×Obj)) (s:Shared) (σ:St) (H:Hp) (D:zce),Inv X pins σ H s→t D σ H→wpAny (model X.prog X.w) X.A (exec st X.env) (SP X pins D) X.xe s
def PSs (X:Cx) (st:List Stmt) (t:TS):Prop :=
 ∀ (pins:List (Addr×Obj)) (s:Shared) (σ:St) (H:Hp) (D:zce),Inv X pins σ H s→t D σ H→wpAny (model X.prog X.w) X.A (execs st X.env) (SP X pins D) X.xe s
theorem thn {α:Type} {t:Sem α} {Q Q':α→Shared→Prop} {M:Model} {A:Around} {E:Value→Shared→Prop} {s:Shared} (h:wpAny M A t Q E s) (hQ:∀ a s,Q a s→Q' a s):wpAny M A t Q' E s:=wpAny_mono h hQ fun _ _ x=>x
end L2
namespace L2
open PySem PySem.Spec PyProof.Rows
section
variable {X:Cx}
def zac (i:Nat):TE:=fun σ H Q=>∃ v,σ[i]?=some (some v)∧Q v H
def tC (v:V):TE:=fun _ H Q=>Q v H
theorem zpn {i:Nat} {x:Str} {pos:Pos} (hN:X.N[i]?=some x) (hv:Vis X.env.scope x) (hd:(x == ("__debug__":Str))=false:=by decide) (hcd:(x == ("__classdict__":Str))=false:=by decide):PE X (.Name x pos) (zac i):=by
 intro pins s σ H Q I h
 obtain ⟨v,e,h⟩:=h
 obtain ⟨m,hn,hl⟩:=I.loc
 obtain ⟨u,r,l⟩:=hl i x v hN e hv
 have fin:EP X pins σ Q u s:=⟨v,H,I,r,h⟩
 rcases l with ⟨hk,hm⟩ | ⟨hk,c,hc,hcell⟩
 ·exact wpAny_Name (wpAny_loadName_local I.ok.kind hk hn hm fin) hd
 ·rcases hk with hk | hk
  ·exact wpAny_Name (wpAny_loadName_cell I.ok.kind hk hc hcell fin) hd
  ·exact wpAny_Name (wpAny_loadName_free I.ok.kind hk hc hcell fin hcd) hd
theorem zag {i j pos}:PE X (.Constant (.int i) j pos) (tC (.int i)):=fun _ _ _ H _ I h=>wpAny_Constant_int ⟨.int i,H,I.tok _,⟨_,rfl⟩,h⟩
theorem zgX {b j pos}:PE X (.Constant (.bool b) j pos) (tC (.bl b)):=fun _ _ _ H _ I h=>Constant_bool ⟨.bl b,H,I,rfl,h⟩
theorem zdS {j pos}:PE X (.Constant .none j pos) (tC .non):=fun _ _ _ H _ I h=>Constant_none ⟨.non,H,I,rfl,h⟩
theorem zf1 {x j pos}:PE X (.Constant (.str x) j pos) (tC (.str x)):=fun _ _ _ H _ I h=>Calls.Constant_str ⟨.str x,H,I.tok _,⟨_,rfl⟩,h⟩
def Gl (X:Cx) (x:Str):Prop:=X.env.kindOf x=some .globalImplicit
theorem zjs {E:Value→Shared→Prop} {pins:List (Addr×Obj)} {s:Shared} {σ:St} {H:Hp} {x:Str} {u:Value} {pos:Pos} {Q:Value→Shared→Prop} (I:Inv X pins σ H s) (hg:Gl X x) (hm:X.mg x=some u) (h:Q u s)
  (hd:(x == ("__debug__":Str))=false:=by decide):wpAny (model X.prog X.w) X.A (eval (.Name x pos) X.env) Q E s :=
 Calls.Name_function_global I.ok.kind hg (Calls.loadGlobal_global (by rw [I.ok.glob];exact I.mod.glob.keeps I.bk) hm h) hd
theorem zfT {E:Value→Shared→Prop} {pins:List (Addr×Obj)} {s:Shared} {σ:St} {H:Hp} {x:Str} {u:Value} {pos:Pos} {Q:Value→Shared→Prop} (I:Inv X pins σ H s) (hg:Gl X x) (hm:X.mg x=none) (hv:bootBuiltins x=some u) (h:Q u s)
  (hn:x≠"__name__":=by decide) (hd:(x == ("__debug__":Str))=false:=by decide):wpAny (model X.prog X.w) X.A (eval (.Name x pos) X.env) Q E s:=by
 obtain ⟨mb,h1,h2⟩:=I.mod.blt
 exact Calls.Name_function_global I.ok.kind hg (Calls.loadGlobal_builtin (by rw [I.ok.glob];exact I.mod.glob.keeps I.bk) hm (by rw [I.ok.blt];exact h1.keeps I.bk) ((h2 x hn).trans hv) h) hd
theorem zlw {x:Str} {v:V} {u:Value} {pos:Pos} (hg:Gl X x) (hm:X.mg x=some u) (r:zb5 v u) (hd:(x == ("__debug__":Str))=false:=by decide):PE X (.Name x pos) (tC v) :=
 fun _ _ _ H _ I h=>zjs I hg hm ⟨v,H,I,r,h⟩ hd
theorem zdC {x:Str} {v:V} {u:Value} {pos:Pos} (hg:Gl X x) (hm:X.mg x=none) (hv:bootBuiltins x=some u) (r:zb5 v u) (hn:x≠"__name__":=by decide) (hd:(x == ("__debug__":Str))=false:=by decide):PE X (.Name x pos) (tC v) :=
 fun _ _ _ H _ I h=>zfT I hg hm hv ⟨v,H,I,r,h⟩ hn hd
variable {a b:Expr} {ta tb:TE} {pos:Pos}
def tB (t:TE):TT:=fun σ H Q=>t σ H fun x H1=>∃ c,x=.bl c∧Q c H1
theorem zc5 {e:Expr} {t:TE} (h:PE X e t) (he:∀ whole,isTrue e X.env whole=(do let v ← whole;standAt e.pos;holding [v] (truthy v)):=by intro _;rfl):PT X e (tB t):=by
 intro pins s σ H Q I hw
 refine isTrue_plain (thn (h pins s σ H _ I hw) fun v s1 hQ'=>?_) (he _)
 obtain ⟨x,H1,I1,r1,q1⟩:=hQ'
 obtain ⟨d,rfl,q⟩:=q1
 cases r1
 exact wpAny_truthy_bool ⟨H1,I1,q⟩
variable {tA tB':TT} {rest:List Expr}
def tAnd (t u:TT):TT:=fun σ H Q=>t σ H fun c H1=>if c=true then u σ H1 Q else Q false H1
def tOr (t u:TT):TT:=fun σ H Q=>t σ H fun c H1=>if c=true then Q true H1 else u σ H1 Q
def zeG (t:TT):TT:=fun σ H Q=>t σ H fun c H1=>Q (!c) H1
theorem zoj (ha:PT X a tA):PW X (.BoolOp .And [a] pos) tA:=by
 intro wh pins s σ H Q I h
 refine isTrue_and (thn (ha pins s σ H Q I h) fun c s1 e=>?_)
 cases c with
 | true=>exact isTrue_and_nil e
 | false=>exact e
theorem zeO (ha:PT X a tA):PW X (.BoolOp .Or [a] pos) tA:=by
 intro wh pins s σ H Q I h
 refine isTrue_or (thn (ha pins s σ H Q I h) fun c s1 e=>?_)
 cases c with
 | false=>exact isTrue_or_nil e
 | true=>exact e
theorem zpF (ha:PT X a tA) (hb:PW X (.BoolOp .And (b::rest) pos) tB'):PW X (.BoolOp .And (a::b::rest) pos) (tAnd tA tB'):=by
 intro wh pins s σ H Q I h
 refine isTrue_and (thn (ha pins s σ H _ I h) fun c s1 hQ'=>?_)
 obtain ⟨H1,I1,q1⟩:=hQ'
 cases c with
 | true=>exact hb wh pins s1 σ H1 Q I1 q1
 | false=>exact ⟨H1,I1,q1⟩
theorem zeW (ha:PT X a tA) (hb:PW X (.BoolOp .Or (b::rest) pos) tB'):PW X (.BoolOp .Or (a::b::rest) pos) (tOr tA tB'):=by
 intro wh pins s σ H Q I h
 refine isTrue_or (thn (ha pins s σ H _ I h) fun c s1 hQ'=>?_)
 obtain ⟨H1,I1,q1⟩:=hQ'
 cases c with
 | true=>exact ⟨H1,I1,q1⟩
 | false=>exact hb wh pins s1 σ H1 Q I1 q1
theorem zc4 (ha:PT X a tA):PT X (.UnaryOp .Not a pos) (zeG tA):=by
 intro pins s σ H Q I h
 exact isTrue_not (ha pins s σ H (fun c H1=>Q (!c) H1) I h)
def zet (ta tb:TE):TE:=fun σ H Q=>ta σ H fun x H1=>∃ c,x=.bl c∧if c=true then tb σ H1 Q else Q (.bl false) H1
def tOrV (ta tb:TE):TE:=fun σ H Q=>ta σ H fun x H1=>∃ c,x=.bl c∧if c=true then Q (.bl true) H1 else tb σ H1 Q
def zmB (ta:TE):TE:=fun σ H Q=>ta σ H fun x H1=>∃ c,x=.bl c∧Q (.bl (!c)) H1
theorem zeK {op} {t:TE} (h:PE X a t):PE X (.BoolOp op [a] pos) t:=fun pins s σ H Q I hw=>BoolOp_one (h pins s σ H Q I hw)
theorem zeI (ha:PE X a ta) (hb:PE X (.BoolOp .And (b::rest) pos) tb):PE X (.BoolOp .And (a::b::rest) pos) (zet ta tb):=by
 intro pins s σ H Q I h
 refine BoolOp_and (thn (ha pins s σ H _ I h) fun v s1 hQ'=>?_)
 obtain ⟨x,H1,I1,r1,q1⟩:=hQ'
 obtain ⟨c,rfl,q1⟩:=q1
 cases r1
 refine wpAny_truthy_bool ?_
 cases c with
 | true=>exact hb pins s1 σ H1 Q I1 q1
 | false=>exact ⟨.bl false,H1,I1,rfl,q1⟩
theorem pe_or (ha:PE X a ta) (hb:PE X (.BoolOp .Or (b::rest) pos) tb):PE X (.BoolOp .Or (a::b::rest) pos) (tOrV ta tb):=by
 intro pins s σ H Q I h
 refine BoolOp_or (thn (ha pins s σ H _ I h) fun v s1 hQ'=>?_)
 obtain ⟨x,H1,I1,r1,q1⟩:=hQ'
 obtain ⟨c,rfl,q1⟩:=q1
 cases r1
 refine wpAny_truthy_bool ?_
 cases c with
 | false=>exact hb pins s1 σ H1 Q I1 q1
 | true=>exact ⟨.bl true,H1,I1,rfl,q1⟩
theorem zmL (ha:PE X a ta):PE X (.UnaryOp .Not a pos) (zmB ta):=by
 intro pins s σ H Q I h
 refine UnaryOp_ (thn (ha pins s σ H _ I h) fun v s1 hQ'=>?_)
 obtain ⟨x,H1,I1,r1,q1⟩:=hQ'
 obtain ⟨c,rfl,q1⟩:=q1
 cases r1
 exact not_of (wpAny_truthy_bool ⟨.bl (!c),H1,I1,rfl,q1⟩)
end
end L2
namespace L2
open PySem PySem.Spec PyProof.Rows
def SqL (K:PySem.W.Frag) (H:Hp) (a:Addr) (xs:List V):Prop :=
 Rd H a (.lst xs) ∨
  ∃ (o:Obj) (its:Array Value) (n:Nat),K.lookup a=some o∧o.cls=.type "list"∧o.dict=none∧o.data=.seq its n∧its.size≤sizeLine∧zbU xs its.toList
def SqT (K:PySem.W.Frag) (H:Hp) (a:Addr) (xs:List V):Prop :=
 Rd H a (.tup xs) ∨
  ∃ (o:Obj) (its:Array Value) (n:Nat),K.lookup a=some o∧o.cls=.type "tuple"∧o.data=.seq its n∧its.size≤sizeLine∧zbU xs its.toList
def absV:Value→Option V
 | .none=>some .non
 | .bool b=>some (.bl b)
 | .int i _=>some (.int i)
 | .str x _=>some (.str x)
 | .bytes b _=>some (.byt b)
 | .float b _=>some (.flt b)
 | .ref a=>some (.ref a)
 | .type n=>some (.ty n)
 | _=>none
theorem zb5.abs {x:V} {u:Value} (r:zb5 x u):absV u=some x:=by
 cases x with
 | non=>cases r;rfl
 | bl _=>cases r;rfl
 | int _=>obtain ⟨t,rfl⟩:=r;rfl
 | str _=>obtain ⟨t,rfl⟩:=r;rfl
 | byt _=>obtain ⟨t,rfl⟩:=r;rfl
 | flt _=>obtain ⟨t,rfl⟩:=r;rfl
 | ref _=>cases r;rfl
 | ty _=>cases r;rfl
theorem zb5.inj {x y:V} {u:Value} (r:zb5 x u) (q:zb5 y u):x=y:=Option.some.inj (r.abs.symm.trans q.abs)
theorem zbU.inj:∀ {xs ys:List V} {us:List Value},zbU xs us→zbU ys us→xs=ys
 | _,_,_,.nil,.nil=>rfl
 | _,_,_,.cons r t,.cons r' t'=>by rw [r.inj r',zbU.inj t t']
section
variable {X:Cx} {pins:List (Addr×Obj)} {σ:St} {H:Hp} {s:Shared} {a:Addr} {xs ys:List V}
theorem SqL.of {K:PySem.W.Frag} (h:H a=some (.lst xs)):SqL K H a xs:=.inl (.inl h)
theorem SqT.of {K:PySem.W.Frag} (h:H a=some (.tup xs)):SqT K H a xs:=.inl (.inl h)
theorem Inv.list (I:Inv X pins σ H s) (h:SqL X.K H a xs):∃ its:List Value,zbU xs its∧PlainL s.heap a its.toArray∧xs.length≤sizeLine:=by
 rcases h with h | ⟨o,its,n,hk,hc,hd,hs,hz,r⟩
 ·obtain ⟨z,its,n,r,e⟩:=h.ok I.hok
  exact ⟨its,r,⟨_,n,e,rfl,rfl,rfl⟩,z⟩
 ·refine ⟨its.toList,r,⟨o,n,I.kIn a o hk,hc,hd,by simpa using hs⟩,?_⟩
  have e:=r.length
  simp only [Array.length_toList] at e
  (first|lia|omega)
theorem Inv.tuple (I:Inv X pins σ H s) (h:SqT X.K H a xs):∃ its:List Value,zbU xs its∧IsTup s.heap a its.toArray∧xs.length≤sizeLine:=by
 rcases h with h | ⟨o,its,n,hk,hc,hs,hz,r⟩
 ·obtain ⟨z,its,r,p⟩:=h.ok I.hok
  exact ⟨its,r,p,z⟩
 ·refine ⟨its.toList,r,⟨o,I.kIn a o hk,hc,n,by simpa using hs⟩,?_⟩
  have e:=r.length
  simp only [Array.length_toList] at e
  (first|lia|omega)
theorem Inv.list_inj (I:Inv X pins σ H s) (h:SqL X.K H a xs) (h':SqL X.K H a ys):xs=ys:=by
 obtain ⟨its,r,⟨o,n,e,_,_,d⟩,_⟩:=I.list h
 obtain ⟨its',r',⟨o',n',e',_,_,d'⟩,_⟩:=I.list h'
 rw [e] at e';cases e'
 rw [d] at d'
 injection d' with d1 _
 have:its=its':=by simpa using congrArg Array.toList d1
 subst this
 exact r.inj r'
end
abbrev Cx.wish (X:Cx) (E:Value→Shared→Prop):Cx:={ X with xe:=E }
abbrev Cx.nox (X:Cx):Cx:=X.wish fun _ _=>False
theorem Cx.Ok.wish {X:Cx} (ok:X.Ok) (E:Value→Shared→Prop):(X.wish E).Ok :=
 ⟨ok.mod,ok.kind,ok.glob,ok.blt,ok.above,ok.inj,ok.has,ok.cab,ok.hd,ok.frames,ok.stk,ok.exf,ok.bs,ok.bsz,ok.noex,ok.exfs,ok.funs,ok.frf⟩
theorem Cx.Ok.unwish {X:Cx} {E:Value→Shared→Prop} (ok:(X.wish E).Ok):X.Ok :=
 ⟨ok.mod,ok.kind,ok.glob,ok.blt,ok.above,ok.inj,ok.has,ok.cab,ok.hd,ok.frames,ok.stk,ok.exf,ok.bs,ok.bsz,ok.noex,ok.exfs,ok.funs,ok.frf⟩
section
variable {X:Cx} {pins:List (Addr×Obj)} {σ:St} {H:Hp} {s:Shared} {E:Value→Shared→Prop}
theorem Inv.wish (I:Inv X pins σ H s) (E:Value→Shared→Prop):Inv (X.wish E) pins σ H s:=⟨I.ok.wish E,I.os,I.bare,I.base,I.loc,I.cell,I.free,I.freeC,I.pin,I.hok,I.len⟩
theorem Inv.unwish (I:Inv (X.wish E) pins σ H s):Inv X pins σ H s:=⟨I.ok.unwish,I.os,I.bare,I.base,I.loc,I.cell,I.free,I.freeC,I.pin,I.hok,I.len⟩
theorem SP.unwish {D:zce} {f:Flow} {s':Shared} (h:SP (X.wish E) pins D f s'):SP X pins D f s':=by
 cases f with
 | next=>obtain ⟨σ',H',I,q⟩:=h;exact ⟨σ',H',I.unwish,q⟩
 | brk=>obtain ⟨σ',H',I,q⟩:=h;exact ⟨σ',H',I.unwish,q⟩
 | cont=>obtain ⟨σ',H',I,q⟩:=h;exact ⟨σ',H',I.unwish,q⟩
 | ret u=>obtain ⟨v,σ',H',I,r,q⟩:=h;exact ⟨v,σ',H',I.unwish,r,q⟩
theorem PSs.nox {st:List Stmt} {t:TS} (h:PSs X.nox st t):PSs X st t:=fun pins s σ H D I hw =>
 wpAny_mono (h pins s σ H D (I.wish _) hw) (fun _ _ q=>q.unwish) fun _ _ z=>False.elim z
end
section
variable {X:Cx} {st:Stmt} {rest:List Stmt} {t u:TS} {e:Expr} {te:TE} {pos:Pos}
def zaV:TS:=fun D σ H=>D.nx σ H
def zaN (t u:TS):TS:=fun D σ H=>t { D with nx:=u D } σ H
theorem zaT:PSs X [] zaV:=fun _ _ σ H _ I h=>wpAny_execs_nil ⟨σ,H,I,h⟩
theorem zad (h1:PS X st t) (h2:PSs X rest u):PSs X (st::rest) (zaN t u):=by
 intro pins s σ H D I h
 refine wpAny_execs_cons (thn (h1 pins s σ H { D with nx:=u D } I h) fun f s1 q=>?_)
 cases f with
 | next =>
  obtain ⟨σ',H',I',q⟩:=q
  exact h2 pins s1 σ' H' D I' q
 | ret v=>exact q
 | brk=>exact q
 | cont=>exact q
theorem zaj (h1:PS X st t):PSs X [st] t:=by
 intro pins s σ H D I h
 refine wpAny_execs_cons (thn (h1 pins s σ H D I h) fun f s1 q=>?_)
 cases f with
 | next=>exact wpAny_execs_nil q
 | ret v=>exact q
 | brk=>exact q
 | cont=>exact q
theorem Inv.quiet {pins:List (Addr×Obj)} {σ:St} {H:Hp} {s:Shared} (I:Inv X pins σ H s):interactive X.env=false:=by simp [interactive,I.ok.kind]
def ze7 (te:TE):TS:=fun D σ H=>te σ H fun _ H1=>D.nx σ H1
theorem zeX (he:PE X e te) (hs:swapsWith e none pos.line X.env=pure false:=by rfl):PS X (.Expr e pos) (ze7 te):=by
 intro pins s σ H D I h
 exact wpAny_Expr_any (thn (he pins s σ H _ I h) fun v s1 ⟨x,H1,I1,r1,q1⟩=>⟨σ,H1,I1,q1⟩) I.quiet hs
def zbi (te:TE):TS:=fun D σ H=>te σ H D.rt
theorem zaG (he:PE X e te):PS X (.Return (some e) pos) (zbi te):=by
 intro pins s σ H D I h
 exact wpAny_Return_some (thn (he pins s σ H _ I h) fun v s1 ⟨x,H1,I1,r1,q1⟩=>⟨x,σ,H1,I1,r1,q1⟩)
def zcn (c:TT) (t u:TS):TS:=fun D σ H=>c σ H fun b H1=>if b=true then t D σ H1 else u D σ H1
theorem zcf {c:Expr} {a b:List Stmt} {tc:TT} (hc:PT X c tc) (ha:PSs X a t) (hb:PSs X b u):PS X (.If c a b pos) (zcn tc t u):=by
 intro pins s σ H D I h
 refine wpAny_If (thn (hc pins s σ H _ I h) fun d s1 hQ'=>?_)
 obtain ⟨H1,I1,q1⟩:=hQ'
 cases d with
 | true=>exact ha pins s1 σ H1 D I1 q1
 | false=>exact hb pins s1 σ H1 D I1 q1
def zld:TS:=fun _ _ _=>False
theorem zjT:PS X st zld:=fun _ _ _ _ _ _ h=>h.elim
end
abbrev TG:=V→St→Hp→(St→Hp→Prop)→Prop
abbrev TGs:=List V→St→Hp→(St→Hp→Prop)→Prop
def PG (X:Cx) (target:Expr) (t:TG):Prop :=
 ∀ (pins:List (Addr×Obj)) (s:Shared) (σ:St) (H:Hp) (v:V) (u:Value) (Q:St→Hp→Prop),Inv X pins σ H s→zb5 v u→t v σ H Q →
  wpAny (model X.prog X.w) X.A (assign target X.env u) (fun _ s'=>∃ σ' H',Inv X pins σ' H' s'∧Q σ' H') X.xe s
def PGs (X:Cx) (ts:List Expr) (t:TGs):Prop :=
 ∀ (pins:List (Addr×Obj)) (s:Shared) (σ:St) (H:Hp) (vs:List V) (us:List Value) (Q:St→Hp→Prop),Inv X pins σ H s→zbU vs us→t vs σ H Q →
  wpAny (model X.prog X.w) X.A (assignInOrder ((assignEach ts X.env).map (·.2)) us) (fun _ s'=>∃ σ' H',Inv X pins σ' H' s'∧Q σ' H') X.xe s
abbrev TSet:=V→V→V→Hp→(Hp→Prop)→Prop
def PSet (X:Cx) (t:TSet):Prop :=
 ∀ (pins:List (Addr×Obj)) (s:Shared) (σ:St) (H:Hp) (o i v:V) (ov iv u:Value) (Q:Hp→Prop),Inv X pins σ H s→zb5 o ov→zb5 i iv→zb5 v u→t o i v H Q →
  wpAny (model X.prog X.w) X.A (setItem ov iv u) (fun _ s'=>∃ H',Inv X pins σ H' s'∧Q H') X.xe s
section
variable {X:Cx} {pos:Pos}
def zak (i:Nat):TG:=fun v σ H Q=>Q (σ.set i (some v)) H
theorem zaH {i:Nat} {x:Str} (hN:X.N.Nodup) (hi:X.N[i]?=some x) (hx:Loc X.env.scope x) (hf:X.fn x=true∨X.env.scope.names.lookup x=some .local:=by first | exact .inl rfl | exact .inr rfl | assumption):PG X (.Name x pos) (zak i):=by
 intro pins s σ H v u Q I r h
 exact wpAny_assign_Name (zgc I hN hi hx r (fun s' I'=>⟨_,H,I',h⟩) hf)
def zk6:TGs:=fun vs σ H Q=>vs=[]∧Q σ H
def zdO (t:TG) (u:TGs):TGs:=fun vs σ H Q=>∃ v r,vs=v::r∧t v σ H fun σ' H'=>u r σ' H' Q
theorem zeU:PGs X [] zk6:=by
 intro pins s σ H vs us Q I r h
 obtain ⟨e,h⟩:=h
 subst e
 cases r
 exact assignInOrder_nil ⟨σ,H,I,h⟩
theorem zbR {e:Expr} {es:List Expr} {t:TG} {u:TGs} (h1:PG X e t) (h2:PGs X es u)
  (hs:(assignEach (e::es) X.env).map (·.2)=assign e X.env::(assignEach es X.env).map (·.2):=by rfl):PGs X (e::es) (zdO t u):=by
 intro pins s σ H vs us Q I r h
 obtain ⟨v,vr,e1,h⟩:=h
 subst e1
 cases r with
 | cons r rr =>
  rw [hs]
  refine assignInOrder_cons (thn (h1 pins s σ H _ _ _ I r h) fun _ s1 hQ'=>?_)
  obtain ⟨σ1,H1,I1,q1⟩:=hQ'
  exact h2 pins s1 σ1 H1 _ _ Q I1 rr q1
def zli (K:PySem.W.Frag) (n:Nat) (t:TGs):TG:=fun v σ H Q=>∃ a xs,v=.ref a∧SqT K H a xs∧xs.length=n∧t xs σ H Q
theorem zgK {es:List Expr} {k:Nat} {t:TGs} {n:Nat} (hc:X.calm=true) (h:PGs X es t)
  (hn:(assignEach es X.env).length=n:=by rfl) (hst:(assignEach es X.env).findIdx? (·.1)=none:=by rfl):PG X (.Tuple es k pos) (zli X.K n t):=by
 intro pins s σ H v u Q I r hw
 obtain ⟨a,xs,e1,hq,hl,hw⟩:=hw
 subst e1
 cases r
 obtain ⟨its,rv,ht,hz⟩:=I.tuple hq
 refine assign_Tuple_tuple (I.ok.hd hc) ht (by simp [hn,← hl,rv.length]) hst fun h' hx=>?_
 have I1:Inv X pins σ H { s with heap:=h' }:=I.kept (t':=s.toks) fun b o e=>hx b o (Nat.ne_of_lt (Heap.lt_size e)) e
 exact h pins _ σ H xs _ Q I1 (by simpa using rv) hw
def ziJ (to ti:TE) (t:TSet):TG:=fun v σ H Q=>to σ H fun o H1=>ti σ H1 fun i H2=>t o i v H2 fun H3=>Q σ H3
theorem zfb {o i:Expr} {to ti:TE} {t:TSet} (ho:PE X o to) (hi:PE X i ti) (hs:PSet X t)
  (ha:∀ v,assign (.Subscript o i pos) X.env v=(do
   let ov ← holding [v] (eval o X.env)
   let iv ← holding [v,ov] (eval i X.env)
   standAt pos
   holding [v,ov,iv] (setItem ov iv v)
   release [v,ov,iv] []):=by intro _;rfl):PG X (.Subscript o i pos) (ziJ to ti t):=by
 intro pins s σ H v u Q I r h
 rw [ha]
 refine wpAny_bind (wpAny_holding (thn (ho pins s σ H _ I h) fun ov s1 hQ'=>?_))
 obtain ⟨x,H1,I1,r1,q1⟩:=hQ'
 refine wpAny_bind (wpAny_holding (thn (hi pins s1 σ H1 _ I1 q1) fun iv s2 hQ'=>?_))
 obtain ⟨y,H2,I2,r2,q2⟩:=hQ'
 refine wpAny_bind (wpAny_standAt (wpAny_bind (wpAny_holding (thn (hs pins s2 σ H2 x y v ov iv u _ I2 r1 r2 r q2) fun _ s3 hQ'=>?_))))
 obtain ⟨H3,I3,q3⟩:=hQ'
 exact wpAny_release ⟨σ,H3,I3,q3⟩
def za9 (te:TE) (g:TG):TS:=fun D σ H=>te σ H fun x H1=>g x σ H1 D.nx
theorem zeM {tg e:Expr} {te:TE} {g:TG} (he:PE X e te) (hg:PG X tg g) (hs:swapsWithSole [tg] e pos.line X.env=pure false:=by rfl) (hw:swappedStores [tg] e X.env=pure none:=by rfl)
  (h1:(assignEach [tg] X.env).map (·.2)=[assign tg X.env]:=by rfl):PS X (.Assign [tg] e pos) (za9 te g):=by
 intro pins s σ H D I h
 refine wpAny_Assign_stores (thn (he pins s σ H _ I h) fun v s1 hQ'=>?_) hs hw
 obtain ⟨x,H1,I1,r1,q1⟩:=hQ'
 rw [h1]
 exact thn (hg pins s1 σ H1 x v _ I1 r1 q1) fun _ s2 q=>q
theorem zaK {i:Nat} {x:Str} {e:Expr} {te:TE} {pos':Pos} (hN:X.N.Nodup) (hi:X.N[i]?=some x) (hx:Loc X.env.scope x) (he:PE X e te) (hs:swapsWith e (some (.Name x pos')) pos.line X.env=pure false:=by rfl) (hf:X.fn x=true∨X.env.scope.names.lookup x=some .local:=by first | exact .inl rfl | exact .inr rfl | assumption) :
  PS X (.Assign [.Name x pos'] e pos) (za9 te (zak i)):=by
 intro pins s σ H D I h
 refine wpAny_Assign_Name (thn (he pins s σ H _ I h) fun v s1 hQ'=>?_) hs
 obtain ⟨y,H1,I1,r1,q1⟩:=hQ'
 exact zgc I1 hN hi hx r1 (fun s2 I2=>⟨_,H1,I2,q1⟩) hf
def tPar (i j:Nat) (ta:TA):TS:=fun D σ H=>ta σ H fun vs H1=>∃ v w,vs=[v,w]∧D.nx ((σ.set i (some v)).set j (some w)) H1
theorem zpH {i j:Nat} {x y:Str} {a b:Expr} {ta:TA} {px py pt:Pos} {kt k2 pt2} (hc:X.calm=true) (hN:X.N.Nodup) (hi:X.N[i]?=some x) (hj:X.N[j]?=some y) (hij:i≠j)
  (hx:X.env.scope.names.lookup x=some .local) (hy:X.env.scope.names.lookup y=some .local) (ha:PA X [a,b] ta)
  (hw:swappedStores [.Tuple [.Name x px,.Name y py] kt pt] (.Tuple [a,b] k2 pt2) X.env=pure (some [x,y]))
  (hs:swapsWithSole [.Tuple [.Name x px,.Name y py] kt pt] (.Tuple [a,b] k2 pt2) pos.line X.env=pure false:=by rfl) :
  PS X (.Assign [.Tuple [.Name x px,.Name y py] kt pt] (.Tuple [a,b] k2 pt2) pos) (tPar i j ta):=by
 intro pins s σ H D I h
 rw [exec_Assign_arm]
 refine wpAny_bind (wpAny_standAt ?_)
 rw [hs]
 refine wpAny_bind (wpAny_pure ?_)
 rw [if_neg (by decide)]
 refine wpAny_bind (Tuple_ (thn (ha _ pins s σ H _ I h) fun us s1 hQ'=>?_))
 obtain ⟨vs,H1,I1,r1,q1⟩:=hQ'
 obtain ⟨v,w,e1,q1⟩:=q1
 subst e1
 obtain ⟨u1,u2,rfl,rv,rw'⟩:∃ u1 u2,us=[u1,u2]∧zb5 v u1∧zb5 w u2:=by
  cases r1 with
  | cons p q =>
   cases q with
   | cons p' q' =>
    cases q'
    exact ⟨_,_,rfl,p,p'⟩
 refine wpAny_newObj_type ?_ (by show 2≤sizeLine;decide)
 have I2:Inv X pins σ H1 { s1 with heap:=s1.heap.push { cls:=.type "tuple",data:=.seq [u1,u2].toArray } }:=I1.kept (t':=s1.toks) fun b o e=>Heap.get?_push_of_some _ e
 rw [hw]
 refine wpAny_bind (wpAny_pure ?_)
 show wpAny (model X.prog X.w) X.A (do rule "assign.swapped-stores";let items ← unpackItems (.ref s1.heap.objs.size) 2 none;assignInOrder [fun v=>bindName X.env y v,fun v=>bindName X.env x v] items.reverse;pure Flow.next) _ _ _
 refine wpAny_bind (wpAny_rule (wpAny_bind (unpackItems_tuple (items:=#[u1,u2]) (I.ok.hd hc) (IsTup.new s1.heap _) fun h' hx'=>?_)))
 have I3:=I2.kept (h':=h') (t':=s1.toks) fun b o e=>hx' b o (Nat.ne_of_lt (Heap.lt_size e)) e
 show wpAny _ _ (assignInOrder [fun v=>bindName X.env y v,fun v=>bindName X.env x v] [u2,u1] >>= fun _=>pure Flow.next) _ _ _
 refine wpAny_bind (assignInOrder_cons (wpAny_bindName (zgc I3 hN hj (.inl hy) rw' (fun s2 I4=>?_) (.inr hy))))
 refine assignInOrder_cons (wpAny_bindName (zgc I4 hN hi (.inl hx) rv (fun s3 I5=>assignInOrder_nil (wpAny_pure ?_)) (.inr hx)))
 rw [List.set_comm _ _ (Ne.symm hij)] at I5
 exact ⟨_,H1,I5,q1⟩
end
section
variable {X:Cx} {pos:Pos}
def zf0 (c:TT) (tb:TS):TS:=fun D σ H=>∃ W:Nat→St→Hp→Prop,(∃ m,W m σ H)∧∀ m σ H,W m σ H →
 c σ H fun b H1=>if b=true then ∃ N:St→Hp→Prop,(∀ σ' H',N σ' H'→∃ m',m'<m∧W m' σ' H')∧tb { D with nx:=N,ct:=N,bk:=D.nx } σ H1 else D.nx σ H1
theorem zhK {c:Expr} {body:List Stmt} {tc:TT} {tb:TS} (hp:PassesOwn (model X.prog X.w) X.A X.env X.xe) (hc:PT X c tc) (hb:PSs X body tb):PS X (.While c body [] pos) (zf0 tc tb):=by
 intro pins s σ H D I h
 obtain ⟨W,⟨m0,w0⟩,turn⟩:=h
 refine wpAny_While (codeAny_whileLoop (fun n s'=>∃ σ' H',Inv X pins σ' H' s'∧W n σ' H') ?_ m0 ⟨σ,H,I,w0⟩)
 rintro n s1 ⟨σ1,H1,I1,w1⟩
 refine wpAny_passesOwn hp (thn (hc pins s1 σ1 H1 _ I1 (turn n σ1 H1 w1)) fun b s2 hQ'=>?_)
 obtain ⟨H2,I2,q2⟩:=hQ'
 cases b with
 | true =>
  obtain ⟨N,hN,q2⟩:=q2
  rw [if_pos rfl]
  refine wpAny_passesOwn hp (thn (hb pins s2 σ1 H2 _ I2 q2) fun f s3 q3=>?_)
  cases f with
  | next =>
   obtain ⟨σ3,H3,I3,n3⟩:=q3
   obtain ⟨m',hm,w3⟩:=hN σ3 H3 n3
   exact ⟨m',hm,σ3,H3,I3,w3⟩
  | cont =>
   obtain ⟨σ3,H3,I3,n3⟩:=q3
   obtain ⟨m',hm,w3⟩:=hN σ3 H3 n3
   exact ⟨m',hm,σ3,H3,I3,w3⟩
  | brk=>exact q3
  | ret v=>exact q3
 | false =>
  rw [if_neg Bool.false_ne_true]
  exact wpAny_execs_nil ⟨σ1,H2,I2,q2⟩
end
structure It where
 go:Nat→Hp→Prop
 yld:Nat→Hp→V→Hp→Prop
 stop:Nat→Hp→Prop
def zgn (X:Cx) (pins:List (Addr×Obj)) (H:Hp) (b:Addr):Prop :=
 H b=none∧b≠X.env.locals∧b∉X.fs∧(b∈X.ex∨X.s₀.heap.objs.size≤b)∧(∀ x c,X.env.cells.lookup x=some c→c≠b)∧∀ p∈X.pn++pins,p.1≠b
theorem Inv.fpOk {X:Cx} {pins:List (Addr×Obj)} {σ:St} {H H':Hp} {s:Shared} {b:Addr} (I:Inv X pins σ H s) (hb:s.heap.objs.size≤b) (hn:H' b=none):zgn X pins H' b:=by
 refine ⟨hn,Nat.ne_of_gt (Nat.lt_of_lt_of_le I.lt hb),I.nofs hb,.inr (Nat.le_trans I.sz hb),fun x c e z=>?_,fun p hp z=>?_⟩
 ·obtain ⟨v,q⟩:=I.cell x c e
  exact absurd (Nat.lt_of_lt_of_le q.lt (by rw [z];exact hb)) (Nat.lt_irrefl _)
 ·exact absurd (Nat.lt_of_lt_of_le (Heap.lt_size (I.pin p hp).1) (by rw [z];exact hb)) (Nat.lt_irrefl _)
structure zpj (P:Program) (w:World) (K:PySem.W.Frag) (tg:Expr) (J:It) (fp:List Addr) (it:Addr) (tn:Nat→Heap→Prop):Prop where
 mem:it∈fp
 obj:∀ i h,tn i h→∀ b∈fp,∃ o,h.get? b=some o∧∀ v,o.data≠.cell v
 keep:∀ i h h',tn i h→(∀ b∈fp,∀ o,h.get? b=some o→h'.get? b=some o)→tn i h'
 item:∀ (X:Cx),X.prog=P→X.w=w→X.K=K→X.calm=true→∀ (i:Nat) (pins:List (Addr×Obj)) (s:Shared) (σ:St) (H:Hp) (E:Value→Shared→Prop),Inv X pins σ H s→(∀ b∈fp,zgn X pins H b)→tn i s.heap→J.go i H →
  wpAny (model P w) X.A (pyNext (.ref it)) (fun r s1=>∃ u,r=some u ∧
   wpAny (model P w) X.A (letOwnedTupleGo tg (.ref it) u) (fun _ s2=>∃ x H',Inv X pins σ H' s2∧zb5 x u∧J.yld i H x H'∧tn (i+1) s2.heap∧∀ b∈fp,H' b=none) E s1) E s
 done:∀ (X:Cx),X.prog=P→X.w=w→X.K=K→X.calm=true→∀ (i:Nat) (pins:List (Addr×Obj)) (s:Shared) (σ:St) (H:Hp) (E:Value→Shared→Prop),Inv X pins σ H s→(∀ b∈fp,zgn X pins H b)→tn i s.heap→J.stop i H →
  wpAny (model P w) X.A (pyNext (.ref it)) (fun r s1=>r=none∧Inv X pins σ H s1) E s
 self:∀ (A:Around) (i:Nat) (s:Shared) (Q:Value→Shared→Prop) (E:Value→Shared→Prop),tn i s.heap→Q (.ref it) s→wpAny (model P w) A (pyIter (.ref it)) Q E s
abbrev TI:=St→Hp→(It→Hp→Prop)→Prop
def PIE (X:Cx) (pins:List (Addr×Obj)) (σ:St) (tg:Expr) (R:It→Hp→Prop) (itv:Value) (s2:Shared):Prop :=
 ∃ (it:Addr) (fp:List Addr) (tn:Nat→Heap→Prop) (J:It) (H':Hp),itv=.ref it∧Inv X pins σ H' s2∧zpj X.prog X.w X.K tg J fp it tn∧tn 0 s2.heap∧(∀ b∈fp,zgn X pins H' b)∧R J H'
def PI (X:Cx) (tg iter:Expr) (wi:TI):Prop :=
 ∀ (pins:List (Addr×Obj)) (s:Shared) (σ:St) (H:Hp) (R:It→Hp→Prop),Inv X pins σ H s→wi σ H R →
  wpAny (model X.prog X.w) X.A (eval iter X.env) (fun v s1=>wpAny (model X.prog X.w) X.A (pyIter v) (PIE X pins σ tg R) X.xe s1) X.xe s
theorem zps {M:Model} {A:Around} {E:Value→Shared→Prop} {s:Shared} {tg:Expr} {it:Addr} {u:Value} {o:Obj} {n:String} {vs:Array Value} {Q:Unit→Shared→Prop} (ho:s.heap.get? it=some o) (hc:o.cls=.type n) (hd:o.data=.fields vs)
  (hn:["enumerate","zip","dict_itemiterator","dict_reverseitemiterator","odict_iterator","itertools.zip_longest","itertools.pairwise"].contains n=false) (hQ:Q () s):wpAny M A (letOwnedTupleGo tg (.ref it) u) Q E s:=by
 unfold letOwnedTupleGo
 cases tg <;> first
  | exact wpAny_pure hQ
  | (cases u <;> first
    | exact wpAny_pure hQ
    | (refine wpAny_bind (wpAny_load ho ?_)
       rw [hc,hd]
       show wpAny M A (if (["enumerate","zip","dict_itemiterator","dict_reverseitemiterator","odict_iterator","itertools.zip_longest","itertools.pairwise"].contains n&&vs[0]? == some (rawInt _))=true then _ else _) Q E s
       rw [if_neg (by intro h;rw [hn,Bool.false_and] at h;cases h)]
       exact wpAny_pure hQ))
def Itl (K:PySem.W.Frag) (a:Addr):It :=
 ⟨fun i H=>∃ xs x,SqL K H a xs∧xs[i]?=some x,fun i H x H'=>H'=H∧∀ xs,SqL K H a xs→xs[i]?=some x,fun i H=>∃ xs,SqL K H a xs∧xs.length≤i⟩
def Itr (lo:Int) (n:Nat):It:=⟨fun i _=>i<n,fun i H x H'=>H'=H∧x=.int (lo+i),fun i _=>n≤i⟩
theorem zlk {P:Program} {w:World} {K:PySem.W.Frag} {tg:Expr} (a it:Addr):zpj P w K tg (Itl K a) [it] it (fun i h=>h.IsListIter it a i) where
 mem:=by simp
 obj:=fun i h st b hb=>by
  have e:b=it:=by simpa using hb
  subst e
  obtain ⟨o,e,c,d⟩:=st
  exact ⟨o,e,fun v z=>by rw [d] at z;cases z⟩
 keep:=fun i h h' st k=>st.at fun o e=>k it (by simp) o e
 item:=by
  intro X hP hw hK hc i pins s σ H E I hf st hg
  subst hP hw hK
  obtain ⟨xs,x,hq,hx⟩:=hg
  obtain ⟨its,rv,p,hz⟩:=I.list hq
  obtain ⟨u,hu,ru⟩:=rv.get hx
  obtain ⟨f0,f1,f2,f3,f4,f5⟩:=hf it (by simp)
  refine wpAny_pyNext_list_item st p.isList (x:=u) (by simpa using hu) fun h' st' sb=>?_
  have I1:Inv X pins σ H { s with heap:=h' }:=I.turned (t':=s.toks) (fun b o hb e=>(sb.2 b hb).trans e) f0 f1 f3 f4 f5
  obtain ⟨o,e,c,d⟩:=id st'
  exact ⟨u,rfl,zps (s:={ s with heap:=h' }) e c d (by decide) ⟨x,H,I1,ru,⟨rfl,fun ys hy=>by rw [I.list_inj hy hq];exact hx⟩,st',fun b hb=>(hf b hb).1⟩⟩
 done:=by
  intro X hP hw hK hc i pins s σ H E I hf st hg
  subst hP hw hK
  obtain ⟨xs,hq,hx⟩:=hg
  obtain ⟨its,rv,p,hz⟩:=I.list hq
  obtain ⟨f0,f1,f2,f3,f4,f5⟩:=hf it (by simp)
  have hl:=rv.length
  exact wpAny_pyNext_list_end (I.ok.hd hc) st p.isList (by simp;(first|lia|omega)) fun h' eb=>⟨rfl,I.turned (t':=s.toks) (fun b o hb e=>eb b o hb e) f0 f1 f3 f4 f5⟩
 self:=fun _ _ _ _ _ st h=>wpAny_pyIter_listiter st h
theorem zkf {P:Program} {w:World} {K:PySem.W.Frag} {tg:Expr} (it:Addr) (lo:Int) (n:Nat):zpj P w K tg (Itr lo n) [it] it (fun i h=>IsRangeIter h it (lo+(i:Nat)*1) ((n:Int) - (i:Nat)) 1) where
 mem:=by simp
 obj:=fun i h st b hb=>by
  have e:b=it:=by simpa using hb
  subst e
  exact ⟨_,st,fun v z=>by
   have z':Data.fields _=Data.cell v:=z
   cases z'⟩
 keep:=fun i h h' st k=>k it (by simp) _ st
 item:=by
  intro X hP hw hK hc i pins s σ H E I hf st hg
  subst hP hw hK
  obtain ⟨f0,f1,f2,f3,f4,f5⟩:=hf it (by simp)
  have W:=Walks.range (prog:=X.prog) (w:=X.w) (I.ok.hd hc) it lo 1 n
  refine W.item i s _ _ hg st fun v h' tk hv st' kk=>?_
  obtain ⟨t,rfl⟩:=hv
  have I1:Inv X pins σ H { s with heap:=h',toks:=tk }:=I.turned (fun b o hb e=>kk b o (by simpa using hb) e) f0 f1 f3 f4 f5
  refine ⟨_,rfl,zps (s:={ s with heap:=h',toks:=tk }) (n:="range_iterator") st' rfl rfl (by decide) ⟨.int (lo+i),H,I1,⟨t,?_⟩,⟨rfl,rfl⟩,st',fun b hb=>(hf b hb).1⟩⟩
  rw [Int.mul_one]
 done:=by
  intro X hP hw hK hc i pins s σ H E I hf st hg
  subst hP hw hK
  obtain ⟨f0,f1,f2,f3,f4,f5⟩:=hf it (by simp)
  exact wpAny_pyNext_range_end (I.ok.hd hc) st (by have:n≤i:=hg;(first|lia|omega)) fun h' eb=>⟨rfl,I.turned (t':=s.toks) (fun b o hb e=>eb b o hb e) f0 f1 f3 f4 f5⟩
 self:=fun _ _ _ _ _ st h=>wpAny_pyIter_rangeiter st h
end L2
namespace L2
open PySem PySem.Spec PyProof.Rows
section
variable {X:Cx} {tg:Expr}
def zdG (K:PySem.W.Frag) (tl:TE):TI:=fun σ H R=>tl σ H fun x H1=>∃ a,x=.ref a∧(∃ xs,SqL K H1 a xs)∧R (Itl K a) H1
theorem zco {l:Expr} {tl:TE} (hl:PE X l tl):PI X tg l (zdG X.K tl):=by
 intro pins s σ H R I h
 refine thn (hl pins s σ H _ I h) fun v s1 hQ'=>?_
 obtain ⟨x,H1,I1,r1,q1⟩:=hQ'
 obtain ⟨a,e,⟨xs,hq⟩,q⟩:=q1
 subst e
 cases r1
 obtain ⟨its,rv,p,hz⟩:=I1.list hq
 refine wpAny_pyIter_list p.isList ?_
 refine ⟨s1.heap.objs.size,[s1.heap.objs.size],_,_,H1,rfl,I1.kept (t':=s1.toks) fun b o e=>Heap.get?_push_of_some _ e,zlk a _,⟨_,Heap.get?_push_size _ rfl,rfl,rfl⟩,fun b hb=>?_,q⟩
 have e:b=s1.heap.objs.size:=by simpa using hb
 subst e
 exact I1.fpOk (Nat.le_refl _) (I1.hok.fresh (Nat.le_refl _))
theorem zmn {pins:List (Addr×Obj)} {σ:St} {H:Hp} {s:Shared} {R:It→Hp→Prop} {E:Value→Shared→Prop} {lo hi:Int} {t u v:Tok} {tk:Nat} (I:Inv X pins σ H s) (h1:-(2 ^ 62)≤lo) (h2:lo<2 ^ 62) (h3:-(2 ^ 62)≤hi) (h4:hi<2 ^ 62)
  (q:R (Itr lo (hi - lo).toNat) H):wpAny (model X.prog X.w) X.A (pyIter (.ref s.heap.objs.size)) (PIE X pins σ tg R) E { s with heap:=s.heap.push { cls:=.type "range",data:=.fields #[.int lo t,.int hi u,.int 1 v] },toks:=tk }:=by
 refine wpAny_pyIter_range (IsRange.new ..) (small_one h1 h2 h3 h4) ?_
 have I1:Inv X pins σ H { s with heap:=s.heap.push { cls:=.type "range",data:=.fields #[.int lo t,.int hi u,.int 1 v] },toks:=tk }:=I.kept fun b o e=>Heap.get?_push_of_some _ e
 refine ⟨(s.heap.push { cls:=.type "range",data:=.fields #[.int lo t,.int hi u,.int 1 v] }).objs.size,[(s.heap.push { cls:=.type "range",data:=.fields #[.int lo t,.int hi u,.int 1 v] }).objs.size],_,_,H,rfl,
  I1.kept (t':=tk) fun b o e=>Heap.get?_push_of_some _ e,zkf _ lo (hi - lo).toNat,?_,fun b hb=>?_,q⟩
 ·have e1:lo+((0:Nat):Int)*1=lo:=by simp
  have e2:(((hi - lo).toNat:Nat):Int) - ((0:Nat):Int)=Builtin.Range.rangeSize lo hi 1:=by rw [rangeSize_one];split <;> (first|lia|omega)
  show IsRangeIter _ _ (lo+((0:Nat):Int)*1) ((((hi - lo).toNat:Nat):Int) - ((0:Nat):Int)) 1
  rw [e1,e2]
  exact Heap.get?_push_size _ rfl
 ·have e:b=(s.heap.push { cls:=.type "range",data:=.fields #[.int lo t,.int hi u,.int 1 v] }).objs.size:=by simpa using hb
  subst e
  exact I1.fpOk (Nat.le_refl _) (I1.hok.fresh (Nat.le_refl _))
def zdf (ta:TA):TI:=fun σ H R=>ta σ H fun vs H1=>∃ j:Int,vs=[.int j]∧-(2 ^ 62)≤j∧j<2 ^ 62∧R (Itr 0 j.toNat) H1
theorem zbq {a:Expr} {ta:TA} {p pos:Pos} (hg:Gl X "range") (hm:X.mg "range"=none) (ha:PA X [a] ta) (hs:starEach [a] X.env=[(false,eval a X.env)]:=by rfl):PI X tg (.Call (.Name "range" p) [a] [] pos) (zdf ta):=by
 intro pins s σ H R I h
 refine Call_ (zfT I hg hm boot_range (PyProof.Rows.callWith_type1 (thn (ha pos pins s σ H _ I h) fun us s1 hQ'=>?_) hs rfl))
 obtain ⟨vs,H1,I1,r1,q1⟩:=hQ'
 obtain ⟨j,e,q1,q2,q⟩:=q1
 subst e
 cases r1 with
 | cons r rr =>
  cases rr
  obtain ⟨t,rfl⟩:=r
  exact call_range_1 (zmn I1 (by (first|lia|omega)) (by (first|lia|omega)) q1 q2 (by simpa using q))
def zjd (wi:TI) (g:TG) (tb:TS):TS:=fun D σ H=>wi σ H fun J H1=>∃ W:Nat→Nat→St→Hp→Prop,(∃ m,W 0 m σ H1)∧∀ i m σ H,W i m σ H →
 (J.stop i H∧D.nx σ H)∨(J.go i H∧∃ N:St→Hp→Prop,(∀ σ' H',N σ' H'→∃ m',m'<m∧W (i+1) m' σ' H')∧∀ x H',J.yld i H x H'→g x σ H' fun σ2 H2=>tb { D with nx:=N,ct:=N,bk:=D.nx } σ2 H2)
def zhx (fp:List Addr) (h:Heap):List (Addr×Obj):=fp.filterMap fun b=>(h.get? b).map fun o=>(b,o)
theorem zdd {fp:List Addr} {h:Heap} {b:Addr} {o:Obj} (hb:b∈fp) (e:h.get? b=some o):(b,o)∈zhx fp h:=List.mem_filterMap.mpr ⟨b,hb,by rw [e];rfl⟩
theorem zkt {fp:List Addr} {h:Heap} {p:Addr×Obj} (hp:p∈zhx fp h):p.1∈fp∧h.get? p.1=some p.2:=by
 obtain ⟨b,hb,e⟩:=List.mem_filterMap.mp hp
 cases q:h.get? b with
 | none=>rw [q] at e;cases e
 | some o =>
  rw [q] at e
  have e':(b,o)=p:=Option.some.inj e
  subst e'
  exact ⟨hb,q⟩
theorem Inv.pinned {pins:List (Addr×Obj)} {σ:St} {H:Hp} {s:Shared} {fp:List Addr} (I:Inv X pins σ H s) (hf:∀ b∈fp,zgn X pins H b) (ho:∀ b∈fp,∃ o,s.heap.get? b=some o∧∀ v,o.data≠.cell v):Inv X (pins++zhx fp s.heap) σ H s :=
 I.pins_of fun p hp=>(List.mem_append.mp hp).elim (fun z=>I.pin p (List.mem_append_right _ z)) fun z=>by
  obtain ⟨hb,e⟩:=zkt z
  obtain ⟨f0,f1,f2,_⟩:=hf p.1 hb
  obtain ⟨o,e',d⟩:=ho p.1 hb
  rw [e] at e';cases e'
  exact ⟨e,f0,f1,f2,d⟩
theorem Inv.unpinned {pins pl:List (Addr×Obj)} {σ:St} {H:Hp} {s:Shared} (I:Inv X (pins++pl) σ H s):Inv X pins σ H s:=I.pins_of fun p hp=>I.pin p (List.mem_append_right _ (List.mem_append_left _ hp))
theorem zek {iter:Expr} {body:List Stmt} {wi:TI} {g:TG} {tb:TS} {pos:Pos} (hp:PassesOwn (model X.prog X.w) X.A X.env X.xe) (hc:X.calm=true) (hi:PI X tg iter wi) (hg:PG X tg g) (hb:PSs X body tb)
  (hs:∀ x,foldedSetIterable iter X.env x=pure x:=by intro _;rfl):PS X (.For tg iter body [] pos) (zjd wi g tb):=by
 intro pins s σ H D I h
 refine wpAny_For (thn (hi pins s σ H _ I h) fun v s1 h1=>thn h1 fun itv s2 h2=>?_) hs
 obtain ⟨it,fp,tn,J,H2,e,I2,T,st2,f2,W,⟨m0,w0⟩,turn⟩:=h2
 subst e
 have stat:∀ {H':Hp},(∀ b∈fp,H' b=none)→∀ b∈fp,zgn X pins H' b:=fun hn b hb=>⟨hn b hb,(f2 b hb).2⟩
 refine codeAny_forLoop_any (fun n s'=>∃ i σ' H',Inv X pins σ' H' s'∧tn i s'.heap∧(∀ b∈fp,H' b=none)∧W i n σ' H') ?_ m0 ⟨0,σ,H2,I2,st2,fun b hb=>(f2 b hb).1,w0⟩
 rintro n s3 ⟨i,σ3,H3,I3,st3,fr3,w3⟩
 rcases turn i n σ3 H3 w3 with ⟨stop,qn⟩ | ⟨go,N,hN,step⟩
 ·refine wpAny_passesOwn hp (thn (T.done X rfl rfl rfl hc i pins s3 σ3 H3 X.xe I3 (stat fr3) st3 stop) fun r s4 hQ'=>?_)
  obtain ⟨hr,I4⟩:=hQ'
  subst hr
  exact wpAny_execs_nil ⟨σ3,H3,I4,qn⟩
 ·refine wpAny_passesOwn hp (thn (T.item X rfl rfl rfl hc i pins s3 σ3 H3 X.xe I3 (stat fr3) st3 go) fun r s4 hQ'=>?_)
  obtain ⟨u,hr,h4⟩:=hQ'
  subst hr
  refine wpAny_passesOwn hp (thn h4 fun _ s5 hQ'=>?_)
  obtain ⟨x,H5,I5,r5,y5,st5,fr5⟩:=hQ'
  have I5':=I5.pinned (stat fr5) (T.obj _ _ st5)
  refine wpAny_passesOwn hp (thn (hg _ s5 σ3 H5 x u _ I5' r5 (step x H5 y5)) fun _ s6 hQ'=>?_)
  obtain ⟨σ6,H6,I6,q6⟩:=hQ'
  refine wpAny_passesOwn hp (thn (hb _ s6 σ6 H6 _ I6 q6) fun f s7 q7=>?_)
  have again:∀ {σ7:St} {H7:Hp},Inv X (pins++zhx fp s5.heap) σ7 H7 s7→N σ7 H7→∃ m,m<n∧∃ i σ' H',Inv X pins σ' H' s7∧tn i s7.heap∧(∀ b∈fp,H' b=none)∧W i m σ' H':=fun {σ7 H7} I7 n7=>by
   obtain ⟨m',hm,w7⟩:=hN σ7 H7 n7
   refine ⟨m',hm,i+1,σ7,H7,I7.unpinned,T.keep _ _ _ st5 fun b hb o e=>(I7.pin (b,o) (List.mem_append_right _ (List.mem_append_right _ (zdd hb e)))).1,fun b hb=>?_,w7⟩
   obtain ⟨o,e,d⟩:=T.obj _ _ st5 b hb
   exact (I7.pin (b,o) (List.mem_append_right _ (List.mem_append_right _ (zdd hb e)))).2.1
  cases f with
  | next=>obtain ⟨σ7,H7,I7,n7⟩:=q7;exact again I7 n7
  | cont=>obtain ⟨σ7,H7,I7,n7⟩:=q7;exact again I7 n7
  | brk=>obtain ⟨σ7,H7,I7,q7⟩:=q7;exact ⟨σ7,H7,I7.unpinned,q7⟩
  | ret v=>obtain ⟨x7,σ7,H7,I7,r7,q7⟩:=q7;exact ⟨x7,σ7,H7,I7.unpinned,r7,q7⟩
end
theorem zlS {K:PySem.W.Frag} {a:Addr} {xs:List V} {g:TG} {tb:TS} {D:zce} {σ:St} {H:Hp} (Pv:Nat→St→Hp→Prop) (h0:Pv 0 σ H) (hl:∀ i σ H,i≤xs.length→Pv i σ H→SqL K H a xs)
  (hs:∀ i x σ H,xs[i]?=some x→Pv i σ H→g x σ H fun σ2 H2=>tb { D with nx:=Pv (i+1),ct:=Pv (i+1),bk:=D.nx } σ2 H2) (hd:∀ σ H,Pv xs.length σ H→D.nx σ H) :
  ∃ W:Nat→Nat→St→Hp→Prop,(∃ m,W 0 m σ H)∧∀ i m σ H,W i m σ H →
   ((Itl K a).stop i H∧D.nx σ H)∨((Itl K a).go i H∧∃ N:St→Hp→Prop,(∀ σ' H',N σ' H'→∃ m',m'<m∧W (i+1) m' σ' H')∧∀ x H',(Itl K a).yld i H x H'→g x σ H' fun σ2 H2=>tb { D with nx:=N,ct:=N,bk:=D.nx } σ2 H2):=by
 refine ⟨fun i m σ H=>m=xs.length - i∧i≤xs.length∧Pv i σ H,⟨xs.length,by simp,Nat.zero_le _,h0⟩,?_⟩
 rintro i m σ H ⟨rfl,hi,p⟩
 have q:=hl i σ H hi p
 by_cases hlt:i<xs.length
 ·refine .inr ⟨⟨xs,xs[i],q,by simp [hlt]⟩,Pv (i+1),fun σ' H' p'=>⟨xs.length - (i+1),by (first|lia|omega),rfl,hlt,p'⟩,fun x H' y=>?_⟩
  obtain ⟨e,y⟩:=y
  subst e
  exact hs i x σ _ (y xs q) p
 ·have e:i=xs.length:=by (first|lia|omega)
  subst e
  exact .inl ⟨⟨xs,q,Nat.le_refl _⟩,hd σ H p⟩
theorem zks {lo:Int} {n:Nat} {g:TG} {tb:TS} {D:zce} {σ:St} {H:Hp} (Pv:Nat→St→Hp→Prop) (h0:Pv 0 σ H)
  (hs:∀ i σ H,i<n→Pv i σ H→g (.int (lo+i)) σ H fun σ2 H2=>tb { D with nx:=Pv (i+1),ct:=Pv (i+1),bk:=D.nx } σ2 H2) (hd:∀ σ H,Pv n σ H→D.nx σ H) :
  ∃ W:Nat→Nat→St→Hp→Prop,(∃ m,W 0 m σ H)∧∀ i m σ H,W i m σ H →
   ((Itr lo n).stop i H∧D.nx σ H)∨((Itr lo n).go i H∧∃ N:St→Hp→Prop,(∀ σ' H',N σ' H'→∃ m',m'<m∧W (i+1) m' σ' H')∧∀ x H',(Itr lo n).yld i H x H'→g x σ H' fun σ2 H2=>tb { D with nx:=N,ct:=N,bk:=D.nx } σ2 H2):=by
 refine ⟨fun i m σ H=>m=n - i∧i≤n∧Pv i σ H,⟨n,by simp,Nat.zero_le _,h0⟩,?_⟩
 rintro i m σ H ⟨rfl,hi,p⟩
 by_cases hlt:i<n
 ·refine .inr ⟨hlt,Pv (i+1),fun σ' H' p'=>⟨n - (i+1),by (first|lia|omega),rfl,hlt,p'⟩,fun x H' y=>?_⟩
  obtain ⟨e,y⟩:=y
  subst e y
  exact hs i σ _ hlt p
 ·have e:i=n:=by (first|lia|omega)
  subst e
  exact .inl ⟨Nat.le_refl _,hd σ H p⟩
theorem zjK {c:TT} {tb:TS} {D:zce} {σ:St} {H:Hp} (Pv:St→Hp→Prop) (μ:St→Hp→Nat) (h0:Pv σ H)
  (hs:∀ σ H,Pv σ H→c σ H fun b H1=>if b=true then tb { D with nx:=fun σ' H'=>Pv σ' H'∧μ σ' H'<μ σ H,ct:=fun σ' H'=>Pv σ' H'∧μ σ' H'<μ σ H,bk:=D.nx } σ H1 else D.nx σ H1)
  (mono:∀ σ H Q Q',(∀ b H1,Q b H1→Q' b H1)→c σ H Q→c σ H Q'):zf0 c tb D σ H:=by
 refine ⟨fun m σ H=>m=μ σ H∧Pv σ H,⟨_,rfl,h0⟩,?_⟩
 rintro m σ H ⟨rfl,p⟩
 refine mono σ H _ _ (fun b H1 q=>?_) (hs σ H p)
 cases b with
 | true=>exact ⟨_,fun σ' H' ⟨p',l⟩=>⟨_,l,rfl,p'⟩,q⟩
 | false=>exact q
end L2
namespace L2
open PySem PySem.Spec PyProof.Rows
abbrev R2:=V→V→Hp→VK→Prop
def OpR (X:Cx) (f:Value→Value→Sem Value) (r:R2):Prop :=
 ∀ (pins:List (Addr×Obj)) (s:Shared) (σ:St) (H:Hp) (x y:V) (v u:Value) (Q:VK),Inv X pins σ H s→zb5 x v→zb5 y u→r x y H Q →
  wpAny (model X.prog X.w) X.A (f v u) (EP X pins σ Q) X.xe s
def UnR (X:Cx) (f:Value→Sem Value) (r:V→Hp→VK→Prop):Prop :=
 ∀ (pins:List (Addr×Obj)) (s:Shared) (σ:St) (H:Hp) (x:V) (v:Value) (Q:VK),Inv X pins σ H s→zb5 x v→r x H Q →
  wpAny (model X.prog X.w) X.A (f v) (EP X pins σ Q) X.xe s
def zhb (X:Cx) (f:Value) (r:List V→Hp→VK→Prop):Prop :=
 ∀ (pins:List (Addr×Obj)) (s:Shared) (σ:St) (H:Hp) (xs:List V) (us:List Value) (Q:VK),Inv X pins σ H s→zbU xs us→r xs H Q →
  wpAny (model X.prog X.w) X.A (call f us) (EP X pins σ Q) X.xe s
def TruR (X:Cx) (r:V→Hp→(Bool→Hp→Prop)→Prop):Prop :=
 ∀ (pins:List (Addr×Obj)) (s:Shared) (σ:St) (H:Hp) (x:V) (v:Value) (Q:Bool→Hp→Prop),Inv X pins σ H s→zb5 x v→r x H Q →
  wpAny (model X.prog X.w) X.A (truthy v) (TP X pins σ Q) X.xe s
def tOp (r:R2) (ta tb:TE):TE:=fun σ H Q=>ta σ H fun x H1=>tb σ H1 fun y H2=>r x y H2 Q
def tUn (r:V→Hp→VK→Prop) (ta:TE):TE:=fun σ H Q=>ta σ H fun x H1=>r x H1 Q
def rI (C:Int→Int→Prop) (g:Int→Int→V):R2:=fun x y H Q=>∃ i j,x=.int i∧y=.int j∧C i j∧Q (g i j) H
def rI0 (g:Int→Int→V):R2:=fun x y H Q=>∃ i j,x=.int i∧y=.int j∧Q (g i j) H
def rU (g:Int→V):V→Hp→VK→Prop:=fun x H Q=>∃ i,x=.int i∧Q (g i) H
section
variable {X:Cx} {a b c:Expr} {ta tb tc:TE} {pos:Pos}
theorem binT (ha:PE X a ta) (hb:PE X b tb) {pins:List (Addr×Obj)} {s:Shared} {σ:St} {H:Hp} {R:V→V→Hp→Prop} (I:Inv X pins σ H s)
  (h:ta σ H fun x H1=>tb σ H1 fun y H2=>R x y H2) {Q:Value→Shared→Prop} {f:Value→Value→Sem Value}
  (hf:∀ v u s2 x y H2,Inv X pins σ H2 s2→zb5 x v→zb5 y u→R x y H2→wpAny (model X.prog X.w) X.A (f v u) Q X.xe s2) :
  wpAny (model X.prog X.w) X.A (eval a X.env) (fun v s₁=>wpAny (model X.prog X.w) X.A (eval b X.env) (fun u s₂=>wpAny (model X.prog X.w) X.A (f v u) Q X.xe s₂) X.xe s₁) X.xe s:=by
 refine thn (ha pins s σ H _ I h) fun v s1 hQ'=>?_
 obtain ⟨x,H1,I1,r1,q1⟩:=hQ'
 refine thn (hb pins s1 σ H1 _ I1 q1) fun u s2 hQ'=>?_
 obtain ⟨y,H2,I2,r2,q2⟩:=hQ'
 exact hf v u s2 x y H2 I2 r1 r2 q2
theorem zaO {op:Operator} {r:R2} (ho:OpR X (binaryOp op) r) (ha:PE X a ta) (hb:PE X b tb):PE X (.BinOp a op b pos) (tOp r ta tb):=by
 intro pins s σ H Q I h
 exact wpAny_BinOp (binT ha hb I h fun v u s2 x y H2 I2 rx ry q=>ho pins s2 σ H2 x y v u Q I2 rx ry q)
theorem zeQ {op:UnaryOp} {r:V→Hp→VK→Prop} (ho:UnR X (unaryOp op) r) (ha:PE X a ta):PE X (.UnaryOp op a pos) (tUn r ta):=by
 intro pins s σ H Q I h
 exact UnaryOp_ (thn (ha pins s σ H _ I h) fun v s1 ⟨x,H1,I1,r1,q1⟩=>ho pins s1 σ H1 x v Q I1 r1 q1)
theorem opI {f:Value→Value→Sem Value} {C:Int→Int→Prop} {g:Int→Int→Int}
  (rule:∀ (i j:Int) (t u:Tok) (s:Shared) (Q:Value→Shared→Prop) (E:Value→Shared→Prop),C i j→Q (.int (g i j) s.toks) { s with toks:=s.toks+1 }→wpAny (model X.prog X.w) X.A (f (.int i t) (.int j u)) Q E s) :
  OpR X f (rI C fun i j=>.int (g i j)):=by
 intro pins s σ H x y v u Q I rx ry h
 obtain ⟨i,j,rfl,rfl,hc,q⟩:=h
 obtain ⟨t,rfl⟩:=rx
 obtain ⟨t',rfl⟩:=ry
 exact rule i j t t' s _ _ hc ⟨.int (g i j),H,I.tok _,⟨_,rfl⟩,q⟩
theorem opI0 {f:Value→Value→Sem Value} {g:Int→Int→Int}
  (rule:∀ (i j:Int) (t u:Tok) (s:Shared) (Q:Value→Shared→Prop) (E:Value→Shared→Prop),Q (.int (g i j) s.toks) { s with toks:=s.toks+1 }→wpAny (model X.prog X.w) X.A (f (.int i t) (.int j u)) Q E s) :
  OpR X f (rI0 fun i j=>.int (g i j)):=by
 intro pins s σ H x y v u Q I rx ry h
 obtain ⟨i,j,rfl,rfl,q⟩:=h
 obtain ⟨t,rfl⟩:=rx
 obtain ⟨t',rfl⟩:=ry
 exact rule i j t t' s _ _ ⟨.int (g i j),H,I.tok _,⟨_,rfl⟩,q⟩
theorem opB0 {f:Value→Value→Sem Value} {g:Int→Int→Bool}
  (rule:∀ (i j:Int) (t u:Tok) (s:Shared) (Q:Value→Shared→Prop) (E:Value→Shared→Prop),Q (.bool (g i j)) s→wpAny (model X.prog X.w) X.A (f (.int i t) (.int j u)) Q E s) :
  OpR X f (rI0 fun i j=>.bl (g i j)):=by
 intro pins s σ H x y v u Q I rx ry h
 obtain ⟨i,j,rfl,rfl,q⟩:=h
 obtain ⟨t,rfl⟩:=rx
 obtain ⟨t',rfl⟩:=ry
 exact rule i j t t' s _ _ ⟨.bl (g i j),H,I,rfl,q⟩
def zmU (i j:Int):Prop:=0≤j∧j≤1000000∧i.natAbs<2 ^ 64
theorem zeq:OpR X (binaryOp .Add) (rI0 fun i j=>.int (i+j)):=opI0 fun _ _ _ _ _ _ _ q=>add_int q
theorem zf2:OpR X (binaryOp .Sub) (rI0 fun i j=>.int (i - j)):=opI0 fun _ _ _ _ _ _ _ q=>sub_int q
theorem ziC:OpR X (binaryOp .Mod) (rI (fun _ j=>0<j) fun i j=>.int (i % j)):=opI fun i j _ _ _ _ _ hc q=>by
 have h1:(0:Int)<j:=hc
 exact mod_int' (by (first|lia|omega)) (by rw [Int.fmod_eq_emod_of_nonneg i (by (first|lia|omega))];exact q)
theorem znW:OpR X (binaryOp .Mod) (rI (fun _ j=>j≠0) fun i j=>.int (i.fmod j)):=opI fun _ _ _ _ _ _ _ hc q=>mod_int' hc q
theorem zkq:OpR X (binaryOp .Pow) (rI zmU fun i j=>.int (i ^ j.toNat)):=opI fun _ _ _ _ _ _ _ hc q=>pow_int_small hc.1 hc.2.1 hc.2.2 q
theorem unI {f:Value→Sem Value} {g:Int→Int}
  (rule:∀ (i:Int) (t:Tok) (s:Shared) (Q:Value→Shared→Prop) (E:Value→Shared→Prop),Q (.int (g i) s.toks) { s with toks:=s.toks+1 }→wpAny (model X.prog X.w) X.A (f (.int i t)) Q E s) :
  UnR X f (rU fun i=>.int (g i)):=by
 intro pins s σ H x v Q I rx h
 obtain ⟨i,rfl,q⟩:=h
 obtain ⟨t,rfl⟩:=rx
 exact rule i t s _ _ ⟨.int (g i),H,I.tok _,⟨_,rfl⟩,q⟩
theorem zdg:UnR X (unaryOp .USub) (rU fun i=>.int (-i)):=unI fun _ _ _ _ _ q=>neg_int q
end
def scal:V→V→Bool
 | .non,.non=>true | .non,.int _=>true | .int _,.non=>true | .non,.bl _=>true | .bl _,.non=>true | .non,.str _=>true | .str _,.non=>true
 | .int _,.int _=>true | .bl _,.bl _=>true | .str _,.str _=>true | .byt _,.byt _=>true
 | .int _,.str _=>true | .str _,.int _=>true | .bl _,.str _=>true | .str _,.bl _=>true
 | _,_=>false
def rEq:R2:=fun x y H Q=>scal x y=true∧Q (.bl (decide (x=y))) H
def rNe:R2:=fun x y H Q=>scal x y=true∧Q (.bl (!decide (x=y))) H
theorem zk2 {i j:Int}:decide (V.int i=V.int j)=(i == j):=by
 rw [Bool.eq_iff_iff]
 simp
theorem zm4 {i j:Bool}:decide (V.bl i=V.bl j)=(i == j):=by
 rw [Bool.eq_iff_iff]
 simp
theorem zkD {i j:Str}:decide (V.str i=V.str j)=(i == j):=by
 rw [Bool.eq_iff_iff]
 simp
theorem zly {i j:Array UInt8}:decide (V.byt i=V.byt j)=(i.toList == j.toList):=by
 rw [Bool.eq_iff_iff]
 cases i
 cases j
 simp
section
variable {X:Cx} {a b c:Expr} {ta tb tc:TE} {pos:Pos}
theorem zbh {pins:List (Addr×Obj)} {σ:St} {H:Hp} {s:Shared} {Q:VK} {k k':Bool} (I:Inv X pins σ H s) (q:Q (.bl k) H) (e:k=k'):EP X pins σ Q (.bool k') s:=by
 subst e
 exact ⟨.bl k,H,I,rfl,q⟩
theorem zjo:OpR X (compareOp .Eq) rEq:=by
 intro pins s σ H x y v u Q I rx ry h
 obtain ⟨hs,q⟩:=h
 cases x with
 | non =>
  cases rx
  cases y with
  | non=>cases ry;exact PySem.EqNone.eq_none_none (zbh I q (by simp))
  | bl j=>cases ry;exact PySem.EqNone.eq_none_bool (zbh I q (by simp))
  | int j=>obtain ⟨t',rfl⟩:=ry;exact PySem.EqNone.eq_none_int (zbh I q (by simp))
  | str j=>obtain ⟨t',rfl⟩:=ry;exact PySem.EqNone.eq_none_str (zbh I q (by simp))
  | _=>exact absurd (show false=true from hs) Bool.false_ne_true
 | bl i =>
  cases rx
  cases y with
  | non=>cases ry;exact PySem.EqNone.eq_bool_none (zbh I q (by simp))
  | bl j=>cases ry;exact eq_bool (zbh I q zm4)
  | str j=>obtain ⟨t',rfl⟩:=ry;exact PySem.EqMixed.eq_bool_str (zbh I q (by simp))
  | _=>exact absurd (show false=true from hs) Bool.false_ne_true
 | int i =>
  obtain ⟨t,rfl⟩:=rx
  cases y with
  | non=>cases ry;exact PySem.EqNone.eq_int_none (zbh I q (by simp))
  | int j=>obtain ⟨t',rfl⟩:=ry;exact eq_int (zbh I q zk2)
  | str j=>obtain ⟨t',rfl⟩:=ry;exact PySem.EqMixed.eq_int_str (zbh I q (by simp))
  | _=>exact absurd (show false=true from hs) Bool.false_ne_true
 | str i =>
  obtain ⟨t,rfl⟩:=rx
  cases y with
  | non=>cases ry;exact PySem.EqNone.eq_str_none (zbh I q (by simp))
  | bl j=>cases ry;exact PySem.EqMixed.eq_str_bool (zbh I q (by simp))
  | int j=>obtain ⟨t',rfl⟩:=ry;exact PySem.EqMixed.eq_str_int (zbh I q (by simp))
  | str j=>obtain ⟨t',rfl⟩:=ry;exact eq_str (zbh I q zkD)
  | _=>exact absurd (show false=true from hs) Bool.false_ne_true
 | byt i =>
  obtain ⟨t,rfl⟩:=rx
  cases y with
  | byt j=>obtain ⟨t',rfl⟩:=ry;exact PySem.W.eq_bytes (zbh I q zly)
  | _=>exact absurd (show false=true from hs) Bool.false_ne_true
 | _=>cases y <;> exact absurd (show false=true from hs) Bool.false_ne_true
theorem zmJ:OpR X (compareOp .NotEq) rNe:=by
 intro pins s σ H x y v u Q I rx ry h
 obtain ⟨hs,q⟩:=h
 cases x with
 | non =>
  cases rx
  cases y with
  | non=>cases ry;exact PySem.EqNone.ne_none_none (zbh I q (by simp))
  | bl j=>cases ry;exact PySem.EqNone.ne_none_bool (zbh I q (by simp))
  | int j=>obtain ⟨t',rfl⟩:=ry;exact PySem.EqNone.ne_none_int (zbh I q (by simp))
  | str j=>obtain ⟨t',rfl⟩:=ry;exact PySem.EqNone.ne_none_str (zbh I q (by simp))
  | _=>exact absurd (show false=true from hs) Bool.false_ne_true
 | bl i =>
  cases rx
  cases y with
  | non=>cases ry;exact PySem.EqNone.ne_bool_none (zbh I q (by simp))
  | bl j=>cases ry;exact ne_bool (zbh I q (congrArg not zm4))
  | str j=>obtain ⟨t',rfl⟩:=ry;exact PySem.EqMixed.ne_bool_str (zbh I q (by simp))
  | _=>exact absurd (show false=true from hs) Bool.false_ne_true
 | int i =>
  obtain ⟨t,rfl⟩:=rx
  cases y with
  | non=>cases ry;exact PySem.EqNone.ne_int_none (zbh I q (by simp))
  | int j=>obtain ⟨t',rfl⟩:=ry;exact ne_int (zbh I q (congrArg not zk2))
  | str j=>obtain ⟨t',rfl⟩:=ry;exact PySem.EqMixed.ne_int_str (zbh I q (by simp))
  | _=>exact absurd (show false=true from hs) Bool.false_ne_true
 | str i =>
  obtain ⟨t,rfl⟩:=rx
  cases y with
  | non=>cases ry;exact PySem.EqNone.ne_str_none (zbh I q (by simp))
  | bl j=>cases ry;exact PySem.EqMixed.ne_str_bool (zbh I q (by simp))
  | int j=>obtain ⟨t',rfl⟩:=ry;exact PySem.EqMixed.ne_str_int (zbh I q (by simp))
  | str j=>obtain ⟨t',rfl⟩:=ry;exact ne_str (zbh I q (congrArg not zkD))
  | _=>exact absurd (show false=true from hs) Bool.false_ne_true
 | byt i =>
  obtain ⟨t,rfl⟩:=rx
  cases y with
  | byt j=>obtain ⟨t',rfl⟩:=ry;exact PySem.W.ne_bytes (zbh I q (congrArg not zly))
  | _=>exact absurd (show false=true from hs) Bool.false_ne_true
 | _=>cases y <;> exact absurd (show false=true from hs) Bool.false_ne_true
theorem zha:OpR X (compareOp .Lt) (rI0 fun i j=>.bl (decide (i<j))):=opB0 fun _ _ _ _ _ _ _ q=>lt_int q
theorem zl3:OpR X (compareOp .LtE) (rI0 fun i j=>.bl (decide (i≤j))):=opB0 fun _ _ _ _ _ _ _ q=>le_int q
theorem ziD:OpR X (compareOp .Gt) (rI0 fun i j=>.bl (decide (j<i))):=opB0 fun _ _ _ _ _ _ _ q=>gt_int q
theorem zoU:OpR X (compareOp .GtE) (rI0 fun i j=>.bl (decide (j≤i))):=opB0 fun _ _ _ _ _ _ _ q=>ge_int q
theorem zo1:OpR X (compareOp .Is) (fun x y H Q=>y=.non∧Q (.bl (decide (x=.non))) H):=by
 intro pins s σ H x y v u Q I rx ry h
 obtain ⟨rfl,q⟩:=h
 cases ry
 refine is_none_gen (zbh I q ?_)
 cases x <;> first
  | (cases rx;rfl)
  | (obtain ⟨t,rfl⟩:=rx;rfl)
theorem zfI:OpR X (compareOp .IsNot) (fun x y H Q=>y=.non∧Q (.bl (!decide (x=.non))) H):=by
 intro pins s σ H x y v u Q I rx ry h
 obtain ⟨rfl,q⟩:=h
 cases ry
 refine isnot_none_gen (zbh I q ?_)
 cases x <;> first
  | (cases rx;rfl)
  | (obtain ⟨t,rfl⟩:=rx;rfl)
theorem zaS (b:Expr) {op:CmpOp} (h:op≠.In:=by decide) (h2:op≠.NotIn:=by decide):behindInMarks op b=false:=by
 have e1:(op == CmpOp.In)=false:=by cases op <;> first | rfl | exact absurd rfl h
 have e2:(op == CmpOp.NotIn)=false:=by cases op <;> first | rfl | exact absurd rfl h2
 cases b <;> simp [behindInMarks,e1,e2]
theorem zdo {op:CmpOp} {r:R2} (ho:OpR X (compareOp op) r) (ha:PE X a ta) (hb:PE X b tb) (hm:behindInMarks op b=false):PE X (.Compare a [op] [b] pos) (tOp r ta tb):=by
 intro pins s σ H Q I h
 exact wpAny_Compare1 (binT ha hb I h fun v u s2 x y H2 I2 rx ry q=>ho pins s2 σ H2 x y v u Q I2 rx ry q) hm
def zaQ (t:TE):TT:=fun σ H Q=>t σ H fun x H'=>∃ k,x=.bl k∧Q k H'
theorem zaR {op:CmpOp} {r:R2} (ho:OpR X (compareOp op) r) (ha:PE X a ta) (hb:PE X b tb) (hm:behindInMarks op b=false):PT X (.Compare a [op] [b] pos) (zaQ (tOp r ta tb)):=by
 intro pins s σ H Q I h
 refine wpAny_isTrue_Compare1 (thn (ha pins s σ H _ I h) fun v s1 ⟨x,H1,I1,r1,q1⟩=>thn (hb pins s1 σ H1 _ I1 q1) fun u s2 ⟨y,H2,I2,r2,q2⟩ =>
  thn (ho pins s2 σ H2 x y v u _ I2 r1 r2 q2) fun c s3 ⟨z,H3,I3,r3,k,e,q3⟩=>?_) hm
 subst e
 cases r3
 exact wpAny_truthy_bool ⟨H3,I3,q3⟩
def zhs (r r':R2) (ta tb tc:TE):TE:=fun σ H Q=>ta σ H fun x H1=>tb σ H1 fun y H2=>r x y H2 fun z H3=>∃ k,z=.bl k ∧
 (if k=true then tc σ H3 fun w' H4=>r' y w' H4 Q else Q (.bl false) H3)
theorem zl9 {op op':CmpOp} {r r':R2} (ho:OpR X (compareOp op) r) (ho':OpR X (compareOp op') r') (ha:PE X a ta) (hb:PE X b tb) (hc:PE X c tc)
  (hm:lastMarks [op,op'] [b,c]=false:=by with_unfolding_all rfl):PE X (.Compare a [op,op'] [b,c] pos) (zhs r r' ta tb tc):=by
 intro pins s σ H Q I h
 refine Compare_chain (thn (ha pins s σ H _ I h) fun v s1 ⟨x,H1,I1,r1,q1⟩=>chain_link (thn (hb pins s1 σ H1 _ I1 q1) fun u s2 ⟨y,H2,I2,r2,q2⟩ =>
  thn (ho pins s2 σ H2 x y v u _ I2 r1 r2 q2) fun d s3 ⟨z,H3,I3,r3,k,e,q3⟩=>?_)) hm
 subst e
 cases r3
 refine wpAny_truthy_bool ?_
 cases k with
 | false=>exact ite_ff ⟨.bl false,H3,I3,rfl,q3⟩
 | true=>exact ite_tt (chain_last (thn (hc pins s3 σ H3 _ I3 q3) fun w' s4 ⟨z',H4,I4,r4,q4⟩=>ho' pins s4 σ H4 y z' u w' Q I4 r2 r4 q4))
theorem zmz {op op':CmpOp} {r r':R2} (ho:OpR X (compareOp op) r) (ho':OpR X (compareOp op') r') (ha:PE X a ta) (hb:PE X b tb) (hc:PE X c tc)
  (hm:lastMarks [op,op'] [b,c]=false:=by with_unfolding_all rfl):PT X (.Compare a [op,op'] [b,c] pos) (zaQ (zhs r r' ta tb tc)):=by
 intro pins s σ H Q I h
 refine isTrue_chain (thn (ha pins s σ H _ I h) fun v s1 ⟨x,H1,I1,r1,q1⟩=>test_link (thn (hb pins s1 σ H1 _ I1 q1) fun u s2 ⟨y,H2,I2,r2,q2⟩ =>
  thn (ho pins s2 σ H2 x y v u _ I2 r1 r2 q2) fun d s3 ⟨z,H3,I3,r3,k,e,q3⟩=>?_)) hm
 subst e
 cases r3
 refine wpAny_truthy_bool ?_
 cases k with
 | false =>
  obtain ⟨k',e',q'⟩:=q3
  cases e'
  exact ite_ff ⟨H3,I3,q'⟩
 | true =>
  refine ite_tt (test_last (thn (hc pins s3 σ H3 _ I3 q3) fun w' s4 ⟨z',H4,I4,r4,q4⟩=>thn (ho' pins s4 σ H4 y z' u w' _ I4 r2 r4 q4) fun d' s5 hQ'=>?_))
  obtain ⟨z2,H5,I5,r5,k2,e2,q5⟩:=hQ'
  subst e2
  cases r5
  exact wpAny_truthy_bool ⟨H5,I5,q5⟩
def zo6 (K:PySem.W.Frag) (x:V) (H:Hp) (k:Bool):Prop :=
 match x with
 | .non=>k=false
 | .bl b=>k=b
 | .int i=>k=(i != 0)
 | .str y=>y.length≤sizeLine∧k=((y.length:Int) != 0)
 | .byt y=>y.size≤sizeLine∧k=((y.size:Int) != 0)
 | .ref p=>(∃ xs,SqL K H p xs∧k=!xs.isEmpty)∨(∃ xs,SqT K H p xs∧k=!xs.isEmpty)∨∃ kvs,H p=some (.dK kvs)∧k=!kvs.isEmpty
 | _=>False
theorem zj2 {κ:Type} {kvs:List (κ×V)} {vs:List (κ×Value)} (r:KV kvs vs):(!vs.isEmpty)=!kvs.isEmpty:=by
 cases r <;> rfl
theorem zhr {xs:List V} {its:List Value} (r:zbU xs its):(!its.toArray.isEmpty)=!xs.isEmpty:=by
 cases r <;> simp
theorem ziT:(sizeLine:Nat)<2 ^ 63:=by rw [sizeLine_eq];decide
theorem zoT:TruR X (fun x H Q=>∃ k,zo6 X.K x H k∧Q k H):=by
 intro pins s σ H x v Q I rx h
 obtain ⟨k,e,q⟩:=h
 have hl:=ziT
 have hs:sizeLine=16777216:=sizeLine_eq
 cases x with
 | non =>
  cases rx
  have e':k=false:=e
  subst e'
  exact truthy_none ⟨H,I,q⟩
 | bl b =>
  cases rx
  have e':k=b:=e
  subst e'
  exact wpAny_truthy_bool ⟨H,I,q⟩
 | int i =>
  obtain ⟨t,rfl⟩:=rx
  have e':k=(i != 0):=e
  subst e'
  exact PySem.P.truthy_int ⟨H,I,q⟩
 | str y =>
  obtain ⟨t,rfl⟩:=rx
  obtain ⟨hy,e'⟩:y.length≤sizeLine∧k=((y.length:Int) != 0):=e
  subst e'
  exact PySem.P.truthy_str (by (first|lia|omega)) ⟨H,I.tok _,q⟩
 | byt y =>
  obtain ⟨t,rfl⟩:=rx
  obtain ⟨hy,e'⟩:y.size≤sizeLine∧k=((y.size:Int) != 0):=e
  subst e'
  exact PySem.W.truthy_bytes (by (first|lia|omega)) ⟨H,I.tok _,q⟩
 | ref p =>
  cases rx
  have e':(∃ xs,SqL X.K H p xs∧k=!xs.isEmpty)∨(∃ xs,SqT X.K H p xs∧k=!xs.isEmpty)∨∃ kvs,H p=some (.dK kvs)∧k=!kvs.isEmpty:=e
  rcases e' with ⟨xs,hx,e'⟩ | ⟨xs,hx,e'⟩ | ⟨kvs,hx,e'⟩
  ·subst e'
   obtain ⟨its,r,pl,hz⟩:=I.list hx
   have hlen:=r.length
   exact wpAny_truthy_list pl.isList (by simp only [List.size_toArray];(first|lia|omega)) ⟨H,I.tok _,by rw [zhr r];exact q⟩
  ·subst e'
   obtain ⟨its,r,pl,hz⟩:=I.tuple hx
   have hlen:=r.length
   exact truthy_tuple pl (by simp only [List.size_toArray];(first|lia|omega)) ⟨H,I.tok _,by rw [zhr r];exact q⟩
  ·subst e'
   obtain ⟨hz,hS,vs,r,m⟩:kvs.length≤sizeLine∧(p == sysModules)=false∧∃ vs,KV kvs vs∧s.heap.DictOf (zi1 X.prog X.w) p vs:=I.hok p _ hx
   have hlen:kvs.length=vs.length:=Paired.length r
   exact wpAny_truthy_dict hS m (by (first|lia|omega)) ⟨H,I.tok _,by rw [zj2 r];exact q⟩
 | _=>exact (show False from e).elim
theorem zjH (ha:PE X a ta) (he:∀ whole,isTrue a X.env whole=(do let v ← whole;standAt a.pos;holding [v] (truthy v))) :
  PT X a (fun σ H Q=>ta σ H fun x H'=>∃ k,zo6 X.K x H' k∧Q k H'):=by
 intro pins s σ H Q I h
 exact isTrue_plain (thn (ha pins s σ H _ I h) fun v s1 ⟨x,H1,I1,r1,q1⟩=>zoT pins s1 σ H1 x v Q I1 r1 q1) (he _)
theorem zkH {x:V} {us:List Value} (r:zbU [x] us):∃ u,us=[u]∧zb5 x u:=by
 cases r with
 | cons r1 r2=>cases r2;exact ⟨_,rfl,r1⟩
theorem zpG {x y:V} {us:List Value} (r:zbU [x,y] us):∃ u w',us=[u,w']∧zb5 x u∧zb5 y w':=by
 cases r with
 | cons r1 r2 =>
  cases r2 with
  | cons r3 r4=>cases r4;exact ⟨_,_,rfl,r1,r3⟩
theorem zjG:zhb X (.builtin "abs") (fun xs H Q=>∃ i,xs=[.int i]∧Q (.int (if i<0 then -i else i)) H):=by
 intro pins s σ H xs us Q I r h
 obtain ⟨i,rfl,q⟩:=h
 obtain ⟨u,rfl,t,rfl⟩:=zkH r
 exact call_abs_int fun u tk=>⟨.int (if i<0 then -i else i),H,I.tok _,⟨_,rfl⟩,q⟩
end
end L2
namespace L2
open PySem PySem.Spec PyProof.Rows
structure zoq (h:Heap) (x dx C:Addr) (mA:Str→Option Value):Prop where
 obj:h.get? x=some (PySem.W.instObj C dx)
 ns:h.Ns1 dx mA
 ne:dx≠x
theorem zkK {h:Heap} {dx:Addr} {mA:Str→Option Value} (n:h.Ns1 dx mA):∃ od,h.get? dx=some od∧∀ name,PySem.W.lookIn name od=some (mA name):=by
 obtain ⟨o,es,ep,ho,hd,hk,_,hm⟩:=n
 refine ⟨o,ho,fun name=>?_⟩
 have e:=hm name
 unfold nsFind findBy at e
 rw [← Array.find?_toList] at e
 unfold PySem.W.lookIn
 rw [hd]
 dsimp only
 split
 ·rename_i y q
  rw [q] at e
  exact congrArg some e
 ·rename_i q
  rw [q] at e
  have a:es.toList.any (·.refKey)=false:=by
   rw [List.any_eq_false]
   intro y hy
   obtain ⟨z,t,hkey⟩:=hk y (Array.mem_toList_iff.mp hy)
   simp [DictEntry.refKey,hkey]
  have a':¬ es.toList.any (·.refKey)=true:=by rw [a];exact Bool.false_ne_true
  rw [if_neg a']
  exact congrArg some e
theorem zoq.look {h:Heap} {x dx C:Addr} {mA:Str→Option Value} (I:zoq h x dx C mA):∃ od,PySem.W.InstAt h x (PySem.W.instObj C dx) C (some od)∧∀ name,PySem.W.lookIn name od=some (mA name) :=
 let ⟨od,ho,hl⟩:=zkK I.ns
 ⟨od,⟨I.obj,rfl,rfl,ho⟩,hl⟩
section
variable {prog:Program} {w:World} {A:Around} {E:Value→Shared→Prop} {s:Shared} {K:PySem.W.Frag} {x dx C f:Addr} {mA:Str→Option Value} {name:Str} {v:Value}
theorem znz {expr:Bool} {Q:Value→Shared→Prop} (X:K.In s.heap) (I:zoq s.heap x dx C mA) (hg:PySem.W.plainGet K C name=true) (hh:PySem.W.hasDictIn K C=true)
  (ha:PySem.W.findIn K (.ref C) name=some none) (hv:mA name=some v) (hv':PySem.W.handedIn v=true) (h:Q v { s with toks:=s.toks+1 }) :
  wpAny (model prog w) A (getAttr (.ref x) name expr) Q E s:=by
 obtain ⟨od,J,hl⟩:=I.look
 exact PySem.W.get_value X J (PySem.W.plainGet_of hg).1 (PySem.W.findObj_own hh ha rfl (by rw [hl,hv])) hv' h
theorem zlV {pl:Sem Bool} {Q:Value×List Value→Shared→Prop} (X:K.In s.heap) (I:zoq s.heap x dx C mA) (hg:PySem.W.plainGet K C name=true)
  (hf:PySem.W.findIn K (.ref C) name=some (some (.ref f))) (ht:PySem.W.isFn K (.ref f)=true) (hv:mA name=none) (h:Q (.ref f,[.ref x]) s) :
  wpAny (model prog w) A (getMethod (.ref x) name pl) Q E s:=by
 obtain ⟨od,J,hl⟩:=I.look
 exact PySem.W.method_fn X J (PySem.W.plainGet_of hg).1 (PySem.W.plainGet_of hg).2 hf (beq_iff_eq.mp ht) (by show (PySem.W.lookIn name od).map (·.isSome)=some false;rw [hl,hv];rfl) h
theorem znp {ns:List Str} {Q:Unit→Shared→Prop} (X:K.In s.heap) (I:zoq s.heap x dx C mA)
  (hs:PySem.W.findIn K (.ref C) "__setattr__"=some (some (.builtin "object.__setattr__"))) (hp:PySem.W.plainOver K C=true) (ht:PySem.W.takerIn K C name=some none) (hh:PySem.W.hasDictIn K C=true)
  (hw:PySem.Within mA ns) (hsz:ns.length≤sizeLine)
  (h:∀ h',zoq h' x dx C (fun y=>if y=name then some v else mA y)→Heap.SameBut dx s.heap h'→Q () { s with heap:=h',toks:=s.toks+2 }) :
  wpAny (model prog w) A (setAttr (.ref x) name v) Q E s:=by
 obtain ⟨od,J,hl⟩:=I.look
 refine PySem.W.set_plain X J hs (PySem.W.osa_open (s:={ s with toks:=s.toks+1 }) (r:=none) X J hp ht fun b=>?_)
 obtain ⟨cd,hc,hd'⟩:=PySem.W.any_some hh
 have hx:s.heap.get? x=some ⟨.ref C,some dx,.plain,#[]⟩:=I.obj
 refine wpAny_bind (wpAny_pure (wpAny_bind (wpAny_bind (wpAny_loadPart hx (wpAny_bind (PySem.W.Looks.here (s:={ s with toks:=s.toks+1 }) (PySem.W.looks_clsIn X hc) ?_))))))
 rw [hd']
 refine wpAny_pure (a:=some dx) (wpAny_bind (wpAny_pure (wpAny_bind ?_)))
 refine wpAny_nsSet1 (s:={ s with toks:=s.toks+1 }) I.ns fun h' hn2 hs2=>?_
 obtain ⟨oD,esD,epD,hoD,hdD,hcD⟩:=hn2.count (PySem.Within.cons name v hw)
 refine wpAny_bind (wpAny_lookBehind hoD (by rw [hdD];exact pastItsLine_dict (Nat.le_trans hcD (by rw [List.length_cons];(first|lia|omega)))) ?_)
 exact wpAny_pure (h _ ⟨(hs2.2 _ (Ne.symm I.ne)).trans I.obj,hn2,I.ne⟩ hs2)
theorem zlQ {R:Result→Shared→Prop} {vs:List Value} {kw:List (Str×Value)} (X:K.In s.heap) (hm:PySem.W.makesIn K C=true)
  (hi:PySem.W.findIn K (.ref C) "__init__"=some (some (.ref f))) (hf:PySem.W.typeIn K (.ref f)=some (.type "function"))
  (h:codeAny (model prog w) (A.under (.builtin "type.__call__" ⟨.ref C::vs,kw⟩)) (.call (.ref f) ⟨.ref (s.heap.objs.size+1)::vs,kw⟩) (PySem.W.InitBack (s.heap.objs.size+1) R)
   { s with heap:=(s.heap.push PySem.W.emptyDict).push (PySem.W.instObj C s.heap.objs.size) }) :
  codeAny (model prog w) A (.call (.ref C) ⟨vs,kw⟩) R s:=by
 obtain ⟨hh,g,d,t,os⟩:=s
 exact PySem.W.make_core (PySem.W.makes_of X hm) (PySem.W.looks_findIn X hi) (fun self=>PySem.W.bind_fn X self hf) (.inl rfl) h
end
def zgk (f:Str) (v:V):List (Str×V)→List (Str×V)
 | []=>[(f,v)]
 | (g,x)::r=>if g=f then (g,v)::r else (g,x)::zgk f v r
theorem zgO (f g:Str) (v:V):∀ fs:List (Str×V),(zgk f v fs).lookup g=if g=f then some v else fs.lookup g
 | []=>by
  show List.lookup g [(f,v)]=_
  by_cases h:g=f
  ·have hb:(g == f)=true:=beq_iff_eq.mpr h
   simp only [List.lookup,hb,if_pos h]
  ·have hb:(g == f)=false:=beq_eq_false_iff_ne.mpr h
   simp only [List.lookup,hb,if_neg h]
 | (k,x)::r=>by
  have ih:=zgO f g v r
  rw [show zgk f v ((k,x)::r)=(if k=f then (k,v)::r else (k,x)::zgk f v r) from rfl]
  by_cases hk:k=f
  ·rw [if_pos hk]
   by_cases h:g=k
   ·have hb:(g == k)=true:=beq_iff_eq.mpr h
    simp only [List.lookup,hb,if_pos (h.trans hk)]
   ·have hb:(g == k)=false:=beq_eq_false_iff_ne.mpr h
    simp only [List.lookup,hb,if_neg (fun e:g=f=>h (e.trans hk.symm))]
  ·rw [if_neg hk]
   by_cases h:g=k
   ·have hb:(g == k)=true:=beq_iff_eq.mpr h
    simp only [List.lookup,hb,if_neg (fun e:g=f=>hk (h.symm.trans e))]
   ·have hb:(g == k)=false:=beq_eq_false_iff_ne.mpr h
    simp only [List.lookup,hb]
    exact ih
theorem zgP (f:Str) (v:V):∀ fs:List (Str×V),f∈(zgk f v fs).map (·.1)∧∀ g,g∈fs.map (·.1)→g∈(zgk f v fs).map (·.1)
 | []=>⟨by simp [zgk],fun g h=>by simp at h⟩
 | (k,x)::r=>by
  obtain ⟨i1,i2⟩:=zgP f v r
  rw [show zgk f v ((k,x)::r)=(if k=f then (k,v)::r else (k,x)::zgk f v r) from rfl]
  by_cases hk:k=f
  ·rw [if_pos hk]
   subst hk
   exact ⟨by simp,fun g h=>by simpa using h⟩
  ·rw [if_neg hk]
   refine ⟨?_,fun g h=>?_⟩
   ·rw [List.map_cons]
    exact List.mem_cons_of_mem _ i1
   ·rw [List.map_cons] at h ⊢
    rcases List.mem_cons.mp h with e | e
    ·exact List.mem_cons.mpr (.inl e)
    ·exact List.mem_cons_of_mem _ (i2 g e)
theorem zgL (f:Str) (v:V):∀ fs:List (Str×V),(zgk f v fs).length≤fs.length+1
 | []=>by simp [zgk]
 | (k,x)::r=>by
  have ih:=zgL f v r
  rw [show zgk f v ((k,x)::r)=(if k=f then (k,v)::r else (k,x)::zgk f v r) from rfl]
  by_cases hk:k=f
  ·rw [if_pos hk,List.length_cons,List.length_cons];(first|lia|omega)
  ·rw [if_neg hk,List.length_cons,List.length_cons];(first|lia|omega)
theorem zlG.some_of {v:V} {o:Option Value} (r:zlG (some v) o):∃ u,o=some u∧zb5 v u:=by
 cases o with
 | none=>exact (show False from r).elim
 | some u=>exact ⟨u,rfl,r⟩
theorem zlG.none_of {o:Option Value} (r:zlG none o):o=none:=by
 cases o with
 | none=>rfl
 | some u=>exact (show False from r).elim
theorem zkF {v:V} {u:Value} (r:zb5 v u):PySem.W.handedIn u=true:=by
 cases v with
 | non=>cases (show u=Value.none from r);rfl
 | bl b=>cases (show u=Value.bool b from r);rfl
 | int i=>obtain ⟨t,e⟩:=(show ∃ t,u=Value.int i t from r);cases e;rfl
 | str x=>obtain ⟨t,e⟩:=(show ∃ t,u=Value.str x t from r);cases e;rfl
 | byt b=>obtain ⟨t,e⟩:=(show ∃ t,u=Value.bytes b t from r);cases e;rfl
 | flt b=>obtain ⟨t,e⟩:=(show ∃ t,u=Value.float b t from r);cases e;rfl
 | ref a=>cases (show u=Value.ref a from r);rfl
 | ty n=>cases (show u=Value.type n from r);rfl
section
variable {P:Program} {w:World} {H H':Hp} {h h':Heap} {a C dx:Addr} {fs fs':List (Str×V)}
theorem zh1 (hok:HOk P w H h) (e:H a=some (.ins C dx fs)):∃ mA,zoq h a dx C mA∧(∀ f,zlG (fs.lookup f) (mA f))∧PySem.Within mA (fs.map (·.1))∧fs.length≤1000∧H dx=some (.own a):=by
 obtain ⟨d,z,ne,ob,mA,n,r,q⟩:=(show zcZ P w H h a (.ins C dx fs) from hok a _ e)
 exact ⟨mA,⟨ob,n,ne⟩,r,q,z,d⟩
end
structure Cls (K:PySem.W.Frag) (C:Addr):Prop where
 pg:PySem.W.plainGet K C Str.empty=true
 hd:PySem.W.hasDictIn K C=true
 po:PySem.W.plainOver K C=true
 sa:PySem.W.findIn K (.ref C) "__setattr__"=some (some (.builtin "object.__setattr__"))
theorem Cls.get {K:PySem.W.Frag} {C:Addr} (c:Cls K C) (f:Str):PySem.W.plainGet K C f=true:=c.pg
def zcv (K:PySem.W.Frag) (C:Addr) (f:Str):Prop:=PySem.W.findIn K (.ref C) f=some none
theorem zcv.taker {K:PySem.W.Frag} {C:Addr} {f:Str} (n:zcv K C f):PySem.W.takerIn K C f=some none:=by
 unfold PySem.W.takerIn
 rw [show PySem.W.findIn K (.ref C) f=some none from n]
 rfl
structure zhj (K:PySem.W.Frag) (C:Addr) (m:Str) (f:Addr):Prop where
 at_:PySem.W.findIn K (.ref C) m=some (some (.ref f))
 fn:PySem.W.isFn K (.ref f)=true
 kp:PySem.W.keepIn K (.ref f)=true
section
variable {X:Cx} {pins:List (Addr×Obj)} {σ:St} {H:Hp} {s:Shared} {a C dx:Addr} {fs:List (Str×V)} {f:Str} {v:V} {A:Around} {E:Value→Shared→Prop}
theorem zjX {b:Bool} {Q:Value→Shared→Prop} (I:Inv X pins σ H s) (e:H a=some (.ins C dx fs)) (c:Cls X.K C) (n:zcv X.K C f) (l:fs.lookup f=some v)
  (h:∀ u s',Inv X pins σ H s'→zb5 v u→Q u s'):wpAny (model X.prog X.w) A (getAttr (.ref a) f b) Q E s:=by
 obtain ⟨mA,O,r,_,_,_⟩:=zh1 I.hok e
 obtain ⟨u,hu,ru⟩:=zlG.some_of (v:=v) (o:=mA f) (by rw [← l];exact r f)
 exact znz I.kIn O (c.get f) c.hd n hu (zkF ru) (h u _ (I.tok _) ru)
theorem zhk {m:Str} {g:Addr} {pl:Sem Bool} {Q:Value×List Value→Shared→Prop} (I:Inv X pins σ H s) (e:H a=some (.ins C dx fs)) (c:Cls X.K C) (k:zhj X.K C m g) (l:fs.lookup m=none)
  (h:Q (.ref g,[.ref a]) s):wpAny (model X.prog X.w) A (getMethod (.ref a) m pl) Q E s:=by
 obtain ⟨mA,O,r,_,_,_⟩:=zh1 I.hok e
 have hn:mA m=none:=zlG.none_of (by rw [← l];exact r m)
 exact zlV I.kIn O (c.get m) k.at_ k.fn hn h
theorem zj9 {y:V} {u:Value} {Q:Unit→Shared→Prop} (I:Inv X pins σ H s) (e:H a=some (.ins C dx fs)) (c:Cls X.K C) (n:zcv X.K C f) (hl:fs.length<1000) (ry:zb5 y u)
  (h:∀ s',Inv X pins σ (upd H a (.ins C dx (zgk f y fs))) s'→Q () s'):wpAny (model X.prog X.w) A (setAttr (.ref a) f u) Q E s:=by
 obtain ⟨mA,O,r,wi,_,ho⟩:=zh1 I.hok e
 have hz:(fs.map (·.1)).length≤sizeLine:=by rw [List.length_map,sizeLine_eq];(first|lia|omega)
 refine znp I.kIn O c.sa c.po n.taker c.hd wi hz fun h' O' sb=>h _ ?_
 have hd:∃ o,h'.get? dx=some o:=let ⟨o,_,_,e',_⟩:=O'.ns;⟨o,e'⟩
 refine I.write (x:=a) (e:=dx) (by rw [e];exact True.intro) (.inr ho) (fun b q hb z=>(sb.2 b hb).trans z) hd ?_
 refine ⟨by rw [zam O.ne];exact ho,?_,O.ne,O'.obj,_,O'.ns,fun g=>?_,fun g hg=>?_⟩
 ·have:=zgL f y fs;(first|lia|omega)
 ·show zlG ((zgk f y fs).lookup g) (if g=f then some u else mA g)
  rw [zgO]
  by_cases q:g=f
  ·rw [if_pos q,if_pos q];exact ry
  ·rw [if_neg q,if_neg q];exact r g
 ·by_cases q:g=f
  ·rw [q];exact (zgP f y fs).1
  ·refine (zgP f y fs).2 g (wi g fun z=>hg ?_)
   show (if g=f then some u else mA g)=none
   rw [if_neg q];exact z
theorem Inv.made (I:Inv X pins σ H s):Inv X pins σ (upd (upd H s.heap.objs.size (.own (s.heap.objs.size+1))) (s.heap.objs.size+1) (.ins C s.heap.objs.size []))
  { s with heap:=(s.heap.push PySem.W.emptyDict).push (PySem.W.instObj C s.heap.objs.size) }:=by
 have e1:(s.heap.push PySem.W.emptyDict).get? s.heap.objs.size=some PySem.W.emptyDict:=Heap.get?_push_size s.heap rfl
 have e2:((s.heap.push PySem.W.emptyDict).push (PySem.W.instObj C s.heap.objs.size)).get? (s.heap.objs.size+1)=some (PySem.W.instObj C s.heap.objs.size):=by
  have:=Heap.get?_push_size (s.heap.push PySem.W.emptyDict) (o:=PySem.W.instObj C s.heap.objs.size) rfl
  rwa [Heap.size_push] at this
 have e3:(s.heap.push PySem.W.emptyDict).Ns s.heap.objs.size (fun _=>none):=⟨PySem.W.emptyDict,#[],_,e1,rfl,(fun e he=>absurd he (by simp)),fun _=>rfl⟩
 have I1:=I.laid (a:=s.heap.objs.size) (o:=.own (s.heap.objs.size+1)) (h':=s.heap.push PySem.W.emptyDict) (t':=s.toks) (fun b u q=>Heap.get?_push_of_some _ q) (Nat.le_refl _) ⟨_,e1⟩
 refine I1.laid (a:=s.heap.objs.size+1) (o:=.ins C s.heap.objs.size []) (t':=s.toks) (fun b u q=>Heap.get?_push_of_some _ q) (Nat.le_of_eq (Heap.size_push _ _)) ?_
 have ne:s.heap.objs.size≠s.heap.objs.size+1:=Nat.ne_of_lt (Nat.lt_succ_self _)
 refine ⟨by rw [zam ne,zaf],Nat.zero_le _,ne,e2,fun _=>none,(Heap.Ns1.of_empty e3).at fun o q=>Heap.get?_push_of_some _ q,fun _=>True.intro,fun y hy=>absurd rfl hy⟩
theorem zof {prog:Program} {w:World} {env:Env} {e:Expr} {f:Str} {pos:Pos} {s:Shared} {Q:Value→Shared→Prop} (hb:attributeBase e f env (eval e env)=eval e env)
  (h:wpAny (model prog w) A (eval e env) (fun o s₁=>wpAny (model prog w) A (getAttr o f true) Q E s₁) E s):wpAny (model prog w) A (eval (.Attribute e f pos) env) Q E s :=
 Attribute_any_ h (by rw [arm_eval_Attribute,hb])
end
section
variable {X:Cx} {o e value:Expr} {f:Str} {pos pos' tpos:Pos} {ta tv:TE}
end
section
variable {X:Cx} {pins:List (Addr×Obj)} {σ:St} {H:Hp} {s:Shared} {A:Around} {E:Value→Shared→Prop} {Q:Value→Shared→Prop} {c:Value} {b:Bool}
inductive zjJ (K:PySem.W.Frag) (H:Hp):V→Value→Prop where
 | non:zjJ K H .non (.type "NoneType")
 | bl (x:Bool):zjJ K H (.bl x) (.type "bool")
 | int (i:Int):zjJ K H (.int i) (.type "int")
 | str (x:Str):zjJ K H (.str x) (.type "str")
 | flt (x:UInt64):zjJ K H (.flt x) (.type "float")
 | lst {a:Addr} {xs:List V} (e:H a=some (.lst xs)):zjJ K H (.ref a) (.type "list")
 | frz {a:Addr} {o:Obj} {xs:List V} (e:H a=some (.frz o (.lst xs))):zjJ K H (.ref a) (.type "list")
 | tup {a:Addr} {xs:List V} (e:H a=some (.tup xs)):zjJ K H (.ref a) (.type "tuple")
 | dK {a:Addr} {kvs:List (Key×V)} (e:H a=some (.dK kvs)):zjJ K H (.ref a) (.type "dict")
 | dT {a:Addr} {kvs:List (List Key×V)} (e:H a=some (.dT kvs)):zjJ K H (.ref a) (.type "dict")
 | ins {a C dx:Addr} {fs:List (Str×V)} (e:H a=some (.ins C dx fs)) (cl:Cls K C) (ha:PySem.W.findIn K (.ref C) "__class__"=some (some (.builtin "object.__class__")))
   (hn:PySem.W.specialIn K (.builtin "object.__class__") "__get__"=some (some (.builtin "getset_descriptor.__get__"))) (htk:PySem.W.takesIn K (.builtin "object.__class__")=some true)
   (hm:PySem.W.mroIn K C (.type "object")=some true):zjJ K H (.ref a) (.ref C)
theorem zlp {x:V} {u t:Value} (I:Inv X pins σ H s) (rx:zb5 x u) (ty:zjJ X.K H x t) (e:PySem.W.kitOne X.K t c=some b) (h:∀ tk,Q (.bool b) { s with toks:=tk }) :
  wpAny (model X.prog X.w) A (call (.builtin "isinstance") [u,c]) Q E s:=by
 cases ty with
 | non=>cases (show u=Value.none from rx);exact PySem.W.kia_one PySem.W.kitx_none I.kIn True.intro e (fun z=>nomatch z) h
 | bl y=>cases (show u=Value.bool y from rx);exact PySem.W.kia_one PySem.W.kitx_bool I.kIn True.intro e (fun z=>nomatch z) h
 | int i=>obtain ⟨t,q⟩:=(show ∃ t,u=Value.int i t from rx);cases q;exact PySem.W.kia_one PySem.W.kitx_int I.kIn True.intro e (fun z=>nomatch z) h
 | str y=>obtain ⟨t,q⟩:=(show ∃ t,u=Value.str y t from rx);cases q;exact PySem.W.kia_one PySem.W.kitx_str I.kIn True.intro e (fun z=>nomatch z) h
 | flt y=>obtain ⟨t,q⟩:=(show ∃ t,u=Value.float y t from rx);cases q;exact PySem.W.kia_one PySem.W.kitx_float I.kIn True.intro e (fun z=>nomatch z) h
 | @lst a xs ea =>
  cases (show u=Value.ref a from rx)
  obtain ⟨_,_,n,_,h1⟩:=(show zcZ X.prog X.w H s.heap a (.lst xs) from I.hok a _ ea)
  exact PySem.W.kia_one PySem.W.kitx_list I.kIn ⟨_,h1,rfl⟩ e (fun z=>nomatch z) h
 | @frz a ob xs ea =>
  cases (show u=Value.ref a from rx)
  obtain ⟨_,_,_,n,_,h1⟩:=(show zcZ X.prog X.w H s.heap a (.frz ob (.lst xs)) from I.hok a _ ea)
  exact PySem.W.kia_one PySem.W.kitx_list I.kIn ⟨_,h1,rfl⟩ e (fun z=>nomatch z) h
 | @tup a xs ea =>
  cases (show u=Value.ref a from rx)
  obtain ⟨_,_,_,p⟩:=(show zcZ X.prog X.w H s.heap a (.tup xs) from I.hok a _ ea)
  obtain ⟨o,h1,h2,_⟩:=p
  exact PySem.W.kia_one PySem.W.kitx_tuple I.kIn ⟨o,h1,h2⟩ e (fun z=>nomatch z) h
 | @dK a kvs ea =>
  cases (show u=Value.ref a from rx)
  obtain ⟨_,_,vs,_,p⟩:=(show zcZ X.prog X.w H s.heap a (.dK kvs) from I.hok a _ ea)
  obtain ⟨o,es,ep,h1,h2,_⟩:=p
  exact PySem.W.kia_one PySem.W.kitx_dict I.kIn ⟨o,h1,h2.1⟩ e (fun z=>nomatch z) h
 | @dT a kvs ea =>
  cases (show u=Value.ref a from rx)
  obtain ⟨_,_,xs,_,o,es,ep,h1,h2,_⟩:=(show zcZ X.prog X.w H s.heap a (.dT kvs) from I.hok a _ ea)
  exact PySem.W.kia_one PySem.W.kitx_dict I.kIn ⟨o,h1,h2.1⟩ e (fun z=>nomatch z) h
 | @ins a C dx fs ea cl ha hn htk hm =>
  cases (show u=Value.ref a from rx)
  obtain ⟨mA,O,_⟩:=zh1 I.hok ea
  obtain ⟨od,J,_⟩:=O.look
  exact PySem.W.kia_one (PySem.W.kitx_own (cl.get _) cl.hd ha hn htk hm) I.kIn J e (fun z=>nomatch z) h
end
end L2
namespace L2
open PySem PySem.Spec PyProof.Rows
structure zfk (k:Nat) (A:Around):Prop where
 hd:A.handled=none
 dp:A.depth+3*k+5<recursionLimit
 un:A.units+16*k+200<cLine
theorem zfk.mono {j k:Nat} {A:Around} (r:zfk k A) (h:j≤k):zfk j A:=⟨r.hd,by have:=r.dp;(first|lia|omega),by have:=r.un;(first|lia|omega)⟩
theorem zfk.deeper {k:Nat} {A:Around} (r:zfk (k+1) A) (env:Env):zfk k (A.deeper env) :=
 ⟨r.hd,by have:=r.dp;show A.depth+1+3*k+5<_;(first|lia|omega),by have:=r.un;show A.units+3+16*k+200<_;(first|lia|omega)⟩
theorem zfk.in1 {k:Nat} {A:Around} (r:zfk (k+1) A):zfk k A.in1 :=
 ⟨r.hd,by have:=r.dp;show A.depth+3*k+5<_;(first|lia|omega),by have:=r.un;show A.units+1+16*k+200<_;(first|lia|omega)⟩
theorem zjZ {A:Around} {C:Addr} {us:List Value} {kw:List (Str×Value)}:(A.under (.builtin "type.__call__" ⟨.ref C::us,kw⟩)).depth=A.depth+1:=by
 first | rfl | simp [Around.under,Code.weight,Code.isCreation,Code.isGuard,Code.isCaller,Code.frames,Code.isFrame,guardIds]
theorem zjY {A:Around} {C:Addr} {us:List Value} {kw:List (Str×Value)}:(A.under (.builtin "type.__call__" ⟨.ref C::us,kw⟩)).units=A.units+1:=by
 first | rfl | simp [Around.under,Code.cUnits,Code.frames,Code.isFrame]
theorem zfk.make {k:Nat} {A:Around} (r:zfk (k+1) A) (C:Addr) (us:List Value) (kw:List (Str×Value)):zfk k (A.under (.builtin "type.__call__" ⟨.ref C::us,kw⟩)) :=
 ⟨r.hd,by have:=r.dp;rw [zjZ];(first|lia|omega),by have:=r.un;rw [zjY];(first|lia|omega)⟩
theorem zfk.depth {k:Nat} {A:Around} (r:zfk k A):A.depth<recursionLimit:=by have:=r.dp;(first|lia|omega)
theorem zfk.units {k:Nat} {A:Around} (r:zfk k A):A.units+64<cLine:=by have:=r.un;(first|lia|omega)
def zan:TA:=fun _ H Q=>Q [] H
def zab (ta:TE) (tr:TA):TA:=fun σ H Q=>ta σ H fun x H1=>tr σ H1 fun xs H2=>Q (x::xs) H2
section
variable {X:Cx} {e:Expr} {es:List Expr} {te:TE} {t:TA} {pos:Pos}
theorem zae:PA X [] zan:=fun _ _ _ _ H Q I h=>Calls.spliced_nil ⟨[],H,I,.nil,h⟩
theorem zaa (ha:PE X e te) (hr:PA X es t) (hs:starEach (e::es) X.env=(false,eval e X.env)::starEach es X.env:=by rfl):PA X (e::es) (zab te t):=by
 intro pos pins s σ H Q I h
 rw [hs]
 show wpAny _ _ (spliced ((false,eval e X.env)::backTo pos (starEach es X.env))) _ _ s
 refine Calls.spliced_cons (thn (ha pins s σ H _ I h) fun u s1 hQ'=>?_)
 obtain ⟨x,H1,I1,r1,q1⟩:=hQ'
 exact thn (hr pos pins s1 σ H1 _ I1 q1) fun us s2 ⟨xs,H2,I2,r2,q2⟩=>⟨x::xs,H2,I2,.cons r1 r2,q2⟩
def ze3 (t:TA):TE:=fun σ H Q=>t σ H fun xs H1=>xs.length≤sizeLine∧∀ p,H1 p=none→Q (.ref p) (upd H1 p (.tup xs))
def zgx (t:TA):TE:=fun σ H Q=>t σ H fun xs H1=>xs.length≤sizeLine∧∀ p,H1 p=none→Q (.ref p) (upd H1 p (.lst xs))
theorem zdr {x1} (h:PA X es t):PE X (.Tuple es x1 pos) (ze3 t):=by
 intro pins s σ H Q I hq
 refine wpAny_Tuple_spliced (thn (h pos pins s σ H _ I hq) fun us s1 ⟨xs,H1,I1,r,z,q⟩=>⟨by rw [← r.length];exact z,?_⟩)
 have hf:H1 s1.heap.objs.size=none:=I1.hok.fresh (Nat.le_refl _)
 refine ⟨.ref s1.heap.objs.size,upd H1 s1.heap.objs.size (.tup xs),I1.laid (t':=s1.toks) (fun b u e=>Heap.get?_push_of_some _ e) (Nat.le_refl _) ?_,rfl,q _ hf⟩
 exact ⟨z,us,r,⟨_,Heap.get?_push_size _ rfl,rfl,_,rfl⟩⟩
theorem zc6 (h:PA X es t):PE X (.List es pos) (zgx t):=by
 intro pins s σ H Q I hq
 refine wpAny_List_spliced (thn (h pos pins s σ H _ I hq) fun us s1 ⟨xs,H1,I1,r,z,q⟩=>⟨by rw [← r.length];exact z,?_⟩)
 have hf:H1 s1.heap.objs.size=none:=I1.hok.fresh (Nat.le_refl _)
 refine ⟨.ref s1.heap.objs.size,upd H1 s1.heap.objs.size (.lst xs),I1.laid (t':=s1.toks) (fun b u e=>Heap.get?_push_of_some _ e) (Nat.le_refl _) ?_,rfl,q _ hf⟩
 exact ⟨z,us,0,r,Heap.get?_push_size _ rfl⟩
end
abbrev Sp:=List V→Hp→VK→XK→Prop
abbrev CXT:=List Env→Hp→Shared→XK→Value→Shared→Prop
structure zlf (P:Program) (w:World) (K:PySem.W.Frag) (mg:Str→Option Value) (base:Heap) (A:Around) (outer:List Env) (s:Shared) (H:Hp):Prop where
 frames:A.frames=some outer
 mod:Mod K mg base
 bs:∀ b o,base.get? b=some o→s.heap.get? b=some o∧H b=none
 bsz:base.objs.size≤s.heap.objs.size
 funs:s.heap.FunFrames base outer
 frf:∀ b∈frs outer,H b=none
 hok:HOk P w H s.heap
 bare:AllBare s.gens
def CE (outer:List Env) (P:Program) (w:World) (H:Hp) (s:Shared) (Q:VK) (u:Value) (s':Shared):Prop :=
 ∃ v H',s'.os=s.os∧AllBare s'.gens∧Un (frs outer) [] H H' s.heap s'.heap∧HOk P w H' s'.heap∧zb5 v u∧Q v H'
def CR (CX:CXT) (outer:List Env) (P:Program) (w:World) (H:Hp) (s:Shared) (Q:VK) (E:XK) (r:Result) (s':Shared):Prop :=
 match r with
 | .ok (.ret u)=>CE outer P w H s Q u s'
 | .ok _=>False
 | .error e=>CX outer H s E e s'
structure zcQ (P:Program) (w:World) (K:PySem.W.Frag) (mg:Str→Option Value) (base:Heap) (CX:CXT) (k:Nat) (f:Addr) (fd:FuncData) (ps:List Str) (sp:Sp):Prop where
 len:∀ vs H Q E,sp vs H Q E→vs.length=ps.length
 run:∀ (A:Around) (outer:List Env) (s:Shared) (H:Hp) (args:Args) (us:List Value) (vs:List V) (Q:VK) (E:XK),zfk k A→zlf P w K mg base A outer s H→BindsTo s fd args (ps.zip us)→zbU vs us→sp vs H Q E →
  codeAny (model P w) A (.call (.ref f) args) (CR CX outer P w H s Q E) s
theorem zlf.make {P:Program} {w:World} {K:PySem.W.Frag} {mg:Str→Option Value} {base:Heap} {A:Around} {outer:List Env} {s:Shared} {H:Hp} (e:zlf P w K mg base A outer s H) (C:Addr) (us:List Value) (kw:List (Str×Value)) :
  zlf P w K mg base (A.under (.builtin "type.__call__" ⟨.ref C::us,kw⟩)) outer s H:=⟨by first | exact e.frames | (simpa [Around.under,Code.envs,Code.isFrame,pushEnvs] using e.frames),e.mod,e.bs,e.bsz,e.funs,e.frf,e.hok,e.bare⟩
theorem zlf.in1 {P:Program} {w:World} {K:PySem.W.Frag} {mg:Str→Option Value} {base:Heap} {A:Around} {outer:List Env} {s:Shared} {H:Hp} (e:zlf P w K mg base A outer s H) :
  zlf P w K mg base A.in1 outer s H:=⟨e.frames,e.mod,e.bs,e.bsz,e.funs,e.frf,e.hok,e.bare⟩
section
variable {X:Cx} {pins:List (Addr×Obj)} {σ:St} {H:Hp} {s s':Shared}
theorem Inv.env0 (I:Inv X pins σ H s):zlf X.prog X.w X.K X.mg X.base X.A X.stack s H :=
 ⟨I.ok.frames,I.ok.mod,I.bs,Nat.le_trans I.ok.bsz I.sz,I.stack,I.stkFree,I.hok,I.bare⟩
theorem Inv.after {Q:VK} {u:Value} (I:Inv X pins σ H s) (h:CE X.stack X.prog X.w H s Q u s'):EP X pins σ Q u s':=by
 obtain ⟨v,H',os,bare,un,hok,r,q⟩:=h
 obtain ⟨hh,g,d,t,os'⟩:=s'
 obtain rfl:os'=s.os:=os
 exact ⟨v,H',I.call (h':=hh) (g':=g) (d':=d) (t':=t) (ch:=[]) un hok bare (fun b z=>absurd z (by simp)),r,q⟩
end
def zaJ (sp:Sp) (dvs:List V) (E:XK) (t:TA):TE:=fun σ H Q=>t σ H fun vs H1=>sp (vs++dvs) H1 Q E
def zev (C:Addr) (m:Str) (sp:Sp) (dvs:List V) (E:XK) (ta:TE) (t:TA):TE:=fun σ H Q=>ta σ H fun x H1=>∃ a dx fs,x=.ref a∧H1 a=some (.ins C dx fs)∧fs.lookup m=none ∧
 t σ H1 fun vs H2=>sp (x::(vs++dvs)) H2 Q E
def znv (C:Addr) (sp:Sp) (dvs:List V) (E:XK) (t:TA):TE:=fun σ H Q=>t σ H fun vs H1=>∀ x dx,H1 x=none→H1 dx=none→dx≠x →
 sp (.ref x::(vs++dvs)) (upd (upd H1 dx (.own x)) x (.ins C dx [])) (fun v H2=>v=.non∧Q (.ref x) H2) E
def zbj (K:PySem.W.Frag) (fd:FuncData) (ps:List Str) (ds:List Value):Prop :=
 ∀ (s:Shared) (us:List Value),K.In s.heap→(us++ds).length=ps.length→BindsTo s fd ⟨us,[]⟩ (ps.zip (us++ds))
theorem zbj.all {K:PySem.W.Frag} {fd:FuncData} {ps:List Str} (h:∀ us:List Value,us.length=ps.length→bindArgs fd ⟨us,[]⟩=pure (ps.zip us)):zbj K fd ps []:=fun s us _ hl=>by
 rw [List.append_nil] at hl ⊢
 exact .of_eq (h us hl)
def zgA (CX:CXT) (X:Cx) (E:XK):Prop:=∀ (pins:List (Addr×Obj)) (σ:St) (H:Hp) (s:Shared) (e:Value) (s':Shared),Inv X pins σ H s→CX X.stack H s E e s'→X.xe e s'
section
variable {X:Cx} {CX:CXT} {k:Nat} {f C:Addr} {fd:FuncData} {ps:List Str} {sp:Sp} {dvs:List V} {ds:List Value} {E:XK} {x m:Str} {p pos apos:Pos} {e o:Expr} {es:List Expr} {ta:TE} {t:TA}
theorem zkQ {pins:List (Addr×Obj)} {σ:St} {H:Hp} {s:Shared} {Q:VK} {us:List Value} {vs:List V} (F:zcQ X.prog X.w X.K X.mg X.base CX k f fd ps sp) (hr:zfk k X.A) (hb:zbj X.K fd ps ds) (hd:zbU dvs ds) (hx:zgA CX X E)
  (I:Inv X pins σ H s) (r:zbU vs us) (h:sp (vs++dvs) H Q E):wpAny (model X.prog X.w) X.A (call (.ref f) us) (EP X pins σ Q) X.xe s:=by
 have r2:zbU (vs++dvs) (us++ds):=r.append hd
 have hl:(us++ds).length=ps.length:=by rw [← r2.length];exact F.len _ _ _ _ h
 refine wpAny_call (codeAny_mono (F.run X.A X.stack s H ⟨us,[]⟩ (us++ds) (vs++dvs) Q E hr I.env0 (hb s us I.kIn hl) r2 h) fun r s' hq=>?_)
 cases r with
 | error e=>exact hx pins σ H s e s' I hq
 | ok fl =>
  cases fl with
  | ret u=>exact I.after hq
  | next=>exact False.elim hq
  | brk=>exact False.elim hq
  | cont=>exact False.elim hq
theorem zaE (F:zcQ X.prog X.w X.K X.mg X.base CX k f fd ps sp) (hr:zfk k X.A) (hg:Gl X x) (hm:X.mg x=some (.ref f)) (hk:PySem.W.keepIn X.K (.ref f)=true) (hb:zbj X.K fd ps ds) (hd:zbU dvs ds) (hx:zgA CX X E)
  (ha:PA X (e::es) t) (hdb:(x == ("__debug__":Str))=false:=by decide) (he:starEach (e::es) X.env=(false,eval e X.env)::starEach es X.env:=by rfl) (hpl:(backTo pos (starEach es X.env)).any (·.1)=false:=by rfl) :
  PE X (.Call (.Name x p) (e::es) [] pos) (zaJ sp dvs E t):=by
 intro pins s σ H Q I h
 refine wpAny_Call_Name_kw (zjs I hg hm ?_ hdb)
 refine PySem.W.callWith_K (h₀:=X.base) I.ok.mod.kin hk (thn (ha pos pins s σ H _ I h) fun us s1 ⟨vs,H1,I1,r,q⟩=>⟨I1.kIn,?_⟩) he hpl
 exact zkQ F hr hb hd hx I1 r q
theorem ze1 {pl:Sem Bool} (he:PE X o ta) (c:Cls X.K C) (hm:zhj X.K C m f) (F:zcQ X.prog X.w X.K X.mg X.base CX k f fd ps sp) (hr:zfk k X.A) (hb:zbj X.K fd ps ds) (hd:zbU dvs ds) (hx:zgA CX X E) (ha:PA X (e::es) t)
  (hst:starEach (e::es) X.env=(false,eval e X.env)::starEach es X.env:=by rfl) (hpl:(backTo pos (starEach es X.env)).any (·.1)=false:=by rfl)
  (ht:eval (.Call (.Attribute o m apos) (e::es) [] pos) X.env=(do
   let ov ← eval o X.env
   standAt apos.atName
   let (f,first) ← holding [ov] (getMethod ov m pl)
   callWith pos f first (backTo pos (starEach (e::es) X.env)) (backToKw pos (keywordEach [] X.env))):=by rfl) :
  PE X (.Call (.Attribute o m apos) (e::es) [] pos) (zev C m sp dvs E ta t):=by
 intro pins s σ H Q I h
 refine PySem.W.methodCall_KW (pl:=pl) (thn (he pins s σ H _ I h) fun u s1 hQ'=>?_) ht
 obtain ⟨x,H1,I1,rx,a,dx,fs,ex,ea,l,q⟩:=hQ'
 subst ex
 obtain rfl:u=Value.ref a:=rx
 refine zhk I1 ea c hm l ?_
 refine PySem.W.callWith_K (first:=[.ref a]) (h₀:=X.base) I.ok.mod.kin hm.kp (thn (ha pos pins s1 σ H1 _ I1 q) fun us s2 ⟨vs,H2,I2,r,q2⟩=>⟨I2.kIn,?_⟩) hst hpl
 exact zkQ (us:=.ref a::us) (vs:=.ref a::vs) F hr hb hd hx I2 (.cons rfl r) q2
theorem zjz {pl:Sem Bool} (he:PE X o ta) (c:Cls X.K C) (hm:zhj X.K C m f) (F:zcQ X.prog X.w X.K X.mg X.base CX k f fd ps sp) (hr:zfk k X.A) (hb:zbj X.K fd ps ds) (hd:zbU dvs ds) (hx:zgA CX X E)
  (ht:eval (.Call (.Attribute o m apos) [] [] pos) X.env=(do
   let ov ← eval o X.env
   standAt apos.atName
   let (f,first) ← holding [ov] (getMethod ov m pl)
   callWith pos f first (backTo pos (starEach [] X.env)) (backToKw pos (keywordEach [] X.env))):=by rfl) :
  PE X (.Call (.Attribute o m apos) [] [] pos) (zev C m sp dvs E ta zan):=by
 intro pins s σ H Q I h
 refine PySem.W.methodCall_KW (pl:=pl) (thn (he pins s σ H _ I h) fun u s1 hQ'=>?_) ht
 obtain ⟨x,H1,I1,rx,a,dx,fs,ex,ea,l,q⟩:=hQ'
 subst ex
 obtain rfl:u=Value.ref a:=rx
 refine zhk I1 ea c hm l ?_
 exact PySem.W.callWith_K0 (first:=[.ref a]) I1.kIn hm.kp (zkQ (us:=[.ref a]) (vs:=[.ref a]) F hr hb hd hx I1 (.cons rfl .nil) q)
structure Mk (K:PySem.W.Frag) (C f:Addr):Prop where
 makes:PySem.W.makesIn K C=true
 init:PySem.W.findIn K (.ref C) "__init__"=some (some (.ref f))
 fn:PySem.W.isFn K (.ref f)=true
 kp:PySem.W.keepIn K (.ref C)=true
theorem zl5 {pins:List (Addr×Obj)} {σ:St} {H:Hp} {s:Shared} {Q:VK} {us:List Value} {vs:List V} (M:Mk X.K C f) (F:zcQ X.prog X.w X.K X.mg X.base CX k f fd ps sp) (hr:zfk (k+1) X.A) (hb:zbj X.K fd ps ds) (hd:zbU dvs ds)
  (hx:zgA CX X E) (I:Inv X pins σ H s) (r:zbU vs us)
  (h:∀ x dx,H x=none→H dx=none→dx≠x→sp (.ref x::(vs++dvs)) (upd (upd H dx (.own x)) x (.ins C dx [])) (fun v H2=>v=.non∧Q (.ref x) H2) E) :
  wpAny (model X.prog X.w) X.A (call (.ref C) us) (EP X pins σ Q) X.xe s:=by
 have hq:=h (s.heap.objs.size+1) s.heap.objs.size (I.hok.fresh (Nat.le_succ _)) (I.hok.fresh (Nat.le_refl _)) (Nat.ne_of_lt (Nat.lt_succ_self _))
 have I2:=Inv.made (C:=C) I
 have r2:zbU (V.ref (s.heap.objs.size+1)::(vs++dvs)) (Value.ref (s.heap.objs.size+1)::(us++ds)):=.cons rfl (r.append hd)
 have hl:(Value.ref (s.heap.objs.size+1)::us++ds).length=ps.length:=by
  have e:=r2.length
  rw [F.len _ _ _ _ hq] at e
  exact e.symm
 refine wpAny_call (zlQ (f:=f) I.kIn M.makes M.init (beq_iff_eq.mp M.fn) (codeAny_mono (F.run _ X.stack _ _ ⟨Value.ref (s.heap.objs.size+1)::us,[]⟩ (Value.ref (s.heap.objs.size+1)::(us++ds)) _ _ E (hr.make C us [])
  (I2.env0.make C us []) (hb _ (Value.ref (s.heap.objs.size+1)::us) I2.kIn hl) r2 hq) fun r s' hq'=>?_))
 cases r with
 | error e=>exact hx pins σ _ _ e s' I2 hq'
 | ok fl =>
  cases fl with
  | ret u =>
   obtain ⟨v,H',I3,rv,ev,q3⟩:=I2.after hq'
   subst ev
   exact ⟨rv,⟨V.ref (s.heap.objs.size+1),H',I3,rfl,q3⟩⟩
  | next=>exact False.elim hq'
  | brk=>exact False.elim hq'
  | cont=>exact False.elim hq'
theorem znE (M:Mk X.K C f) (F:zcQ X.prog X.w X.K X.mg X.base CX k f fd ps sp) (hr:zfk (k+1) X.A) (hg:Gl X x) (hm:X.mg x=some (.ref C)) (hb:zbj X.K fd ps ds) (hd:zbU dvs ds) (hx:zgA CX X E)
  (ha:PA X (e::es) t) (hdb:(x == ("__debug__":Str))=false:=by decide) (he:starEach (e::es) X.env=(false,eval e X.env)::starEach es X.env:=by rfl) (hpl:(backTo pos (starEach es X.env)).any (·.1)=false:=by rfl) :
  PE X (.Call (.Name x p) (e::es) [] pos) (znv C sp dvs E t):=by
 intro pins s σ H Q I h
 refine wpAny_Call_Name_kw (zjs I hg hm ?_ hdb)
 refine PySem.W.callWith_K (h₀:=X.base) I.ok.mod.kin M.kp (thn (ha pos pins s σ H _ I h) fun us s1 ⟨vs,H1,I1,r,q⟩=>⟨I1.kIn,?_⟩) he hpl
 exact zl5 M F hr hb hd hx I1 r q
end
section
variable {X:Cx} {CX:CXT} {k:Nat} {f C:Addr} {fd:FuncData} {ps ks:List Str} {sp:Sp} {E:XK} {x m:Str} {p pos apos kpos:Pos} {e o:Expr} {es:List Expr} {kws:List Keyword} {te ta:TE} {t tk:TA} {nm:Option Str}
variable {g:List Value→List Value→List Value} {gV:List V→List V→List V}
end
structure zaI (N P:List Str) (sc:Scope):Prop where
 kind:sc.kind=.function
 co:sc.isCoroutine=false
 gen:sc.isGenerator=false
 nd:N.Nodup
 pre:N.take P.length=P
 par:∀ x∈P,sc.names.lookup x=some .local∨sc.names.lookup x=some .cell
 nofree:∀ y∈sc.names,y.2≠.free
theorem zix {kindOf:Str→Option NameKind} {x:Str}:∀ {binds:List (Str×Value)} {m:Str→Option Value},(∀ v,(x,v)∉binds)→bindL kindOf binds m x=m x
 | [],_,_=>rfl
 | (n,v)::r,m,h=>by
  unfold bindL
  rw [zix fun w hw=>h w (List.mem_cons_of_mem _ hw)]
  split
  ·have:x≠n:=by rintro rfl;exact h v List.mem_cons_self
   simp [this]
  ·rfl
theorem ziB {kindOf:Str→Option NameKind} {x:Str}:∀ {binds:List (Str×Value)} {m:Str→Option Value},(∀ v,(x,v)∉binds)→bindC kindOf binds m x=m x
 | [],_,_=>rfl
 | (n,v)::r,m,h=>by
  unfold bindC
  rw [ziB fun w hw=>h w (List.mem_cons_of_mem _ hw)]
  split
  ·rfl
  ·have:x≠n:=by rintro rfl;exact h v List.mem_cons_self
   simp [this]
theorem ziq {kindOf:Str→Option NameKind} {x:Str} {v:Value}:∀ {P:List Str} {vs:List Value} {i:Nat} {m:Str→Option Value},P.Nodup→P[i]?=some x→vs[i]?=some v→kindOf x=some .local →
  bindL kindOf (P.zip vs) m x=some v
 | [],_,_,_,_,h,_,_=>by simp at h
 | _::_,[],_,_,_,_,h,_=>by simp at h
 | p::P,w::vs,0,m,nd,h1,h2,hk=>by
  simp at h1 h2;subst h1;subst h2
  show bindL kindOf ((p,w)::P.zip vs) m p=_
  unfold bindL
  rw [zix fun v hv=>(List.nodup_cons.mp nd).1 (List.of_mem_zip hv).1,if_pos hk]
  simp
 | p::P,w::vs,i+1,m,nd,h1,h2,hk=>by
  show bindL kindOf ((p,w)::P.zip vs) m x=_
  unfold bindL
  exact ziq (i:=i) (List.nodup_cons.mp nd).2 (by simpa using h1) (by simpa using h2) hk
theorem ziF {kindOf:Str→Option NameKind} {x:Str} {v:Value}:∀ {P:List Str} {vs:List Value} {i:Nat} {m:Str→Option Value},P.Nodup→P[i]?=some x→vs[i]?=some v→kindOf x≠some .local →
  bindC kindOf (P.zip vs) m x=some v
 | [],_,_,_,_,h,_,_=>by simp at h
 | _::_,[],_,_,_,_,h,_=>by simp at h
 | p::P,w::vs,0,m,nd,h1,h2,hk=>by
  simp at h1 h2;subst h1;subst h2
  show bindC kindOf ((p,w)::P.zip vs) m p=_
  unfold bindC
  rw [ziB fun v hv=>(List.nodup_cons.mp nd).1 (List.of_mem_zip hv).1,if_neg hk]
  simp
 | p::P,w::vs,i+1,m,nd,h1,h2,hk=>by
  show bindC kindOf ((p,w)::P.zip vs) m x=_
  unfold bindC
  exact ziF (i:=i) (List.nodup_cons.mp nd).2 (by simpa using h1) (by simpa using h2) hk
def zbg (N:List Str) (vs:List V):St:=vs.map some++List.replicate (N.length - vs.length) none
def znV (CX:CXT) (P:Program) (w:World) (K:PySem.W.Frag) (mg:Str→Option Value) (base:Heap) (N:List Str) (qual:Str) (scope:Scope) (f:Addr) (cd:Value) (A:Around) (outer:List Env) (s:Shared) (H:Hp) (E:XK):Cx where
 prog:=P
 w:=w
 K:=K
 mg:=mg
 base:=base
 A:=A.deeper (envOfC qual scope s.heap.objs.size f cd)
 N:=N
 s₀:=s
 H₀:=H
 env:=envOfC qual scope s.heap.objs.size f cd
 outer:=outer
 stack:=envOfC qual scope s.heap.objs.size f cd::outer
 ex:=[]
 calm:=true
 fn:=fun _=>true
 pn:=[]
 xe:=fun e s'=>wpAny (model P w) (A.deeper (envOfC qual scope s.heap.objs.size f cd)) (leaving (envOfC qual scope s.heap.objs.size f cd) e) (fun _ s''=>CX outer H s E e s'') (fun e' s''=>CX outer H s E e' s'') s'
theorem zgh {sc:Scope} {n:Nat} {x:Str} (h:sc.names.lookup x=some .cell):∃ c,(cellsFrom n sc.names []).lookup x=some c:=by
 have q:=PySem.W.cellsFrom_some sc.names n [] (.inl h)
 exact Option.isSome_iff_exists.mp q
theorem zkh {CX:CXT} {P:Program} {w:World} {K:PySem.W.Frag} {mg:Str→Option Value} {base:Heap} {N ps:List Str} {qual:Str} {scope:Scope} {f:Addr} {cd:Value} {A:Around} {outer:List Env} {s s1:Shared} {H:Hp} {E:XK} {us:List Value} {vs:List V}
  (S:zaI N ps scope) (hd:A.handled=none) (e0:zlf P w K mg base A outer s H) (hl:vs.length=ps.length) (r:zbU vs us)
  (x:InCallC s s.heap.objs.size (bindL (envOfC qual scope s.heap.objs.size f cd).kindOf (ps.zip us) fun _=>none) (cellsFrom (s.heap.objs.size+1) scope.names []) (bindC (envOfC qual scope s.heap.objs.size f cd).kindOf (ps.zip us) fun _=>none) s1) :
  Inv (znV CX P w K mg base N qual scope f cd A outer s H E) [] (zbg N vs) H s1:=by
 have hpl:ps.length≤N.length:=by have:=congrArg List.length S.pre;rw [List.length_take] at this;(first|lia|omega)
 obtain ⟨h1,tk,rfl,hk⟩:=x.done
 have noA:∀ b:Addr,b∉(znV CX P w K mg base N qual scope f cd A outer s H E).ex:=fun b z=>absurd (show b∈([]:List Addr) from z) (by simp)
 refine ⟨⟨e0.mod,S.kind,rfl,rfl,Nat.le_refl _,fun y z c h1 h2=>?_,fun y hy=>?_,fun y c _ h=>?_,fun _=>hd,Around.frames_deeper e0.frames,.inr ⟨rfl,rfl⟩,fun b z=>absurd z (noA b),e0.bs,e0.bsz,fun b _ _=>noA b,fun b z=>absurd z (noA b),e0.funs,e0.frf⟩,
  rfl,e0.bare,Un.kept hk,⟨_,x.toInCall.ns,fun i y v h1 h2 h3=>?_⟩,fun y c h=>⟨_,x.cell y c h⟩,e0.hok.fresh (Nat.le_refl _),fun y c h=>?_,fun p hp=>absurd (show p∈([]:List (Addr×Obj)) from hp) (by simp),e0.hok.kept hk,?_⟩
 ·exact name_of_addr x.apart (PySem.mem_of_lookup h1) (PySem.mem_of_lookup h2)
 ·have hy:scope.names.lookup y=some .cell∨scope.names.lookup y=some .free:=hy
  rcases hy with hy | hy
  ·exact zgh hy
  ·exact absurd rfl (S.nofree _ (PySem.mem_of_lookup hy))
 ·exact Nat.le_of_lt (x.above y c (PySem.mem_of_lookup h))
 ·have hi:i<vs.length:=by
   unfold zbg at h2
   by_cases hi:i<vs.length
   ·exact hi
   ·rw [List.getElem?_append_right (by simpa using hi)] at h2
    rw [List.getElem?_replicate] at h2
    split at h2 <;> cases h2
  have ha:vs[i]?=some v:=by
   unfold zbg at h2
   rw [List.getElem?_append_left (by simpa using hi),List.getElem?_map] at h2
   cases e:vs[i]? with
   | none=>rw [e] at h2;cases h2
   | some a=>rw [e] at h2;cases h2;rfl
  obtain ⟨u,hu,rv⟩:=r.get ha
  have hp:ps[i]?=some y:=by
   rw [← S.pre,List.getElem?_take_of_lt (by (first|lia|omega))];exact h1
  have ndP:ps.Nodup:=by rw [← S.pre];exact S.nd.sublist (List.take_sublist _ _)
  refine ⟨u,rv,?_⟩
  rcases S.par y (List.mem_of_getElem? hp) with k | k
  ·exact .inl ⟨k,ziq ndP hp hu k⟩
  ·obtain ⟨c,e⟩:=zgh (n:=s.heap.objs.size+1) k
   refine .inr ⟨.inl k,c,e,?_⟩
   have q:=x.cell y c e
   rw [ziF ndP hp hu (by show scope.names.lookup y≠_;rw [k];decide)] at q
   exact q
 ·exact e0.hok.fresh (Nat.le_of_lt (x.above y c (PySem.mem_of_lookup h)))
 ·unfold zbg
  show _=N.length
  rw [List.length_append,List.length_map,List.length_replicate]
  (first|lia|omega)
theorem zpL {CX:CXT} {P:Program} {w:World} {K:PySem.W.Frag} {mg:Str→Option Value} {base:Heap} {k:Nat} {f:Addr} {name qual:Str} {params:Arguments} {body:List Stmt} {scope:Scope} {dV kV doc pm cdv ct oc:Value} {an od:Option Addr}
  {osl:Array (Option Value)} {N ps:List Str} {sp:Sp} (lk:K.lookup f=some ⟨oc,od,.func (PySem.W.fnOf name qual params body scope dV kV doc pm an cdv ct),osl⟩) (hcd:PySem.W.codeIn K cdv qual=true) (S:zaI N ps scope)
  (len:∀ vs H Q E,sp vs H Q E→vs.length=ps.length)
  (hbody:∀ (A:Around) (outer:List Env) (s:Shared) (H:Hp) (vs:List V) (Q:VK) (E:XK),zfk k (A.deeper (envOfC qual scope s.heap.objs.size f cdv))→sp vs H Q E →
   ∃ t,PSs (znV CX P w K mg base N qual scope f cdv A outer s H E) body t∧t { nx:=fun _ H'=>Q .non H',rt:=Q } (zbg N vs) H) :
  zcQ P w K mg base CX (k+1) f (PySem.W.fnOf name qual params body scope dV kV doc pm an cdv ct) ps sp:=by
 refine ⟨len,fun A outer s H args us vs Q E hr e0 hb r hsp=>?_⟩
 have hl:=len _ _ _ _ hsp
 have KX:K.In s.heap:=e0.mod.kin.keeps fun b o e=>(e0.bs b o e).1
 have lim:s.heap.NoLimit:=e0.mod.nolimit.keeps fun b o e=>(e0.bs b o e).1
 have hkind:∀ y∈ps.zip us,scope.names.lookup y.1=some .local∨(scope.names.lookup y.1=some .cell∧((cellsFrom (s.heap.objs.size+1) scope.names []).lookup y.1).isSome=true):=fun ⟨n,v⟩ hy=>by
  rcases S.par n (List.of_mem_zip hy).1 with q | q
  ·exact .inl q
  ·exact .inr ⟨q,PySem.W.cellsFrom_some _ _ _ (.inl q)⟩
 refine codeAny_call_function hr.depth (KX _ _ lk) rfl S.co S.gen rfl (PySem.W.codeRec_of KX hcd) (hb _ _ _ _ ?_)
 refine wpAny_newFunctionEnv_cells S.kind hkind fun env he s1 x=>?_
 subst he
 refine ⟨lim.keeps x.toInCall.keep,codeAny_func ?_⟩
 obtain ⟨t,ht,hq⟩:=hbody A outer s H vs Q E (hr.deeper _) hsp
 have I:Inv (znV CX P w K mg base N qual scope f cdv A outer s H E) [] (zbg N vs) H s1:=zkh S hr.hd e0 hl r x
 refine wpAny_mono (ht [] s1 (zbg N vs) H _ I hq) (fun fl s' hs=>?_) fun e s' hs=>hs
 have fin:∀ {σ':St} {H':Hp} {v:V} {u:Value},Inv (znV CX P w K mg base N qual scope f cdv A outer s H E) [] σ' H' s'→zb5 v u→Q v H'→CE outer P w H s Q u s' :=
  fun {σ' H' v u} J rv q=>⟨v,H',J.os,J.bare,J.base,J.hok,rv,q⟩
 cases fl with
 | ret u =>
  obtain ⟨v,σ',H',J,rv,q⟩:=hs
  exact fin J rv q
 | next =>
  obtain ⟨σ',H',J,q⟩:=hs
  exact fin (v:=V.non) (u:=Value.none) J rfl q
 | brk =>
  obtain ⟨_,_,_,q⟩:=hs
  exact False.elim q
 | cont =>
  obtain ⟨_,_,_,q⟩:=hs
  exact False.elim q
end L2
namespace L2
open PySem PySem.Spec PyProof.Rows
section
variable {X:Cx} {x:Str} {p pos:Pos} {e:Expr} {es:List Expr} {t:TA} {id T:String} {r:List V→Hp→VK→Prop}
def tCB (r:List V→Hp→VK→Prop) (t:TA):TE:=fun σ H Q=>t σ H fun vs H1=>r vs H1 Q
theorem zal (hc:zhb X (.builtin id) r) (hg:Gl X x) (hm:X.mg x=none) (hv:bootBuiltins x=some (.builtin id)) (ha:PA X (e::es) t) (hn:x≠"__name__":=by decide) (hdb:(x == ("__debug__":Str))=false:=by decide)
  (he:starEach (e::es) X.env=(false,eval e X.env)::starEach es X.env:=by rfl) (hpl:(backTo pos (starEach es X.env)).any (·.1)=false:=by rfl):PE X (.Call (.Name x p) (e::es) [] pos) (tCB r t):=by
 intro pins s σ H Q I h
 refine wpAny_Call_Name_kw (zfT I hg hm hv ?_ hn hdb)
 exact PyProof.Rows.callWith_builtin1 (thn (ha pos pins s σ H _ I h) fun us s1 ⟨vs,H1,I1,r1,q1⟩=>hc pins s1 σ H1 vs us Q I1 r1 q1) he hpl
theorem zez (hc:zhb X (.type T) r) (hg:Gl X x) (hm:X.mg x=none) (hv:bootBuiltins x=some (.type T)) (ha:PA X (e::es) t) (hn:x≠"__name__":=by decide) (hdb:(x == ("__debug__":Str))=false:=by decide)
  (he:starEach (e::es) X.env=(false,eval e X.env)::starEach es X.env:=by rfl) (hpl:(backTo pos (starEach es X.env)).any (·.1)=false:=by rfl):PE X (.Call (.Name x p) (e::es) [] pos) (tCB r t):=by
 intro pins s σ H Q I h
 refine wpAny_Call_Name_kw (zfT I hg hm hv ?_ hn hdb)
 exact PyProof.Rows.callWith_type1 (thn (ha pos pins s σ H _ I h) fun us s1 ⟨vs,H1,I1,r1,q1⟩=>hc pins s1 σ H1 vs us Q I1 r1 q1) he hpl
end
end L2
namespace HT
open PySem PyProof.Rows
section
open PySem.SeqAt
open PySem.AutoSeq1 (wpAny_loadPart')
open PySem.MeetsSeq PySem.MeetsSeq2 PySem.MeetsSeq3
end
section
variable {prog:Program} {w:World} {A:Around} {E:Value→Shared→Prop} {s:Shared}
def sIx (n d:Nat):Option Int→Nat
 | none=>d
 | some v=>if v<0 then (v+(n:Int)).toNat else min v.toNat n
theorem zlM (n d:Nat):sIx n d none=d:=rfl
theorem znM (n d k:Nat):sIx n d (some (k:Int))=min k n:=by
 show (if (k:Int)<0 then ((k:Int)+(n:Int)).toNat else min (k:Int).toNat n)=min k n
 rw [if_neg (by (first|lia|omega)),Int.toNat_natCast]
end
end HT
namespace L2
open PySem PySem.Spec PyProof.Rows
abbrev TO:=St→Hp→(Option Int→Hp→Prop)→Prop
def PO (X:Cx) (e:Option Expr) (t:TO):Prop :=
 ∀ (pins:List (Addr×Obj)) (s:Shared) (σ:St) (H:Hp) (Q:Option Int→Hp→Prop),Inv X pins σ H s→t σ H Q →
  wpAny (model X.prog X.w) X.A (evalPart e X.env) (fun u s'=>∃ o H',Inv X pins σ H' s'∧IsPart u o∧Q o H') X.xe s
def zgU:TO:=fun _ H Q=>Q none H
def zkY (t:TE):TO:=fun σ H Q=>t σ H fun x H1=>∃ i,x=.int i∧Q (some i) H1
section
variable {X:Cx} {e:Expr} {te:TE} {lo hi:Option Expr} {tl th:TO} {pos p2:Pos}
theorem zju:PO X none zgU:=by
 intro pins s σ H Q I h
 rw [evalPart_none]
 exact wpAny_pure ⟨none,H,I,.none,h⟩
theorem zi7 (h:PE X e te):PO X (some e) (zkY te):=by
 intro pins s σ H Q I hw
 rw [evalPart_some]
 refine thn (h pins s σ H _ I hw) fun u s1 hQ'=>?_
 obtain ⟨x,H1,I1,r1,q1⟩:=hQ'
 obtain ⟨i,rfl,q⟩:=q1
 obtain ⟨t,rfl⟩:=r1
 exact ⟨some i,H1,I1,.int i t,q⟩
def SlR (X:Cx) (r:V→Option Int→Option Int→Hp→VK→Prop):Prop :=
 ∀ (pins:List (Addr×Obj)) (s:Shared) (σ:St) (H:Hp) (x:V) (v vl vu:Value) (lo hi:Option Int) (sl:Addr) (Q:VK),Inv X pins σ H s→zb5 x v→s.heap.IsSliceOf sl vl vu .none→IsPart vl lo→IsPart vu hi→r x lo hi H Q →
  ∃ T id,typeLookup (.type T) "__getitem__"=pure (some (.builtin id))∧s.TypeIs v T∧wpAny (model X.prog X.w) X.A (getItem v (.ref sl)) (EP X pins σ Q) X.xe s
def tSl (r:V→Option Int→Option Int→Hp→VK→Prop) (te:TE) (tl th:TO):TE:=fun σ H Q=>te σ H fun x H1=>tl σ H1 fun l H2=>th σ H2 fun u H3=>r x l u H3 Q
theorem zh5 {r:V→Option Int→Option Int→Hp→VK→Prop} (hr:SlR X r) (he:PE X e te) (hl:PO X lo tl) (hu:PO X hi th):PE X (.Subscript e (.Slice lo hi none p2) pos) (tSl r te tl th):=by
 intro pins s σ H Q I h
 refine Subscript_ (thn (he pins s σ H _ I h) fun v s1 hQ'=>?_)
 obtain ⟨x,H1,I1,r1,q1⟩:=hQ'
 refine wpAny_Slice (thn (hl pins s1 σ H1 _ I1 q1) fun vl s2 ⟨l,H2,I2,pl,q2⟩=>thn (hu pins s2 σ H2 _ I2 q2) fun vu s3 hQ'=>?_)
 obtain ⟨u,H3,I3,pu,q3⟩:=hQ'
 rw [evalPart_none]
 refine wpAny_pure ?_
 have I4:Inv X pins σ H3 { s3 with heap:=s3.heap.push { cls:=.type "slice",data:=.fields #[vl,vu,.none] } }:=I3.kept (t':=s3.toks) fun b ob q=>Heap.get?_push_of_some _ q
 obtain ⟨T,id,hT,ht,hg⟩:=hr pins { s3 with heap:=s3.heap.push { cls:=.type "slice",data:=.fields #[vl,vu,.none] } } σ H3 x v vl vu l u s3.heap.objs.size Q I4 r1 (Heap.IsSliceOf.new ..) pl pu q3
 show wpAny (model X.prog X.w) X.A (subscriptTail e (.Slice lo hi none p2) v (.ref s3.heap.objs.size)) (EP X pins σ Q) X.xe { s3 with heap:=s3.heap.push { cls:=.type "slice",data:=.fields #[vl,vu,.none] } }
 exact tail_any (ops:=[.ref s3.heap.objs.size,v]) ht hT hg (by with_unfolding_all rfl)
def zkM (xs:List V) (lo hi:Option Int):List V:=(xs.drop (HT.sIx xs.length 0 lo)).take (HT.sIx xs.length xs.length hi - HT.sIx xs.length 0 lo)
theorem zi5 (xs:List V) (lo hi:Option Int):(zkM xs lo hi).length≤xs.length:=by
 unfold zkM
 rw [List.length_take,List.length_drop]
 (first|lia|omega)
end
end L2
namespace L2
open PySem PySem.Spec PyProof.Rows
def ixN (n:Nat) (i:Int):Option Nat:=if 0≤i then (if i<n then some i.toNat else none) else if -(n:Int)≤i then some (i+n).toNat else none
def atI {α:Type} (xs:List α) (i:Int):Option α:=(ixN xs.length i).bind fun j=>xs[j]?
theorem zku {n:Nat} {i:Int} {j:Nat} (h:ixN n i=some j):seqIndex? i n=some j∧j<n∧-(n:Int)≤i∧i<n:=by
 unfold ixN at h
 by_cases h0:0≤i
 ·rw [if_pos h0] at h
  by_cases h1:i<n
  ·rw [if_pos h1] at h
   have e:i.toNat=j:=Option.some.inj h
   exact ⟨by rw [seqIndex_of h0 h1,e],by (first|lia|omega),by (first|lia|omega),h1⟩
  ·rw [if_neg h1] at h;cases h
 ·rw [if_neg h0] at h
  by_cases h1:-(n:Int)≤i
  ·rw [if_pos h1] at h
   have e:(i+n).toNat=j:=Option.some.inj h
   exact ⟨by rw [seqIndex_neg (by (first|lia|omega)) h1,e],by (first|lia|omega),h1,by (first|lia|omega)⟩
  ·rw [if_neg h1] at h;cases h
theorem zkV {α:Type} {xs:List α} {i:Int} {v:α} (h:atI xs i=some v):∃ j,seqIndex? i xs.length=some j∧xs[j]?=some v∧j<xs.length∧-(xs.length:Int)≤i∧i<xs.length:=by
 unfold atI at h
 cases e:ixN xs.length i with
 | none=>rw [e] at h;cases h
 | some j =>
  rw [e] at h
  obtain ⟨h1,h2,h3,h4⟩:=zku e
  exact ⟨j,h1,h,h2,h3,h4⟩
theorem zbD {α:Type} {xs:List α} {j:Nat} {v:α} (h:xs[j]?=some v):atI xs (j:Int)=some v:=by
 have hj:j<xs.length:=(List.getElem?_eq_some_iff.mp h).1
 have e:ixN xs.length (j:Int)=some j:=by
  unfold ixN
  rw [if_pos (by (first|lia|omega)),if_pos (by (first|lia|omega))];simp
 unfold atI;rw [e];exact h
theorem zl7 {α:Type} (xs:List α) (v:α):atI (xs++[v]) (-1)=some v:=by
 have hl:(xs++[v]).length=xs.length+1:=by simp
 have e:ixN (xs++[v]).length (-1)=some xs.length:=by
  unfold ixN
  rw [hl,if_neg (by decide),if_pos (by (first|lia|omega))]
  congr 1
  (first|lia|omega)
 unfold atI
 rw [e]
 show (xs++[v])[xs.length]?=some v
 simp
def zom (b:Expr):Prop:=∀ o i,subscripted b false o i=operate [o,i] (getItem o i)
def IxR (X:Cx) (r:R2):Prop :=
 ∀ (value slice:Expr) (pins:List (Addr×Obj)) (s:Shared) (σ:St) (H:Hp) (x y:V) (v u:Value) (Q:VK),Inv X pins σ H s→zb5 x v→zb5 y u→r x y H Q →
  subscripted slice false v u=operate [v,u] (getItem v u)→wpAny (model X.prog X.w) X.A (subscriptTail value slice v u) (EP X pins σ Q) X.xe s
def MtR (X:Cx) (id:String) (r:V→List V→Hp→VK→Prop):Prop :=
 ∀ (pins:List (Addr×Obj)) (s:Shared) (σ:St) (H:Hp) (x:V) (xs:List V) (v:Value) (us:List Value) (Q:VK),Inv X pins σ H s→zb5 x v→zbU xs us→r x xs H Q →
  wpAny (model X.prog X.w) X.A (call (.builtin id) (v::us)) (EP X pins σ Q) X.xe s
section
variable {X:Cx} {a b:Expr} {ta tb:TE} {pos:Pos}
theorem zaD {r:R2} (hr:IxR X r) (ha:PE X a ta) (hb:PE X b tb) (hs:zom b):PE X (.Subscript a b pos) (tOp r ta tb):=by
 intro pins s σ H Q I h
 exact Subscript_ (binT ha hb I h fun v u s2 x y H2 I2 rx ry q=>hr a b pins s2 σ H2 x y v u Q I2 rx ry q (hs _ _))
def zba (K:PySem.W.Frag):R2:=fun x y H Q=>∃ p xs i v,x=.ref p∧y=.int i∧SqL K H p xs∧atI xs i=some v∧Q v H
def zbT (K:PySem.W.Frag):R2:=fun x y H Q=>∃ p xs i v,x=.ref p∧y=.int i∧SqT K H p xs∧atI xs i=some v∧Q v H
theorem zap:IxR X (zba X.K):=by
 intro value slice pins s σ H x y v u Q I rx ry h hs
 obtain ⟨p,xs,i,z,rfl,rfl,hq,he,q⟩:=h
 cases rx
 obtain ⟨t,rfl⟩:=ry
 obtain ⟨its,r,pl,hz⟩:=I.list hq
 obtain ⟨j,h1,h2,h3,h4,h5⟩:=zkV he
 obtain ⟨w,ew,rw'⟩:=r.get h2
 have hl:=r.length
 have hn:=ziT
 have fin:EP X pins σ Q w s:=⟨z,H,I,rw',q⟩
 by_cases h0:0≤i
 ·have hj:i.toNat=j:=by
   rw [seqIndex_of h0 h5] at h1
   exact Option.some.inj h1
  exact item_listR pl.isList h0 (by (first|lia|omega)) (by rw [hj];simpa using ew) fin hs
 ·have hj:(i+(its.toArray.size:Int)).toNat=j:=by
   rw [seqIndex_neg (by (first|lia|omega)) h4] at h1
   rw [List.size_toArray,← hl]
   exact Option.some.inj h1
  exact subscriptTail_builtinR (x:=w) pl.isList.typeIs slot_list_getitem.lookup
   (wpAny_getItem_list_neg (Q:=fun r s'=>r=w∧EP X pins σ Q r s') pl.isList (by (first|lia|omega)) (by rw [List.size_toArray] <;> (first|lia|omega)) (by (first|lia|omega)) (by rw [hj];simpa using ew) ⟨rfl,fin⟩) hs
theorem za1:IxR X (zbT X.K):=by
 intro value slice pins s σ H x y v u Q I rx ry h hs
 obtain ⟨p,xs,i,z,rfl,rfl,hq,he,q⟩:=h
 cases rx
 obtain ⟨t,rfl⟩:=ry
 obtain ⟨its,r,pl,hz⟩:=I.tuple hq
 obtain ⟨j,h1,h2,h3,h4,h5⟩:=zkV he
 obtain ⟨w,ew,rw'⟩:=r.get h2
 have hl:=r.length
 have hn:=ziT
 have fin:EP X pins σ Q w s:=⟨z,H,I,rw',q⟩
 exact subscriptTail_builtinR (x:=w) pl.typeIs slot_tuple_getitem.lookup
  (getItem_tuple (j:=j) (Q:=fun r s'=>r=w∧EP X pins σ Q r s') pl (by (first|lia|omega)) (by (first|lia|omega)) (by rw [List.size_toArray,← hl];exact h1) (by simpa using ew) ⟨rfl,fin⟩) hs
theorem zj6 (its:List Value) (n j:Nat) (u:Value):Obj.mapSeq (·.setIfInBounds j u) { cls:=.type "list",data:=.seq its.toArray n }={ cls:=.type "list",data:=.seq (its.set j u).toArray n }:=by
 simp [Obj.mapSeq]
theorem Inv.lst {pins:List (Addr×Obj)} {σ:St} {H:Hp} {s:Shared} {p:Addr} {xs:List V} (I:Inv X pins σ H s) (h:H p=some (.lst xs)) :
  ∃ (its:List Value) (n:Nat),zbU xs its∧s.heap.get? p=some { cls:=.type "list",data:=.seq its.toArray n }∧xs.length≤sizeLine:=by
 obtain ⟨z,its,n,r,e⟩:=I.hok p _ h
 exact ⟨its,n,r,e,z⟩
theorem Inv.lstUpd {pins:List (Addr×Obj)} {σ:St} {H:Hp} {s:Shared} {p:Addr} {xs ys:List V} {its its':List Value} {n n':Nat} {f:Obj→Obj} (I:Inv X pins σ H s) (h:H p=some (.lst xs))
  (ho:s.heap.get? p=some { cls:=.type "list",data:=.seq its.toArray n }) (hf:f { cls:=.type "list",data:=.seq its.toArray n }={ cls:=.type "list",data:=.seq its'.toArray n' }) (r:zbU ys its') (hz:ys.length≤sizeLine) (t:Nat) :
  Inv X pins σ (upd H p (.lst ys)) { s with heap:=s.heap.update p f,toks:=t }:=by
 have e:(s.heap.update p f).get? p=some { cls:=.type "list",data:=.seq its'.toArray n' }:=by
  rw [Heap.get?_update_self f ho (by rw [hf] <;> rfl),hf]
 refine I.write (x:=p) (e:=p) (by rw [h];trivial) (.inl rfl) (fun b u hb q=>(Heap.get?_update_other _ _ (Ne.symm hb)).trans q) ⟨_,e⟩ ?_
 exact ⟨hz,its',n',r,e⟩
def zei:V→V→V→Hp→(Hp→Prop)→Prop:=fun o i v H Q=>∃ p xs k j,o=.ref p∧i=.int k∧H p=some (.lst xs)∧ixN xs.length k=some j∧Q (upd H p (.lst (xs.set j v)))
theorem zc9:PSet X zei:=by
 intro pins s σ H o i v ov iv u Q I ro ri rv h
 obtain ⟨p,xs,k,j,rfl,rfl,hp,hj,q⟩:=h
 cases ro
 obtain ⟨t,rfl⟩:=ri
 obtain ⟨its,n,r,ho,hz⟩:=I.lst hp
 obtain ⟨h1,h2,h3,h4⟩:=zku hj
 have hl:=r.length
 have hn:=ziT
 have I':Inv X pins σ (upd H p (.lst (xs.set j v))) { s with heap:=s.heap.update p (Obj.mapSeq (·.setIfInBounds j u)) } :=
  I.lstUpd hp ho (zj6 its n j u) (r.set rv j) (by rw [List.length_set];exact hz) s.toks
 by_cases h0:0≤k
 ·have hk:k.toNat=j:=by
   rw [seqIndex_of h0 h4] at h1
   exact Option.some.inj h1
  exact PySem.W.ki_setAt ho h0 (by (first|lia|omega)) (by rw [List.size_toArray,← hl];exact h4) (by rw [hk];exact ⟨_,I',q⟩)
 ·have hk:(k+(its.toArray.size:Int)).toNat=j:=by
   rw [seqIndex_neg (by (first|lia|omega)) h3] at h1
   rw [List.size_toArray,← hl]
   exact Option.some.inj h1
  exact PySem.W.ki_setBack ho (by (first|lia|omega)) (by rw [List.size_toArray,← hl];exact h3) (by (first|lia|omega)) (by rw [hk];exact ⟨_,I',q⟩)
theorem zin (lo hi:Option Int) (n:Nat):(sliceBounds lo hi none n).1=((HT.sIx n 0 lo:Nat):Int)∧(sliceBounds lo hi none n).2.1=((HT.sIx n n hi:Nat):Int)∧(sliceBounds lo hi none n).2.2=1:=by
 refine ⟨?_,?_,rfl⟩
 ·cases lo with
  | none=>simp [sliceBounds,HT.sIx]
  | some i =>
   simp only [sliceBounds,HT.sIx,Option.getD_none,show (1:Int) > 0 by decide,if_true]
   by_cases h:i<0
   ·simp only [h,if_true] <;> (first|lia|omega)
   ·simp only [h,if_false] <;> (first|lia|omega)
 ·cases hi with
  | none=>simp [sliceBounds,HT.sIx]
  | some i =>
   simp only [sliceBounds,HT.sIx,Option.getD_none,show (1:Int) > 0 by decide,if_true]
   by_cases h:i<0
   ·simp only [h,if_true] <;> (first|lia|omega)
   ·simp only [h,if_false] <;> (first|lia|omega)
theorem zig (its:List Value) (lo hi:Option Int):slicePick its.toArray lo hi none=((its.drop (HT.sIx its.length 0 lo)).take (HT.sIx its.length its.length hi - HT.sIx its.length 0 lo)).toArray:=by
 obtain ⟨h1,h2,h3⟩:=zin lo hi its.toArray.size
 unfold slicePick
 rw [h1,h2,h3]
 simp only [sliceRange_one,pick_run,List.size_toArray] <;> rfl
def zpc (K:PySem.W.Frag):V→Option Int→Option Int→Hp→VK→Prop:=fun x lo hi H Q=>∃ a xs,x=.ref a∧SqL K H a xs∧∀ p,H p=none→Q (.ref p) (upd H p (.lst (zkM xs lo hi)))
theorem zi4:SlR X (zpc X.K):=by
 intro pins s σ H x v vl vu lo hi sl Q I rx hs pl pu h
 obtain ⟨a,xs,rfl,hx,q⟩:=h
 cases rx
 obtain ⟨its,r,ht,hz⟩:=I.list hx
 have hlen:=r.length
 refine ⟨"list",_,slot_list_getitem.lookup,ht.isList.typeIs,?_⟩
 refine wpAny_getItem_list_slice ht.isList hs pl pu .none (by simp) ?_ (by rw [List.size_toArray] <;> (first|lia|omega))
 rw [zig,← hlen]
 refine ⟨.ref s.heap.objs.size,_,I.laid (t':=s.toks) (o:=.lst (zkM xs lo hi)) (fun b ob q=>Heap.get?_push_of_some _ q) (Nat.le_refl _) ?_,rfl,q _ (I.hok.fresh (Nat.le_refl _))⟩
 exact ⟨Nat.le_trans (zi5 xs lo hi) hz,_,0,(r.drop (HT.sIx xs.length 0 lo)).take (HT.sIx xs.length xs.length hi - HT.sIx xs.length 0 lo),Heap.get?_push_size _ rfl⟩
def ziL:V→Bool
 | .non=>true
 | .bl _=>true
 | .int _=>true
 | .str _=>true
 | _=>false
def eqV:V→V→Bool
 | .non,.non=>true
 | .bl a,.bl b=>a == b
 | .bl a,.int b=>(if a then 1 else 0) == b
 | .int a,.bl b=>a == (if b then 1 else 0)
 | .int a,.int b=>a == b
 | .str a,.str b=>a == b
 | _,_=>false
theorem zpQ {A:Around} {s:Shared} {y x:V} {u v:Value} (ry:zb5 y u) (rx:zb5 x v) (fy:ziL y=true) (fx:ziL x=true):SeqAt.EqAt A s u v (eqV y x):=by
 cases y with
 | non =>
  cases ry
  cases x with
  | non=>cases rx;exact SeqAt.EqAt.same _
  | bl b=>cases rx;exact SeqAt.EqAt.none_bool b
  | int b=>obtain ⟨t,rfl⟩:=rx;exact SeqAt.EqAt.none_int b t
  | str b=>obtain ⟨t,rfl⟩:=rx;exact SeqAt.EqAt.none_str b t
  | _=>exact absurd (show false=true from fx) Bool.false_ne_true
 | bl a =>
  cases ry
  cases x with
  | non=>cases rx;exact SeqAt.EqAt.bool_none a
  | bl b=>cases rx;exact SeqAt.EqAt.bool_bool a b
  | int b=>obtain ⟨t,rfl⟩:=rx;exact SeqAt.EqAt.bool_int a b t
  | str b=>obtain ⟨t,rfl⟩:=rx;exact SeqAt.EqAt.bool_str a b t
  | _=>exact absurd (show false=true from fx) Bool.false_ne_true
 | int a =>
  obtain ⟨t',rfl⟩:=ry
  cases x with
  | non=>cases rx;exact SeqAt.EqAt.int_none a t'
  | bl b=>cases rx;exact SeqAt.EqAt.int_bool a t' b
  | int b=>obtain ⟨t,rfl⟩:=rx;exact SeqAt.EqAt.int_int a t' b t
  | str b=>obtain ⟨t,rfl⟩:=rx;exact SeqAt.EqAt.int_str a t' b t
  | _=>exact absurd (show false=true from fx) Bool.false_ne_true
 | str a =>
  obtain ⟨t',rfl⟩:=ry
  cases x with
  | non=>cases rx;exact SeqAt.EqAt.str_none a t'
  | bl b=>cases rx;exact SeqAt.EqAt.str_bool a t' b
  | int b=>obtain ⟨t,rfl⟩:=rx;exact SeqAt.EqAt.str_int a t' b t
  | str b=>obtain ⟨t,rfl⟩:=rx;exact SeqAt.EqAt.str_str a t' b t
  | _=>exact absurd (show false=true from fx) Bool.false_ne_true
 | _=>exact absurd (show false=true from fy) Bool.false_ne_true
def eqU (x:V) (u:Value):Bool:=match u with
 | .none=>eqV .non x
 | .bool b=>eqV (.bl b) x
 | .int i _=>eqV (.int i) x
 | .str z _=>eqV (.str z) x
 | _=>false
theorem zmT {x y:V} {u:Value} (r:zb5 y u) (f:ziL y=true):eqU x u=eqV y x:=by
 cases y with
 | non=>cases r;rfl
 | bl b=>cases r;rfl
 | int i=>obtain ⟨t,rfl⟩:=r;rfl
 | str z=>obtain ⟨t,rfl⟩:=r;rfl
 | _=>exact absurd (show false=true from f) Bool.false_ne_true
theorem zi8 {x:V}:∀ {xs:List V} {us:List Value},zbU xs us→xs.all ziL=true→us.any (eqU x)=xs.any fun y=>eqV y x
 | _,_,.nil,_=>rfl
 | y::xs,u::us,.cons r t,f=>by
  rw [List.all_cons,Bool.and_eq_true] at f
  rw [List.any_cons,List.any_cons,zmT r f.1,zi8 t f.2]
theorem zhC {A:Around} {s:Shared} {x:V} {v:Value} (rx:zb5 x v) (fx:ziL x=true):∀ {xs:List V} {us:List Value},zbU xs us→xs.all ziL=true→∀ u∈us,SeqAt.EqAt A s u v (eqU x u)
 | _,_,.nil,_=>fun u hu=>by cases hu
 | y::xs,u::us,.cons r t,f=>fun u' hu=>by
  rw [List.all_cons,Bool.and_eq_true] at f
  rcases List.mem_cons.mp hu with rfl | hu
  ·rw [zmT r f.1];exact zpQ r rx f.1 fx
  ·exact zhC rx fx t f.2 u' hu
def inV (x:V) (xs:List V):Bool:=xs.any fun y=>eqV y x
def rIn (K:PySem.W.Frag) (neg:Bool):R2:=fun x y H Q=>∃ p xs,y=.ref p∧(SqL K H p xs∨SqT K H p xs)∧ziL x=true∧xs.all ziL=true∧Q (.bl (if neg then !inV x xs else inV x xs)) H
theorem zkZ:OpR X (compareOp .In) (rIn X.K false):=by
 intro pins s σ H x y v u Q I rx ry h
 obtain ⟨p,xs,rfl,hq,fx,fs,q⟩:=h
 cases ry
 rcases hq with hq | hq
 ·obtain ⟨its,r,pl,hz⟩:=I.list hq
  refine SeqAt.in_listAt (eqU x) pl.isList (fun w hw=>zhC rx fx r fs w (by simpa using hw)) ⟨.bl _,H,I,rfl,?_⟩
  rw [show its.toArray.any (eqU x)=its.any (eqU x) by simp,zi8 r fs]
  exact q
 ·obtain ⟨its,r,pl,hz⟩:=I.tuple hq
  refine SeqAt.in_tupleAt (eqU x) pl (fun w hw=>zhC rx fx r fs w (by simpa using hw)) ⟨.bl _,H,I,rfl,?_⟩
  rw [show its.toArray.any (eqU x)=its.any (eqU x) by simp,zi8 r fs]
  exact q
theorem zao:zhb X (.builtin "len") (fun xs H Q=>∃ p ys,xs=[.ref p]∧(SqL X.K H p ys∨SqT X.K H p ys)∧Q (.int ys.length) H):=by
 intro pins s σ H xs us Q I r h
 obtain ⟨p,ys,rfl,hq,q⟩:=h
 obtain ⟨u,rfl,rx⟩:=zkH r
 cases rx
 have hn:=ziT
 rcases hq with hq | hq
 ·obtain ⟨its,r',pl,hz⟩:=I.list hq
  have hlen:=r'.length
  exact Calls.call_len_list pl.isList (by simp only [List.size_toArray] <;> (first|lia|omega)) ⟨.int ys.length,H,I.tok _,⟨s.toks+1,by rw [List.size_toArray,hlen]⟩,q⟩
 ·obtain ⟨its,r',pl,hz⟩:=I.tuple hq
  have hlen:=r'.length
  exact len_tuple pl (by simp only [List.size_toArray] <;> (first|lia|omega)) ⟨.int ys.length,H,I.tok _,⟨s.toks+1,by rw [List.size_toArray,hlen]⟩,q⟩
theorem zdt:zhb X (.type "list") (fun xs H Q=>∃ p ys,xs=[.ref p]∧(SqL X.K H p ys∨SqT X.K H p ys)∧∀ l,H l=none→Q (.ref l) (upd H l (.lst ys))):=by
 intro pins s σ H xs us Q I r h
 obtain ⟨p,ys,rfl,hq,q⟩:=h
 obtain ⟨u,rfl,rx⟩:=zkH r
 cases rx
 have fin:∀ (its:List Value),zbU ys its→ys.length≤sizeLine→∀ (h':Heap) (c':Nat),(∀ b o',s.heap.get? b=some o'→h'.get? b=some o') →
   h'.get? s.heap.objs.size=some { cls:=.type "list",dict:=none,data:=.seq its.toArray c',slots:=#[] }→EP X pins σ Q (.ref s.heap.objs.size) { s with heap:=h' }:=fun its r' hz h' c' kp e =>
  ⟨.ref s.heap.objs.size,_,I.laid (t':=s.toks) kp (Nat.le_refl _) (show zcZ X.prog X.w _ h' _ (.lst ys) from ⟨hz,its,c',r',e⟩),rfl,q _ (I.hok.fresh (Nat.le_refl _))⟩
 rcases hq with hq | hq
 ·obtain ⟨its,r',pl,hz⟩:=I.list hq
  have hlen:=r'.length
  obtain ⟨o,ho,hc,n,hd⟩:=pl.isList
  exact call_list_seq p (.inl rfl) ho hc hd (fun h' c' kp e=>fin its r' hz h' c' kp e) (by simp only [List.size_toArray] <;> (first|lia|omega))
 ·obtain ⟨its,r',pl,hz⟩:=I.tuple hq
  have hlen:=r'.length
  obtain ⟨o,ho,hc,n,hd⟩:=pl
  exact call_list_seq p (.inr rfl) ho hc hd (fun h' c' kp e=>fin its r' hz h' c' kp e) (by simp only [List.size_toArray] <;> (first|lia|omega))
def tyV (K:PySem.W.Frag) (T:String) (x:V) (H:Hp):Prop:=match x with
 | .str _=>T="str"
 | .int _=>T="int"
 | .ref p=>(T="list"∧∃ xs,SqL K H p xs)∨(T="tuple"∧∃ o,K.lookup p=some o∧o.cls=.type "tuple"∧o.dict=none) ∨
   (T="dict"∧((∃ kvs,H p=some (.dK kvs))∨∃ kvs,H p=some (.dT kvs)))∨(T="set"∧∃ S n,H p=some (.set S n))
 | _=>False
theorem zm9 {pins:List (Addr×Obj)} {σ:St} {H:Hp} {s:Shared} {T:String} {x:V} {v:Value} (I:Inv X pins σ H s) (r:zb5 x v) (ty:tyV X.K T x H) :
  s.TypeIs v T∧∀ a,v=.ref a→∃ ob,s.heap.get? a=some ob∧ob.dict=none:=by
 cases x with
 | str z =>
  obtain ⟨t,rfl⟩:=r
  cases (show T="str" from ty)
  exact ⟨typeIs_str s z t,fun _ e=>nomatch e⟩
 | int i =>
  obtain ⟨t,rfl⟩:=r
  cases (show T="int" from ty)
  exact ⟨typeIs_int s i t,fun _ e=>nomatch e⟩
 | ref p =>
  cases r
  rcases ty with ⟨rfl,xs,hq⟩ | ⟨rfl,o,hk,hc,hd⟩ | ⟨rfl,hk⟩ | ⟨rfl,S,n,hk⟩
  ·obtain ⟨its,_,pl,_⟩:=I.list hq
   refine ⟨pl.isList.typeIs,fun a e=>?_⟩
   cases e
   obtain ⟨o,n,e,c,hd,_⟩:=pl
   exact ⟨o,e,hd⟩
  ·refine ⟨⟨o,I.kIn p o hk,hc⟩,fun a e=>?_⟩
   cases e
   exact ⟨o,I.kIn _ o hk,hd⟩
  ·have z:∃ o,s.heap.get? p=some o∧o.ExactDict:=by
    rcases hk with ⟨kvs,hk⟩ | ⟨kvs,hk⟩
    ·obtain ⟨_,_,_,_,o,_,_,e,ex,_⟩:=I.hok p _ hk
     exact ⟨o,e,ex⟩
    ·obtain ⟨_,_,_,_,o,_,_,e,ex,_⟩:=I.hok p _ hk
     exact ⟨o,e,ex⟩
   obtain ⟨o,e,ex⟩:=z
   refine ⟨⟨o,e,ex.1⟩,fun a e2=>?_⟩
   cases e2
   exact ⟨o,e,ex.2.1⟩
  ·obtain ⟨o,_,_,_,e,ex,_⟩:=I.hok p _ hk
   refine ⟨⟨o,e,ex.1⟩,fun a e2=>?_⟩
   cases e2
   exact ⟨o,e,ex.2.1⟩
 | _=>exact False.elim ty
def tBM0 (K:PySem.W.Frag) (T:String) (r:V→List V→Hp→VK→Prop) (to:TE):TE:=fun σ H Q=>to σ H fun x H1=>tyV K T x H1∧r x [] H1 Q
def tBM (K:PySem.W.Frag) (T:String) (r:V→List V→Hp→VK→Prop) (to:TE) (t:TA):TE:=fun σ H Q=>to σ H fun x H1=>tyV K T x H1∧t σ H1 fun xs H2=>r x xs H2 Q
variable {o e:Expr} {es:List Expr} {to:TE} {t:TA} {name:Str} {apos cpos:Pos} {T id:String} {r:V→List V→Hp→VK→Prop}
theorem zpN (pa:PlainAttrs T) (slot:Slot T name id) (hty:typeOf (.builtin id)=pure (.type "method_descriptor")) (hm:MtR X id r) (ho:PE X o to)
  (hbase:attributeBase o name X.env (eval o X.env)=eval o X.env:=by rfl) (hline:(apos.endLine == cpos.line)=true:=by rfl):PE X (.Call (.Attribute o name apos) [] [] cpos) (tBM0 X.K T r to):=by
 intro pins s σ H Q I h
 refine wpAny_Call_method0_late hbase hline (thn (ho pins s σ H _ I h) fun v s1 hQ'=>?_)
 obtain ⟨x,H1,I1,r1,ty,q1⟩:=hQ'
 obtain ⟨h1,h2⟩:=zm9 I1 r1 ty
 exact ⟨T,id,pa,slot,hty,h1,h2,Calls.callWith_builtin rfl (PySem.evalArgs_none (hm pins s1 σ H1 x [] v [] Q I1 r1 .nil q1))⟩
theorem zpo (pa:PlainAttrs T) (slot:Slot T name id) (hty:typeOf (.builtin id)=pure (.type "method_descriptor")) (hm:MtR X id r) (ho:PE X o to) (ha:PA X (e::es) t)
  (hbase:attributeBase o name X.env (eval o X.env)=eval o X.env:=by rfl)
  (hfew:((backTo cpos (starEach (e::es) X.env)).all (fun x=>!x.1)&&(backToKw cpos (keywordEach [] X.env)).all (fun x=>x.1.isSome)
   && decide ((e::es).length+([]:List Keyword).length+(if ([]:List Keyword).isEmpty then 0 else 1)<30))=true:=by rfl)
  (hline:(apos.endLine == cpos.line)=true:=by rfl) (hs:starEach (e::es) X.env=(false,eval e X.env)::starEach es X.env:=by rfl) (hplain:(backTo cpos (starEach es X.env)).any (·.1)=false:=by rfl) :
  PE X (.Call (.Attribute o name apos) (e::es) [] cpos) (tBM X.K T r to t):=by
 intro pins s σ H Q I h
 refine wpAny_Call_method_late hbase hfew hline rfl (thn (ho pins s σ H _ I h) fun v s1 hQ'=>?_)
 obtain ⟨x,H1,I1,r1,ty,q1⟩:=hQ'
 obtain ⟨h1,h2⟩:=zm9 I1 r1 ty
 refine ⟨T,id,pa,slot,hty,h1,h2,?_⟩
 have hA:=ha cpos pins s1 σ H1 _ I1 q1
 rw [hs] at hA ⊢
 refine Calls.callWith_builtin (by show (false || (backTo cpos (starEach es X.env)).any (·.1))=false;rw [hplain] <;> rfl) (Calls.evalArgs_plain ?_)
 exact thn hA fun us s2 ⟨vs,H2,I2,r2,q2⟩=>hm pins s2 σ H2 x vs v us Q I2 r1 r2 q2
end
end L2
namespace L2
open PySem PySem.Spec PyProof.Rows
def MtM (X:Cx) (id:String) (r:V→List V→Hp→VK→Prop):Prop :=
 ∀ (pins:List (Addr×Obj)) (s:Shared) (σ:St) (H:Hp) (x:V) (xs:List V) (v:Value) (us:List Value) (Q:VK),Inv X pins σ H s→zb5 x v→zbU xs us→r x xs H Q →
  wpAny (model X.prog X.w) X.A (call (.builtin id) (v::us)) (EP X pins σ Q) X.xe s
theorem zbU.one:∀ {x:V} {us:List Value},zbU [x] us→∃ u,us=[u]∧zb5 x u
 | _,_,.cons r .nil=>⟨_,rfl,r⟩
theorem zbU.zero:∀ {us:List Value},zbU [] us→us=[]
 | _,.nil=>rfl
section
variable {X:Cx} {pins:List (Addr×Obj)} {σ:St} {H:Hp} {s:Shared} {l b:Addr} {xs ys zs:List V}
theorem Inv.lset {its its':List Value} {n:Nat} {f:Array Value→Array Value} {t':Nat} (I:Inv X pins σ H s) (hH:H l=some (.lst xs))
  (e:s.heap.get? l=some { cls:=.type "list",data:=.seq its.toArray n }) (hf:f its.toArray=its'.toArray) (hv:zbU ys its') (hz:ys.length≤sizeLine) :
  Inv X pins σ (upd H l (.lst ys)) { s with heap:=s.heap.update l (Obj.mapSeq f),toks:=t' }:=by
 have q:=PySem.IsL.update e f
 rw [hf] at q
 refine I.write (x:=l) (e:=l) (by rw [hH];exact trivial) (.inl rfl) (fun b' u hb hu=>(Heap.get?_update_other s.heap (Obj.mapSeq f) (Ne.symm hb)).trans hu) ⟨_,q⟩ ?_
 exact ⟨hz,its',_,hv,q⟩
theorem Inv.lnew {its:List Value} {t':Nat} (I:Inv X pins σ H s) (hv:zbU ys its) (hz:ys.length≤sizeLine) :
  Inv X pins σ (upd H s.heap.objs.size (.lst ys)) { s with heap:=s.heap.push { cls:=.type "list",data:=.seq its.toArray },toks:=t' } :=
 I.laid (fun _ _ q=>Heap.get?_push_of_some _ q) (Nat.le_refl _) ⟨hz,its,0,hv,Heap.get?_push_size _ rfl⟩
theorem Inv.fresh (I:Inv X pins σ H s):H s.heap.objs.size=none:=I.hok.fresh (Nat.le_refl _)
theorem Inv.lstM (I:Inv X pins σ H s) (hH:H l=some (.lst xs)):xs.length≤sizeLine∧∃ (its:List Value) (n:Nat),zbU xs its∧xs.length=its.length∧s.heap.get? l=some { cls:=.type "list",data:=.seq its.toArray n }:=by
 obtain ⟨z,its,n,r,e⟩:=I.hok l _ hH
 exact ⟨z,its,n,r,r.length,e⟩
end
section
variable {X:Cx}
def zbW:V→List V→Hp→VK→Prop:=fun x vs H Q=>∃ l xs y,x=.ref l∧vs=[y]∧H l=some (.lst xs)∧xs.length<sizeLine∧Q .non (upd H l (.lst (xs++[y])))
theorem zfe:MtM X "list.append" zbW:=by
 intro pins s σ H x vs v us Q I rx rv h
 obtain ⟨l,xs,y,rfl,rfl,hH,hz,q⟩:=h
 cases rx
 obtain ⟨u,rfl,ru⟩:=rv.one
 obtain ⟨z,its,n,r,hl,e⟩:=I.lstM hH
 refine call_meets F.slot_list_append ⟨_,e,rfl⟩ F.entry_list_append (F.args_list_append_2 _ _) (PySem.list_append l its.toArray n u (by rw [List.size_toArray];(first|lia|omega))) ⟨e,?_⟩
 refine ⟨.non,_,I.lset (its':=its++[u]) hH e (by simp) (r.append (.cons ru .nil)) ?_,rfl,q⟩
 rw [List.length_append,List.length_singleton]
 (first|lia|omega)
def zjM:V→List V→Hp→VK→Prop:=fun x vs H Q=>∃ l xs,x=.ref l∧vs=[]∧H l=some (.lst xs)∧Q .non (upd H l (.lst []))
theorem zlY:MtM X "list.clear" zjM:=by
 intro pins s σ H x vs v us Q I rx rv h
 obtain ⟨l,xs,rfl,rfl,hH,q⟩:=h
 cases rx
 have hus:=rv.zero
 subst hus
 obtain ⟨z,its,n,r,hl,e⟩:=I.lstM hH
 refine call_meets F.slot_list_clear ⟨_,e,rfl⟩ F.entry_list_clear (F.args_list_clear_1 _) (AutoSeq1.list_clear_list_0 l its.toArray n (by rw [List.size_toArray];(first|lia|omega))) ⟨e,?_⟩
 exact ⟨.non,_,I.lset (its':=[]) (ys:=[]) hH e rfl .nil (Nat.zero_le _),rfl,q⟩
def zmQ:R2:=fun x y H Q=>∃ l b xs zs,x=.ref l∧y=.ref b∧H l=some (.lst xs)∧H b=some (.lst zs)∧xs.length+zs.length≤sizeLine∧∀ p,H p=none→Q (.ref p) (upd H p (.lst (xs++zs)))
theorem ziH:OpR X (binaryOp .Add) zmQ:=by
 intro pins s σ H x y v u Q I rx ry h
 obtain ⟨l,b,xs,zs,rfl,rfl,hH,hB,hz,q⟩:=h
 cases rx
 cases ry
 obtain ⟨z,its,n,r,hl,e⟩:=I.lstM hH
 obtain ⟨z2,its2,n2,r2,hl2,e2⟩:=I.lstM hB
 refine PySem.P.add_list e e2 ?_ (by rw [List.size_toArray,List.size_toArray];(first|lia|omega))
 have ea:its.toArray++its2.toArray=(its++its2).toArray:=by simp
 rw [ea]
 exact ⟨.ref _,_,I.lnew (t':=s.toks) (r.append r2) (by rw [List.length_append];(first|lia|omega)),rfl,q _ I.fresh⟩
end
section
variable {prog:Program} {w:World} {A:Around} {E:Value→Shared→Prop} {s:Shared}
end
section
variable {X:Cx}
end
end L2
namespace Att
open PySem PySem.W PySem.Calls PyProof.Rows
theorem zgN {P:Params} {h:Heap}:∀ (ns:List Int) (vs:List Value),WellAll P h vs (ns.map WData.int)→IntsAre vs ns:=by
 intro ns
 induction ns with
 | nil =>
  intro vs w
  rw [List.map_nil] at w
  cases w
  exact .nil
 | cons n ns ih =>
  intro vs w
  rw [List.map_cons] at w
  cases w with
  | cons a b =>
   cases a
   exact .cons _ _ (ih _ b)
theorem zkE {l:OpenLaw} {n:Nat} (hn:l.most=some n) {P:Params} {h:Heap} {args:List WData} {vals:List Value}
  (hpre:l.row.toRowW.claim.pre args=true) (hwl:WellAll P h vals args) :
  ∃ a vs ns,vals=[Value.ref a]∧args=[WData.list (ns.map WData.int)]∧h.get? a=some { cls:=.type "list",data:=.seq vs.toArray }∧IntsAre vs ns∧ns.length≤n:=by
 have hsh:WShape.hasAll [] args [.list .int]=true:=(pre_splitW hpre).1
 have hc:l.pre.holds [] { args:=args }=true:=(pre_splitW hpre).2
 obtain ⟨d,r,rfl,h1,h2⟩:=hasAllW_cons hsh
 obtain rfl:=hasAllW_nil h2
 obtain ⟨xs,rfl,h3⟩:=hasW_list h1
 obtain ⟨ns,rfl⟩:=items_int h3
 have hlen:ns.length≤n:=by
  unfold OpenLaw.pre at hc
  have h4:(WTm.not (.lt (.lit (.int (n:Int))) (.len (.arg 0)))).holds [] { args:=[.list (ns.map .int)] }=true:=by
   have h4:=(holds_andW hc).1
   rw [hn] at h4
   exact h4
  have h5:=condW_of h4 (w_not (w_lt w_lit (w_len_list (w_arg rfl))))
  rw [List.length_map] at h5
  refine Nat.le_of_not_lt fun q=>?_
  have q':(n:Int)<((ns.length:Nat):Int):=by (first|lia|omega)
  first
   | (rw [decide_eq_true q'] at h5;exact absurd h5 (by decide))
   | (simp at h5;(first|lia|omega))
 cases hwl with
 | cons w1 w2 =>
  cases w2
  cases w1 with
  | list ho hall=>exact ⟨_,_,ns,rfl,rfl,ho,zgN ns _ hall,hlen⟩
theorem zkv (l:OpenLaw) (args:List WData):l.row.toRowW.claim.post args (.bool true) args=true :=
 postW_of (r:=l.row.toRowW) (X:=(true == true))
  (show WShape.has [] (.bool true) .bool=true by first | rfl | decide | simp [WShape.has,WShape.arms,WShape.armsAll])
  (show (WTm.eq .res (.lit (.bool true))).value [] { args:=args,res:=some (.bool true),after:=args }=some (.bool (true == true)) from w_eq_bool (w_res rfl) w_lit) rfl
section
variable {prog:Program} {w:World} {A:Around} {E:Value→Shared→Prop} {s:Shared} {K:Frag}
end
end Att
namespace L2
open PySem PySem.Spec PyProof.Rows
theorem zio:∀ {vs:List Value} {ns:List Int},IntsAre vs ns→zbU (ns.map V.int) vs
 | _,_,.nil=>.nil
 | _,_,.cons n t h=>.cons ⟨t,rfl⟩ (zio h)
end L2
namespace L2
open PySem PySem.Spec PyProof.Rows
end L2
namespace L2
open PySem PySem.Spec PyProof.Rows
def zeZ (s:Stmt):Arguments:=match s with
 | .FunctionDef _ a _ _ _ _ _ _ _ _=>a
 | _=>{ posonlyargs:=[],args:=[],vararg:=none,kwonlyargs:=[],kw_defaults:=[],kwarg:=none,defaults:=[] }
def zdB (s:Stmt):List Stmt:=match s with
 | .FunctionDef _ _ b _ _ _ _ _ _ _=>b
 | _=>[]
def zah (s:Stmt):Scope:=match s with
 | .FunctionDef _ _ _ _ _ _ sc _ _ _=>sc
 | _=>{ kind:=.function,names:=[],isGenerator:=false,isCoroutine:=false }
abbrev CX0:CXT:=fun _ _ _ _ _ _=>False
abbrev E0:XK:=fun _ _ _=>False
theorem za2 {X:Cx}:zgA CX0 X E0:=fun _ _ _ _ _ _ _ h=>h.elim
structure Fun (K:PySem.W.Frag) (x qual:Str) (st:Stmt) (f:Addr) (fd:FuncData):Prop where
 ex:∃ (oc:Value) (od:Option Addr) (kV doc pm:Value) (an:Option Addr) (cdv ct:Value) (osl:Array (Option Value)),
  fd=PySem.W.fnOf x qual (zeZ st) (zdB st) (zah st) .none kV doc pm an cdv ct∧K.lookup f=some ⟨oc,od,.func fd,osl⟩∧PySem.W.codeIn K cdv qual=true
 kp:PySem.W.keepIn K (.ref f)=true
section
variable {P:Program} {w:World} {K:PySem.W.Frag} {mg:Str→Option Value} {base:Heap}
theorem Fun.ok {x qual:Str} {st:Stmt} {f:Addr} {fd:FuncData} {N ps:List Str} {k:Nat} {sp:Sp} (F:Fun K x qual st f fd) (S:zaI N ps (zah st)) (len:∀ vs H Q E,sp vs H Q E→vs.length=ps.length)
  (hbody:∀ (cdv:Value) (A:Around) (outer:List Env) (s:Shared) (H:Hp) (vs:List V) (Q:VK) (E:XK),zfk k (A.deeper (envOfC qual (zah st) s.heap.objs.size f cdv))→sp vs H Q E →
   ∃ t,PSs (znV CX0 P w K mg base N qual (zah st) f cdv A outer s H E).nox (zdB st) t∧t { nx:=fun _ H'=>Q .non H',rt:=Q } (zbg N vs) H):zcQ P w K mg base CX0 (k+1) f fd ps sp:=by
 obtain ⟨oc,od,kV,doc,pm,an,cdv,ct,osl,rfl,lk,hcd⟩:=F.ex
 refine zpL lk hcd S len fun A outer s H vs Q E hr hsp=>?_
 obtain ⟨t,h,q⟩:=hbody cdv A outer s H vs Q E hr hsp
 exact ⟨t,h.nox,q⟩
theorem Fun.binds {x qual:Str} {st:Stmt} {f:Addr} {fd:FuncData} {ps:List Str} (F:Fun K x qual st f fd)
  (h:∀ (kV doc pm:Value) (an:Option Addr) (cdv ct:Value) (us:List Value),us.length=ps.length→bindArgs (PySem.W.fnOf x qual (zeZ st) (zdB st) (zah st) .none kV doc pm an cdv ct) ⟨us,[]⟩=pure (ps.zip us)):zbj K fd ps []:=by
 obtain ⟨oc,od,kV,doc,pm,an,cdv,ct,osl,rfl,lk,hcd⟩:=F.ex
 exact .all (h kV doc pm an cdv ct)
theorem za3 {x qual:Str} {st:Stmt} {f:Addr} {oc:Value} {od an:Option Addr} {osl:Array (Option Value)} {kV doc pm cdv ct:Value} (l:K.lookup f=some ⟨oc,od,.func (PySem.W.fnOf x qual (zeZ st) (zdB st) (zah st) .none kV doc pm an cdv ct),osl⟩)
  (c:PySem.W.codeIn K cdv qual=true) (k:PySem.W.keepIn K (.ref f)=true):Fun K x qual st f (PySem.W.fnOf x qual (zeZ st) (zdB st) (zah st) .none kV doc pm an cdv ct):=⟨⟨oc,od,kV,doc,pm,an,cdv,ct,osl,rfl,l,c⟩,k⟩
end
theorem zbX {n:Nat} (h:n≤1000):n<sizeLine:=Nat.lt_of_le_of_lt h (by decide)
section
variable {X:Cx}
theorem pv (i:Nat) {x:Str} {pos:Pos} (hN:X.N[i]?=some x:=by rfl) (hv:Vis X.env.scope x:=by first | exact Or.inl rfl | exact Or.inr (Or.inl rfl) | exact Or.inr (Or.inr rfl)) (hd:(x == ("__debug__":Str))=false:=by decide)
  (hcd:(x == ("__classdict__":Str))=false:=by decide):PE X (.Name x pos) (zac i):=zpn hN hv hd hcd
end
theorem znt {A B:Prop} (h:A):if true=true then A else B:=by
 rw [if_pos rfl]
 exact h
theorem zea {c A B:Prop} [Decidable c] (h1:c→A) (h2:¬ c→B):if c then A else B:=by
 by_cases h:c
 ·rw [if_pos h]
  exact h1 h
 ·rw [if_neg h]
  exact h2 h
def zaM (H H':Hp):Prop:=∀ b o,H b=some o→H' b=some o
theorem zaM.refl (H:Hp):zaM H H:=fun _ _ h=>h
theorem zaM.trans {H H1 H2:Hp} (a:zaM H H1) (b:zaM H1 H2):zaM H H2:=fun c o h=>b c o (a c o h)
theorem zaM.free {H H':Hp} (e:zaM H H') {l:Addr} (h:H' l=Option.none):H l=Option.none:=by
 cases q:H l with
 | none=>rfl
 | some o =>
  rw [e l o q] at h
  cases h
theorem zaM.seq {K:PySem.W.Frag} {H H':Hp} {a:Addr} {xs:List V} (e:zaM H H') (h:SqL K H a xs):SqL K H' a xs:=by
 rcases h with (h | ⟨o,h⟩) | h
 ·exact .inl (.inl (e _ _ h))
 ·exact .inl (.inr ⟨o,e _ _ h⟩)
 ·exact .inr h
end L2
namespace L2
open PySem PySem.Spec PyProof.Rows
section
variable {X:Cx}
theorem zic:OpR X (binaryOp .FloorDiv) (rI (fun _ j=>0<j∧j.natAbs.log2<9000) fun i j=>.int (i / j)):=opI fun i j _ _ _ _ _ hc q=>by
 have h1:(0:Int)<j:=hc.1
 exact floordiv_int (by (first|lia|omega)) (by rw [Int.fdiv_eq_ediv_of_nonneg i (by (first|lia|omega))];exact q) (.inl (PyProof.noPylong_of_log2 hc.2))
theorem zgl:OpR X (binaryOp .FloorDiv) (rI (fun _ j=>j≠0∧j.natAbs.log2<9000) fun i j=>.int (i.fdiv j)):=opI fun _ _ _ _ _ _ _ hc q=>floordiv_int hc.1 q (.inl (PyProof.noPylong_of_log2 hc.2))
theorem zlm:OpR X (binaryOp .Mod) (rI (fun _ j=>j≠0) fun i j=>.int (i.fmod j)):=znW
theorem zaW:OpR X (binaryOp .Mult) (rI IntMulOk fun i j=>.int (i*j)):=opI fun _ _ _ _ _ _ _ hc q=>mul_int q hc
theorem zpA {i j:Int} (h1:-(2 ^ 64)<j) (h2:j<2 ^ 64):IntMulOk i j:=.of_right (intBits_le_64 h1 h2)
theorem mulL {i j:Int} (h1:-(2 ^ 64)<i) (h2:i<2 ^ 64):IntMulOk i j:=.of_left (intBits_le_64 h1 h2)
theorem zgi {i j:Int} (m n:Nat) (h1:i.natAbs<2 ^ m) (h2:j.natAbs<2 ^ n) (h:m+n≤134217728:=by decide):IntMulOk i j:=.of_le (intBits_le_iff.mpr h1) (intBits_le_iff.mpr h2) h
theorem zjB {j:Int} (m:Nat) (h0:j≠0) (h:j.natAbs<2 ^ m) (hm:m≤9000:=by decide):j.natAbs.log2<9000 :=
 Nat.lt_of_lt_of_le ((Nat.log2_lt (by (first|lia|omega))).mpr h) hm
theorem zjS:bootBuiltins "int"=some (.type "int"):=by decide +kernel
theorem ziw:bootBuiltins "bool"=some (.type "bool"):=by decide +kernel
theorem zcu:bootBuiltins "list"=some (.type "list"):=by decide +kernel
theorem zhn:bootBuiltins "tuple"=some (.type "tuple"):=by decide +kernel
theorem ziP (K:PySem.W.Frag):PySem.W.kitOne K (.type "int") (.type "bool")=some false:=by first | rfl | kernel_rfl
def zpl (a:Addr) (c:Value) (h:Heap):Prop:=∃ oe vs,h.get? a=some oe∧oe.cls=c∧oe.data=.fields vs
def excO (a:Addr) (c:Value):HO:=.ext (zpl a c)
structure zpu (K:PySem.W.Frag) (c:Value):Prop where
 kit:∀ a:Addr,PySem.W.KitX K (.ref a) c (zpl a c)
inductive TyX (K:PySem.W.Frag) (H:Hp):V→Value→Prop where
 | of {x:V} {t:Value} (h:zjJ K H x t):TyX K H x t
 | exc {a:Addr} {c:Value} (h:H a=some (excO a c)) (k:zpu K c):TyX K H (.ref a) c
def clsV:V→Option Value
 | .ty n=>some (.type n)
 | .ref c=>some (.ref c)
 | _=>none
def zhd (K:PySem.W.Frag):List V→Hp→VK→Prop:=fun xs H Q=>∃ x c t cv b,xs=[x,c]∧clsV c=some cv∧TyX K H x t∧PySem.W.kitOne K t cv=some b∧Q (.bl b) H
theorem zgv {K:PySem.W.Frag} {H:Hp} {Q:VK} {i:Int} (q:Q (.bl true) H):zhd K [.int i,.ty "int"] H Q:=⟨_,_,_,_,true,rfl,rfl,.of (.int i),rfl,q⟩
theorem zf4 {K:PySem.W.Frag} {H:Hp} {Q:VK} {i:Int} (q:Q (.bl false) H):zhd K [.int i,.ty "bool"] H Q:=⟨_,_,_,_,false,rfl,rfl,.of (.int i),ziP K,q⟩
theorem zgJ {K:PySem.W.Frag} {H:Hp} {Q:VK} {r:Addr} {xs:List V} (h:H r=some (.tup xs)) (q:Q (.bl true) H):zhd K [.ref r,.ty "tuple"] H Q:=⟨_,_,_,_,true,rfl,rfl,.of (.tup h),rfl,q⟩
theorem zmb {c:V} {u cv:Value} (r:zb5 c u) (h:clsV c=some cv):u=cv:=by
 cases c with
 | ty n=>cases r;exact Option.some.inj h
 | ref a=>cases r;exact Option.some.inj h
 | _=>cases h
theorem zbC:zhb X (.builtin "isinstance") (zhd X.K):=by
 intro pins s σ H xs us Q I r h
 obtain ⟨x,c,t,cv,b,rfl,hc,ty,e,q⟩:=h
 obtain ⟨u,w',rfl,rx,rw'⟩:=zpG r
 obtain rfl:=zmb rw' hc
 cases ty with
 | of ty=>exact zlp I rx ty e fun tk=>⟨.bl b,H,I.tok tk,rfl,q⟩
 | @exc a c h k =>
  cases (show u=Value.ref a from rx)
  obtain ⟨p,_,_⟩:=(show zcZ X.prog X.w H s.heap a (excO a t) from I.hok a _ h)
  exact PySem.W.kia_one (k.kit a) I.kIn p e (fun z=>nomatch z) fun tk=>⟨.bl b,H,I.tok tk,rfl,q⟩
theorem zle {l:List Int} {j:Nat} (h:j<l.length):l.getD j 0=l[j]:=by
 rw [List.getD_eq_getElem?_getD,List.getElem?_eq_getElem h]
 rfl
def tTru (K:PySem.W.Frag) (ta:TE):TT:=fun σ H Q=>ta σ H fun x H'=>∃ k,zo6 K x H' k∧Q k H'
def zeN (t:TS):TS:=fun D σ H=>∃ R:St→Hp→Prop,t { D with nx:=R } σ H∧∀ σ' H',R σ' H'→D.nx σ' H'
theorem zbZ {st:Stmt} {t:TS} (h:PS X st t):PS X st (zeN t):=by
 intro pins s σ H D I hw
 obtain ⟨R,hw,hR⟩:=hw
 refine thn (h pins s σ H _ I hw) fun f s' q=>?_
 cases f with
 | next=>obtain ⟨σ',H',I',q⟩:=q;exact ⟨σ',H',I',hR _ _ q⟩
 | brk=>exact q
 | cont=>exact q
 | ret u=>exact q
end
theorem zai {H:Hp} {p:Addr} (h:H p=none) (o:HO):zaM H (upd H p o):=fun b u q=>by rw [zam (zaY q h)];exact q
theorem zaM.add {H0 H:Hp} {p:Addr} {o:HO} (s:zaM H0 H) (h:H p=none):zaM H0 (upd H p o):=s.trans (zai h o)
theorem zaM.put {H0 H:Hp} {p:Addr} {o:HO} (s:zaM H0 H) (h:H0 p=none):zaM H0 (upd H p o):=fun b u q=>by rw [zam (zaY q h)];exact s _ _ q
theorem zmK {K:PySem.W.Frag} {i:Int} {H:Hp} {k:Bool}:zo6 K (.int i) H k=(k=(i != 0)):=rfl
theorem zn9 {K:PySem.W.Frag} {i:Bool} {H:Hp} {k:Bool}:zo6 K (.bl i) H k=(k=i):=rfl
theorem zl0 (a b:Int):scal (.int a) (.int b)=true:=rfl
theorem zn7 (a b:Bool):scal (.bl a) (.bl b)=true:=rfl
def zmt (J:It) (g:TG) (tb:TS):TS:=fun D σ H=>∃ W:Nat→Nat→St→Hp→Prop,(∃ m,W 0 m σ H)∧∀ i m σ H,W i m σ H →
 (J.stop i H∧D.nx σ H)∨(J.go i H∧∃ N:St→Hp→Prop,(∀ σ' H',N σ' H'→∃ m',m'<m∧W (i+1) m' σ' H')∧∀ x H',J.yld i H x H'→g x σ H' fun σ2 H2=>tb { D with nx:=N,ct:=N,bk:=D.nx } σ2 H2)
theorem znG {wi:TI} {g:TG} {tb:TS} {D:zce} {σ:St} {H:Hp}:zjd wi g tb D σ H=wi σ H fun J H1=>zmt J g tb D σ H1:=rfl
theorem zeD {lo:Int} {n:Nat} {g:TG} {tb:TS} {D:zce} {σ:St} {H:Hp} (Pv:Nat→St→Hp→Prop) (h0:Pv 0 σ H)
  (hs:∀ i σ H,i<n→Pv i σ H→g (.int (lo+i)) σ H fun σ2 H2=>tb { D with nx:=Pv (i+1),ct:=Pv (i+1),bk:=D.nx } σ2 H2) (hd:∀ σ H,Pv n σ H→D.nx σ H):zmt (Itr lo n) g tb D σ H:=zks Pv h0 hs hd
theorem zgY {K:PySem.W.Frag} {a:Addr} {xs:List V} {g:TG} {tb:TS} {D:zce} {σ:St} {H:Hp} (Pv:Nat→St→Hp→Prop) (h0:Pv 0 σ H) (hl:∀ i σ H,i≤xs.length→Pv i σ H→SqL K H a xs)
  (hs:∀ i x σ H,xs[i]?=some x→Pv i σ H→g x σ H fun σ2 H2=>tb { D with nx:=Pv (i+1),ct:=Pv (i+1),bk:=D.nx } σ2 H2) (hd:∀ σ H,Pv xs.length σ H→D.nx σ H):zmt (Itl K a) g tb D σ H:=zlS Pv h0 hl hs hd
end L2
namespace L2
open PySem PySem.Spec PyProof.Rows
section
variable {P:Program} {w:World}
end
section
variable {P:Program} {w:World} {K:PySem.W.Frag} {mg:Str→Option Value} {base:Heap} {N:List Str} {qual:Str} {scope:Scope} {f:Addr} {cd:Value} {A:Around} {outer:List Env} {s₀:Shared} {H₀:Hp} {E:XK}
end
section
variable {P:Program} {w:World} {K:PySem.W.Frag} {mg:Str→Option Value} {base:Heap} {N:List Str} {qual:Str} {scope:Scope} {f:Addr} {cd:Value} {A:Around} {outer:List Env} {s₀:Shared} {H₀:Hp} {E:XK}
end
section
variable {X:Cx} {CX:CXT} {k:Nat} {f:Addr} {fd:FuncData} {ps:List Str} {sp:Sp} {dvs:List V} {ds:List Value} {E:St→XK} {x:Str} {p pos:Pos} {e:Expr} {es:List Expr} {t:TA}
end
theorem Inv.track {X:Cx} {pins:List (Addr×Obj)} {σ:St} {H:Hp} {s:Shared} {a:Addr} {o:HO} (I:Inv X pins σ H s) (hn:H a=none) (h0:X.s₀.heap.get? a=none) (hL:a≠X.env.locals) (hc:∀ x c,X.env.cells.lookup x=some c→c≠a)
  (hp:∀ p∈X.pn++pins,p.1≠a) (new:zcZ X.prog X.w (upd H a o) s.heap a o):Inv X pins σ (upd H a o) s:=by
 refine ⟨I.ok,I.os,I.bare,⟨I.base.keep,I.base.slot,fun b u q n hx=>?_,I.base.there,fun b xs q=>?_,fun b u xs q=>?_,fun b ps q=>?_⟩,I.loc,I.cell,?_,fun x c e=>?_,fun p q=>?_,fun b u e=>?_,I.len⟩
 ·have nb:b≠a:=fun z=>by rw [z,h0] at q;cases q
  rw [zam nb]
  exact I.base.free b u q n hx
 ·have q2:=I.base.tups b xs q
  rw [zam (zaY q2 hn)]
  exact q2
 ·have q2:=I.base.frzs b u xs q
  rw [zam (zaY q2 hn)]
  exact q2
 ·obtain ⟨m,q2⟩:=I.base.tbls b ps q
  exact ⟨m,by rw [zam (zaY q2 hn)];exact q2⟩
 ·rw [zam hL.symm]
  exact I.free
 ·rw [zam (hc x c e)]
  exact I.freeC x c e
 ·obtain ⟨e,n,r⟩:=I.pin p q
  exact ⟨e,by rw [zam (hp p q)];exact n,r⟩
 ·by_cases hb:b=a
  ·subst hb
   rw [zaf] at e
   cases e
   exact new
  ·rw [zam hb] at e
   exact (I.hok b u e).stay (fun c v _ q=>q) (fun c q=>by rw [zam (zaY q hn)];exact q) fun c xs q=>by rw [zam (zaY q hn)];exact q
section
open Builtin Builtin.ObjectAttr Builtin.Getset_descriptor PySem.W
variable {K:PySem.W.Frag} {prog:Program} {w:World} {A:Around} {E:Value→Shared→Prop} {h:Heap} {g:Array GenState} {d:Drawn} {t:Nat} {os:OsState} {a C:Addr} {o:Obj}
end
end L2
namespace L2
open PySem PySem.Spec PyProof.Rows
theorem zlx {env:Env} {x:Str} {c:Addr} (h:env.cells.lookup x=some c):cellOf env x=pure c:=by
 unfold cellOf
 rw [h]
theorem zfJ {env:Env}:∀ (l:List (Str×NameKind)) (cs:List (Str×Addr)),(∀ y∈l,y.2=.free→∃ c,env.cells.lookup y.1=some c)→(∀ x c,cs.lookup x=some c→env.cells.lookup x=some c) →
  ∃ cl,(forIn l cs fun (y:Str×NameKind) r=>(if (y.2 == .free)=true then do let c ← cellOf env y.1;pure (ForInStep.yield ((y.1,c)::r)) else pure (ForInStep.yield r):Sem (ForInStep (List (Str×Addr)))))=pure cl ∧
   (∀ x c,cl.lookup x=some c→env.cells.lookup x=some c)∧(∀ y∈l,y.2=.free→∃ c,cl.lookup y.1=some c)∧∀ x,(∃ c,cs.lookup x=some c)→∃ c,cl.lookup x=some c
 | [],cs,_,hc=>⟨cs,by simp,hc,by simp,fun _ h=>h⟩
 | y::l,cs,hf,hc=>by
  have hf':∀ z∈l,z.2=.free→∃ c,env.cells.lookup z.1=some c:=fun z hz=>hf z (List.mem_cons_of_mem _ hz)
  by_cases hy:y.2=.free
  ·obtain ⟨c,e⟩:=hf y List.mem_cons_self hy
   have hc':∀ x d,List.lookup x ((y.1,c)::cs)=some d→env.cells.lookup x=some d:=fun x d q=>by
    rw [List.lookup_cons] at q
    split at q
    ·rename_i b
     cases q
     rw [beq_iff_eq.mp b,e]
    ·exact hc x d q
   obtain ⟨cl,e1,e2,e3,e4⟩:=zfJ l ((y.1,c)::cs) hf' hc'
   refine ⟨cl,?_,e2,fun z hz q=>?_,fun x ⟨d,q⟩=>e4 x ?_⟩
   ·rw [List.forIn_cons,if_pos (by rw [hy];rfl),zlx e]
    simpa using e1
   ·rcases List.mem_cons.mp hz with r | r
    ·exact e4 z.1 ⟨c,by rw [r,List.lookup_cons];simp⟩
    ·exact e3 z r q
   ·rw [List.lookup_cons]
    split
    ·exact ⟨_,rfl⟩
    ·exact ⟨d,q⟩
  ·obtain ⟨cl,e1,e2,e3,e4⟩:=zfJ l cs hf' hc
   refine ⟨cl,?_,e2,fun z hz q=>?_,e4⟩
   ·rw [List.forIn_cons,if_neg (by simpa using hy)]
    simpa using e1
   ·rcases List.mem_cons.mp hz with r | r
    ·rw [r] at q;exact absurd q hy
    ·exact e3 z r q
theorem zhm {scope:Scope} {env:Env} (h:∀ y∈scope.names,y.2=.free→∃ c,env.cells.lookup y.1=some c) :
  ∃ cl,closureFor scope env=pure cl∧(∀ x c,cl.lookup x=some c→env.cells.lookup x=some c)∧∀ y∈scope.names,y.2=.free→∃ c,cl.lookup y.1=some c:=by
 obtain ⟨cl,e1,e2,e3,_⟩:=zfJ scope.names [] h (by simp)
 refine ⟨cl,?_,e2,e3⟩
 unfold closureFor
 simp only [bind_pure]
 exact e1
theorem zfX {P:Program} {w:World} {A:Around} {R:Result→Shared→Prop} {s:Shared} {elt target iter:Expr} {ifs:List Expr} {scope:Scope} {pos:Pos} {it acc:Value} {env:Env} {Z:Value→Shared→Prop} (J:Nat→Shared→Prop)
  (hZ:Z=notedBy (model P w) A env fun e s'=>R (.error e) s')
  (turn:∀ n s,J n s→wpAny (model P w) A (pyNext it) (fun r s1=>match r with
   | none=>R (.ok .next) s1
   | some v=>wpAny (model P w) A (letOwnedTupleGo target it v) (fun _ s2=>wpAny (model P w) A (assign target env v) (fun _ s3 =>
     wpAny (model P w) A (forIn ifs true fun c r=>if r=true then do let ok ← isTrue c env (eval c env);pure (ForInStep.yield ok) else pure (ForInStep.yield r)) (fun ok s4 =>
      if ok=true then wpAny (model P w) A (eval elt env) (fun x s5=>wpAny (model P w) A (call (.builtin "list.append") [acc,x]) (fun _ s6=>∃ m,m<n∧J m s6) Z s5) Z s4
      else ∃ m,m<n∧J m s4) Z s3) Z s2) Z s1) Z s)
  (n:Nat) (h:J n s):codeAny (model P w) A (.compLoop (.ListComp elt [⟨target,iter,ifs,0⟩] scope pos) 0 it acc env) R s:=by
 subst hZ
 refine codeAny_loop rfl J (fun n s hJ=>?_) n h
 show wpAny _ _ (Sem.onRaise (compTurn (.ListComp elt [⟨target,iter,ifs,0⟩] scope pos) 0 it acc env) fun x=>do noteFrame x env;theTreesLotGoes x) _ _ s
 refine wpAny_noted ?_
 rw [compTurn_list]
 refine wpAny_bind (wpAny_standAt (wpAny_bind (thn (turn n s hJ) fun r s1 h1=>?_)))
 cases r with
 | none=>exact wpAny_pure h1
 | some v =>
  refine wpAny_bind (thn h1 fun _ s2 h2=>wpAny_bind (thn h2 fun _ s3 h3=>wpAny_bind (thn h3 fun ok s4 h4=>?_)))
  cases ok with
  | false=>exact wpAny_pure ⟨rfl,h4⟩
  | true=>exact wpAny_bind (wpAny_bind (thn h4 fun x s5 h5=>wpAny_bind (thn h5 fun _ s6 h6=>wpAny_pure (wpAny_pure ⟨rfl,h6⟩))))
def PTs (X:Cx) (ifs:List Expr) (t:TT):Prop:=∀ (pins:List (Addr×Obj)) (s:Shared) (σ:St) (H:Hp) (Q:Bool→Hp→Prop),Inv X pins σ H s→t σ H Q →
 wpAny (model X.prog X.w) X.A (forIn ifs true fun c r=>if r=true then do let ok ← isTrue c X.env (eval c X.env);pure (ForInStep.yield ok) else pure (ForInStep.yield r)) (TP X pins σ Q) X.xe s
def zaP:TT:=fun _ H Q=>Q true H
theorem zbn {X:Cx}:PTs X [] zaP:=fun _ _ _ H _ I h=>wpAny_tests_nil ⟨H,I,h⟩
theorem zkN {X:Cx} {c:Expr} {t:TT} (h:PT X c t):PTs X [c] t:=fun pins s σ H Q I q=>wpAny_tests_one (h pins s σ H Q I q)
def zme (cap:List (Option Nat)) (σ:St):St:=cap.map fun o=>o.bind fun j=>(σ[j]?).join
def zbH (wi:TI) (g:TG) (tt:TT) (te:TE) (cap:List (Option Nat)):TE:=fun σ H Q=>wi σ H fun J H1=>∀ D,H1 D=none→∃ W:Nat→Nat→St→Hp→Prop,(∃ m,W 0 m (zme cap σ) (upd H1 D (.lst [])))∧∀ i m σc Hc,W i m σc Hc →
 (J.stop i Hc∧Q (.ref D) Hc)∨(J.go i Hc∧∃ N:St→Hp→Prop,(∀ σ' H',N σ' H'→∃ m',m'<m∧W (i+1) m' σ' H')∧∀ x H',J.yld i Hc x H'→g x σc H' fun σ2 H2=>tt σ2 H2 fun b H3=>if b=true then te σ2 H3 fun y H4=>zbW (.ref D) [y] H4 fun _ H5=>N σ2 H5 else N σ2 H3)
def Cx.blk (X:Cx) (Nc:List Str) (scope:Scope) (cl:List (Str×Addr)) (s:Shared) (H:Hp) (fp:List Addr):Cx:={ X with
 N:=Nc,s₀:=s,H₀:=H,env:=compEnvC scope cl s.heap.objs.size X.env,outer:=X.stack,stack:=X.stack,ex:=fp,fn:=fun _=>false,pn:=[],xe:=fun _ _=>False }
structure zka (sc:Scope) (N Nc:List Str) (cap:List (Option Nat)) (scope:Scope):Prop where
 kind:scope.kind=.function
 nocell:∀ y∈scope.names,y.2≠.cell
 free:∀ y∈scope.names,y.2=.free→sc.names.lookup y.1=some .cell∨sc.names.lookup y.1=some .free
 once:∀ y∈scope.names,scope.names.lookup y.1=some y.2
 nd:Nc.Nodup
 len:cap.length=Nc.length
 cap:∀ (i:Nat) (y:Str) (j:Nat),Nc[i]?=some y→cap[i]?=some (some j)→N[j]?=some y∧scope.names.lookup y=some .free
def zmZ (sc:Scope) (N Nc:List Str) (cap:List (Option Nat)) (scope:Scope):Bool :=
 scope.kind == .function&&scope.names.all (fun y=>y.2 != .cell&&scope.names.lookup y.1 == some y.2&&(y.2 != .free || sc.names.lookup y.1 == some .cell || sc.names.lookup y.1 == some .free))&&decide Nc.Nodup&&cap.length == Nc.length
  && (Nc.zip cap).all fun p=>p.2.all fun j=>N[j]? == some p.1&&scope.names.lookup p.1 == some .free
theorem zka.of {sc:Scope} {N Nc:List Str} {cap:List (Option Nat)} {scope:Scope} (h:zmZ sc N Nc cap scope=true):zka sc N Nc cap scope:=by
 unfold zmZ at h
 simp only [Bool.and_eq_true,beq_iff_eq,List.all_eq_true,bne_iff_ne,ne_eq,Bool.or_eq_true,decide_eq_true_eq] at h
 obtain ⟨⟨⟨⟨h1,h2⟩,h3⟩,h4⟩,h5⟩:=h
 refine ⟨h1,fun y hy=>(h2 y hy).1.1,fun y hy hf=>?_,fun y hy=>(h2 y hy).1.2,h3,h4,fun i y j e1 e2=>?_⟩
 ·rcases (h2 y hy).2 with (q | q) | q
  ·exact absurd hf q
  ·exact .inl q
  ·exact .inr q
 ·have m:(y,some j)∈Nc.zip cap:=by
   refine List.mem_of_getElem? (i:=i) ?_
   rw [List.getElem?_zip_eq_some]
   exact ⟨e1,e2⟩
  have z:=h5 _ m
  simpa using z
theorem zcc {env:Env} {x:Str}:∀ {names:List (Str×NameKind)} {k:NameKind},((names.map fun (n,k)=>if (k == NameKind.free&&env.scope.kind == .function&&env.kindOf n == some .cell) then (n,NameKind.cell) else (n,k)).lookup x=some k)→k≠.cell∧names.lookup x=some k∨(k=.cell∧(names.lookup x=some .cell∨names.lookup x=some .free))
 | [],_,h=>by simp at h
 | (n,q)::r,k,h=>by
  have ih:=@zcc env x r k
  rw [List.map_cons] at h
  dsimp only at h
  by_cases hx:(x == n)=true
  ·by_cases hc:(q == NameKind.free&&env.scope.kind == .function&&env.kindOf n == some .cell)=true
   ·rw [if_pos hc,List.lookup_cons,hx] at h
    cases h
    rw [Bool.and_eq_true,Bool.and_eq_true] at hc
    refine .inr ⟨rfl,.inr ?_⟩
    rw [List.lookup_cons,hx]
    exact congrArg some (beq_iff_eq.mp hc.1.1)
   ·rw [if_neg hc,List.lookup_cons,hx] at h
    cases h
    rw [List.lookup_cons,hx]
    by_cases z:q=.cell
    ·exact .inr ⟨z,.inl (congrArg some z)⟩
    ·exact .inl ⟨z,rfl⟩
  ·have hx':(x == n)=false:=by simpa using hx
   rw [List.lookup_cons,hx']
   refine ih ?_
   by_cases hc:(q == NameKind.free&&env.scope.kind == .function&&env.kindOf n == some .cell)=true
   ·rw [if_pos hc,List.lookup_cons,hx'] at h
    exact h
   ·rw [if_neg hc,List.lookup_cons,hx'] at h
    exact h
section
variable {X:Cx} {pins:List (Addr×Obj)} {σ:St} {H:Hp} {s:Shared}
theorem zn5 {Nc:List Str} {cap:List (Option Nat)} {scope:Scope} {cl:List (Str×Addr)} {fp:List Addr} {h1:Heap} {tk:Nat} {m1:Str→Option Value} (I:Inv X pins σ H s) (B:zka X.env.scope X.N Nc cap scope)
  (hsub:∀ x c,cl.lookup x=some c→X.env.cells.lookup x=some c) (hfr:∀ y∈scope.names,y.2=.free→∃ c,cl.lookup y.1=some c) (hf:∀ b∈fp,zgn X pins H b) (hin:∀ b∈fp,b<s.heap.objs.size)
  (hk:∀ b o,s.heap.get? b=some o→h1.get? b=some o) (hn:h1.Ns s.heap.objs.size m1):Inv (X.blk Nc scope cl s H fp) [] (zme cap σ) H { s with heap:=h1,toks:=tk }:=by
 have ok:=I.ok
 have bsz:X.base.objs.size≤s.heap.objs.size:=Nat.le_trans ok.bsz I.sz
 refine ⟨⟨ok.mod,B.kind,ok.glob,ok.blt,Nat.le_refl _,fun x y c h1 h2=>ok.inj x y c (hsub x c h1) (hsub y c h2),fun x hx=>?_,(by intro x c z;cases z),ok.hd,ok.frames,.inl rfl,fun b hb=>⟨Nat.ne_of_lt (hin b hb),fun x c e=>(hf b hb).2.2.2.2.1 x c (hsub x c e)⟩,
  I.bs,bsz,fun b o e hb=>?_,fun b hb z=>?_,I.stack,I.stkFree⟩,rfl,I.bare,Un.kept hk,⟨m1,hn,fun i y v e1 e2 e3=>?_⟩,fun x c e=>?_,I.hok.fresh (Nat.le_refl _),fun x c e=>I.freeC x c (hsub x c e),(by intro p hp;cases hp),I.hok.kept hk,?_⟩
 ·have look:∀ k,(relabel scope X.env).names.lookup x=some k→k=.cell∨k=.free→∃ c,cl.lookup x=some c:=fun k q hk=>by
   rcases zcc q with ⟨n1,n2⟩ | ⟨_,n2 | n2⟩
   ·rcases hk with r | r
    ·exact absurd r n1
    ·exact hfr (x,k) (PySem.mem_of_lookup n2) r
   ·exact absurd rfl (B.nocell _ (PySem.mem_of_lookup n2))
   ·exact hfr (x,.free) (PySem.mem_of_lookup n2) rfl
  rcases hx with q | q
  ·exact look _ q (.inl rfl)
  ·exact look _ q (.inr rfl)
 ·rcases (hf b hb).2.2.2.1 with q | q
  ·exact ok.noex b o e q
  ·exact absurd (Nat.lt_of_lt_of_le (Heap.lt_size e) (Nat.le_trans ok.bsz q)) (Nat.lt_irrefl _)
 ·rcases List.mem_cons.mp (I.stkSub b z) with q | q
  ·exact (hf b hb).2.1 q
  ·exact (hf b hb).2.2.1 q
 ·have e2':(cap[i]?).map (fun o=>o.bind fun j=>(σ[j]?).join)=some (some v):=by rw [← List.getElem?_map];exact e2
  obtain ⟨o,ho,eo⟩:=Option.map_eq_some_iff.mp e2'
  obtain ⟨j,rfl,ej⟩:=Option.bind_eq_some_iff.mp eo
  have ej':σ[j]?=some (some v):=by
   cases q:σ[j]? with
   | none=>rw [q] at ej;cases ej
   | some z=>rw [q] at ej;cases ej;rfl
  obtain ⟨c1,c2⟩:=B.cap i y j e1 ho
  have vis:=B.free (y,.free) (PySem.mem_of_lookup c2) rfl
  obtain ⟨m,_,hl⟩:=I.loc
  obtain ⟨u,r,lk⟩:=hl j y v c1 ej' (.inr vis)
  obtain ⟨c',ec⟩:=hfr (y,.free) (PySem.mem_of_lookup c2) rfl
  have ec2:=hsub _ _ ec
  rcases lk with ⟨kl,_⟩ | ⟨_,c,e,z⟩
  ·have kl':X.env.scope.names.lookup y=some .local:=kl
   rcases vis with q | q
   ·have q':X.env.scope.names.lookup y=some .cell:=q
    rw [kl'] at q';cases q'
   ·have q':X.env.scope.names.lookup y=some .free:=q
    rw [kl'] at q';cases q'
  ·have ecc:X.env.cells.lookup y=some c':=ec2
   rw [e] at ecc
   cases ecc
   refine ⟨u,r,.inr ⟨?_,_,ec,?_⟩⟩
   ·rcases e3 with q | q | q
    ·rcases zcc q with ⟨_,n2⟩ | ⟨n1,_⟩
     ·rw [c2] at n2;cases n2
     ·cases n1
    ·exact .inl q
    ·exact .inr q
   ·obtain ⟨o,ho,hd⟩:=z
    exact ⟨o,hk _ _ ho,hd⟩
 ·obtain ⟨v,o,ho,hd⟩:=I.cell x c (hsub x c e)
  exact ⟨v,o,hk _ _ ho,hd⟩
 ·show (zme cap σ).length=Nc.length
  rw [zme,List.length_map,B.len]
theorem zll {Nc:List Str} {scope:Scope} {cl:List (Str×Addr)} {fp:List Addr} {σc:St} {Hc:Hp} {s':Shared} {h':Heap} (I:Inv X pins σ H s) (hf:∀ b∈fp,zgn X pins H b) (J:Inv (X.blk Nc scope cl s H fp) [] σc Hc s')
  (hs:Heap.SameBut s.heap.objs.size s'.heap h'):Inv X pins σ Hc { s' with heap:=h' }:=by
 have ne:∀ b o,s.heap.get? b=some o→b≠s.heap.objs.size:=fun b o e=>Nat.ne_of_lt (Heap.lt_size e)
 have u:=J.base
 refine I.call' (ch:=fp) J.os ⟨fun b o e n hb hx=>(hs.2 b (ne b o e)).trans (u.keep b o e n hb hx),fun b o e n hb hx=>?_,u.free,fun b o e hx=>?_,u.tups,u.frzs,u.tbls⟩ (fun b ob e=>?_) J.bare fun b hb=>⟨(hf b hb).2.2.2.1,(hf b hb).2.1,(hf b hb).2.2.2.2.1,(hf b hb).2.2.2.2.2⟩
 ·obtain ⟨sl,q⟩:=u.slot b o e n hb hx
  exact ⟨sl,(hs.2 b (ne b o e)).trans q⟩
 ·obtain ⟨o',q⟩:=u.there b o e hx
  exact ⟨o',(hs.2 b (ne b o e)).trans q⟩
 ·have hC:Hc s.heap.objs.size=none:=J.free
  refine (J.hok b ob e).stay (fun c w' hc q=>(hs.2 c ?_).trans q) (fun _ q=>q) fun _ _ q=>q
  rintro rfl
  rcases hc with z | hc
  ·rw [← z,hC] at e;cases e
  ·rw [hC] at hc;cases hc
end
theorem Inv.turns {X:Cx} {pins:List (Addr×Obj)} {σ:St} {H:Hp} {s:Shared} {h':Heap} {t':Nat} {ch:List Addr} (I:Inv X pins σ H s) (k:∀ b o,b∉ch→s.heap.get? b=some o→h'.get? b=some o) (hf:∀ b∈ch,zgn X pins H b):Inv X pins σ H { s with heap:=h',toks:=t' }:=by
 refine I.call (g':=s.gens) (d':=s.drawn) (ch:=ch) ⟨fun b o e _ _ hx=>k b o hx e,fun b o e _ _ hx=>⟨o.slots,k b o hx e⟩,fun _ _ _ n _=>n,fun b o e hx=>⟨o,k b o hx e⟩,fun _ _ q=>q,fun _ _ _ q=>q,fun _ ps q=>⟨#[],by rw [q];simp⟩⟩ (fun b u e=>?_) I.bare
  fun b hb=>⟨(hf b hb).2.2.2.1,(hf b hb).2.1,(hf b hb).2.2.2.2.1,(hf b hb).2.2.2.2.2⟩
 refine (I.hok b u e).stay (fun c v hc q=>k c v (fun z=>?_) q) (fun _ q=>q) fun _ _ q=>q
 have n:=(hf c z).1
 rcases hc with r | r
 ·rw [r,e] at n;cases n
 ·rw [r] at n;cases n
theorem ziS {X:Cx} {pins:List (Addr×Obj)} {s:Shared} {σ:St} {H:Hp} {Q:VK} {sc:Scope} {N Nc:List Str} {cap:List (Option Nat)} {elt tg iter:Expr} {ifs:List Expr} {scope:Scope} {pos pos':Pos} {wi:TI} {g:TG} {tt:TT} {te:TE} {use:Option (Value→Sem Unit)} {QQ:Value→Shared→Prop}
  (hc:X.calm=true) (hsc:X.env.scope=sc) (hN:X.N=N) (B:zka sc N Nc cap scope) (hi:PI X tg iter wi)
  (hg:∀ cl s H fp,PG (X.blk Nc scope cl s H fp) tg g) (ht:∀ cl s H fp,PTs (X.blk Nc scope cl s H fp) ifs tt) (he:∀ cl s H fp,PE (X.blk Nc scope cl s H fp) elt te)
  (hs:∀ x,foldedSetIterable iter X.env x=pure x) (I:Inv X pins σ H s) (h:zbH wi g tt te cap σ H Q)
  (fin:∀ (s3:Shared) (H3:Hp) (cl:List (Str×Addr)) (fp:List Addr) (D:Addr) (σc:St) (Hc:Hp) (s6:Shared),Inv X pins σ H3 s3→(∀ b∈fp,zgn X pins H3 b)→Inv (X.blk Nc scope cl s3 H3 fp) [] σc Hc s6→Q (.ref D) Hc→compPost (model X.prog X.w) X.A X.xe use QQ (.ref D) s3.heap.objs.size (.ok .next) s6) :
  wpAny (model X.prog X.w) X.A (comprehension (.ListComp elt [⟨tg,iter,ifs,0⟩] scope pos) scope X.env pos' (newList []) false (eval iter X.env) use) QQ X.xe s:=by
 subst hsc hN
 obtain ⟨cl,hclos,hsub,hfr⟩:=zhm (scope:=scope) (env:=X.env) fun y hy hf=>I.ok.has y.1 (B.free y hy hf)
 refine wpAny_comprehension_free (use:=use) rfl hs hclos B.kind (fun y hy hl=>by rw [B.once y hy,hl]) (thn (hi pins s σ H _ I h) fun v s1 h1=>thn h1 fun itv s2 h2=>?_)
 obtain ⟨it,fp,tn,J,H2,rfl,I2,T,st2,f2,hw⟩:=h2
 refine wpAny_newObj_type ?_
 have hfree:H2 s2.heap.objs.size=none:=I2.hok.fresh (Nat.le_refl _)
 have I3:=I2.laid (t':=s2.toks) (o:=.lst []) (fun b u e=>Heap.get?_push_of_some { cls:=.type "list",dict:=none,data:=.seq ([]:List Value).toArray } e) (Nat.le_refl _) ⟨by decide,[],0,.nil,Heap.get?_push_size _ rfl⟩
 obtain ⟨W,⟨m0,w0⟩,turn⟩:=hw _ hfree
 have keep23:∀ b o,s2.heap.get? b=some o→(s2.heap.push { cls:=.type "list",dict:=none,data:=.seq ([]:List Value).toArray }).get? b=some o:=fun b o e=>Heap.get?_push_of_some _ e
 have hin:∀ b∈fp,b<s2.heap.objs.size:=fun b hb=>let ⟨o,e,_⟩:=T.obj 0 _ st2 b hb;Heap.lt_size e
 have f3:∀ b∈fp,zgn X pins (upd H2 s2.heap.objs.size (.lst [])) b:=fun b hb=>⟨by rw [zam (Nat.ne_of_lt (hin b hb))];exact (f2 b hb).1,(f2 b hb).2⟩
 have st3:=T.keep 0 _ _ st2 fun b _ o e=>keep23 b o e
 have hin3:∀ b∈fp,b<(s2.heap.push { cls:=.type "list",dict:=none,data:=.seq ([]:List Value).toArray }).objs.size:=fun b hb=>let ⟨o,e,_⟩:=T.obj 0 _ st3 b hb;Heap.lt_size e
 clear keep23 hin
 generalize s2.heap.push { cls:=.type "list",dict:=none,data:=.seq ([]:List Value).toArray }=h3 at I3 st3 hin3 ⊢
 generalize upd H2 s2.heap.objs.size (.lst [])=H3 at I3 f3 w0
 generalize s2.heap.objs.size=D at hfree w0 turn ⊢
 refine wpAny_newFunctionEnv B.nocell (by intro y hy;cases hy) (fun h1 hns hsb=>?_) B.kind
 have keep:∀ b o,h3.get? b=some o→h1.get? b=some o:=fun b o e=>(hsb.2 b (Nat.ne_of_lt (Heap.lt_size e))).trans (Heap.get?_push_of_some _ e)
 have I4:=zn5 (tk:=s2.toks+([]:List (Str×Value)).length) I3 B hsub hfr f3 hin3 keep hns
 have st4:=T.keep 0 _ _ st3 fun b _ o e=>keep b o e
 have stat:∀ {H':Hp},(∀ b∈fp,H' b=none)→∀ b∈fp,zgn (X.blk Nc scope cl { s2 with heap:=h3,toks:=s2.toks } H3 fp) [] H' b:=fun hn b hb =>
  ⟨hn b hb,Nat.ne_of_lt (hin3 b hb),fun z=>by
   rcases List.mem_cons.mp (I3.stkSub b z) with q | q
   ·exact (f3 b hb).2.1 q
   ·exact (f3 b hb).2.2.1 q,.inl hb,fun x c e=>(f3 b hb).2.2.2.2.1 x c (hsub x c e),by intro p hp;cases hp⟩
 have hcb:(X.blk Nc scope cl { s2 with heap:=h3,toks:=s2.toks } H3 fp).calm=true:=hc
 have loop:codeAny (model X.prog X.w) X.A (.compLoop (.ListComp elt [⟨tg,iter,ifs,0⟩] scope pos) 0 (.ref it) (.ref D) (compEnvC scope cl h3.objs.size X.env)) (compPost (model X.prog X.w) X.A X.xe use QQ (.ref D) h3.objs.size) { s2 with heap:=h1,toks:=s2.toks+([]:List (Str×Value)).length }:=by
  refine zfX (fun n s'=>∃ i σ' H',Inv (X.blk Nc scope cl { s2 with heap:=h3,toks:=s2.toks } H3 fp) [] σ' H' s'∧tn i s'.heap∧(∀ b∈fp,H' b=none)∧W i n σ' H') rfl ?_ m0 ⟨0,_,H3,I4,st4,fun b hb=>(f3 b hb).1,w0⟩
  rintro n s5 ⟨i,σ5,H5,I5,st5,fr5,w5⟩
  rcases turn i n σ5 H5 w5 with ⟨stop,qn⟩ | ⟨go,N',hN',step⟩
  ·refine thn (T.done (X.blk Nc scope cl { s2 with heap:=h3,toks:=s2.toks } H3 fp) rfl rfl rfl hcb i [] s5 σ5 H5 _ I5 (stat fr5) st5 stop) fun r s6 hQ'=>?_
   obtain ⟨hr,I6⟩:=hQ'
   subst hr
   exact fin { s2 with heap:=h3,toks:=s2.toks } H3 cl fp D σ5 H5 s6 I3 f3 I6 qn
  ·refine thn (T.item (X.blk Nc scope cl { s2 with heap:=h3,toks:=s2.toks } H3 fp) rfl rfl rfl hcb i [] s5 σ5 H5 _ I5 (stat fr5) st5 go) fun r s6 hQ'=>?_
   obtain ⟨u,hr,h6⟩:=hQ'
   subst hr
   refine thn h6 fun _ s7 hQ'=>?_
   obtain ⟨x,H7,I7,r7,y7,st7,fr7⟩:=hQ'
   have I7':=I7.pinned (stat fr7) (T.obj _ _ st7)
   refine wpAny_mono (hg cl _ H3 fp _ s7 σ5 H7 x u _ I7' r7 (step x H7 y7)) (fun _ s8 hQ'=>?_) fun _ _ z=>z.elim
   obtain ⟨σ8,H8,I8,q8⟩:=hQ'
   have again:∀ {H9:Hp} {s9:Shared} {m:Nat},Inv (X.blk Nc scope cl { s2 with heap:=h3,toks:=s2.toks } H3 fp) ([]++zhx fp s7.heap) σ8 H9 s9→m<n→W (i+1) m σ8 H9→∃ m,m<n∧∃ i σ' H',Inv (X.blk Nc scope cl { s2 with heap:=h3,toks:=s2.toks } H3 fp) [] σ' H' s9∧tn i s9.heap∧(∀ b∈fp,H' b=none)∧W i m σ' H':=fun {H9 s9 m} I9 hm w9=>by
    refine ⟨m,hm,i+1,σ8,H9,I9.unpinned,T.keep _ _ _ st7 fun b hb o e=>(I9.pin (b,o) (List.mem_append_right _ (List.mem_append_right _ (zdd hb e)))).1,fun b hb=>?_,w9⟩
    obtain ⟨o,e,d⟩:=T.obj _ _ st7 b hb
    exact (I9.pin (b,o) (List.mem_append_right _ (List.mem_append_right _ (zdd hb e)))).2.1
   refine wpAny_mono (ht cl _ H3 fp _ s8 σ8 H8 _ I8 q8) (fun b s9 hQ'=>?_) fun _ _ z=>z.elim
   obtain ⟨H9,I9,q9⟩:=hQ'
   cases b with
   | false =>
    rw [if_neg (by decide)] at q9
    obtain ⟨m',hm,w9⟩:=hN' _ _ q9
    exact again I9 hm w9
   | true =>
    rw [if_pos rfl] at q9
    refine wpAny_mono (he cl _ H3 fp _ s9 σ8 H9 _ I9 q9) (fun u s10 hQ'=>?_) fun _ _ z=>z.elim
    obtain ⟨y,H10,I10,r10,q10⟩:=hQ'
    refine wpAny_mono (zfe (X:=X.blk Nc scope cl { s2 with heap:=h3,toks:=s2.toks } H3 fp) _ s10 σ8 H10 (.ref D) [y] (.ref D) [u] _ I10 rfl (.cons r10 .nil) q10) (fun _ s11 hQ'=>?_) fun _ _ z=>z.elim
    obtain ⟨_,H11,I11,_,q11⟩:=hQ'
    obtain ⟨m',hm,w11⟩:=hN' _ _ q11
    exact again I11 hm w11
 exact codeAny_compStart_list loop (T.self _ 0 _ _ _ st4 loop)
theorem zbP {X:Cx} {sc:Scope} {N Nc:List Str} {cap:List (Option Nat)} {elt tg iter:Expr} {ifs:List Expr} {scope:Scope} {pos:Pos} {wi:TI} {g:TG} {tt:TT} {te:TE} (hc:X.calm=true) (hsc:X.env.scope=sc) (hN:X.N=N) (B:zka sc N Nc cap scope) (hi:PI X tg iter wi)
  (hg:∀ cl s H fp,PG (X.blk Nc scope cl s H fp) tg g) (ht:∀ cl s H fp,PTs (X.blk Nc scope cl s H fp) ifs tt) (he:∀ cl s H fp,PE (X.blk Nc scope cl s H fp) elt te)
  (hs:∀ x,foldedSetIterable iter X.env x=pure x:=by intro _;rfl):PE X (.ListComp elt [⟨tg,iter,ifs,0⟩] scope pos) (zbH wi g tt te cap):=by
 intro pins s σ H Q I h
 rw [eval_ListComp]
 refine ziS hc hsc hN B hi hg ht he hs I h fun s3 H3 cl fp D σc Hc s6 I3 f3 I6 q=>?_
 obtain ⟨m,hn,_⟩:=id I6.loc
 exact ⟨m,hn,fun h' hs'=>⟨.ref D,Hc,zll I3 f3 I6 hs',rfl,q⟩⟩
theorem zdK {X:Cx} {i:Nat} {y:Str} {py spos:Pos} {sc:Scope} {N Nc:List Str} {cap:List (Option Nat)} {elt tg iter:Expr} {ifs:List Expr} {scope:Scope} {pos:Pos} {wi:TI} {g:TG} {tt:TT} {te:TE} (hnd:X.N.Nodup) (hix:X.N[i]?=some y) (hl:X.env.scope.names.lookup y=some .local)
  (hc:X.calm=true) (hsc:X.env.scope=sc) (hN:X.N=N) (B:zka sc N Nc cap scope) (hi:PI X tg iter wi)
  (hg:∀ cl s H fp,PG (X.blk Nc scope cl s H fp) tg g) (ht:∀ cl s H fp,PTs (X.blk Nc scope cl s H fp) ifs tt) (he:∀ cl s H fp,PE (X.blk Nc scope cl s H fp) elt te)
  (hsw:swapsWith (.ListComp elt [⟨tg,iter,ifs,0⟩] scope pos) (some (.Name y py)) spos.line X.env=pure true:=by rfl)
  (hs:∀ x,foldedSetIterable iter X.env x=pure x:=by intro _;rfl):PS X (.Assign [.Name y py] (.ListComp elt [⟨tg,iter,ifs,0⟩] scope pos) spos) (za9 (zbH wi g tt te cap) (zak i)):=by
 intro pins s σ H D0 I h
 rw [exec_Assign_Name_used _ _ _ _ hsw]
 refine wpAny_bind (wpAny_standAt (wpAny_bind (wpAny_bind (thn (ziS (use:=some (assign (.Name y py) X.env)) (QQ:=fun _ s'=>SP X pins D0 .next s') hc hsc hN B hi hg ht he hs I h fun s3 H3 cl fp D σc Hc s6 I3 f3 I6 q=>?_) fun _ s' hq=>wpAny_pure (wpAny_pure hq)))))
 have I6x:Inv X pins σ Hc s6:=zll I3 f3 I6 (Heap.SameBut.refl ..)
 obtain ⟨m,hn,_⟩:=id I6.loc
 have hC:Hc s3.heap.objs.size=none:=I6.free
 have fpC:=I3.fpOk (b:=s3.heap.objs.size) (Nat.le_refl _) hC
 refine wpAny_assign_Name (zgq I6x hnd hix (.inl hl) (v:=.ref D) rfl (fun s7 I7 ch=>?_) (.inr hl))
 obtain ⟨a,same,ha⟩:=ch
 have nC:s3.heap.objs.size≠a:=by
  rcases ha with r | r
  ·rw [r];exact fpC.2.1
  ·exact (fpC.2.2.2.2.1 _ _ r).symm
 refine ⟨m,hn.sameBut same nC,fun h' hs'=>⟨_,_,I7.turns (t':=s7.toks) (ch:=[s3.heap.objs.size]) (fun b o hb e=>(hs'.2 b (by simpa using hb)).trans e) fun b hb=>?_,q⟩⟩
 have e:b=s3.heap.objs.size:=by simpa using hb
 rw [e]
 exact fpC
theorem zla {K:PySem.W.Frag} {a:Addr} {xs:List V} {g:TG} {tt:TT} {te:TE} {σ:St} {H:Hp} {D:Addr} {Q:VK} (Pv:Nat→List V→St→Hp→Prop) (h0:Pv 0 [] σ (upd H D (.lst []))) (hl:∀ i ys σ H,i≤xs.length→Pv i ys σ H→SqL K H a xs)
  (hs:∀ i x ys σ H,xs[i]?=some x→H D=some (.lst ys)→Pv i ys σ H→g x σ H fun σ2 H2=>tt σ2 H2 fun b H3=>if b=true then te σ2 H3 fun y H4=>zbW (.ref D) [y] H4 fun _ H5=>∃ ys,H5 D=some (.lst ys)∧Pv (i+1) ys σ2 H5 else ∃ ys,H3 D=some (.lst ys)∧Pv (i+1) ys σ2 H3)
  (hd:∀ ys σ H,H D=some (.lst ys)→Pv xs.length ys σ H→Q (.ref D) H) :
  ∃ W:Nat→Nat→St→Hp→Prop,(∃ m,W 0 m σ (upd H D (.lst [])))∧∀ i m σc Hc,W i m σc Hc →
   ((Itl K a).stop i Hc∧Q (.ref D) Hc)∨((Itl K a).go i Hc∧∃ N:St→Hp→Prop,(∀ σ' H',N σ' H'→∃ m',m'<m∧W (i+1) m' σ' H')∧∀ x H',(Itl K a).yld i Hc x H'→g x σc H' fun σ2 H2=>tt σ2 H2 fun b H3=>if b=true then te σ2 H3 fun y H4=>zbW (.ref D) [y] H4 fun _ H5=>N σ2 H5 else N σ2 H3):=by
 refine ⟨fun i m σ H=>m=xs.length - i∧i≤xs.length∧∃ ys,H D=some (.lst ys)∧Pv i ys σ H,⟨_,rfl,Nat.zero_le _,[],zaf,h0⟩,?_⟩
 rintro i m σ H ⟨rfl,hi,ys,hD,pv⟩
 have q:=hl i ys σ H hi pv
 by_cases hlt:i<xs.length
 ·refine .inr ⟨⟨xs,xs[i],q,by simp [hlt]⟩,fun σ H=>∃ ys,H D=some (.lst ys)∧Pv (i+1) ys σ H,fun σ' H' p'=>⟨_,by (first|lia|omega),rfl,hlt,p'⟩,fun x H' yl=>?_⟩
  obtain ⟨e,yl⟩:=yl
  subst e
  exact hs i x ys σ _ (yl xs q) hD pv
 ·have e:i=xs.length:=by (first|lia|omega)
  subst e
  exact .inl ⟨⟨xs,q,Nat.le_refl _⟩,hd ys σ H hD pv⟩
theorem zjW {lo:Int} {n:Nat} {g:TG} {tt:TT} {te:TE} {σ:St} {H:Hp} {D:Addr} {Q:VK} (Pv:Nat→List V→St→Hp→Prop) (h0:Pv 0 [] σ (upd H D (.lst [])))
  (hs:∀ i ys σ H,i<n→H D=some (.lst ys)→Pv i ys σ H→g (.int (lo+i)) σ H fun σ2 H2=>tt σ2 H2 fun b H3=>if b=true then te σ2 H3 fun y H4=>zbW (.ref D) [y] H4 fun _ H5=>∃ ys,H5 D=some (.lst ys)∧Pv (i+1) ys σ2 H5 else ∃ ys,H3 D=some (.lst ys)∧Pv (i+1) ys σ2 H3)
  (hd:∀ ys σ H,H D=some (.lst ys)→Pv n ys σ H→Q (.ref D) H) :
  ∃ W:Nat→Nat→St→Hp→Prop,(∃ m,W 0 m σ (upd H D (.lst [])))∧∀ i m σc Hc,W i m σc Hc →
   ((Itr lo n).stop i Hc∧Q (.ref D) Hc)∨((Itr lo n).go i Hc∧∃ N:St→Hp→Prop,(∀ σ' H',N σ' H'→∃ m',m'<m∧W (i+1) m' σ' H')∧∀ x H',(Itr lo n).yld i Hc x H'→g x σc H' fun σ2 H2=>tt σ2 H2 fun b H3=>if b=true then te σ2 H3 fun y H4=>zbW (.ref D) [y] H4 fun _ H5=>N σ2 H5 else N σ2 H3):=by
 refine ⟨fun i m σ H=>m=n - i∧i≤n∧∃ ys,H D=some (.lst ys)∧Pv i ys σ H,⟨_,rfl,Nat.zero_le _,[],zaf,h0⟩,?_⟩
 rintro i m σ H ⟨rfl,hi,ys,hD,pv⟩
 by_cases hlt:i<n
 ·refine .inr ⟨hlt,fun σ H=>∃ ys,H D=some (.lst ys)∧Pv (i+1) ys σ H,fun σ' H' p'=>⟨_,by (first|lia|omega),rfl,hlt,p'⟩,fun x H' yl=>?_⟩
  obtain ⟨e,yl⟩:=yl
  subst e yl
  exact hs i ys σ _ hlt hD pv
 ·have e:i=n:=by (first|lia|omega)
  subst e
  exact .inl ⟨Nat.le_refl _,hd ys σ H hD pv⟩
end L2
namespace L2
open PySem PySem.Spec PyProof.Rows
theorem zlB (bs:List Bool):(List.range bs.length).all (fun i=>bs.getD i false)=bs.all id:=by
 rw [Bool.eq_iff_iff,List.all_eq_true,List.all_eq_true]
 constructor
 ·intro h x hx
  obtain ⟨i,hi,e⟩:=List.getElem_of_mem hx
  have:=h i (List.mem_range.mpr hi)
  rw [List.getD_eq_getElem?_getD,List.getElem?_eq_getElem hi] at this
  rw [← e]
  exact this
 ·intro h i hi
  have hi:=List.mem_range.mp hi
  rw [List.getD_eq_getElem?_getD,List.getElem?_eq_getElem hi]
  exact h _ (List.getElem_mem hi)
def zmg (K:PySem.W.Frag):List V→Hp→VK→Prop:=fun xs H Q=>∃ (p:Addr) (bs:List Bool),xs=[.ref p]∧SqL K H p (bs.map V.bl)∧Q (.bl (bs.all id)) H
def zhP (K:PySem.W.Frag):List V→Hp→VK→Prop:=fun xs H Q=>∃ (p:Addr) (ns:List Int),xs=[.ref p]∧SqL K H p (ns.map V.int)∧Q (.int ns.sum) H
theorem zpm {bs:List Bool} {its:List Value} {i:Nat} {v:Value} (r:zbU (bs.map V.bl) its) (e:its.toArray[i]?=some v):v=.bool (bs.getD i false):=by
 have l:=r.length
 rw [List.length_map] at l
 have e':its[i]?=some v:=by simpa using e
 have hi:i<bs.length:=by rw [l];exact (List.getElem?_eq_some_iff.mp e').1
 obtain ⟨u,hu,ru⟩:=r.get (i:=i) (x:=.bl bs[i]) (by rw [List.getElem?_map,List.getElem?_eq_getElem hi];rfl)
 rw [e'] at hu
 cases hu
 cases ru
 rw [List.getD_eq_getElem?_getD,List.getElem?_eq_getElem hi]
 rfl
theorem zmy {P:Program} {w:World} {A:Around} {bs:List Bool} {its:List Value} (r:zbU (bs.map V.bl) its):TruthOf P w A (fun i v=>its.toArray[i]?=some v) fun i=>bs.getD i false:=fun i v s Q E hP hQ=>by
 rw [zpm r hP]
 exact wpAny_pure hQ
section
variable {X:Cx}
theorem zge (hc:X.calm=true):zhb X (.builtin "all") (zmg X.K):=by
 intro pins s σ H xs us Q I r h
 obtain ⟨p,bs,rfl,hl,q⟩:=h
 obtain ⟨u,rfl,ru⟩:=r.one
 cases ru
 obtain ⟨its,rv,pl,_⟩:=I.list hl
 have l:=rv.length
 rw [List.length_map] at l
 obtain ⟨o,n,e,_⟩:=id pl
 have hne:p≠s.heap.objs.size:=Nat.ne_of_lt (Heap.lt_size e)
 refine call_all_walk (wpAny_pyIter_list pl.isList ?_)
 refine ⟨s.heap.objs.size,_,_,_,_,_,fun i=>bs.getD i false,rfl,Walks.list (A:=X.A.in1) (I.ok.hd hc) _ p hne its.toArray,⟨⟨_,Heap.get?_push_size _ rfl,rfl,rfl⟩,?_⟩,zmy rv,fun h' tk hk=>⟨.bl _,H,I.kept fun b u eb=>?_,rfl,?_⟩⟩
 ·exact pl.isList.at fun o e=>Heap.get?_push_of_some _ e
 ·exact hk b u (fun z=>Nat.ne_of_lt (Heap.lt_size eb) (by simpa using z)) (Heap.get?_push_of_some _ eb)
 ·rw [List.size_toArray,← l,zlB]
  exact q
theorem zi6 {ns:List Int} {its:List Value} {i:Nat} {v:Value} (r:zbU (ns.map V.int) its) (e:its.toArray[i]?=some v):∃ t,v=.int (ns.getD i 0) t:=by
 have l:=r.length
 rw [List.length_map] at l
 have e':its[i]?=some v:=by simpa using e
 have hi:i<ns.length:=by rw [l];exact (List.getElem?_eq_some_iff.mp e').1
 obtain ⟨u,hu,ru⟩:=r.get (i:=i) (x:=.int ns[i]) (by rw [List.getElem?_map,List.getElem?_eq_getElem hi];rfl)
 rw [e'] at hu
 cases hu
 obtain ⟨t,rfl⟩:=ru
 refine ⟨t,?_⟩
 rw [List.getD_eq_getElem?_getD,List.getElem?_eq_getElem hi]
 rfl
theorem zht (ns:List Int):∀ k,k≤ns.length→preSum (fun i=>ns.getD i 0) k=(ns.take k).sum
 | 0,_=>by simp [preSum]
 | k+1,h=>by
  rw [preSum,zht ns k (by (first|lia|omega)),List.take_add_one,List.getElem?_eq_getElem (by (first|lia|omega)),List.sum_append,List.getD_eq_getElem?_getD,List.getElem?_eq_getElem (by (first|lia|omega))]
  simp
theorem zcs (hc:X.calm=true):zhb X (.builtin "sum") (zhP X.K):=by
 intro pins s σ H xs us Q I r h
 obtain ⟨p,ns,rfl,hl,q⟩:=h
 obtain ⟨u,rfl,ru⟩:=r.one
 cases ru
 obtain ⟨its,rv,pl,_⟩:=I.list hl
 have l:=rv.length
 rw [List.length_map] at l
 obtain ⟨o,n,e,_⟩:=id pl
 have hlt:=Heap.lt_size e
 have hne:p≠s.heap.objs.size:=Nat.ne_of_lt hlt
 refine call_sum_walkG (wpAny_pyIter_list pl.isList ?_)
 refine ⟨s.heap.objs.size,_,_,_,_,_,fun i=>ns.getD i 0,rfl,Walks.list (A:=X.A.in1) (I.ok.hd hc) _ p hne its.toArray,⟨⟨_,Heap.get?_push_size _ rfl,rfl,rfl⟩,?_⟩,fun b hb=>?_,fun i v hv=>zi6 rv hv,fun h' tk t' hk=>⟨.int _,H,I.kept fun b u eb=>?_,⟨t',rfl⟩,?_⟩⟩
 ·exact pl.isList.at fun o e=>Heap.get?_push_of_some _ e
 ·rw [Heap.size_push]
  rcases List.mem_cons.mp hb with z | z
  ·rw [z];exact Nat.lt_succ_self _
  ·have z':b=p:=by simpa using z
   rw [z'];exact Nat.lt_succ_of_lt hlt
 ·exact hk b u (fun z=>Nat.ne_of_lt (Heap.lt_size eb) (by simpa using z)) (Heap.get?_push_of_some _ eb)
 ·rw [List.size_toArray,← l,zht _ _ (Nat.le_refl _),List.take_length]
  exact q
end
end L2
namespace L2
open PySem PySem.Spec PyProof.Rows
def Itz (K:PySem.W.Frag) (p q:Addr):It where
 go:=fun i H=>∃ xs ys a b,SqL K H p xs∧SqL K H q ys∧xs[i]?=some a∧ys[i]?=some b
 yld:=fun i H x H'=>∃ t a b,x=.ref t∧H t=none∧H'=upd H t (.tup [a,b])∧(∀ xs,SqL K H p xs→xs[i]?=some a)∧∀ ys,SqL K H q ys→ys[i]?=some b
 stop:=fun i H=>∃ xs ys,SqL K H p xs∧SqL K H q ys∧i=min xs.length ys.length
def tnZ (z TI TO i1 i2 p q:Addr) (i:Nat) (h:Heap):Prop:=IsZip h z TI TO .none∧IsPair h TI (.ref i1) (.ref i2)∧(∃ a b,IsPair h TO a b)∧h.IsListIter i1 p i∧h.IsListIter i2 q i
theorem zms {z TI TO i1 i2 p q:Addr} {i:Nat} {h h':Heap} (st:tnZ z TI TO i1 i2 p q i h) (k:∀ b∈[z,TI,TO,i1,i2],∀ o,h.get? b=some o→h'.get? b=some o):tnZ z TI TO i1 i2 p q i h':=by
 obtain ⟨a1,a2,⟨x,y,a3⟩,a4,a5⟩:=st
 exact ⟨k z (by simp) _ a1,k TI (by simp) _ a2,⟨x,y,k TO (by simp) _ a3⟩,a4.at fun o e=>k i1 (by simp) o e,a5.at fun o e=>k i2 (by simp) o e⟩
theorem zcr {o:Obj} {vs:Array Value} (h:o.data=.fields vs):∀ v,o.data≠.cell v:=fun v z=>by rw [h] at z;cases z
theorem zl8 {P:Program} {w:World} {K:PySem.W.Frag} {elts:List Expr} {k:Nat} {pos:Pos} {z TI TO i1 i2 p q:Addr} (D:ZipApart z TI TO i1 i2 p q):zpj P w K (.Tuple elts k pos) (Itz K p q) [z,TI,TO,i1,i2] z (tnZ z TI TO i1 i2 p q) where
 mem:=by simp
 obj:=fun i h st b hb=>by
  obtain ⟨a1,a2,⟨x,y,a3⟩,⟨o4,a4,_,d4⟩,⟨o5,a5,_,d5⟩⟩:=st
  simp only [List.mem_cons,List.not_mem_nil,or_false] at hb
  rcases hb with rfl | rfl | rfl | rfl | rfl
  ·exact ⟨_,a1,zcr rfl⟩
  ·exact ⟨_,a2,fun v z=>nomatch (show Data.seq _ _=Data.cell v from z)⟩
  ·exact ⟨_,a3,fun v z=>nomatch (show Data.seq _ _=Data.cell v from z)⟩
  ·exact ⟨_,a4,zcr d4⟩
  ·exact ⟨_,a5,zcr d5⟩
 keep:=fun i h h' st kk=>zms st kk
 item:=by
  intro X hP hw hK hc i pins s σ H E I hf st hg
  subst hP hw hK
  obtain ⟨xs,ys,a,b,hx,hy,ea,eb⟩:=hg
  obtain ⟨its1,r1,pl1,z1⟩:=I.list hx
  obtain ⟨its2,r2,pl2,z2⟩:=I.list hy
  obtain ⟨ua,eua,rua⟩:=r1.get ea
  obtain ⟨ub,eub,rub⟩:=r2.get eb
  obtain ⟨s1,s2,s3,s4,s5⟩:=st
  have W:=WalksT.zip2 (prog:=X.prog) (w:=X.w) (A:=X.A) (I.ok.hd hc) z TI TO i1 i2 p q D its1.toArray its2.toArray
  have hi:i<min its1.toArray.size its2.toArray.size:=by
   have h1:=(List.getElem?_eq_some_iff.mp eua).1
   have h2:=(List.getElem?_eq_some_iff.mp eub).1
   simp only [List.size_toArray]
   (first|lia|omega)
  refine W.item i s _ _ hi ⟨s1,s2,s3,s4,s5,pl1.isList,pl2.isList⟩ fun T vals h' tk hp hT hTup mid kk=>⟨_,rfl,?_⟩
  obtain ⟨u,v,e1,e2,rfl⟩:=hp
  have e1':u=ua:=by
   have:its1[i]?=some u:=by simpa using e1
   rw [eua] at this;cases this;rfl
  have e2':v=ub:=by
   have:its2[i]?=some v:=by simpa using e2
   rw [eub] at this;cases this;rfl
  subst e1' e2'
  refine W.go elts k pos i T { s with heap:=h',toks:=tk } _ _ mid fun h2 st2 kk2=>?_
  obtain ⟨t1,t2,t3,t4,t5,_,_⟩:=st2
  have sub:∀ b∈[z,TO,i1,i2],b∈[z,TI,TO,i1,i2]:=fun b hb=>by
   simp only [List.mem_cons,List.not_mem_nil,or_false] at hb ⊢
   rcases hb with h | h | h | h <;> simp [h]
  have I1:Inv X pins σ H { s with heap:=h2,toks:=tk }:=I.turns (ch:=[z,TO,i1,i2]) (fun b o hb e=>kk2 b o hb (kk b o hb e)) fun b hb=>hf b (sub b hb)
  have nT:H T=none:=I.hok.fresh hT
  have I2:=I1.track (a:=T) (o:=.tup [a,b]) nT (Heap.get?_none_of_le (Nat.le_trans I.sz hT)) (Nat.ne_of_gt (Nat.lt_of_lt_of_le I.lt hT)) (fun x c e=>by
   obtain ⟨v,q⟩:=I.cell x c e
   exact Nat.ne_of_lt (Nat.lt_of_lt_of_le q.lt hT)) (fun p hp=>Nat.ne_of_lt (Nat.lt_of_lt_of_le (Heap.lt_size (I.pin p hp).1) hT)) (by
   refine ⟨by show 2≤sizeLine;decide,[u,v],.cons rua (.cons rub .nil),?_⟩
   obtain ⟨o,ho,hcl,hd⟩:=hTup
   exact ⟨o,kk2 T o (W.apart i T h' mid) ho,hcl,hd⟩)
  refine ⟨.ref T,_,I2,rfl,⟨T,a,b,rfl,nT,rfl,fun xs' h'=>?_,fun ys' h'=>?_⟩,⟨t1,t2,t3,t4,t5⟩,fun b hb=>?_⟩
  ·rw [I.list_inj h' hx];exact ea
  ·rw [I.list_inj h' hy];exact eb
  ·have hb2:∃ o,s.heap.get? b=some o:=by
    obtain ⟨x3,y3,s3⟩:=s3
    obtain ⟨o4,s4,_⟩:=s4
    obtain ⟨o5,s5,_⟩:=s5
    simp only [List.mem_cons,List.not_mem_nil,or_false] at hb
    rcases hb with h | h | h | h | h <;> rw [h] <;> first | exact ⟨_,s1⟩ | exact ⟨_,s2⟩ | exact ⟨_,s3⟩ | exact ⟨_,s4⟩ | exact ⟨_,s5⟩
   obtain ⟨o,e⟩:=hb2
   rw [zam (Nat.ne_of_lt (Nat.lt_of_lt_of_le (Heap.lt_size e) hT))]
   exact (hf b hb).1
 done:=by
  intro X hP hw hK hc i pins s σ H E I hf st hg
  subst hP hw hK
  obtain ⟨xs,ys,hx,hy,rfl⟩:=hg
  obtain ⟨its1,r1,pl1,z1⟩:=I.list hx
  obtain ⟨its2,r2,pl2,z2⟩:=I.list hy
  obtain ⟨s1,s2,s3,s4,s5⟩:=st
  have W:=WalksT.zip2 (prog:=X.prog) (w:=X.w) (A:=X.A) (I.ok.hd hc) z TI TO i1 i2 p q D its1.toArray its2.toArray
  have sub:∀ b∈[z,TO,i1,i2],b∈[z,TI,TO,i1,i2]:=fun b hb=>by
   simp only [List.mem_cons,List.not_mem_nil,or_false] at hb ⊢
   rcases hb with h | h | h | h <;> simp [h]
  refine W.done s _ _ ?_ fun h' tk kk=>⟨rfl,I.turns (ch:=[z,TO,i1,i2]) (fun b o hb e=>kk b o hb e) fun b hb=>hf b (sub b hb)⟩
  rw [List.size_toArray,List.size_toArray,← r1.length,← r2.length]
  exact ⟨s1,s2,s3,s4,s5,pl1.isList,pl2.isList⟩
 self:=fun A i s Q E st h=>wpAny_pyIter_zip st.1 h
def iZip (K:PySem.W.Frag) (ta:TA):TI:=fun σ H R=>ta σ H fun vs H1=>∃ p q,vs=[.ref p,.ref q]∧(∃ xs,SqL K H1 p xs)∧(∃ ys,SqL K H1 q ys)∧R (Itz K p q) H1
theorem znh {X:Cx} {a b:Expr} {elts:List Expr} {k:Nat} {tp p pos:Pos} {ta:TA} (hg:Gl X "zip") (hm:X.mg "zip"=none) (ha:PA X [a,b] ta) (hs:starEach [a,b] X.env=[(false,eval a X.env),(false,eval b X.env)]:=by rfl) (hs2:starEach [b] X.env=[(false,eval b X.env)]:=by rfl) :
  PI X (.Tuple elts k tp) (.Call (.Name "zip" p) [a,b] [] pos) (iZip X.K ta):=by
 intro pins s σ H R I h
 refine Call_ (zfT I hg hm boot_zip (PyProof.Rows.callWith_type1 (thn (ha pos pins s σ H _ I h) fun us s1 hQ'=>?_) (by rw [hs,hs2]) (by rw [hs2];rfl)))
 obtain ⟨vs,H1,I1,r1,q1⟩:=hQ'
 obtain ⟨p1,p2,rfl,⟨xs,hx⟩,⟨ys,hy⟩,q⟩:=q1
 obtain ⟨u,v,rfl,ru,rv⟩:=zpG r1
 cases ru
 cases rv
 obtain ⟨its1,_,pl1,_⟩:=I1.list hx
 obtain ⟨its2,_,pl2,_⟩:=I1.list hy
 have a1:p1<s1.heap.objs.size:=by obtain ⟨_,e,_⟩:=pl1.isList;exact Heap.lt_size e
 have a2:p2<s1.heap.objs.size:=by obtain ⟨_,e,_⟩:=pl2.isList;exact Heap.lt_size e
 refine call_zip_2 pl1.isList pl2.isList fun h' hz hTI hTO hi1 hi2 hsz hk=>?_
 refine wpAny_pyIter_zip hz ?_
 refine ⟨_,_,_,_,H1,rfl,I1.kept (t':=s1.toks) hk,zl8 (zipApart_new a1 a2),⟨hz,hTI,⟨_,_,hTO⟩,hi1,hi2⟩,fun b hb=>?_,q⟩
 have hb':s1.heap.objs.size≤b:=by
  simp only [List.mem_cons,List.not_mem_nil,or_false] at hb
  rcases hb with h | h | h | h | h <;> rw [h] <;> first | exact Nat.le_refl _ | exact Nat.le_add_right _ _
 exact I1.fpOk hb' (I1.hok.fresh hb')
theorem zmv {K:PySem.W.Frag} {p q:Addr} {xs zs:List V} {g:TG} {tt:TT} {te:TE} {σ:St} {H:Hp} {D:Addr} {Q:VK} (Pv:Nat→List V→St→Hp→Prop) (h0:Pv 0 [] σ (upd H D (.lst [])))
  (hl:∀ i ys σ H,i≤min xs.length zs.length→Pv i ys σ H→SqL K H p xs∧SqL K H q zs)
  (hs:∀ i x z t ys σ H,xs[i]?=some x→zs[i]?=some z→H D=some (.lst ys)→Pv i ys σ H→H t=none→g (.ref t) σ (upd H t (.tup [x,z])) fun σ2 H2=>tt σ2 H2 fun b H3=>if b=true then te σ2 H3 fun y H4=>zbW (.ref D) [y] H4 fun _ H5=>∃ ys,H5 D=some (.lst ys)∧Pv (i+1) ys σ2 H5 else ∃ ys,H3 D=some (.lst ys)∧Pv (i+1) ys σ2 H3)
  (hd:∀ ys σ H,H D=some (.lst ys)→Pv (min xs.length zs.length) ys σ H→Q (.ref D) H) :
  ∃ W:Nat→Nat→St→Hp→Prop,(∃ m,W 0 m σ (upd H D (.lst [])))∧∀ i m σc Hc,W i m σc Hc →
   ((Itz K p q).stop i Hc∧Q (.ref D) Hc)∨((Itz K p q).go i Hc∧∃ N:St→Hp→Prop,(∀ σ' H',N σ' H'→∃ m',m'<m∧W (i+1) m' σ' H')∧∀ x H',(Itz K p q).yld i Hc x H'→g x σc H' fun σ2 H2=>tt σ2 H2 fun b H3=>if b=true then te σ2 H3 fun y H4=>zbW (.ref D) [y] H4 fun _ H5=>N σ2 H5 else N σ2 H3):=by
 refine ⟨fun i m σ H=>m=min xs.length zs.length - i∧i≤min xs.length zs.length∧∃ ys,H D=some (.lst ys)∧Pv i ys σ H,⟨_,rfl,Nat.zero_le _,[],zaf,h0⟩,?_⟩
 rintro i m σ H ⟨rfl,hi,ys,hD,pv⟩
 obtain ⟨hx,hz⟩:=hl i ys σ H hi pv
 by_cases hlt:i<min xs.length zs.length
 ·have l1:i<xs.length:=by (first|lia|omega)
  have l2:i<zs.length:=by (first|lia|omega)
  refine .inr ⟨⟨xs,zs,xs[i],zs[i],hx,hz,by simp [l1],by simp [l2]⟩,fun σ H=>∃ ys,H D=some (.lst ys)∧Pv (i+1) ys σ H,fun σ' H' p'=>⟨_,by (first|lia|omega),rfl,hlt,p'⟩,fun x H' yl=>?_⟩
  obtain ⟨t,a,b,rfl,ht,rfl,e1,e2⟩:=yl
  exact hs i a b t ys σ H (e1 xs hx) (e2 zs hz) hD pv ht
 ·have e:i=min xs.length zs.length:=by (first|lia|omega)
  subst e
  exact .inl ⟨⟨xs,zs,hx,hz,rfl⟩,hd ys σ H hD pv⟩
end L2
namespace L2
open PySem PySem.Spec PyProof.Rows
inductive Tr where
 | int (i:Int)
 | bl (b:Bool)
 | str (x:Str)
 | non
 | lst (l:List Tr)
 | tup (l:List Tr)
inductive zdY (K:PySem.W.Frag) (H:Hp):Nat→Tr→V→Prop where
 | int {n:Nat} (i:Int):zdY K H n (.int i) (.int i)
 | bl {n:Nat} (b:Bool):zdY K H n (.bl b) (.bl b)
 | str {n:Nat} (x:Str):zdY K H n (.str x) (.str x)
 | non {n:Nat}:zdY K H n .non .non
 | lst {n:Nat} {p:Addr} {xs:List V} {ts:List Tr} (h:SqL K H p xs) (l:xs.length=ts.length) (e:∀ (i:Nat) x t,xs[i]?=some x→ts[i]?=some t→zdY K H n t x):zdY K H (n+1) (.lst ts) (.ref p)
 | tup {n:Nat} {p:Addr} {xs:List V} {ts:List Tr} (h:SqT K H p xs) (l:xs.length=ts.length) (e:∀ (i:Nat) x t,xs[i]?=some x→ts[i]?=some t→zdY K H n t x):zdY K H (n+1) (.tup ts) (.ref p)
section
variable {X:Cx} {pins:List (Addr×Obj)} {σ:St} {H:Hp} {s:Shared}
theorem zga {A:Around} {n:Nat} {xs ys:List V} {ts:List Tr} {us vs:List Value} (lx:xs.length=ts.length) (ly:ys.length=ts.length) (r1:zbU xs us) (r2:zbU ys vs)
  (ih:∀ (i:Nat) x t,xs[i]?=some x→ts[i]?=some t→∀ y,zdY X.K H n t y→∀ (u v:Value) (A:Around),zb5 x u→zb5 y v→A.units+n<cLine→SeqAt.EqAt A s u v true)
  (ey:∀ (i:Nat) y t,ys[i]?=some y→ts[i]?=some t→zdY X.K H n t y) (hu:A.units+(n+1)<cLine) :
  ∀ j (h1:j<us.toArray.size) (h2:j<vs.toArray.size),SeqAt.EqAt A.in1 s us.toArray[j] vs.toArray[j] true:=by
 intro j h1 h2
 have k1:j<xs.length:=by rw [r1.length];simpa using h1
 have k2:j<ys.length:=by rw [r2.length];simpa using h2
 have k3:j<ts.length:=by (first|lia|omega)
 obtain ⟨u,e1,ru⟩:=r1.get (List.getElem?_eq_getElem k1)
 obtain ⟨v,e2,rv⟩:=r2.get (List.getElem?_eq_getElem k2)
 have q1:us.toArray[j]=u:=by
  have:=(List.getElem?_eq_some_iff.mp e1).2
  simpa using this
 have q2:vs.toArray[j]=v:=by
  have:=(List.getElem?_eq_some_iff.mp e2).2
  simpa using this
 rw [q1,q2]
 exact ih j _ _ (List.getElem?_eq_getElem k1) (List.getElem?_eq_getElem k3) _ (ey j _ _ (List.getElem?_eq_getElem k2) (List.getElem?_eq_getElem k3)) u v A.in1 ru rv (by show A.units+1+n<cLine;(first|lia|omega))
theorem zgf (n:Nat):(List.range n).all (fun _=>true)=true:=by simp
theorem zk4 (I:Inv X pins σ H s) {n:Nat} {t:Tr} {x:V} (hx:zdY X.K H n t x):∀ y,zdY X.K H n t y→∀ (u v:Value) (A:Around),zb5 x u→zb5 y v→A.units+n<cLine→SeqAt.EqAt A s u v true:=by
 induction hx with
 | int i =>
  intro y hy u v A ru rv hu
  cases hy
  obtain ⟨a,rfl⟩:=ru
  obtain ⟨b,rfl⟩:=rv
  have:=SeqAt.EqAt.int_int (A:=A) (s:=s) i a i b
  rw [beq_self_eq_true] at this
  exact this
 | bl b =>
  intro y hy u v A ru rv hu
  cases hy
  cases ru
  cases rv
  exact SeqAt.EqAt.same _
 | str x =>
  intro y hy u v A ru rv hu
  cases hy
  obtain ⟨a,rfl⟩:=ru
  obtain ⟨b,rfl⟩:=rv
  have:=SeqAt.EqAt.str_str (A:=A) (s:=s) x a x b
  rw [beq_self_eq_true] at this
  exact this
 | non =>
  intro y hy u v A ru rv hu
  cases hy
  cases ru
  cases rv
  exact SeqAt.EqAt.same _
 | @lst n p xs ts h l e ih =>
  intro y hy u v A ru rv hu
  cases hy with
  | @lst _ q ys _ h2 l2 e2 =>
   cases ru
   cases rv
   by_cases hpq:p=q
   ·subst hpq
    exact SeqAt.EqAt.same _
   ·obtain ⟨us,r1,p1,_⟩:=I.list h
    obtain ⟨vs,r2,p2,_⟩:=I.list h2
    have z:=SeqAt.RcAt.lists (A:=A) p1.isList p2.isList (by rw [List.size_toArray,List.size_toArray,← r1.length,← r2.length,l,l2]) (by (first|lia|omega)) (e:=fun _=>true) (zga l l2 r1 r2 ih e2 hu)
    rw [zgf] at z
    exact SeqAt.EqAt.of_refs hpq z
 | @tup n p xs ts h l e ih =>
  intro y hy u v A ru rv hu
  cases hy with
  | @tup _ q ys _ h2 l2 e2 =>
   cases ru
   cases rv
   by_cases hpq:p=q
   ·subst hpq
    exact SeqAt.EqAt.same _
   ·obtain ⟨us,r1,p1,_⟩:=I.tuple h
    obtain ⟨vs,r2,p2,_⟩:=I.tuple h2
    have z:=SeqAt.RcAt.tuples (A:=A) p1 p2 (by (first|lia|omega)) (e:=fun _=>true) (zga l l2 r1 r2 ih e2 hu)
    rw [zgf,List.size_toArray,List.size_toArray,← r1.length,← r2.length,l,l2,beq_self_eq_true,Bool.and_self] at z
    exact SeqAt.EqAt.of_refs hpq z
def zlE (K:PySem.W.Frag):R2:=fun x y H Q=>∃ n ts,n≤60∧(zdY K H (n+1) (.lst ts) x∧zdY K H (n+1) (.lst ts) y∨zdY K H (n+1) (.tup ts) x∧zdY K H (n+1) (.tup ts) y)∧Q (.bl false) H
theorem zjA (hu:X.A.units+64<cLine):OpR X (compareOp .NotEq) (zlE X.K):=by
 intro pins s σ H x y v u Q I rx ry h
 obtain ⟨n,ts,hn,h,q⟩:=h
 have hu':X.A.units+(n+1)<cLine:=by (first|lia|omega)
 rcases h with ⟨h1,h2⟩ | ⟨h1,h2⟩
 ·cases h1 with
  | @lst _ p xs _ a1 a2 a3 =>
   cases h2 with
   | @lst _ p' ys _ b1 b2 b3 =>
    cases rx
    cases ry
    obtain ⟨us,r1,p1,_⟩:=I.list a1
    obtain ⟨vs,r2,p2,_⟩:=I.list b1
    have z:=SeqAt.RcNeAt.lists (A:=X.A) p1.isList p2.isList (by rw [List.size_toArray,List.size_toArray,← r1.length,← r2.length,a2,b2]) (by (first|lia|omega)) (e:=fun _=>true) (zga a2 b2 r1 r2 (fun i x t e1 e2=>zk4 I (a3 i x t e1 e2)) b3 hu')
    rw [zgf] at z
    exact z X.prog X.w X.xe _ ⟨.bl false,H,I,rfl,q⟩
 ·cases h1 with
  | @tup _ p xs _ a1 a2 a3 =>
   cases h2 with
   | @tup _ p' ys _ b1 b2 b3 =>
    cases rx
    cases ry
    obtain ⟨us,r1,p1,_⟩:=I.tuple a1
    obtain ⟨vs,r2,p2,_⟩:=I.tuple b1
    have z:=SeqAt.RcNeAt.tuples (A:=X.A) p1 p2 (by (first|lia|omega)) (e:=fun _=>true) (zga a2 b2 r1 r2 (fun i x t e1 e2=>zk4 I (a3 i x t e1 e2)) b3 hu')
    rw [zgf,List.size_toArray,List.size_toArray,← r1.length,← r2.length,a2,b2,beq_self_eq_true,Bool.and_self] at z
    exact z X.prog X.w X.xe _ ⟨.bl false,H,I,rfl,q⟩
end
end L2
namespace L2
open PySem PySem.Spec PyProof.Rows
section
variable {X:Cx}
end
def zgu (J:It) (g:TG) (tt:TT) (te:TE) (D:Addr) (Q:VK) (σ:St) (H:Hp):Prop:=∃ W:Nat→Nat→St→Hp→Prop,(∃ m,W 0 m σ H)∧∀ i m σc Hc,W i m σc Hc →
 (J.stop i Hc∧Q (.ref D) Hc)∨(J.go i Hc∧∃ N:St→Hp→Prop,(∀ σ' H',N σ' H'→∃ m',m'<m∧W (i+1) m' σ' H')∧∀ x H',J.yld i Hc x H'→g x σc H' fun σ2 H2=>tt σ2 H2 fun b H3=>if b=true then te σ2 H3 fun y H4=>zbW (.ref D) [y] H4 fun _ H5=>N σ2 H5 else N σ2 H3)
theorem zmI {wi:TI} {g:TG} {tt:TT} {te:TE} {cap:List (Option Nat)} {σ:St} {H:Hp} {Q:VK}:zbH wi g tt te cap σ H Q=wi σ H fun J H1=>∀ D,H1 D=none→zgu J g tt te D Q (zme cap σ) (upd H1 D (.lst [])):=rfl
theorem zcF {K:PySem.W.Frag} {a:Addr} {xs:List V} {g:TG} {tt:TT} {te:TE} {σ:St} {H:Hp} {D:Addr} {Q:VK} (Pv:Nat→List V→St→Hp→Prop) (h0:Pv 0 [] σ (upd H D (.lst []))) (hl:∀ i ys σ H,i≤xs.length→Pv i ys σ H→SqL K H a xs)
  (hs:∀ i x ys σ H,xs[i]?=some x→H D=some (.lst ys)→Pv i ys σ H→g x σ H fun σ2 H2=>tt σ2 H2 fun b H3=>if b=true then te σ2 H3 fun y H4=>zbW (.ref D) [y] H4 fun _ H5=>∃ ys,H5 D=some (.lst ys)∧Pv (i+1) ys σ2 H5 else ∃ ys,H3 D=some (.lst ys)∧Pv (i+1) ys σ2 H3)
  (hd:∀ ys σ H,H D=some (.lst ys)→Pv xs.length ys σ H→Q (.ref D) H):zgu (Itl K a) g tt te D Q σ (upd H D (.lst [])):=zla Pv h0 hl hs hd
theorem zbK {lo:Int} {n:Nat} {g:TG} {tt:TT} {te:TE} {σ:St} {H:Hp} {D:Addr} {Q:VK} (Pv:Nat→List V→St→Hp→Prop) (h0:Pv 0 [] σ (upd H D (.lst [])))
  (hs:∀ i ys σ H,i<n→H D=some (.lst ys)→Pv i ys σ H→g (.int (lo+i)) σ H fun σ2 H2=>tt σ2 H2 fun b H3=>if b=true then te σ2 H3 fun y H4=>zbW (.ref D) [y] H4 fun _ H5=>∃ ys,H5 D=some (.lst ys)∧Pv (i+1) ys σ2 H5 else ∃ ys,H3 D=some (.lst ys)∧Pv (i+1) ys σ2 H3)
  (hd:∀ ys σ H,H D=some (.lst ys)→Pv n ys σ H→Q (.ref D) H):zgu (Itr lo n) g tt te D Q σ (upd H D (.lst [])):=zjW Pv h0 hs hd
theorem zk3 {K:PySem.W.Frag} {p q:Addr} {xs zs:List V} {g:TG} {tt:TT} {te:TE} {σ:St} {H:Hp} {D:Addr} {Q:VK} (Pv:Nat→List V→St→Hp→Prop) (h0:Pv 0 [] σ (upd H D (.lst [])))
  (hl:∀ i ys σ H,i≤min xs.length zs.length→Pv i ys σ H→SqL K H p xs∧SqL K H q zs)
  (hs:∀ i x z t ys σ H,xs[i]?=some x→zs[i]?=some z→H D=some (.lst ys)→Pv i ys σ H→H t=none→g (.ref t) σ (upd H t (.tup [x,z])) fun σ2 H2=>tt σ2 H2 fun b H3=>if b=true then te σ2 H3 fun y H4=>zbW (.ref D) [y] H4 fun _ H5=>∃ ys,H5 D=some (.lst ys)∧Pv (i+1) ys σ2 H5 else ∃ ys,H3 D=some (.lst ys)∧Pv (i+1) ys σ2 H3)
  (hd:∀ ys σ H,H D=some (.lst ys)→Pv (min xs.length zs.length) ys σ H→Q (.ref D) H):zgu (Itz K p q) g tt te D Q σ (upd H D (.lst [])):=zmv Pv h0 hl hs hd
end L2
namespace L2
open PySem PySem.Spec PyProof.Rows
section
variable {X:Cx}
def zl2 (K:PySem.W.Frag):List V→Hp→VK→Prop:=fun xs H Q=>∃ (p:Addr) (ns:List Int),xs=[.ref p]∧SqL K H p (ns.map V.int)∧0<ns.length∧∀ m,m∈ns→(∀ a∈ns,m≤a)→Q (.int m) H
theorem zoe {ns:List Int} {i:Nat} (h:i<ns.length):ns.getD i 0∈ns:=by
 rw [zle h]
 exact List.getElem_mem h
theorem znR {ns:List Int} {a:Int} (h:a∈ns):∃ i,i<ns.length∧a=ns.getD i 0:=by
 obtain ⟨i,hi,e⟩:=List.getElem_of_mem h
 exact ⟨i,hi,by rw [zle hi,e]⟩
theorem ziR (hc:X.calm=true):zhb X (.builtin "min") (zl2 X.K):=by
 intro pins s σ H xs us Q I r h
 obtain ⟨p,ns,rfl,hl,hn,q⟩:=h
 obtain ⟨u,rfl,ru⟩:=r.one
 cases ru
 obtain ⟨its,rv,pl,_⟩:=I.list hl
 have l:=rv.length
 rw [List.length_map] at l
 obtain ⟨o,n,e,_⟩:=id pl
 have hlt:=Heap.lt_size e
 have hne:p≠s.heap.objs.size:=Nat.ne_of_lt hlt
 refine call_min_walk (wpAny_pyIter_list pl.isList ?_)
 refine ⟨s.heap.objs.size,_,_,_,_,_,_,rfl,Walks.list (A:=X.A.in1) (I.ok.hd hc) _ p hne its.toArray,⟨⟨_,Heap.get?_push_size _ rfl,rfl,rfl⟩,?_⟩,fun b hb=>?_,by rw [List.size_toArray];(first|lia|omega),CmpOf.ints_lt (fun i=>ns.getD i 0) (fun i v hv=>zi6 rv hv),fun v h' tk hv hk=>?_⟩
 ·exact pl.isList.at fun o e=>Heap.get?_push_of_some _ e
 ·rw [Heap.size_push]
  rcases List.mem_cons.mp hb with z | z
  ·rw [z];exact Nat.lt_succ_self _
  ·have z':b=p:=by simpa using z
   rw [z'];exact Nat.lt_succ_of_lt hlt
 ·obtain ⟨t,rfl⟩:=zi6 rv hv
  obtain ⟨b1,b2⟩:=argBest_lt (fun i=>ns.getD i 0) (its.toArray.size - 1)
  rw [List.size_toArray] at b1 b2
  refine ⟨.int _,H,I.kept fun b u eb=>hk b u (fun z=>Nat.ne_of_lt (Heap.lt_size eb) (by simpa using z)) (Heap.get?_push_of_some _ eb),⟨t,rfl⟩,q _ (zoe (by rw [List.size_toArray];(first|lia|omega))) fun a ha=>?_⟩
  obtain ⟨j,hj,rfl⟩:=znR ha
  exact b2 j (by (first|lia|omega))
end
end L2
namespace L2
open PySem PySem.Spec PyProof.Rows
theorem zmD:bootBuiltins "enumerate"=some (.type "enumerate"):=by decide +kernel
def Ite (K:PySem.W.Frag) (p:Addr):It where
 go:=fun i H=>∃ xs a,SqL K H p xs∧xs[i]?=some a
 yld:=fun i H x H'=>∃ t a,x=.ref t∧H t=none∧H'=upd H t (.tup [.int (i:Int),a])∧∀ xs,SqL K H p xs→xs[i]?=some a
 stop:=fun i H=>∃ xs,SqL K H p xs∧i=xs.length
def tnE (e it p:Addr) (i:Nat) (h:Heap):Prop:=(∃ old,IsEnum h e it i old)∧h.IsListIter it p i
theorem ziE {e it p:Addr} {i:Nat} {h:Heap} (st:tnE e it p i h):∀ b∈[e,it],∃ o,h.get? b=some o∧∀ v,o.data≠.cell v:=fun b hb=>by
 obtain ⟨⟨old,a1⟩,⟨o2,a2,_,d2⟩⟩:=st
 simp only [List.mem_cons,List.not_mem_nil,or_false] at hb
 rcases hb with rfl | rfl
 ·exact ⟨_,a1,zcr rfl⟩
 ·exact ⟨_,a2,zcr d2⟩
theorem zkA {P:Program} {w:World} {K:PySem.W.Frag} {elts:List Expr} {k:Nat} {pos:Pos} {e it p:Addr} (d1:e≠it) (d2:p≠e) (d3:p≠it):zpj P w K (.Tuple elts k pos) (Ite K p) [e,it] e (tnE e it p) where
 mem:=by simp
 obj:=fun i h st=>ziE st
 keep:=fun i h h' st kk=>by
  obtain ⟨⟨old,a1⟩,a2⟩:=st
  exact ⟨⟨old,kk e (by simp) _ a1⟩,a2.at fun o x=>kk it (by simp) o x⟩
 item:=by
  intro X hP hw hK hc i pins s σ H E I hf st hg
  subst hP hw hK
  obtain ⟨xs,a,hx,ea⟩:=hg
  obtain ⟨its,r1,pl1,z1⟩:=I.list hx
  obtain ⟨ua,eua,rua⟩:=r1.get ea
  have there:=ziE st
  obtain ⟨s1,s2⟩:=st
  have W:=WalksT.enumerate (prog:=X.prog) (w:=X.w) (A:=X.A) (I.ok.hd hc) e it p d1 d2 d3 its.toArray
  have hi:i<its.toArray.size:=by
   have h1:=(List.getElem?_eq_some_iff.mp eua).1
   rw [List.size_toArray]
   exact h1
  refine W.item i s _ _ hi ⟨s1,s2,pl1.isList⟩ fun T vals h' tk hp hT hTup mid kk=>⟨_,rfl,?_⟩
  obtain ⟨t,u,e1,rfl⟩:=hp
  have e1':u=ua:=by
   have:its[i]?=some u:=by simpa using e1
   rw [eua] at this;cases this;rfl
  subst e1'
  refine W.go elts k pos i T { s with heap:=h',toks:=tk } _ _ mid fun h2 st2 kk2=>?_
  obtain ⟨t1,t2,_⟩:=st2
  have I1:Inv X pins σ H { s with heap:=h2,toks:=tk }:=I.turns (ch:=[e,it]) (fun b o hb q=>kk2 b o hb (kk b o hb q)) fun b hb=>hf b hb
  have nT:H T=none:=I.hok.fresh hT
  have I2:=I1.track (a:=T) (o:=.tup [.int (i:Int),a]) nT (Heap.get?_none_of_le (Nat.le_trans I.sz hT)) (Nat.ne_of_gt (Nat.lt_of_lt_of_le I.lt hT)) (fun x c q=>by
   obtain ⟨v,z⟩:=I.cell x c q
   exact Nat.ne_of_lt (Nat.lt_of_lt_of_le z.lt hT)) (fun y hy=>Nat.ne_of_lt (Nat.lt_of_lt_of_le (Heap.lt_size (I.pin y hy).1) hT)) (by
   refine ⟨by show 2≤sizeLine;decide,[.int i t,u],.cons ⟨t,rfl⟩ (.cons rua .nil),?_⟩
   obtain ⟨o,ho,hcl,hd⟩:=hTup
   exact ⟨o,kk2 T o (W.apart i T h' mid) ho,hcl,hd⟩)
  refine ⟨.ref T,_,I2,rfl,⟨T,a,rfl,nT,rfl,fun xs' h'=>?_⟩,⟨t1,t2⟩,fun b hb=>?_⟩
  ·rw [I.list_inj h' hx];exact ea
  ·obtain ⟨o,q,_⟩:=there b hb
   rw [zam (Nat.ne_of_lt (Nat.lt_of_lt_of_le (Heap.lt_size q) hT))]
   exact (hf b hb).1
 done:=by
  intro X hP hw hK hc i pins s σ H E I hf st hg
  subst hP hw hK
  obtain ⟨xs,hx,rfl⟩:=hg
  obtain ⟨its,r1,pl1,z1⟩:=I.list hx
  obtain ⟨s1,s2⟩:=st
  have W:=WalksT.enumerate (prog:=X.prog) (w:=X.w) (A:=X.A) (I.ok.hd hc) e it p d1 d2 d3 its.toArray
  refine W.done s _ _ ?_ fun h' tk kk=>⟨rfl,I.turns (ch:=[e,it]) (fun b o hb q=>kk b o hb q) fun b hb=>hf b hb⟩
  rw [List.size_toArray,← r1.length]
  exact ⟨s1,s2,pl1.isList⟩
 self:=fun A i s Q E st h=>by
  obtain ⟨⟨old,a1⟩,_⟩:=st
  exact wpAny_pyIter_enum a1 h
def zj4 (K:PySem.W.Frag) (ta:TA):TI:=fun σ H R=>ta σ H fun vs H1=>∃ p,vs=[.ref p]∧(∃ xs,SqL K H1 p xs)∧R (Ite K p) H1
theorem zhZ {X:Cx} {a:Expr} {elts:List Expr} {k:Nat} {tp p pos:Pos} {ta:TA} (hg:Gl X "enumerate") (hm:X.mg "enumerate"=none) (ha:PA X [a] ta) (hs:starEach [a] X.env=[(false,eval a X.env)]:=by rfl) :
  PI X (.Tuple elts k tp) (.Call (.Name "enumerate" p) [a] [] pos) (zj4 X.K ta):=by
 intro pins s σ H R I h
 refine Call_ (zfT I hg hm zmD (PyProof.Rows.callWith_type1 (thn (ha pos pins s σ H _ I h) fun us s1 hQ'=>?_) (by rw [hs];rfl) rfl))
 obtain ⟨vs,H1,I1,r1,q1⟩:=hQ'
 obtain ⟨p1,rfl,⟨xs,hx⟩,q⟩:=q1
 obtain ⟨u,rfl,ru⟩:=r1.one
 cases ru
 obtain ⟨its,_,pl1,_⟩:=I1.list hx
 have a1:p1<s1.heap.objs.size:=by obtain ⟨_,e,_⟩:=pl1.isList;exact Heap.lt_size e
 refine call_enumerate_list pl1.isList fun h' he hi hsz hk=>?_
 refine wpAny_pyIter_enum he ?_
 refine ⟨_,_,_,_,H1,rfl,I1.kept (t':=s1.toks) hk,zkA (Nat.succ_ne_self _) (Nat.ne_of_lt (Nat.lt_succ_of_lt a1)) (Nat.ne_of_lt a1),⟨⟨_,he⟩,hi⟩,fun b hb=>?_,q⟩
 have hb':s1.heap.objs.size≤b:=by
  simp only [List.mem_cons,List.not_mem_nil,or_false] at hb
  rcases hb with h | h <;> rw [h] <;> first | exact Nat.le_refl _ | exact Nat.le_add_right _ _
 exact I1.fpOk hb' (I1.hok.fresh hb')
theorem zfc {K:PySem.W.Frag} {p:Addr} {xs:List V} {g:TG} {tb:TS} {D:zce} {σ:St} {H:Hp} (Pv:Nat→St→Hp→Prop) (h0:Pv 0 σ H) (hl:∀ i σ H,i≤xs.length→Pv i σ H→SqL K H p xs)
  (hs:∀ i x t σ H,xs[i]?=some x→Pv i σ H→H t=none→g (.ref t) σ (upd H t (.tup [.int (i:Int),x])) fun σ2 H2=>tb { D with nx:=Pv (i+1),ct:=Pv (i+1),bk:=D.nx } σ2 H2) (hd:∀ σ H,Pv xs.length σ H→D.nx σ H):zmt (Ite K p) g tb D σ H:=by
 refine ⟨fun i m σ H=>m=xs.length - i∧i≤xs.length∧Pv i σ H,⟨_,rfl,Nat.zero_le _,h0⟩,?_⟩
 rintro i m σ H ⟨rfl,hi,pv⟩
 have hx:=hl i σ H hi pv
 by_cases hlt:i<xs.length
 ·refine .inr ⟨⟨xs,xs[i],hx,by simp [hlt]⟩,Pv (i+1),fun σ' H' p'=>⟨_,by (first|lia|omega),rfl,hlt,p'⟩,fun x H' yl=>?_⟩
  obtain ⟨t,a,rfl,ht,rfl,e1⟩:=yl
  exact hs i a t σ H (e1 xs hx) pv ht
 ·have e:i=xs.length:=by (first|lia|omega)
  subst e
  exact .inl ⟨⟨xs,hx,rfl⟩,hd σ H pv⟩
end L2
namespace L2
open PySem PySem.Spec PyProof.Rows
def znT (ta:TA):TE:=fun σ H Q=>ta σ H fun vs H1=>∃ j:Int,vs=[.int j]∧-(2 ^ 62)≤j∧j<2 ^ 62∧∀ p,H1 p=none→Q (.ref p) (upd H1 p (.rng 0 j))
def zid:List V→Hp→VK→Prop:=fun xs H Q=>∃ (p:Addr) (i j:Int),xs=[.ref p]∧H p=some (.rng i j)∧(-(2 ^ 62)≤i∧i<2 ^ 62∧-(2 ^ 62)≤j∧j<2 ^ 62)∧j - i≤1000∧∀ l,H l=none→Q (.ref l) (upd H l (.lst ((List.range (j - i).toNat).map fun k:Nat=>V.int (i+(k:Int)))))
section
variable {X:Cx}
theorem zmq {pins:List (Addr×Obj)} {σ:St} {H:Hp} {s:Shared} {lo hi:Int} {t u v:Tok} {tk:Nat} {Q:VK} (I:Inv X pins σ H s) (q:∀ p,H p=none→Q (.ref p) (upd H p (.rng lo hi))) :
  EP X pins σ Q (.ref s.heap.objs.size) { s with heap:=s.heap.push { cls:=.type "range",data:=.fields #[.int lo t,.int hi u,.int 1 v] },toks:=tk } :=
 ⟨.ref s.heap.objs.size,_,I.laid (a:=s.heap.objs.size) (o:=.rng lo hi) (t':=tk) (fun _ _ q=>Heap.get?_push_of_some _ q) (Nat.le_refl _) (show zcZ X.prog X.w _ _ _ (.rng lo hi) from ⟨t,u,v,Heap.get?_push_size _ rfl⟩),rfl,q _ (I.hok.fresh (Nat.le_refl _))⟩
theorem zoa {a:Expr} {ta:TA} {p pos:Pos} (hg:Gl X "range") (hm:X.mg "range"=none) (ha:PA X [a] ta) (hs:starEach [a] X.env=[(false,eval a X.env)]:=by rfl):PE X (.Call (.Name "range" p) [a] [] pos) (znT ta):=by
 intro pins s σ H Q I h
 refine Call_ (zfT I hg hm boot_range (PyProof.Rows.callWith_type1 (thn (ha pos pins s σ H _ I h) fun us s1 hQ'=>?_) hs rfl))
 obtain ⟨vs,H1,I1,r1,q1⟩:=hQ'
 obtain ⟨j,e,q1,q2,q⟩:=q1
 subst e
 cases r1 with
 | cons r rr =>
  cases rr
  obtain ⟨t,rfl⟩:=r
  exact call_range_1 (zmq I1 q)
theorem zlA:∀ {xs:List V} {us:List Value},xs.length=us.length→(∀ (j:Nat) x u,xs[j]?=some x→us[j]?=some u→zb5 x u)→zbU xs us
 | [],[],_,_=>.nil
 | [],_::_,h,_=>by simp at h
 | _::_,[],h,_=>by simp at h
 | x::xs,u::us,h,r=>.cons (r 0 x u rfl rfl) (zlA (by simpa using h) fun j y v e1 e2=>r (j+1) y v e1 e2)
theorem zkd {lo:Int} {acc:Array Value} {n:Nat} (h:ItemsOf (fun i v=>∃ t,v=.int (lo+i*1) t) acc n):zbU ((List.range n).map fun k:Nat=>V.int (lo+(k:Int))) acc.toList:=by
 refine zlA (by rw [List.length_map,List.length_range,Array.length_toList,h.1]) fun j x u e1 e2=>?_
 rw [List.getElem?_map,Option.map_eq_some_iff] at e1
 obtain ⟨k,hk,rfl⟩:=e1
 obtain ⟨l1,l2⟩:=List.getElem?_eq_some_iff.mp hk
 rw [List.getElem_range] at l2
 subst l2
 obtain ⟨t,rfl⟩:=h.2 j u (by rw [← Array.getElem?_toList];exact e2)
 exact ⟨t,by rw [Int.mul_one]⟩
theorem zhU (hc:X.calm=true):zhb X (.type "list") zid:=by
 intro pins s σ H xs us Q I r h
 obtain ⟨p,i,j,rfl,hp,⟨h1,h2,h3,h4⟩,hl,q⟩:=h
 obtain ⟨u,rfl,rx⟩:=zkH r
 cases rx
 obtain ⟨t,u,v,e⟩:=(show zcZ X.prog X.w H s.heap p (.rng i j) from I.hok p _ hp)
 refine call_list_range (n:=(j - i).toNat) (I.ok.hd hc) e (small_one h1 h2 h3 h4) (by rw [rangeSize_one];split <;> (first|lia|omega)) (by (first|lia|omega)) fun h' tk acc c' kp e' it=>?_
 exact ⟨.ref s.heap.objs.size,_,I.laid (t':=tk) kp (Nat.le_refl _) (show zcZ X.prog X.w _ h' _ (.lst _) from ⟨by simp [sizeLine_eq];(first|lia|omega),acc.toList,c',zkd it,e'⟩),rfl,q _ (I.hok.fresh (Nat.le_refl _))⟩
end
end L2
namespace L2
open PySem PySem.Spec PyProof.Rows
theorem zfW (K:PySem.W.Frag):PySem.W.kitOne K (.type "bool") (.type "int")=some true:=by first | rfl | kernel_rfl
theorem zjE {K:PySem.W.Frag} {H:Hp} {Q:VK} {x:V} {t c:String} {b:Bool} (h:zjJ K H x (.type t)) (e:PySem.W.kitOne K (.type t) (.type c)=some b) (q:Q (.bl b) H):zhd K [x,.ty c] H Q:=⟨_,_,_,_,b,rfl,rfl,.of h,e,q⟩
end L2
namespace L2
open PySem PySem.Spec PyProof.Rows
def rNeE (K:PySem.W.Frag):R2:=fun x y H Q=>∃ a b xs,x=.ref a∧y=.ref b∧SqL K H a xs∧SqL K H b []∧Q (.bl (!xs.isEmpty)) H
section
variable {X:Cx}
theorem zpk (hu:X.A.units+64<cLine):OpR X (compareOp .NotEq) (rNeE X.K):=by
 intro pins s σ H x y v u Q I rx ry h
 obtain ⟨a,b,xs,rfl,rfl,ha,hb,q⟩:=h
 cases rx
 cases ry
 obtain ⟨us,r1,p1,_⟩:=I.list ha
 obtain ⟨vs,r2,p2,_⟩:=I.list hb
 cases r2
 cases xs with
 | nil =>
  cases r1
  have z:=SeqAt.RcNeAt.lists (A:=X.A) p1.isList p2.isList rfl (by (first|lia|omega)) (e:=fun _=>true) (fun j h1 h2=>absurd h1 (Nat.not_lt_zero _))
  exact z X.prog X.w X.xe _ ⟨.bl false,H,I,rfl,q⟩
 | cons y ys =>
  have z:=SeqAt.RcNeAt.lists_lengths (A:=X.A) p1.isList p2.isList (by rw [List.size_toArray,List.size_toArray,← r1.length];rfl) (by (first|lia|omega))
  exact z X.prog X.w X.xe _ ⟨.bl true,H,I,rfl,q⟩
end
end L2
namespace L2
open PySem PySem.Spec PyProof.Rows
def ze8 (scope sc:Scope):Scope :=
 { scope with names:=scope.names.map fun (n,k)=>if (k == .free&&sc.kind == .function&&sc.names.lookup n == some .cell) then (n,.cell) else (n,k) }
theorem zpM {X:Cx} {Nc:List Str} {scope:Scope} {cl:List (Str×Addr)} {s:Shared} {H:Hp} {fp:List Addr}:(X.blk Nc scope cl s H fp).env.scope=ze8 scope X.env.scope:=rfl
theorem zgG:∀ (names:List (Str×NameKind)) (n:Addr) (a cl:List (Str×Addr)),cellsFrom n names (a++cl)=cellsFrom n names a++cl
 | [],n,a,cl=>by unfold cellsFrom;rfl
 | (x,k)::r,n,a,cl=>by
  unfold cellsFrom
  split
  ·exact zgG r (n+1) ((x,n)::a) cl
  ·exact zgG r n a cl
theorem zgS:∀ (names:List (Str×NameKind)) (n:Addr) (a:List (Str×Addr)) (x:Str) (c:Addr),(x,c)∈cellsFrom n names a→(x,c)∈a∨(x,NameKind.cell)∈names
 | [],n,a,x,c,h=>by unfold cellsFrom at h;exact .inl h
 | (y,k)::r,n,a,x,c,h=>by
  unfold cellsFrom at h
  split at h
  ·rename_i hk
   rcases zgS r (n+1) ((y,n)::a) x c h with q | q
   ·rcases List.mem_cons.mp q with e | q
    ·cases e
     refine .inr ?_
     have:k=NameKind.cell:=by simpa using hk
     rw [this]
     exact List.mem_cons_self
    ·exact .inl q
   ·exact .inr (List.mem_cons_of_mem _ q)
  ·rcases zgS r n a x c h with q | q
   ·exact .inl q
   ·exact .inr (List.mem_cons_of_mem _ q)
theorem ziN {M:Model} {A:Around} {E:Value→Shared→Prop} {s:Shared} {scope:Scope} {globals:Addr} {cl:List (Str×Addr)} {qual:Str} {outer:Env} {Q:Env→Shared→Prop}
  (hQ:Q (newEnv scope s.heap.objs.size globals (cellsFrom (s.heap.objs.size+1) scope.names []++cl) qual none .none (some outer) builtinsNs) { s with heap:=pushCells (s.heap.push { cls:=.type "dict",data:=.dict #[] }) scope.names }) :
  wpAny M A (newFunctionEnv scope globals cl [] qual none .none (some outer)) Q E s:=by
 simp only [newFunctionEnv,Option.isSome_some,if_true]
 refine wpAny_bind (wpAny_alloc ?_)
 refine wpAny_bind (wpAny_layCells _ (fun name kind cells=>by cases hkc:kind == NameKind.cell <;> simp [hkc]) _ _ _ _ ?_)
 rw [show ({ s with heap:=s.heap.push { cls:=.type "dict",data:=.dict #[] } }:Shared).heap.objs.size=s.heap.objs.size+1 from Heap.size_push ..]
 have e:=zgG scope.names (s.heap.objs.size+1) [] cl
 rw [List.nil_append] at e
 rw [e]
 refine wpAny_bind ?_
 rw [List.forIn_nil]
 exact wpAny_pure (wpAny_pure hQ)
def Cx.blkC (X:Cx) (Nc:List Str) (scope:Scope) (cl:List (Str×Addr)) (s:Shared) (H:Hp) (fp:List Addr):Cx:={ X with
 N:=Nc,s₀:=s,H₀:=H,env:=compEnvC scope (cellsFrom (s.heap.objs.size+1) scope.names []++cl) s.heap.objs.size X.env,outer:=X.stack,stack:=X.stack,ex:=fp,fn:=fun x=>scope.names.lookup x == some .cell,pn:=[],xe:=fun _ _=>False }
theorem zlh {X:Cx} {Nc:List Str} {scope:Scope} {cl:List (Str×Addr)} {s:Shared} {H:Hp} {fp:List Addr}:(X.blkC Nc scope cl s H fp).env.scope=ze8 scope X.env.scope:=rfl
structure zhi (sc:Scope) (N Nc:List Str) (cap:List (Option Nat)) (scope:Scope):Prop where
 kind:scope.kind=.function
 free:∀ y∈scope.names,y.2=.free→sc.names.lookup y.1=some .cell∨sc.names.lookup y.1=some .free
 once:∀ y∈scope.names,scope.names.lookup y.1=some y.2
 nd:Nc.Nodup
 len:cap.length=Nc.length
 cap:∀ (i:Nat) (y:Str) (j:Nat),Nc[i]?=some y→cap[i]?=some (some j)→N[j]?=some y∧scope.names.lookup y=some .free
def zkr (sc:Scope) (N Nc:List Str) (cap:List (Option Nat)) (scope:Scope):Bool :=
 scope.kind == .function&&scope.names.all (fun y=>scope.names.lookup y.1 == some y.2&&(y.2 != .free || sc.names.lookup y.1 == some .cell || sc.names.lookup y.1 == some .free))&&decide Nc.Nodup&&cap.length == Nc.length
  && (Nc.zip cap).all fun p=>p.2.all fun j=>N[j]? == some p.1&&scope.names.lookup p.1 == some .free
theorem zhi.of {sc:Scope} {N Nc:List Str} {cap:List (Option Nat)} {scope:Scope} (h:zkr sc N Nc cap scope=true):zhi sc N Nc cap scope:=by
 unfold zkr at h
 simp only [Bool.and_eq_true,beq_iff_eq,List.all_eq_true,bne_iff_ne,ne_eq,Bool.or_eq_true,decide_eq_true_eq] at h
 obtain ⟨⟨⟨⟨h1,h2⟩,h3⟩,h4⟩,h5⟩:=h
 refine ⟨h1,fun y hy hf=>?_,fun y hy=>(h2 y hy).1,h3,h4,fun i y j e1 e2=>?_⟩
 ·rcases (h2 y hy).2 with (q | q) | q
  ·exact absurd hf q
  ·exact .inl q
  ·exact .inr q
 ·have m:(y,some j)∈Nc.zip cap:=by
   refine List.mem_of_getElem? (i:=i) ?_
   rw [List.getElem?_zip_eq_some]
   exact ⟨e1,e2⟩
  have z:=h5 _ m
  simpa using z
section
variable {X:Cx} {pins:List (Addr×Obj)} {σ:St} {H:Hp} {s:Shared}
structure zm5 (scope:Scope) (cl:List (Str×Addr)) (L:Addr) (h1:Heap):Prop where
 look:∀ x c,(cellsFrom (L+1) scope.names []++cl).lookup x=some c→(L<c∧h1.IsCell c none∧scope.names.lookup x=some .cell∧(cellsFrom (L+1) scope.names []).lookup x=some c)∨(cl.lookup x=some c∧(cellsFrom (L+1) scope.names []).lookup x=none)
 new:∀ x,scope.names.lookup x=some .cell→∃ c,(cellsFrom (L+1) scope.names []++cl).lookup x=some c
 old:∀ x c,scope.names.lookup x=some .free→cl.lookup x=some c→(cellsFrom (L+1) scope.names []++cl).lookup x=some c
 inj:∀ x y c,(cellsFrom (L+1) scope.names []).lookup x=some c→(cellsFrom (L+1) scope.names []).lookup y=some c→x=y
theorem zmd {scope:Scope} {cl:List (Str×Addr)} {h:Heap} (once:∀ y∈scope.names,scope.names.lookup y.1=some y.2):zm5 scope cl h.objs.size (pushCells (h.push { cls:=.type "dict",data:=.dict #[] }) scope.names):=by
 have ok:=cellsFrom_ok scope.names (h.push { cls:=.type "dict",data:=.dict #[] }) (h.objs.size+1) [] ⟨fun _ _ hm=>(nomatch hm),List.Pairwise.nil⟩ (by rw [Heap.size_push];exact Nat.le_refl _)
 rw [Heap.size_push] at ok
 have kinds:∀ x c,(cellsFrom (h.objs.size+1) scope.names []).lookup x=some c→scope.names.lookup x=some .cell:=fun x c e=>by
  rcases zgS _ _ _ _ _ (PySem.mem_of_lookup e) with q | q
  ·cases q
  ·exact once _ q
 refine ⟨fun x c e=>?_,fun x e=>?_,fun x c e1 e2=>?_,fun x y c e1 e2=>name_of_addr ok.apart (PySem.mem_of_lookup e1) (PySem.mem_of_lookup e2)⟩
 ·rw [List.lookup_append] at e
  cases q:(cellsFrom (h.objs.size+1) scope.names []).lookup x with
  | none=>rw [q] at e;exact .inr ⟨e,rfl⟩
  | some d =>
   rw [q] at e
   cases e
   obtain ⟨o1,o2⟩:=ok.empty x c (PySem.mem_of_lookup q)
   exact .inl ⟨o2,o1,kinds x c q,rfl⟩
 ·obtain ⟨c,q⟩:=zgh (n:=h.objs.size+1) e
  exact ⟨c,by rw [List.lookup_append,q];rfl⟩
 ·rw [List.lookup_append]
  cases q:(cellsFrom (h.objs.size+1) scope.names []).lookup x with
  | none=>exact e2
  | some d =>
   have:=kinds x d q
   rw [e1] at this
   cases this
theorem zlR {Nc:List Str} {cap:List (Option Nat)} {scope:Scope} {cl:List (Str×Addr)} {fp:List Addr} {h1:Heap} {tk:Nat} {m1:Str→Option Value} (I:Inv X pins σ H s) (B:zhi X.env.scope X.N Nc cap scope)
  (hsub:∀ x c,cl.lookup x=some c→X.env.cells.lookup x=some c) (hfr:∀ y∈scope.names,y.2=.free→∃ c,cl.lookup y.1=some c) (hf:∀ b∈fp,zgn X pins H b) (hin:∀ b∈fp,b<s.heap.objs.size)
  (hk:∀ b o,s.heap.get? b=some o→h1.get? b=some o) (hn:h1.Ns s.heap.objs.size m1) (C:zm5 scope cl s.heap.objs.size h1):Inv (X.blkC Nc scope cl s H fp) [] (zme cap σ) H { s with heap:=h1,toks:=tk }:=by
 have ok:=I.ok
 have bsz:X.base.objs.size≤s.heap.objs.size:=Nat.le_trans ok.bsz I.sz
 have oldlt:∀ x c,cl.lookup x=some c→c<s.heap.objs.size:=fun x c e=>by
  obtain ⟨v,q⟩:=I.cell x c (hsub x c e)
  exact q.lt
 refine ⟨⟨ok.mod,B.kind,ok.glob,ok.blt,Nat.le_refl _,fun x y c h1 h2=>?_,fun x hx=>?_,fun x c z e=>?_,ok.hd,ok.frames,.inl rfl,fun b hb=>⟨Nat.ne_of_lt (hin b hb),fun x c e=>?_⟩,
  I.bs,bsz,fun b o e hb=>?_,fun b hb z=>?_,I.stack,I.stkFree⟩,rfl,I.bare,Un.kept hk,⟨m1,hn,fun i y v e1 e2 e3=>?_⟩,fun x c e=>?_,I.hok.fresh (Nat.le_refl _),fun x c e=>?_,(by intro p hp;cases hp),I.hok.kept hk,?_⟩
 ·rcases C.look x c h1 with ⟨a1,_,_,a4⟩ | ⟨a,_⟩ <;> rcases C.look y c h2 with ⟨b1,_,_,b4⟩ | ⟨b,_⟩
  ·exact C.inj x y c a4 b4
  ·exact absurd (Nat.lt_trans a1 (oldlt y c b)) (Nat.lt_irrefl _)
  ·exact absurd (Nat.lt_trans b1 (oldlt x c a)) (Nat.lt_irrefl _)
  ·exact ok.inj x y c (hsub x c a) (hsub y c b)
 ·have fr:∀ x,scope.names.lookup x=some .free→∃ c,(cellsFrom (s.heap.objs.size+1) scope.names []++cl).lookup x=some c:=fun x q=>by
   obtain ⟨c,e⟩:=hfr (x,.free) (PySem.mem_of_lookup q) rfl
   exact ⟨c,C.old x c q e⟩
  have look:∀ k,(relabel scope X.env).names.lookup x=some k→k=.cell∨k=.free→∃ c,(cellsFrom (s.heap.objs.size+1) scope.names []++cl).lookup x=some c:=fun k q hk=>by
   rcases zcc q with ⟨n1,n2⟩ | ⟨_,n2 | n2⟩
   ·rcases hk with r | r
    ·exact absurd r n1
    ·rw [r] at n2
     exact fr x n2
   ·exact C.new x n2
   ·exact fr x n2
  rcases hx with q | q
  ·exact look _ q (.inl rfl)
  ·exact look _ q (.inr rfl)
 ·obtain ⟨c3,q3⟩:=zgh (n:=s.heap.objs.size+1) (show scope.names.lookup x=some .cell from beq_iff_eq.mp z)
  rcases C.look x c e with ⟨a1,_⟩ | ⟨_,b⟩
  ·exact Nat.le_of_lt a1
  ·rw [q3] at b
   cases b
 ·rcases C.look x c e with ⟨a1,_⟩ | ⟨a,_⟩
  ·exact Nat.ne_of_gt (Nat.lt_trans (hin b hb) a1)
  ·exact (hf b hb).2.2.2.2.1 x c (hsub x c a)
 ·rcases (hf b hb).2.2.2.1 with q | q
  ·exact ok.noex b o e q
  ·exact absurd (Nat.lt_of_lt_of_le (Heap.lt_size e) (Nat.le_trans ok.bsz q)) (Nat.lt_irrefl _)
 ·rcases List.mem_cons.mp (I.stkSub b z) with q | q
  ·exact (hf b hb).2.1 q
  ·exact (hf b hb).2.2.1 q
 ·have e2':(cap[i]?).map (fun o=>o.bind fun j=>(σ[j]?).join)=some (some v):=by rw [← List.getElem?_map];exact e2
  obtain ⟨o,ho,eo⟩:=Option.map_eq_some_iff.mp e2'
  obtain ⟨j,rfl,ej⟩:=Option.bind_eq_some_iff.mp eo
  have ej':σ[j]?=some (some v):=by
   cases q:σ[j]? with
   | none=>rw [q] at ej;cases ej
   | some z=>rw [q] at ej;cases ej;rfl
  obtain ⟨c1,c2⟩:=B.cap i y j e1 ho
  have vis:=B.free (y,.free) (PySem.mem_of_lookup c2) rfl
  obtain ⟨m,_,hl⟩:=I.loc
  obtain ⟨u,r,lk⟩:=hl j y v c1 ej' (.inr vis)
  obtain ⟨c',ec⟩:=hfr (y,.free) (PySem.mem_of_lookup c2) rfl
  have ec2:=hsub _ _ ec
  rcases lk with ⟨kl,_⟩ | ⟨_,c,e,z⟩
  ·have kl':X.env.scope.names.lookup y=some .local:=kl
   rcases vis with q | q
   ·have q':X.env.scope.names.lookup y=some .cell:=q
    rw [kl'] at q';cases q'
   ·have q':X.env.scope.names.lookup y=some .free:=q
    rw [kl'] at q';cases q'
  ·have ecc:X.env.cells.lookup y=some c':=ec2
   rw [e] at ecc
   cases ecc
   refine ⟨u,r,.inr ⟨?_,_,C.old y _ c2 ec,?_⟩⟩
   ·rcases e3 with q | q | q
    ·rcases zcc q with ⟨_,n2⟩ | ⟨n1,_⟩
     ·rw [c2] at n2;cases n2
     ·cases n1
    ·exact .inl q
    ·exact .inr q
   ·obtain ⟨o,ho,hd⟩:=z
    exact ⟨o,hk _ _ ho,hd⟩
 ·rcases C.look x c e with ⟨_,a2,_⟩ | ⟨a,_⟩
  ·exact ⟨none,a2⟩
  ·obtain ⟨v,o,ho,hd⟩:=I.cell x c (hsub x c a)
   exact ⟨v,o,hk _ _ ho,hd⟩
 ·rcases C.look x c e with ⟨a1,_⟩ | ⟨a,_⟩
  ·exact I.hok.fresh (Nat.le_of_lt a1)
  ·exact I.freeC x c (hsub x c a)
 ·show (zme cap σ).length=Nc.length
  rw [zme,List.length_map,B.len]
theorem zjV {Nc:List Str} {scope:Scope} {cl:List (Str×Addr)} {fp:List Addr} {σc:St} {Hc:Hp} {s':Shared} {h':Heap} (I:Inv X pins σ H s) (hf:∀ b∈fp,zgn X pins H b) (J:Inv (X.blkC Nc scope cl s H fp) [] σc Hc s')
  (hs:Heap.SameBut s.heap.objs.size s'.heap h'):Inv X pins σ Hc { s' with heap:=h' }:=by
 have ne:∀ b o,s.heap.get? b=some o→b≠s.heap.objs.size:=fun b o e=>Nat.ne_of_lt (Heap.lt_size e)
 have u:=J.base
 refine I.call' (ch:=fp) J.os ⟨fun b o e n hb hx=>(hs.2 b (ne b o e)).trans (u.keep b o e n hb hx),fun b o e n hb hx=>?_,u.free,fun b o e hx=>?_,u.tups,u.frzs,u.tbls⟩ (fun b ob e=>?_) J.bare fun b hb=>⟨(hf b hb).2.2.2.1,(hf b hb).2.1,(hf b hb).2.2.2.2.1,(hf b hb).2.2.2.2.2⟩
 ·obtain ⟨sl,q⟩:=u.slot b o e n hb hx
  exact ⟨sl,(hs.2 b (ne b o e)).trans q⟩
 ·obtain ⟨o',q⟩:=u.there b o e hx
  exact ⟨o',(hs.2 b (ne b o e)).trans q⟩
 ·have hC:Hc s.heap.objs.size=none:=J.free
  refine (J.hok b ob e).stay (fun c w' hc q=>(hs.2 c ?_).trans q) (fun _ q=>q) fun _ _ q=>q
  rintro rfl
  rcases hc with z | hc
  ·rw [← z,hC] at e;cases e
  ·rw [hC] at hc;cases hc
end
theorem zhw {X:Cx} {pins:List (Addr×Obj)} {s:Shared} {σ:St} {H:Hp} {Q:VK} {sc:Scope} {N Nc:List Str} {cap:List (Option Nat)} {elt tg iter:Expr} {ifs:List Expr} {scope:Scope} {pos pos':Pos} {wi:TI} {g:TG} {tt:TT} {te:TE} {use:Option (Value→Sem Unit)} {QQ:Value→Shared→Prop}
  (hc:X.calm=true) (hsc:X.env.scope=sc) (hN:X.N=N) (B:zhi sc N Nc cap scope) (hi:PI X tg iter wi)
  (hg:∀ cl s H fp,PG (X.blkC Nc scope cl s H fp) tg g) (ht:∀ cl s H fp,PTs (X.blkC Nc scope cl s H fp) ifs tt) (he:∀ cl s H fp,PE (X.blkC Nc scope cl s H fp) elt te)
  (hs:∀ x,foldedSetIterable iter X.env x=pure x) (I:Inv X pins σ H s) (h:zbH wi g tt te cap σ H Q)
  (fin:∀ (s3:Shared) (H3:Hp) (cl:List (Str×Addr)) (fp:List Addr) (D:Addr) (σc:St) (Hc:Hp) (s6:Shared),Inv X pins σ H3 s3→(∀ b∈fp,zgn X pins H3 b)→Inv (X.blkC Nc scope cl s3 H3 fp) [] σc Hc s6→Q (.ref D) Hc→compPost (model X.prog X.w) X.A X.xe use QQ (.ref D) s3.heap.objs.size (.ok .next) s6) :
  wpAny (model X.prog X.w) X.A (comprehension (.ListComp elt [⟨tg,iter,ifs,0⟩] scope pos) scope X.env pos' (newList []) false (eval iter X.env) use) QQ X.xe s:=by
 subst hsc hN
 obtain ⟨cl,hclos,hsub,hfr⟩:=zhm (scope:=scope) (env:=X.env) fun y hy hf=>I.ok.has y.1 (B.free y hy hf)
 refine wpAny_comprehension_free (use:=use) rfl hs hclos B.kind (fun y hy hl=>by rw [B.once y hy,hl]) (thn (hi pins s σ H _ I h) fun v s1 h1=>thn h1 fun itv s2 h2=>?_)
 obtain ⟨it,fp,tn,J,H2,rfl,I2,T,st2,f2,hw⟩:=h2
 refine wpAny_newObj_type ?_
 have hfree:H2 s2.heap.objs.size=none:=I2.hok.fresh (Nat.le_refl _)
 have I3:=I2.laid (t':=s2.toks) (o:=.lst []) (fun b u e=>Heap.get?_push_of_some { cls:=.type "list",dict:=none,data:=.seq ([]:List Value).toArray } e) (Nat.le_refl _) ⟨by decide,[],0,.nil,Heap.get?_push_size _ rfl⟩
 obtain ⟨W,⟨m0,w0⟩,turn⟩:=hw _ hfree
 have keep23:∀ b o,s2.heap.get? b=some o→(s2.heap.push { cls:=.type "list",dict:=none,data:=.seq ([]:List Value).toArray }).get? b=some o:=fun b o e=>Heap.get?_push_of_some _ e
 have hin:∀ b∈fp,b<s2.heap.objs.size:=fun b hb=>let ⟨o,e,_⟩:=T.obj 0 _ st2 b hb;Heap.lt_size e
 have f3:∀ b∈fp,zgn X pins (upd H2 s2.heap.objs.size (.lst [])) b:=fun b hb=>⟨by rw [zam (Nat.ne_of_lt (hin b hb))];exact (f2 b hb).1,(f2 b hb).2⟩
 have st3:=T.keep 0 _ _ st2 fun b _ o e=>keep23 b o e
 have hin3:∀ b∈fp,b<(s2.heap.push { cls:=.type "list",dict:=none,data:=.seq ([]:List Value).toArray }).objs.size:=fun b hb=>let ⟨o,e,_⟩:=T.obj 0 _ st3 b hb;Heap.lt_size e
 clear keep23 hin
 generalize s2.heap.push { cls:=.type "list",dict:=none,data:=.seq ([]:List Value).toArray }=h3 at I3 st3 hin3 ⊢
 generalize upd H2 s2.heap.objs.size (.lst [])=H3 at I3 f3 w0
 generalize s2.heap.objs.size=D at hfree w0 turn ⊢
 refine ziN ?_
 have Cc:=zmd (scope:=scope) (cl:=cl) (h:=h3) B.once
 have keep:∀ b o,h3.get? b=some o→(pushCells (h3.push { cls:=.type "dict",data:=.dict #[] }) scope.names).get? b=some o:=fun b o e=>pushCells_keeps _ _ b o (Heap.get?_push_of_some _ e)
 have hns:(pushCells (h3.push { cls:=.type "dict",data:=.dict #[] }) scope.names).Ns h3.objs.size fun _=>none:=(Heap.Ns.new h3 (.type "dict")).keeps (pushCells_keeps _ _)
 dsimp only
 generalize pushCells (h3.push { cls:=.type "dict",data:=.dict #[] }) scope.names=h1 at Cc keep hns ⊢
 have I4:=zlR (tk:=s2.toks) I3 B hsub hfr f3 hin3 keep hns Cc
 have st4:=T.keep 0 _ _ st3 fun b _ o e=>keep b o e
 have stat:∀ {H':Hp},(∀ b∈fp,H' b=none)→∀ b∈fp,zgn (X.blkC Nc scope cl { s2 with heap:=h3,toks:=s2.toks } H3 fp) [] H' b:=fun hn b hb =>
  ⟨hn b hb,Nat.ne_of_lt (hin3 b hb),fun z=>by
   rcases List.mem_cons.mp (I3.stkSub b z) with q | q
   ·exact (f3 b hb).2.1 q
   ·exact (f3 b hb).2.2.1 q,.inl hb,fun x c e=>by
   rcases Cc.look x c e with ⟨a1,_⟩ | ⟨a,_⟩
   ·exact Nat.ne_of_gt (Nat.lt_trans (hin3 b hb) a1)
   ·exact (f3 b hb).2.2.2.2.1 x c (hsub x c a),by intro p hp;cases hp⟩
 have hcb:(X.blkC Nc scope cl { s2 with heap:=h3,toks:=s2.toks } H3 fp).calm=true:=hc
 have loop:codeAny (model X.prog X.w) X.A (.compLoop (.ListComp elt [⟨tg,iter,ifs,0⟩] scope pos) 0 (.ref it) (.ref D) (compEnvC scope (cellsFrom (h3.objs.size+1) scope.names []++cl) h3.objs.size X.env)) (compPost (model X.prog X.w) X.A X.xe use QQ (.ref D) h3.objs.size) { s2 with heap:=h1,toks:=s2.toks }:=by
  refine zfX (fun n s'=>∃ i σ' H',Inv (X.blkC Nc scope cl { s2 with heap:=h3,toks:=s2.toks } H3 fp) [] σ' H' s'∧tn i s'.heap∧(∀ b∈fp,H' b=none)∧W i n σ' H') rfl ?_ m0 ⟨0,_,H3,I4,st4,fun b hb=>(f3 b hb).1,w0⟩
  rintro n s5 ⟨i,σ5,H5,I5,st5,fr5,w5⟩
  rcases turn i n σ5 H5 w5 with ⟨stop,qn⟩ | ⟨go,N',hN',step⟩
  ·refine thn (T.done (X.blkC Nc scope cl { s2 with heap:=h3,toks:=s2.toks } H3 fp) rfl rfl rfl hcb i [] s5 σ5 H5 _ I5 (stat fr5) st5 stop) fun r s6 hQ'=>?_
   obtain ⟨hr,I6⟩:=hQ'
   subst hr
   exact fin { s2 with heap:=h3,toks:=s2.toks } H3 cl fp D σ5 H5 s6 I3 f3 I6 qn
  ·refine thn (T.item (X.blkC Nc scope cl { s2 with heap:=h3,toks:=s2.toks } H3 fp) rfl rfl rfl hcb i [] s5 σ5 H5 _ I5 (stat fr5) st5 go) fun r s6 hQ'=>?_
   obtain ⟨u,hr,h6⟩:=hQ'
   subst hr
   refine thn h6 fun _ s7 hQ'=>?_
   obtain ⟨x,H7,I7,r7,y7,st7,fr7⟩:=hQ'
   have I7':=I7.pinned (stat fr7) (T.obj _ _ st7)
   refine wpAny_mono (hg cl _ H3 fp _ s7 σ5 H7 x u _ I7' r7 (step x H7 y7)) (fun _ s8 hQ'=>?_) fun _ _ z=>z.elim
   obtain ⟨σ8,H8,I8,q8⟩:=hQ'
   have again:∀ {H9:Hp} {s9:Shared} {m:Nat},Inv (X.blkC Nc scope cl { s2 with heap:=h3,toks:=s2.toks } H3 fp) ([]++zhx fp s7.heap) σ8 H9 s9→m<n→W (i+1) m σ8 H9→∃ m,m<n∧∃ i σ' H',Inv (X.blkC Nc scope cl { s2 with heap:=h3,toks:=s2.toks } H3 fp) [] σ' H' s9∧tn i s9.heap∧(∀ b∈fp,H' b=none)∧W i m σ' H':=fun {H9 s9 m} I9 hm w9=>by
    refine ⟨m,hm,i+1,σ8,H9,I9.unpinned,T.keep _ _ _ st7 fun b hb o e=>(I9.pin (b,o) (List.mem_append_right _ (List.mem_append_right _ (zdd hb e)))).1,fun b hb=>?_,w9⟩
    obtain ⟨o,e,d⟩:=T.obj _ _ st7 b hb
    exact (I9.pin (b,o) (List.mem_append_right _ (List.mem_append_right _ (zdd hb e)))).2.1
   refine wpAny_mono (ht cl _ H3 fp _ s8 σ8 H8 _ I8 q8) (fun b s9 hQ'=>?_) fun _ _ z=>z.elim
   obtain ⟨H9,I9,q9⟩:=hQ'
   cases b with
   | false =>
    rw [if_neg (by decide)] at q9
    obtain ⟨m',hm,w9⟩:=hN' _ _ q9
    exact again I9 hm w9
   | true =>
    rw [if_pos rfl] at q9
    refine wpAny_mono (he cl _ H3 fp _ s9 σ8 H9 _ I9 q9) (fun u s10 hQ'=>?_) fun _ _ z=>z.elim
    obtain ⟨y,H10,I10,r10,q10⟩:=hQ'
    refine wpAny_mono (zfe (X:=X.blkC Nc scope cl { s2 with heap:=h3,toks:=s2.toks } H3 fp) _ s10 σ8 H10 (.ref D) [y] (.ref D) [u] _ I10 rfl (.cons r10 .nil) q10) (fun _ s11 hQ'=>?_) fun _ _ z=>z.elim
    obtain ⟨_,H11,I11,_,q11⟩:=hQ'
    obtain ⟨m',hm,w11⟩:=hN' _ _ q11
    exact again I11 hm w11
 exact codeAny_compStart_list loop (T.self _ 0 _ _ _ st4 loop)
theorem zmp {X:Cx} {sc:Scope} {N Nc:List Str} {cap:List (Option Nat)} {elt tg iter:Expr} {ifs:List Expr} {scope:Scope} {pos:Pos} {wi:TI} {g:TG} {tt:TT} {te:TE} (hc:X.calm=true) (hsc:X.env.scope=sc) (hN:X.N=N) (B:zhi sc N Nc cap scope) (hi:PI X tg iter wi)
  (hg:∀ cl s H fp,PG (X.blkC Nc scope cl s H fp) tg g) (ht:∀ cl s H fp,PTs (X.blkC Nc scope cl s H fp) ifs tt) (he:∀ cl s H fp,PE (X.blkC Nc scope cl s H fp) elt te)
  (hs:∀ x,foldedSetIterable iter X.env x=pure x:=by intro _;rfl):PE X (.ListComp elt [⟨tg,iter,ifs,0⟩] scope pos) (zbH wi g tt te cap):=by
 intro pins s σ H Q I h
 rw [eval_ListComp]
 refine zhw hc hsc hN B hi hg ht he hs I h fun s3 H3 cl fp D σc Hc s6 I3 f3 I6 q=>?_
 obtain ⟨m,hn,_⟩:=id I6.loc
 exact ⟨m,hn,fun h' hs'=>⟨.ref D,Hc,zjV I3 f3 I6 hs',rfl,q⟩⟩
theorem zjr {X:Cx} {i:Nat} {y:Str} {py spos:Pos} {sc:Scope} {N Nc:List Str} {cap:List (Option Nat)} {elt tg iter:Expr} {ifs:List Expr} {scope:Scope} {pos:Pos} {wi:TI} {g:TG} {tt:TT} {te:TE} (hnd:X.N.Nodup) (hix:X.N[i]?=some y) (hl:X.env.scope.names.lookup y=some .local)
  (hc:X.calm=true) (hsc:X.env.scope=sc) (hN:X.N=N) (B:zhi sc N Nc cap scope) (hi:PI X tg iter wi)
  (hg:∀ cl s H fp,PG (X.blkC Nc scope cl s H fp) tg g) (ht:∀ cl s H fp,PTs (X.blkC Nc scope cl s H fp) ifs tt) (he:∀ cl s H fp,PE (X.blkC Nc scope cl s H fp) elt te)
  (hsw:swapsWith (.ListComp elt [⟨tg,iter,ifs,0⟩] scope pos) (some (.Name y py)) spos.line X.env=pure true:=by rfl)
  (hs:∀ x,foldedSetIterable iter X.env x=pure x:=by intro _;rfl):PS X (.Assign [.Name y py] (.ListComp elt [⟨tg,iter,ifs,0⟩] scope pos) spos) (za9 (zbH wi g tt te cap) (zak i)):=by
 intro pins s σ H D0 I h
 rw [exec_Assign_Name_used _ _ _ _ hsw]
 refine wpAny_bind (wpAny_standAt (wpAny_bind (wpAny_bind (thn (zhw (use:=some (assign (.Name y py) X.env)) (QQ:=fun _ s'=>SP X pins D0 .next s') hc hsc hN B hi hg ht he hs I h fun s3 H3 cl fp D σc Hc s6 I3 f3 I6 q=>?_) fun _ s' hq=>wpAny_pure (wpAny_pure hq)))))
 have I6x:Inv X pins σ Hc s6:=zjV I3 f3 I6 (Heap.SameBut.refl ..)
 obtain ⟨m,hn,_⟩:=id I6.loc
 have hC:Hc s3.heap.objs.size=none:=I6.free
 have fpC:=I3.fpOk (b:=s3.heap.objs.size) (Nat.le_refl _) hC
 refine wpAny_assign_Name (zgq I6x hnd hix (.inl hl) (v:=.ref D) rfl (fun s7 I7 ch=>?_) (.inr hl))
 obtain ⟨a,same,ha⟩:=ch
 have nC:s3.heap.objs.size≠a:=by
  rcases ha with r | r
  ·rw [r];exact fpC.2.1
  ·exact (fpC.2.2.2.2.1 _ _ r).symm
 refine ⟨m,hn.sameBut same nC,fun h' hs'=>⟨_,_,I7.turns (t':=s7.toks) (ch:=[s3.heap.objs.size]) (fun b o hb e=>(hs'.2 b (by simpa using hb)).trans e) fun b hb=>?_,q⟩⟩
 have e:b=s3.heap.objs.size:=by simpa using hb
 rw [e]
 exact fpC
end L2
namespace L2
open PySem PySem.Spec PyProof.Rows
def rNeI (K:PySem.W.Frag):R2:=fun x y H Q=>∃ (a b:Addr) (ns ms:List Int),x=.ref a∧y=.ref b∧SqL K H a (ns.map V.int)∧SqL K H b (ms.map V.int)∧Q (.bl (!decide (ns=ms))) H
section
variable {X:Cx}
theorem zgQ:∀ {ns:List Int} {us:List Value},zbU (ns.map V.int) us→IntsAre us ns
 | [],_,r=>by rw [List.map_nil] at r;cases r;exact .nil
 | n::ns,_,r=>by
  rw [List.map_cons] at r
  cases r with
  | cons h t =>
   obtain ⟨t',rfl⟩:=h
   exact .cons _ _ (zgQ t)
theorem zpB (hu:X.A.units+64<cLine):OpR X (compareOp .NotEq) (rNeI X.K):=by
 intro pins s σ H x y v u Q I rx ry h
 obtain ⟨a,b,ns,ms,rfl,rfl,ha,hb,q⟩:=h
 cases rx
 cases ry
 obtain ⟨us,r1,p1,_⟩:=I.list ha
 obtain ⟨vs,r2,p2,_⟩:=I.list hb
 exact PySem.W.ke_ne_ints p1.isList p2.isList (zgQ r1) (zgQ r2) hu ⟨.bl _,H,I,rfl,q⟩
end
end L2
namespace L2
open PySem
theorem znK {v:V} {σ:List (Option V)} {H:Hp} {Q:VK}:zac 0 (some v::σ) H Q=Q v H:=by simp [zac]
theorem znr {x0:Option V} {v:V} {σ:List (Option V)} {H:Hp} {Q:VK}:zac 1 (x0::some v::σ) H Q=Q v H:=by simp [zac]
theorem zoi {x0 x1:Option V} {v:V} {σ:List (Option V)} {H:Hp} {Q:VK}:zac 2 (x0::x1::some v::σ) H Q=Q v H:=by simp [zac]
theorem znH {x0 x1 x2:Option V} {v:V} {σ:List (Option V)} {H:Hp} {Q:VK}:zac 3 (x0::x1::x2::some v::σ) H Q=Q v H:=by simp [zac]
theorem znJ {x0 x1 x2 x3:Option V} {v:V} {σ:List (Option V)} {H:Hp} {Q:VK}:zac 4 (x0::x1::x2::x3::some v::σ) H Q=Q v H:=by simp [zac]
theorem znB {x0 x1 x2 x3 x4:Option V} {v:V} {σ:List (Option V)} {H:Hp} {Q:VK}:zac 5 (x0::x1::x2::x3::x4::some v::σ) H Q=Q v H:=by simp [zac]
theorem zoh {x0 x1 x2 x3 x4 x5:Option V} {v:V} {σ:List (Option V)} {H:Hp} {Q:VK}:zac 6 (x0::x1::x2::x3::x4::x5::some v::σ) H Q=Q v H:=by simp [zac]
theorem zol {x0 x1 x2 x3 x4 x5 x6:Option V} {v:V} {σ:List (Option V)} {H:Hp} {Q:VK}:zac 7 (x0::x1::x2::x3::x4::x5::x6::some v::σ) H Q=Q v H:=by simp [zac]
theorem zlO {x0:Option V} {v:V} {σ:List (Option V)} {H:Hp} {Q:St→Hp→Prop}:zak 0 v (x0::σ) H Q=Q (some v::σ) H:=rfl
theorem zmA {x0 x1:Option V} {v:V} {σ:List (Option V)} {H:Hp} {Q:St→Hp→Prop}:zak 1 v (x0::x1::σ) H Q=Q (x0::some v::σ) H:=rfl
theorem zmC {x0 x1 x2:Option V} {v:V} {σ:List (Option V)} {H:Hp} {Q:St→Hp→Prop}:zak 2 v (x0::x1::x2::σ) H Q=Q (x0::x1::some v::σ) H:=rfl
theorem zmu {x0 x1 x2 x3:Option V} {v:V} {σ:List (Option V)} {H:Hp} {Q:St→Hp→Prop}:zak 3 v (x0::x1::x2::x3::σ) H Q=Q (x0::x1::x2::some v::σ) H:=rfl
theorem zl1 {x0 x1 x2 x3 x4:Option V} {v:V} {σ:List (Option V)} {H:Hp} {Q:St→Hp→Prop}:zak 4 v (x0::x1::x2::x3::x4::σ) H Q=Q (x0::x1::x2::x3::some v::σ) H:=rfl
theorem zlX {x0 x1 x2 x3 x4 x5:Option V} {v:V} {σ:List (Option V)} {H:Hp} {Q:St→Hp→Prop}:zak 5 v (x0::x1::x2::x3::x4::x5::σ) H Q=Q (x0::x1::x2::x3::x4::some v::σ) H:=rfl
theorem zmH {x0 x1 x2 x3 x4 x5 x6:Option V} {v:V} {σ:List (Option V)} {H:Hp} {Q:St→Hp→Prop}:zak 6 v (x0::x1::x2::x3::x4::x5::x6::σ) H Q=Q (x0::x1::x2::x3::x4::x5::some v::σ) H:=rfl
theorem zmx {x0 x1 x2 x3 x4 x5 x6 x7:Option V} {v:V} {σ:List (Option V)} {H:Hp} {Q:St→Hp→Prop}:zak 7 v (x0::x1::x2::x3::x4::x5::x6::x7::σ) H Q=Q (x0::x1::x2::x3::x4::x5::x6::some v::σ) H:=rfl
theorem rI_c {C:Int→Int→Prop} {g:Int→Int→V} {a b:Int} {H:Hp} {Q:VK}:rI C g (.int a) (.int b) H Q=(C a b∧Q (g a b) H):=by simp [rI]
theorem rI0_c {g:Int→Int→V} {a b:Int} {H:Hp} {Q:VK}:rI0 g (.int a) (.int b) H Q=Q (g a b) H:=by simp [rI0]
theorem zpy {K:PySem.W.Frag} {p:Addr} {i:Int} {H:Hp} {Q:VK}:zba K (.ref p) (.int i) H Q=∃ xs,SqL K H p xs∧∃ v,atI xs i=some v∧Q v H:=by simp [zba]
theorem zo9 {K:PySem.W.Frag} {p:Addr} {i:Int} {H:Hp} {Q:VK}:zbT K (.ref p) (.int i) H Q=∃ xs,SqT K H p xs∧∃ v,atI xs i=some v∧Q v H:=by simp [zbT]
theorem ex_bl {c:Bool} {Q:Bool→Prop}:(∃ k,V.bl c=V.bl k∧Q k)=Q c:=by simp
theorem zpe {c:Int} {Q:Int→Prop}:(∃ k,V.int c=V.int k∧Q k)=Q c:=by simp
theorem zpg {c:Addr} {Q:Addr→Prop}:(∃ k,V.ref c=V.ref k∧Q k)=Q c:=by simp
theorem zpz {c:Int} {Q:Int→Prop}:(∃ k,[V.int c]=[V.int k]∧Q k)=Q c:=by simp
theorem zoZ {c:Addr} {Q:Addr→Prop}:(∃ k,[V.ref c]=[V.ref k]∧Q k)=Q c:=by simp
end L2
namespace Att
open PySem PySem.W PySem.Calls PyProof.Rows
theorem zgw {x:Int}:∀ {ns:List Int},x∈ns→WData.weight (.int x)≤WData.weightAll (ns.map WData.int)
 | [],h=>absurd h (List.not_mem_nil)
 | y::ns,h=>by
  rw [List.map_cons,WData.weightAll]
  rcases List.mem_cons.mp h with e | e
  ·rw [← e]
   (first|lia|omega)
  ·have:=zgw e
   (first|lia|omega)
theorem znN {ns:List Int} (h:WData.layableAll [WData.list (ns.map WData.int)]=true):∀ x∈ns,x.natAbs<2 ^ 2 ^ 20:=by
 intro x hx
 have h1:(WData.list (ns.map WData.int)).layable=true:=(layW_cons h).1
 have h2:WData.weight (.list (ns.map WData.int))≤2 ^ 20:=by
  unfold WData.layable at h1
  rw [Bool.and_eq_true] at h1
  exact of_decide_eq_true h1.2
 rw [WData.weight] at h2
 have h3:=Nat.le_trans (zgw hx) h2
 rw [WData.weight] at h3
 by_cases h0:x=0
 ·subst h0
  exact Nat.two_pow_pos _
 ·rw [if_neg (by simpa using h0)] at h3
  have hn:x.natAbs≠0:=fun e=>h0 (Int.natAbs_eq_zero.mp e)
  exact (Nat.log2_lt hn).mp h3
theorem attach_callL {l:OpenLaw} {n:Nat} {q:Program} {loose:List Str} {XP:(Str→Option Value)→Heap→Prop} {YP:World→Heap→Prop} {d:DefRec}
  (hn:l.most=some n) (hdf:d.params.defaults=[])
  (call:∀ (w:World) (s₀ s₁:Shared) (mg mb:Str→Option Value) (fa:Addr) (o:Obj) (pm cd doc:Value) (a:Addr) (vs:List Value) (ns:List Int),(∀ x∈ns,x.natAbs<2 ^ 2 ^ 20) →
   Ground q loose [] XP w s₀ mg mb s₁.heap→YP w s₁.heap →
   s₁.heap.get? fa=some o→o.data=.func (docDef d.name d.params d.body d.scope pm cd doc)→s₁.heap.CodeRec cd d.name→mg d.name=some (.ref fa) →
   s₁.heap.get? a=some { cls:=.type "list",data:=.seq vs.toArray }→IntsAre vs ns→ns.length≤n→s₁.gens=#[] →
   codeAny (model l.prog w) callerA (.call (.ref fa) ⟨[.ref a],[]⟩) (fun r s'=>r=.ok (.ret (.bool true))∧OldK s₁.heap s'.heap∧s'.os=s₁.os∧AllBare s'.gens) s₁) :
  WalkO q loose XP YP l.row.toRowW d [] (fun f vs=>PySem.call f vs):=by
 intro w s₀ s₁ mg mb G Y fa o pm cd doc dV kV ho hd hcd hD hmg hg args vals as hpre hlay hrd hwl hlo
 obtain rfl:dV=.none:=Dflts.none hD hdf
 obtain rfl:kV=.none:=Dflts.noKw hD
 obtain ⟨a,vs,ns,rfl,rfl,hobj,hints,hlen⟩:=zkE hn hpre hwl
 refine enter_call (codeAny_mono (call w s₀ s₁ mg mb fa o pm cd doc a vs ns (znN hlay) G Y ho (fd_plain hd) hcd hmg hobj hints hlen hg) fun r s' hq=>?_)
 obtain ⟨rfl,h2,h3,h4⟩:=hq
 exact ⟨.inl ⟨.bool true,.bool true,[],rfl,fun _=>rfl,.bool true,zkv l _,fun _=>⟨List.Pairwise.nil,fun _ hm=>(nomatch hm)⟩⟩,h2,h3,h4⟩
end Att
namespace L2
open PySem PySem.Spec PyProof.Rows
end L2
namespace L2
open PySem PySem.Spec PyProof.Rows
section
variable {α β:Type}
end
section
variable {K:PySem.W.Frag} {prog:Program} {w:World} {A:Around} {E:Value→Shared→Prop} {h:Heap} {g:Array GenState} {d:Drawn} {t:Nat} {os:OsState} {C fI:Addr} {us:List Value}
end
def excN (x:Addr) (C:Addr):HO:=.ext fun h=>∃ o t0,h.get? x=some o∧o.cls=.ref C∧o.dict=none∧o.data=.fields #[.ref t0,.none,.none,.none,.bool false,.none]
def excD (x:Addr) (C dx:Addr):HO:=.ext fun h=>∃ o t0,h.get? x=some o∧o.cls=.ref C∧o.dict=some dx∧o.data=.fields #[.ref t0,.none,.none,.none,.bool false,.none]
section
variable {X:Cx} {pins:List (Addr×Obj)} {σ:St} {H:Hp} {s:Shared}
end
section
open Builtin Builtin.ObjectAttr
variable {K:PySem.W.Frag} {prog:Program} {w:World} {A:Around} {E:Value→Shared→Prop} {h:Heap} {g:Array GenState} {d:Drawn} {t:Nat} {os:OsState} {C fI x:Addr} {v:Value} {name:Str} {o:Obj}
end
section
variable {X:Cx} {x:Str} {D:Addr} {np apos pos pos':Pos} {e o value:Expr} {es:List Expr} {t:TA} {to tv:TE} {f:Str}
end
section
variable {X:Cx} {CX:CXT} {k:Nat} {f C:Addr} {fd:FuncData} {ps:List Str} {sp:Sp} {E:XK} {x:Str} {p pos:Pos} {e:Expr} {es:List Expr} {t:TA}
end
section
variable {P:Program} {w:World} {K:PySem.W.Frag} {mg:Str→Option Value} {base:Heap} {N:List Str} {qual:Str} {scope:Scope} {f:Addr} {cd:Value} {A:Around} {outer:List Env} {s₀:Shared} {H₀:Hp} {E:XK}
end
section
variable {P:Program} {w:World} {K:PySem.W.Frag} {mg:Str→Option Value} {base:Heap} {N:List Str} {qual:Str} {scope:Scope} {f:Addr} {cd:Value} {A:Around} {outer:List Env} {s₀:Shared} {H₀:Hp} {E:XK}
end
section
variable {P:Program} {w:World} {K:PySem.W.Frag} {mg:Str→Option Value} {base:Heap} {N:List Str} {qual:Str} {scope:Scope} {f:Addr} {cd:Value} {A:Around} {outer:List Env} {s₀:Shared} {H₀:Hp} {E:XK}
end
section
variable {K:PySem.W.Frag} {prog:Program} {w:World} {A:Around} {E:Value→Shared→Prop} {s:Shared} {env:Env} {C fI:Addr}
end
def zkI (C:Addr) (nm:Str):Sp:=fun vs H Q _=>∃ y v,vs=[.ref y,v]∧H y=some (excN y C)∧∀ dx,H dx=none→dx≠y→Q .non (upd (upd H y (excD y C dx)) dx (.xd [(nm,v)]))
section
open Builtin Builtin.ObjectAttr PySem.W
variable {K:PySem.W.Frag} {prog:Program} {w:World} {A:Around} {E:Value→Shared→Prop} {h:Heap} {g:Array GenState} {d:Drawn} {t:Nat} {os:OsState} {a C dx:Addr}
end
section
variable {X:Cx} {e:Expr} {f:Str} {pos:Pos} {ta:TE}
end
def zeB:Stmt→List Stmt
 | .ClassDef _ _ _ b _ _ _ _ _ _ _=>b
 | _=>[]
end L2
namespace L2
open PySem PySem.Spec PyProof.Rows
def zlT (P:Program) (w:World) (K:PySem.W.Frag) (mg:Str→Option Value) (base:Heap) (N:List Str) (qual:Str) (scope:Scope) (f:Addr) (cd:Value) (cl:List (Str×Addr)) (A:Around) (outer:List Env) (s:Shared) (H:Hp):Cx where
 prog:=P
 w:=w
 K:=K
 mg:=mg
 base:=base
 A:=A.deeper (PySem.W.envX qual scope s.heap.objs.size f cd cl)
 N:=N
 s₀:=s
 H₀:=H
 env:=PySem.W.envX qual scope s.heap.objs.size f cd cl
 outer:=outer
 stack:=PySem.W.envX qual scope s.heap.objs.size f cd cl::outer
 ex:=[]
 calm:=true
 fn:=fun y=>(cl.lookup y).isNone
 pn:=[]
 xe:=fun _ _=>False
structure zo0 (H:Hp) (h:Heap) (sc:Scope) (cl:List (Str×Addr)) (Ns:List Str) (vs:List V):Prop where
 len:vs.length=Ns.length
 at':∀ (i:Nat) (y:Str),Ns[i]?=some y→∃ c uy vy,cl.lookup y=some c∧sc.names.lookup y=some .free∧h.IsCell c (some uy)∧vs[i]?=some vy∧zb5 vy uy
 has:∀ y,sc.names.lookup y=some .free→∃ c,cl.lookup y=some c
 cel:∀ y c,cl.lookup y=some c→H c=none∧∃ v,h.IsCell c v
 inj:∀ y z c,cl.lookup y=some c→cl.lookup z=some c→y=z
theorem zlK {P:Program} {w:World} {K:PySem.W.Frag} {mg:Str→Option Value} {base:Heap} {A:Around} {outer:List Env} {s:Shared} {H:Hp} {q c':Addr} {nm qual x:Str} {params:Arguments} {body:Expr} {scope:Scope} {cl:List (Str×Addr)}
  {pm ctv u:Value} {v:V} {Ns:List Str} {vs:List V} {Q:VK} {t:TE} (e0:zlf P w K mg base A outer s H) (hroom:A.depth<recursionLimit) (hh:A.handled=none)
  (ho:s.heap.get? q=some (PySem.W.kla_obj nm qual params body scope cl pm c' ctv)) (hcd:s.heap.CodeRec (.ref c') qual)
  (hbind:bindArgs (PySem.W.kla_fn nm qual params body scope cl pm (.ref c') ctv) ⟨[u],[]⟩=pure [(x,u)]) (hloc:scope.names.lookup x=some .local) (hk:scope.kind=.function) (hco:scope.isCoroutine=false) (hgen:scope.isGenerator=false)
  (hcell:∀ y∈scope.names,y.2≠.cell) (T:zo0 H s.heap scope cl Ns vs) (rv:zb5 v u) (hb:PE (zlT P w K mg base (x::Ns) qual scope q (.ref c') cl A outer s H) body t) (h:t (some v::vs.map some) H Q) :
  codeAny (model P w) A (.call (.ref q) ⟨[u],[]⟩) (fun r s'=>match r with | .ok (.ret u')=>CE outer P w H s Q u' s' | _=>False) s:=by
 have lim:s.heap.NoLimit:=e0.mod.nolimit.keeps fun b o e=>(e0.bs b o e).1
 refine PySem.W.kla_callFunE hroom ho rfl hco hgen rfl hcd ?_
 rw [hbind]
 refine wpAny_pure (wpAny_newFunctionEnv hcell (fun y hy=>?_) (fun h₁ hns hsb=>⟨lim.fresh _ hsb,?_⟩) hk)
 ·rw [List.mem_singleton.mp hy];exact hloc
 have hk₁:∀ b o,s.heap.get? b=some o→h₁.get? b=some o:=fun b o e=>hsb.extBut b o (Nat.ne_of_lt (Heap.lt_size e)) (Heap.get?_push_of_some _ e)
 have I:Inv (zlT P w K mg base (x::Ns) qual scope q (.ref c') cl A outer s H) [] (some v::vs.map some) H { s with heap:=h₁,toks:=s.toks+1 }:=by
  have noA:∀ b:Addr,b∉(zlT P w K mg base (x::Ns) qual scope q (.ref c') cl A outer s H).ex:=fun b z=>absurd (show b∈([]:List Addr) from z) (by simp)
  refine ⟨⟨e0.mod,hk,rfl,rfl,Nat.le_refl _,T.inj,fun y hy=>?_,fun y c hf e=>?_,fun _=>hh,Around.frames_deeper e0.frames,.inr ⟨rfl,rfl⟩,fun b z=>absurd z (noA b),e0.bs,e0.bsz,fun b _ _=>noA b,fun b z=>absurd z (noA b),e0.funs,e0.frf⟩,
   rfl,e0.bare,Un.kept hk₁,⟨_,hns,fun i y v' h1 h2 h3=>?_⟩,fun y c e=>?_,e0.hok.fresh (Nat.le_refl _),fun y c e=>(T.cel y c e).1,fun p hp=>absurd (show p∈([]:List (Addr×Obj)) from hp) (by simp),e0.hok.kept hk₁,?_⟩
  ·have hy:scope.names.lookup y=some .cell∨scope.names.lookup y=some .free:=hy
   rcases hy with hy | hy
   ·exact absurd rfl (hcell _ (PySem.mem_of_lookup hy))
   ·exact T.has y hy
  ·have hf:(cl.lookup y).isNone=true:=hf
   have e:cl.lookup y=some c:=e
   rw [e] at hf
   cases hf
  ·cases i with
   | zero =>
    have h1:some x=some y:=h1
    have h2:some (some v)=some (some v'):=h2
    cases h1
    cases h2
    refine ⟨u,rv,.inl ⟨hloc,?_⟩⟩
    simp
   | succ i =>
    have h1:Ns[i]?=some y:=h1
    obtain ⟨c,uy,vy,e1,e2,e3,e4,e5⟩:=T.at' i y h1
    have h2:(vs.map some)[i]?=some (some v'):=h2
    rw [List.getElem?_map,e4] at h2
    cases h2
    obtain ⟨oc,z1,z2⟩:=e3
    exact ⟨uy,e5,.inr ⟨.inr e2,c,e1,⟨oc,hk₁ _ _ z1,z2⟩⟩⟩
  ·obtain ⟨v',oc,z1,z2⟩:=(T.cel y c e).2
   exact ⟨v',oc,hk₁ _ _ z1,z2⟩
  ·show (some v::vs.map some).length=(x::Ns).length
   rw [List.length_cons,List.length_map,List.length_cons,T.len]
 refine PySem.W.kla_codeExpr (wpAny_mono (hb [] _ _ H _ I h) (fun u' s' hs=>?_) fun _ _ z=>z.elim)
 obtain ⟨v',H',J,rv',q'⟩:=hs
 exact ⟨v',H',J.os,J.bare,J.base,J.hok,rv',q'⟩
def Bar (P:Addr) (H H':Hp):Prop:=∀ b o,b≠P→H b=some o→H' b=some o
def zcd (H:Hp) (P:Addr) (pos:Pos) (qual:Str):Prop:=H P=some (.tbl #[]) ∨
 ∃ (c':Addr) (oc:Obj) (vs:Array Value) (t:Nat),c'≠P∧H P=some (.tbl #[rawInt pos.line,rawInt pos.col,.ref c'])∧H c'=some (.frz oc (.own c'))∧oc.data=.fields vs∧vs[1]?=some (.str qual t)
section
variable {X:Cx} {pins:List (Addr×Obj)} {σ:St} {H:Hp} {s:Shared} {c P:Addr} {pos:Pos} {qual:Str} {params:Arguments} {body:Expr} {scope:Scope} {clos:List (Str×Addr)} {Q:Value→Shared→Prop} {E:Value→Shared→Prop}
theorem znQ {ps ps':Array Value} {h h':Heap} {Pg:Program} {w:World} {c':Addr} {oc:Obj} (ok:HOk Pg w H h) (hP:H P=some (.tbl ps)) (hc:H c'=none) (hx:∀ b o,b≠P→h.get? b=some o→h'.get? b=some o)
  (e1:h'.get? P=some { cls:=.none,data:=.fields ps' }) (e2:h'.get? c'=some oc):HOk Pg w (upd (upd H P (.tbl ps')) c' (.frz oc (.own c'))) h':=by
 have ncP:c'≠P:=fun z=>by rw [z,hP] at hc;cases hc
 intro b u e
 by_cases q:b=c'
 ·subst q
  rw [zaf] at e
  cases e
  exact ⟨e2,oc,e2⟩
 ·rw [zam q] at e
  by_cases q2:b=P
  ·subst q2
   rw [zaf] at e
   cases e
   exact e1
  ·rw [zam q2] at e
   refine (ok b u e).stay (fun d v hd r=>hx d v (fun z=>?_) r) (fun d r=>?_) fun d xs r=>?_
   ·rcases hd with rfl | hd
    ·exact q2 z
    ·rw [z,hP] at hd;cases hd
   ·rw [zam (fun z=>by rw [z,hc] at r;cases r),zam (fun z=>by rw [z,hP] at r;cases r)];exact r
   ·rw [zam (fun z=>by rw [z,hc] at r;cases r),zam (fun z=>by rw [z,hP] at r;cases r)];exact r
theorem zoV {ps more:Array Value} {fs ex:List Addr} {h h':Heap} {c':Addr} {oc:Obj} (hP:H P=some (.tbl ps)) (hc:H c'=none) (hf:h.objs.size≤c') (hx:∀ b o,b≠P→h.get? b=some o→h'.get? b=some o) (hPt:∃ o,h'.get? P=some o) :
  Un fs ex H (upd (upd H P (.tbl (ps++more))) c' (.frz oc (.own c'))) h h':=by
 have nP:∀ b,H b=none→b≠P:=fun b n z=>by rw [z,hP] at n;cases n
 have nc:∀ b u,H b=some u→b≠c':=fun b u e z=>by rw [z,hc] at e;cases e
 refine ⟨fun b o q n _ _=>hx b o (nP b n) q,fun b o q n _ _=>⟨o.slots,hx b o (nP b n) q⟩,fun b o q n _=>?_,fun b o q _=>?_,fun b xs q=>?_,fun b o u q=>?_,fun b ps' q=>?_⟩
 ·rw [zam (Nat.ne_of_lt (Nat.lt_of_lt_of_le (Heap.lt_size q) hf)),zam (nP b n)];exact n
 ·by_cases z:b=P
  ·rw [z];exact hPt
  ·exact ⟨o,hx b o z q⟩
 ·rw [zam (nc b _ q),zam (fun z=>by rw [z,hP] at q;cases q)];exact q
 ·rw [zam (nc b _ q),zam (fun z=>by rw [z,hP] at q;cases q)];exact q
 ·rw [zam (nc b _ q)]
  by_cases z:b=P
  ·subst z
   rw [hP] at q
   cases q
   exact ⟨more,zaf⟩
  ·rw [zam z]
   exact ⟨#[],by rw [q];simp⟩
theorem zmE (I:Inv X pins σ H s) (hcode:X.env.code=.ref c) (C:PySem.W.CodeHd X.base c P) (hB:X.base.BuiltinsAt X.mg P) (hL:zcd H P pos qual) (hcl:closureFor scope X.env=pure clos) (hdef:defaultsOf params X.env=([],[]))
  (hq:X.env.qual++"<lambda>"=qual)
  (h:∀ (q c':Addr) (pm ctv:Value) (H':Hp) (s':Shared) (oc:Obj) (vs:Array Value) (t:Nat),Inv X pins σ H' s'→Bar P H H'→zcd H' P pos qual→s'.heap.get? q=some (PySem.W.kla_obj "<lambda>" qual params body scope clos pm c' ctv) →
   H' c'=some (.frz oc (.own c'))→oc.data=.fields vs→vs[1]?=some (.str qual t)→zgn X pins H' q→Q (.ref q) s') :
  wpAny (model X.prog X.w) X.A (eval (.Lambda params body scope pos) X.env) Q E s:=by
 have hg:s.heap.Ns mainGlobals X.mg:=I.ok.mod.glob.keeps I.bk
 have C':=C.keeps I.bk
 obtain ⟨bm,ob,b1,b2,b3,b4,b5,b6⟩:=hB
 have hgP:∀ ps,H P=some (.tbl ps)→mainGlobals≠P:=fun ps hP z=>by
  have e:=I.hok P _ hP
  obtain ⟨o,es,ep,e',d,_⟩:=hg
  rw [z] at e'
  have e:s.heap.get? P=some { cls:=.none,data:=.fields ps }:=e
  rw [e'] at e
  cases e
  cases d
 refine PySem.W.kla_eval hdef ?_
 rw [hq]
 rcases hL with hP | ⟨c',oc,vs,t,ne,hP,hc,hd,hv⟩
 ·refine PySem.W.kla_makeFunction (mg:=X.mg) (ps:=#[]) hcl I.ok.glob hg hcode C' (I.hok P _ hP) trivial rfl (hgP _ hP) ⟨bm,ob,b1,b2,b3,b4,I.bk _ _ b5,b6⟩ fun c' ctv h' tk hx hge hlt hrec htb=>?_
  obtain ⟨c₂,oc,vs,t,e2,hoc,hd,hv⟩:=hrec
  cases e2
  have hcn:H c'=none:=I.hok.fresh hge
  have hx':∀ b o,b≠P→s.heap.get? b=some o→(h'.push (PySem.W.kla_obj "<lambda>" qual params body scope clos ((X.mg "__name__").getD .none) c' ctv)).get? b=some o:=fun b o q e=>Heap.get?_push_of_some _ (hx b o q e)
  have e1:(h'.push (PySem.W.kla_obj "<lambda>" qual params body scope clos ((X.mg "__name__").getD .none) c' ctv)).get? P=some { cls:=.none,data:=.fields (#[]++#[rawInt pos.line,rawInt pos.col,.ref c']) }:=Heap.get?_push_of_some _ htb
  have e2:(h'.push (PySem.W.kla_obj "<lambda>" qual params body scope clos ((X.mg "__name__").getD .none) c' ctv)).get? c'=some oc:=Heap.get?_push_of_some _ hoc
  have ncP:c'≠P:=fun z=>by rw [z,hP] at hcn;cases hcn
  have J:=I.un (t':=tk) (zoV (more:=#[rawInt pos.line,rawInt pos.col,.ref c']) (oc:=oc) hP hcn hge hx' ⟨_,e1⟩) (znQ I.hok hP hcn hx' e1 e2)
  have hsz:s.heap.objs.size≤h'.objs.size:=Nat.le_trans hge (Nat.le_of_lt hlt)
  have nq:H h'.objs.size=none:=I.hok.fresh hsz
  refine h h'.objs.size c' _ ctv _ _ oc vs t J (fun b o nb e=>?_) (.inr ⟨c',oc,vs,t,ncP,?_,zaf,hd,hv⟩) (Heap.get?_push_size _ rfl) zaf hd hv (I.fpOk hsz ?_)
  ·rw [zam (fun z=>by rw [z,hcn] at e;cases e),zam nb];exact e
  ·rw [zam (Ne.symm ncP),zaf];rfl
  ·rw [zam (Nat.ne_of_gt hlt),zam (fun z=>by rw [z,hP] at nq;cases nq)];exact nq
 ·have hf:codeAmong pos (#[rawInt pos.line,rawInt pos.col,Value.ref c']:Array Value).toList=some (.ref c'):=by simp [codeAmong,rawInt]
  refine PySem.W.kla_makeFunctionHit (mg:=X.mg) (ps:=#[rawInt pos.line,rawInt pos.col,.ref c']) hcl I.ok.glob hg hcode C' (I.hok P _ hP) trivial hf ⟨bm,ob,b1,b2,b3,b4,I.bk _ _ b5,b6⟩ fun ctv h' tk hk hsz=>?_
  have J:=I.kept (t':=tk) (h':=h'.push (PySem.W.kla_obj "<lambda>" qual params body scope clos ((X.mg "__name__").getD .none) c' ctv)) fun b u e=>Heap.get?_push_of_some _ (hk b u e)
  exact h h'.objs.size c' _ ctv H _ oc vs t J (fun _ _ _ e=>e) (.inr ⟨c',oc,vs,t,ne,hP,hc,hd,hv⟩) (Heap.get?_push_size _ rfl) hc hd hv (I.fpOk hsz (I.hok.fresh hsz))
end
end L2
namespace L2
open PySem PySem.Spec PyProof.Rows
section
variable {X:Cx} {pins:List (Addr×Obj)} {σ:St} {H:Hp} {l q S I:Addr} {ns:List Int} {R:Result→Shared→Prop}
theorem Inv.with2 {s:Shared} {o₁ o₂:Obj} (J:Inv X pins σ H s) (h1:s.heap.get? S=some o₁) (f1:zgn X pins H S) (d1:∀ v,o₁.data≠.cell v) (h2:s.heap.get? I=some o₂) (f2:zgn X pins H I) (d2:∀ v,o₂.data≠.cell v) :
  Inv X (pins++[(S,o₁),(I,o₂)]) σ H s:=J.pins_of fun p hp=>by
 rcases List.mem_append.mp hp with hp | hp
 ·exact J.pin p (List.mem_append_right _ hp)
 ·rcases List.mem_cons.mp hp with rfl | hp
  ·exact ⟨h1,f1.1,f1.2.1,f1.2.2.1,d1⟩
  ·rw [List.mem_singleton.mp hp]
   exact ⟨h2,f2.1,f2.2.1,f2.2.2.1,d2⟩
theorem zk0 (kf:Nat→Int) (hh:X.A.handled=none) (hl:SqL X.K H l (ns.map V.int)) (hlI:l≠I) (hSI:S≠I) (fS:zgn X pins H S) (fI:zgn X pins H I)
  (turn:∀ (i:Nat) (n:Int) (v:Value),ns[i]?=some n→zb5 (.int n) v→∀ (pl:List (Addr×Obj)) (s:Shared),Inv X (pins++pl) σ H s →
   wpAny (model X.prog X.w) X.A.in1 (call (.ref q) [v]) (EP X (pins++pl) σ (fun v' H2=>v'=.int (kf i)∧H2=H)) (fun _ _=>False) s)
  (hR:∀ i n v s,ns[i]?=some n→zb5 (.int n) v→(∀ j,j<ns.length→kf i≤kf j)→Inv X pins σ H s→R (.ok (.ret v)) s) :
  ∀ (r j i:Nat) (s:Shared) (n:Int) (vb:Value) (tb:Tok) (c:Nat),ns.length - (j+1)=r→j+1≤ns.length→Inv X pins σ H s→s.heap.get? S=some (seqObj "list" #[vb,.int (kf i) tb] c)→s.heap.IsListIter I l (j+1) →
   ns[i]?=some n→zb5 (.int n) vb→i≤j→(∀ j',j'≤j→kf i≤kf j')→codeAny (model X.prog X.w) X.A (.builtin "min.loop" ⟨[.ref I,.ref q,.ref S],[]⟩) R s:=by
 have hname:(toString "min"++toString ".loop":String)="min.loop":=by decide
 have upS:∀ {s:Shared} {f:Obj→Obj} {t:Nat},Inv X pins σ H s→Inv X pins σ H { s with heap:=s.heap.update S f,toks:=t }:=fun {s f t} J =>
  J.turns (ch:=[S]) (fun b o hb e=>by rw [Heap.get?_update_ne _ _ _ _ (fun z=>hb (by rw [z];exact List.mem_singleton.mpr rfl))];exact e) fun b hb=>by rw [List.mem_singleton.mp hb];exact fS
 intro r
 induction r with
 | zero =>
  intro j i s n vb tb c hr hj J hS hit hn rb hij hbest
  obtain ⟨its,rv,pl,hz⟩:=J.list hl
  have hsz:its.toArray.size=ns.length:=by rw [List.size_toArray,← rv.length,List.length_map]
  have W:=Walks.list (prog:=X.prog) (w:=X.w) (A:=X.A.in1) hh I l hlI its.toArray
  have hin:j+1=ns.length:=by (first|lia|omega)
  refine codeAny_builtin PySem.F.entry_min_loop ?_
  rw [Around.under_plainId PySem.F.plain_min_loop _]
  show wpAny _ X.A.in1 (seqItems? (.ref S) >>= _) _ _ _
  refine wpAny_bind (wpAny_seqItems hS rfl ?_)
  show wpAny _ X.A.in1 (tryCatch (pyNext (.ref I)) _ >>= _) _ _ _
  refine wpAny_bind (wpAny_tryCatch (W.done _ _ _ ⟨by rw [hsz,← hin];exact hit,pl.isList⟩ fun h' tk' hk'=>?_))
  have J1:=J.turns (t':=tk') hk' fun b hb=>by rw [List.mem_singleton.mp hb];exact fI
  have hS':=hk' S _ (by simpa using hSI) hS
  show wpAny _ X.A.in1 (updateSeq S (fun _=>#[]) >>= _) _ _ _
  refine wpAny_bind ?_
  refine wpAny_updateSeq hS' rfl (wpAny_bind (wpAny_letGo (wpAny_pure ?_)))
  exact hR i n vb _ hn rb (fun j' hj'=>hbest j' (by (first|lia|omega))) (upS J1)
 | succ r ih =>
  intro j i s n vb tb c hr hj J hS hit hn rb hij hbest
  obtain ⟨its,rv,pl,hz⟩:=J.list hl
  have hsz:its.toArray.size=ns.length:=by rw [List.size_toArray,← rv.length,List.length_map]
  have W:=Walks.list (prog:=X.prog) (w:=X.w) (A:=X.A.in1) hh I l hlI its.toArray
  have hlt:j+1<ns.length:=by (first|lia|omega)
  refine codeAny_builtin PySem.F.entry_min_loop ?_
  rw [Around.under_plainId PySem.F.plain_min_loop _]
  show wpAny _ X.A.in1 (seqItems? (.ref S) >>= _) _ _ _
  refine wpAny_bind (wpAny_seqItems hS rfl ?_)
  show wpAny _ X.A.in1 (tryCatch (pyNext (.ref I)) _ >>= _) _ _ _
  refine wpAny_bind (wpAny_tryCatch (W.item (j+1) _ _ _ (by rw [hsz];exact hlt) ⟨hit,pl.isList⟩ fun v h' tk' hP hst' hk'=>?_))
  have hv:its[j+1]?=some v:=by simpa using hP
  obtain ⟨n',hn',rv'⟩:∃ n',ns[j+1]?=some n'∧zb5 (.int n') v:=by
   obtain ⟨n',e⟩:∃ n',ns[j+1]?=some n':=⟨_,List.getElem?_eq_getElem hlt⟩
   obtain ⟨u,hu,ru⟩:=rv.get (x:=.int n') (by rw [List.getElem?_map,e];rfl)
   rw [hv] at hu
   cases hu
   exact ⟨n',e,ru⟩
  obtain ⟨oI',hoI',hoc,hod⟩:=id hst'.1
  have J1:=J.turns (t':=tk') hk' fun b hb=>by rw [List.mem_singleton.mp hb];exact fI
  have hS':=hk' S _ (by simpa using hSI) hS
  show wpAny _ X.A.in1 (tryCatch (holding [v] (call (.ref q) [v])) _ >>= _) _ _ _
  refine wpAny_bind (wpAny_tryCatch (wpAny_holding (wpAny_mono (turn (j+1) n' v hn' rv' _ _ (J1.with2 hS' fS (fun _ z=>by cases z) hoI' fI (fun _ z=>by rw [hod] at z;cases z))) (fun x s'' he=>?_) fun _ _ hF=>hF.elim)))
  obtain ⟨v',H2,J2,rx,rfl,rfl⟩:=he
  obtain ⟨t2,rfl⟩:=(show ∃ t,x=Value.int (kf (j+1)) t from rx)
  have nS2:=(J2.pin (S,seqObj "list" #[vb,.int (kf i) tb] c) (List.mem_append_right _ (List.mem_append_right _ (.head _)))).1
  have nI2:=(J2.pin (I,oI') (List.mem_append_right _ (List.mem_append_right _ (.tail _ (.head _))))).1
  have J3:Inv X pins σ H2 s'':=J2.unpinned
  have hit2:s''.heap.IsListIter I l (j+1+1):=⟨oI',nI2,hoc,hod⟩
  show wpAny _ X.A.in1 (tryCatch (holding [v,.int (kf (j+1)) t2] (richCompare .Lt (.int (kf (j+1)) t2) (.int (kf i) tb) >>= _)) _ >>= _) _ _ _
  refine wpAny_bind (wpAny_tryCatch (wpAny_holding (wpAny_bind (CmpOf.ints_lt (prog:=X.prog) (w:=X.w) (A:=X.A.in1) (P:=fun i v=>∃ t,v=.int (kf i) t) kf (fun i v h=>h) (j+1) i _ _ _ _ _ ⟨t2,rfl⟩ ⟨tb,rfl⟩ ?_))))
  refine wpAny_bind (wpAny_holding (wpAny_truthy_bool ?_))
  refine wpAny_bind (wpAny_letGo (wpAny_pure ?_))
  by_cases hb':kf (j+1)<kf i
  ·have s1:=Heap.SameBut.update s''.heap S (Obj.mapSeq fun _=>#[v,.int (kf (j+1)) t2])
   obtain ⟨c2,hc2⟩:∃ c2,(s''.heap.update S (Obj.mapSeq fun _=>#[v,.int (kf (j+1)) t2])).get? S=some (seqObj "list" #[v,.int (kf (j+1)) t2] c2):=⟨_,get?_update_seq nS2 fun _=>#[v,.int (kf (j+1)) t2]⟩
   simp only [hb',decide_true,if_true]
   refine wpAny_bind ?_
   refine wpAny_updateSeq nS2 rfl (wpAny_bind (wpAny_letGo ?_))
   rw [hname]
   refine wpAny_pure ⟨plainId_quiet PySem.F.plain_min_loop _,ih (j+1) (j+1) _ n' v t2 c2 (by (first|lia|omega)) hlt (upS J3) hc2 ⟨oI',(s1.2 I hSI.symm).trans nI2,hoc,hod⟩ hn' rv' (Nat.le_refl _) fun j' hj'=>?_⟩
   by_cases e:j'=j+1
   ·rw [e];exact Int.le_refl _
   ·have:=hbest j' (by (first|lia|omega))
    (first|lia|omega)
  ·simp only [hb',decide_false,Bool.false_eq_true,if_false]
   refine wpAny_bind (wpAny_letGo ?_)
   rw [hname]
   refine wpAny_pure ⟨plainId_quiet PySem.F.plain_min_loop _,ih (j+1) i _ n vb tb c (by (first|lia|omega)) hlt J3 nS2 hit2 hn rb (by (first|lia|omega)) fun j' hj'=>?_⟩
   by_cases e:j'=j+1
   ·subst e
    (first|lia|omega)
   ·exact hbest j' (by (first|lia|omega))
theorem zlc {s:Shared} {Q:Value→Shared→Prop} {E:Value→Shared→Prop} (kf:Nat→Int) (hh:X.A.handled=none) (J:Inv X pins σ H s) (hl:SqL X.K H l (ns.map V.int)) (hne:0<ns.length)
  (turn:∀ (i:Nat) (n:Int) (v:Value),ns[i]?=some n→zb5 (.int n) v→∀ (pl:List (Addr×Obj)) (s:Shared),Inv X (pins++pl) σ H s →
   wpAny (model X.prog X.w) X.A.in1 (call (.ref q) [v]) (EP X (pins++pl) σ (fun v' H2=>v'=.int (kf i)∧H2=H)) (fun _ _=>False) s)
  (hQ:∀ i n v s,ns[i]?=some n→zb5 (.int n) v→(∀ j,j<ns.length→kf i≤kf j)→Inv X pins σ H s→Q v s) :
  wpAny (model X.prog X.w) X.A (call (.builtin "min") [.ref l] [(Str.ofString "key",.ref q)]) Q E s:=by
 have hname:(toString "min"++toString ".loop":String)="min.loop":=by decide
 obtain ⟨its,rv,pl,hz⟩:=J.list hl
 have hls:=pl.isList
 obtain ⟨ol,hol,_⟩:=id hls
 have hll:l<s.heap.objs.size:=Heap.lt_size hol
 refine kmk_tree PySem.F.kind_min PySem.F.plain_min PySem.F.entry_min (kmk_min_key _ _) ?_
 show wpAny _ X.A.in1 (Builtin.Builtins.bindParams "min" ["key","default"] 0 ⟨[],[(Str.ofString "key",.ref q)]⟩ >>= _) _ _ s
 refine wpAny_bind (wpAny_of_eq (show Builtin.Builtins.bindParams "min" ["key","default"] 0 ⟨[],[(Str.ofString "key",.ref q)]⟩=pure [some (.ref q),none] from rfl) ?_)
 refine wpAny_bind (wpAny_pure ?_)
 refine wpAny_bind (wpAny_pyIter_list hls ?_)
 refine wpAny_bind (wpAny_newList ?_ (Nat.zero_le _))
 rw [hname]
 have hS:(s.heap.push { cls:=.type "list_iterator",data:=.fields #[.ref l,.int 0 0] }).objs.size=s.heap.objs.size+1:=size_push' ..
 have hlI:l≠s.heap.objs.size:=Nat.ne_of_lt hll
 have hSI:(s.heap.push { cls:=.type "list_iterator",data:=.fields #[.ref l,.int 0 0] }).objs.size≠s.heap.objs.size:=by rw [hS];exact Nat.ne_of_gt (Nat.lt_succ_self _)
 refine wpAny_pure ⟨plainId_quiet PySem.F.plain_min_loop _,?_⟩
 have gI:((s.heap.push { cls:=.type "list_iterator",data:=.fields #[.ref l,.int 0 0] }).push (seqObj "list" #[] 0)).get? s.heap.objs.size=some { cls:=.type "list_iterator",data:=.fields #[.ref l,.int 0 0] } :=
  Heap.get?_push_of_some _ (Heap.get?_push_size _ rfl)
 have gS:((s.heap.push { cls:=.type "list_iterator",data:=.fields #[.ref l,.int 0 0] }).push (seqObj "list" #[] 0)).get? (s.heap.push { cls:=.type "list_iterator",data:=.fields #[.ref l,.int 0 0] }).objs.size=some (seqObj "list" #[] 0):=Heap.get?_push_size _ rfl
 have J0:Inv X pins σ H { s with heap:=(s.heap.push { cls:=.type "list_iterator",data:=.fields #[.ref l,.int 0 0] }).push (seqObj "list" #[] 0) } :=
  J.kept (t':=s.toks) fun b x e=>Heap.get?_push_of_some _ (Heap.get?_push_of_some _ e)
 have fI:zgn X pins H s.heap.objs.size:=J.fpOk (Nat.le_refl _) (J.hok.fresh (Nat.le_refl _))
 have fS:zgn X pins H (s.heap.push { cls:=.type "list_iterator",data:=.fields #[.ref l,.int 0 0] }).objs.size:=J.fpOk (by rw [hS];exact Nat.le_succ _) (J.hok.fresh (by rw [hS];exact Nat.le_succ _))
 have hsz:its.toArray.size=ns.length:=by rw [List.size_toArray,← rv.length,List.length_map]
 have W:=Walks.list (prog:=X.prog) (w:=X.w) (A:=X.A.in1) hh s.heap.objs.size l hlI its.toArray
 obtain ⟨its0,rv0,pl0,_⟩:=J0.list hl
 have W0:=Walks.list (prog:=X.prog) (w:=X.w) (A:=X.A.in1) hh s.heap.objs.size l hlI its0.toArray
 have hsz0:its0.toArray.size=ns.length:=by rw [List.size_toArray,← rv0.length,List.length_map]
 refine codeAny_builtin PySem.F.entry_min_loop ?_
 rw [Around.under_plainId PySem.F.plain_min_loop _]
 show wpAny _ X.A.in1 (seqItems? (.ref _) >>= _) _ _ _
 refine wpAny_bind (wpAny_seqItems gS rfl ?_)
 show wpAny _ X.A.in1 (tryCatch (pyNext (.ref s.heap.objs.size)) _ >>= _) _ _ _
 refine wpAny_bind (wpAny_tryCatch (W0.item 0 _ _ _ (by rw [hsz0];exact hne) ⟨⟨_,gI,rfl,rfl⟩,pl0.isList⟩ fun v h' tk' hP hst' hk'=>?_))
 have hv:its0[0]?=some v:=by simpa using hP
 obtain ⟨n',hn',rv'⟩:∃ n',ns[0]?=some n'∧zb5 (.int n') v:=by
  obtain ⟨n',e⟩:∃ n',ns[0]?=some n':=⟨_,List.getElem?_eq_getElem hne⟩
  obtain ⟨u,hu,ru⟩:=rv0.get (x:=.int n') (by rw [List.getElem?_map,e];rfl)
  rw [hv] at hu
  cases hu
  exact ⟨n',e,ru⟩
 obtain ⟨oI',hoI',hoc,hod⟩:=id hst'.1
 have J1:=J0.turns (t':=tk') hk' fun b hb=>by rw [List.mem_singleton.mp hb];exact fI
 have hS':=hk' _ _ (by simpa using hSI) gS
 show wpAny _ X.A.in1 (tryCatch (holding [v] (call (.ref q) [v])) _ >>= _) _ _ _
 refine wpAny_bind (wpAny_tryCatch (wpAny_holding (wpAny_mono (turn 0 n' v hn' rv' _ _ (J1.with2 hS' fS (fun _ z=>by cases z) hoI' fI (fun _ z=>by rw [hod] at z;cases z))) (fun x s'' he=>?_) fun _ _ hF=>hF.elim)))
 obtain ⟨v',H2,J2,rx,rfl,rfl⟩:=he
 obtain ⟨t2,rfl⟩:=(show ∃ t,x=Value.int (kf 0) t from rx)
 have nS2:=(J2.pin (_,seqObj "list" #[] 0) (List.mem_append_right _ (List.mem_append_right _ (.head _)))).1
 have nI2:=(J2.pin (s.heap.objs.size,oI') (List.mem_append_right _ (List.mem_append_right _ (.tail _ (.head _))))).1
 have J3:Inv X pins σ H2 s'':=J2.unpinned
 have s1:=Heap.SameBut.update s''.heap (s.heap.push { cls:=.type "list_iterator",data:=.fields #[.ref l,.int 0 0] }).objs.size (Obj.mapSeq fun _=>#[v,.int (kf 0) t2])
 obtain ⟨c2,hc2⟩:∃ c2,(s''.heap.update (s.heap.push { cls:=.type "list_iterator",data:=.fields #[.ref l,.int 0 0] }).objs.size (Obj.mapSeq fun _=>#[v,.int (kf 0) t2])).get? (s.heap.push { cls:=.type "list_iterator",data:=.fields #[.ref l,.int 0 0] }).objs.size=some (seqObj "list" #[v,.int (kf 0) t2] c2):=⟨_,get?_update_seq nS2 fun _=>#[v,.int (kf 0) t2]⟩
 show wpAny _ X.A.in1 (updateSeq (s.heap.push { cls:=.type "list_iterator",data:=.fields #[.ref l,.int 0 0] }).objs.size (fun _=>#[v,.int (kf 0) t2]) >>= _) _ _ _
 refine wpAny_bind ?_
 refine wpAny_updateSeq nS2 rfl ?_
 rw [hname]
 have J4:Inv X pins σ H2 { s'' with heap:=s''.heap.update (s.heap.push { cls:=.type "list_iterator",data:=.fields #[.ref l,.int 0 0] }).objs.size (Obj.mapSeq fun _=>#[v,.int (kf 0) t2]) } :=
  J3.turns (t':=s''.toks) (ch:=[(s.heap.push { cls:=.type "list_iterator",data:=.fields #[.ref l,.int 0 0] }).objs.size]) (fun b o hb e=>by rw [Heap.get?_update_ne _ _ _ _ (fun z=>hb (by rw [z];exact List.mem_singleton.mpr rfl))];exact e) fun b hb=>by rw [List.mem_singleton.mp hb];exact fS
 exact wpAny_pure ⟨plainId_quiet PySem.F.plain_min_loop _,zk0 kf hh hl hlI hSI fS fI turn hQ _ 0 0 _ n' v t2 c2 rfl hne J4 hc2 ⟨oI',(s1.2 _ hSI.symm).trans nI2,hoc,hod⟩ hn' rv' (Nat.le_refl _) fun j' hj'=>by rw [Nat.le_zero.mp hj'];exact Int.le_refl _⟩
end
end L2
namespace L2
open PySem PySem.Spec PyProof.Rows
structure zoI (X:Cx) (sc:Scope) (cl:List (Str×Addr)) (Ns:List Str) (js:List Nat):Prop where
 len:js.length=Ns.length
 at':∀ (i:Nat) (y:Str),Ns[i]?=some y→∃ j c,js[i]?=some j∧X.N[j]?=some y∧X.env.scope.names.lookup y=some .cell∧cl.lookup y=some c∧sc.names.lookup y=some .free
 has:∀ y,sc.names.lookup y=some .free→∃ c,cl.lookup y=some c
 sub:∀ y c,cl.lookup y=some c→X.env.cells.lookup y=some c
def zhI (K:PySem.W.Frag) (P:Addr) (pos:Pos) (qual:Str) (js:List Nat) (ta:TA) (tb:TE):TE:=fun σ H Q=>ta σ H fun vs H1=>∃ (l:Addr) (ns:List Int) (ws:List V),vs=[.ref l]∧SqL K H1 l (ns.map V.int)∧0<ns.length ∧
 js.map (fun j=>σ[j]?)=ws.map (fun w=>some (some w))∧zcd H1 P pos qual∧∀ H2,Bar P H1 H2→zcd H2 P pos qual→∃ kf:Int→Int,
  (∀ n∈ns,tb (some (.int n)::ws.map some) H2 fun v H3=>v=.int (kf n)∧H3=H2)∧∀ n∈ns,(∀ m∈ns,kf n≤kf m)→Q (.int n) H2
theorem zcd.tbl {H:Hp} {P:Addr} {pos:Pos} {qual:Str} (h:zcd H P pos qual):∃ ps,H P=some (.tbl ps):=by
 rcases h with h | ⟨_,_,_,_,_,h,_⟩ <;> exact ⟨_,h⟩
theorem SqL.bar {K:PySem.W.Frag} {H H':Hp} {P l:Addr} {xs:List V} (b:Bar P H H') {ps:Array Value} (hP:H P=some (.tbl ps)) (h:SqL K H l xs):SqL K H' l xs:=by
 rcases h with (h | ⟨o,h⟩) | h
 ·exact .inl (.inl (b _ _ (fun z=>by rw [z,hP] at h;cases h) h))
 ·exact .inl (.inr ⟨o,b _ _ (fun z=>by rw [z,hP] at h;cases h) h⟩)
 ·exact .inr h
section
variable {X:Cx} {e body:Expr} {t:TA} {tb:TE} {pos p kp lpos:Pos} {c P:Addr} {params:Arguments} {scope:Scope} {clos:List (Str×Addr)} {qual x:Str} {Ns:List Str} {js:List Nat} {k:Nat}
theorem zoI.taken {pins:List (Addr×Obj)} {σ:St} {H:Hp} {s:Shared} {ws:List V} (C:zoI X scope clos Ns js) (I:Inv X pins σ H s) (hw:js.map (fun j=>σ[j]?)=ws.map (fun w=>some (some w))):zo0 H s.heap scope clos Ns ws:=by
 have hl:ws.length=js.length:=by
  have:=congrArg List.length hw
  rw [List.length_map,List.length_map] at this
  exact this.symm
 refine ⟨hl.trans C.len,fun i y hi=>?_,C.has,fun y d hd=>⟨I.freeC y d (C.sub y d hd),I.cell y d (C.sub y d hd)⟩,fun y z d h1 h2=>I.ok.inj y z d (C.sub y d h1) (C.sub z d h2)⟩
 obtain ⟨j,d,e1,e2,e3,e4,e5⟩:=C.at' i y hi
 have g:=congrArg (fun l=>l[i]?) hw
 simp only [List.getElem?_map,e1,Option.map_some] at g
 cases hwi:ws[i]? with
 | none=>rw [hwi] at g;cases g
 | some vy =>
  rw [hwi] at g
  have g:some (σ[j]?)=some (some (some vy)):=g
  have g':σ[j]?=some (some vy):=Option.some.inj g
  obtain ⟨m,_,hlk⟩:=I.loc
  obtain ⟨u,ru,lk⟩:=hlk j y vy e2 g' (.inr (.inl e3))
  rcases lk with ⟨k1,_⟩ | ⟨_,d',f1,f2⟩
  ·have k1:X.env.scope.names.lookup y=some .local:=k1
   rw [e3] at k1
   cases k1
  ·have:=C.sub y d e4
   rw [this] at f1
   cases f1
   exact ⟨d,u,vy,e4,e5,f2,rfl,ru⟩
theorem zkn (hr:zfk (k+1) X.A) (hg:Gl X "min") (hm:X.mg "min"=none) (ha:PA X [e] t) (hcode:X.env.code=.ref c) (C:PySem.W.CodeHd X.base c P) (hB:X.base.BuiltinsAt X.mg P) (hcl:closureFor scope X.env=pure clos)
  (hdef:defaultsOf params X.env=([],[])) (hq:X.env.qual++"<lambda>"=qual) (hcap:zoI X scope clos Ns js)
  (hbind:∀ (pm cd ctv u:Value),bindArgs (PySem.W.kla_fn "<lambda>" qual params body scope clos pm cd ctv) ⟨[u],[]⟩=pure [(x,u)]) (hloc:scope.names.lookup x=some .local) (hk:scope.kind=.function) (hco:scope.isCoroutine=false) (hgen:scope.isGenerator=false)
  (hcell:∀ y∈scope.names,y.2≠.cell) (hb:∀ (f:Addr) (cd:Value) (A:Around) (outer:List Env) (s:Shared) (H:Hp),PE (zlT X.prog X.w X.K X.mg X.base (x::Ns) qual scope f cd clos A outer s H) body tb)
  (he:backTo pos (starEach [e] X.env)=(false,eval e X.env)::backTo pos (starEach [] X.env):=by rfl) (hpl:(backTo pos (starEach [e] X.env)).any (·.1)=false:=by rfl) :
  PE X (.Call (.Name "min" p) [e] [⟨some "key",.Lambda params body scope lpos,kp⟩] pos) (zhI X.K P lpos qual js t tb):=by
 intro pins s σ H Q I h
 refine wpAny_Call_Name_kw (zfT I hg hm PyProof.Rows.boot_min ?_ (by decide) (by decide))
 refine PyProof.Rows.callWith_kw (thn (ha pos pins s σ H _ I h) fun us s1 hQ'=>?_) he hpl
 obtain ⟨vs,H1,I1,r1,q1⟩:=hQ'
 obtain ⟨l,ns,ws,rfl,hl,hne,hw,hL,q⟩:=q1
 obtain ⟨u,rfl,rx⟩:=zkH r1
 cases rx
 obtain ⟨ps,hP⟩:=hL.tbl
 refine PyProof.Rows.kws_cons (zmE I1 hcode C hB hL hcl hdef hq fun qa c' pm ctv H2 s2 oc ovs ot I2 bar hL2 hqa hc' hd hv fq=>?_)
 refine PyProof.Rows.kws_nil ?_
 obtain ⟨kf,hkf,hQ⟩:=q H2 bar hL2
 have I3:Inv X (pins++[(qa,PySem.W.kla_obj "<lambda>" qual params body scope clos pm c' ctv)]) σ H2 s2:=I2.pins_of fun p hp=>by
  rcases List.mem_append.mp hp with hp | hp
  ·exact I2.pin p (List.mem_append_right _ hp)
  ·rw [List.mem_singleton.mp hp]
   exact ⟨hqa,fq.1,fq.2.1,fq.2.2.1,fun v z=>by cases z⟩
 refine zlc (pins:=pins++[(qa,PySem.W.kla_obj "<lambda>" qual params body scope clos pm c' ctv)]) (ns:=ns) (fun i=>kf (ns.getD i 0)) hr.hd I3 (hl.bar bar hP) hne (fun i n v hn rv pl s3 J=>?_) fun i n v s3 hn rv hbest J=>?_
 ·have hnm:n∈ns:=List.mem_of_getElem? hn
  have gd:ns.getD i 0=n:=by rw [List.getD_eq_getElem?_getD,hn];rfl
  have hqa3:=(J.pin (qa,PySem.W.kla_obj "<lambda>" qual params body scope clos pm c' ctv) (List.mem_append_right _ (List.mem_append_left _ (List.mem_append_right _ (.head _))))).1
  have hc3:s3.heap.get? c'=some oc:=(J.hok c' _ hc').1
  refine wpAny_call (codeAny_mono (zlK (t:=tb) (Ns:=Ns) (vs:=ws) (x:=x) (v:=.int n) J.env0.in1 hr.in1.depth hr.hd hqa3 ⟨c',oc,ovs,ot,rfl,hc3,hd,hv⟩ (hbind _ _ _ _) hloc hk hco hgen hcell (hcap.taken J hw) rv (hb _ _ _ _ _ _) (hkf n hnm)) fun r s' hq=>?_)
  cases r with
  | error e=>exact hq.elim
  | ok fl =>
   cases fl with
   | ret u =>
    have hq:CE X.stack X.prog X.w H2 s3 _ u s':=hq
    have:=J.after hq
    dsimp only
    rw [gd]
    exact this
   | next=>exact hq.elim
   | brk=>exact hq.elim
   | cont=>exact hq.elim
 ·have hnm:n∈ns:=List.mem_of_getElem? hn
  have gd:ns.getD i 0=n:=by rw [List.getD_eq_getElem?_getD,hn];rfl
  refine ⟨.int n,H2,J.unpinned,rv,hQ n hnm fun m hm'=>?_⟩
  obtain ⟨j,hj,ej⟩:=List.getElem_of_mem hm'
  have:=hbest j hj
  rw [gd] at this
  have gj:ns.getD j 0=m:=by rw [List.getD_eq_getElem?_getD,List.getElem?_eq_getElem hj,ej];rfl
  rw [gj] at this
  exact this
end
end L2
namespace L2
open PySem PySem.Spec PyProof.Rows
def zb8 (P:Addr) (K:PySem.W.Frag):PySem.W.Frag:=K.filter fun x=>x.1 != P
theorem za5 {P b:Addr} (h:b≠P):∀ {K:PySem.W.Frag},(zb8 P K).lookup b=K.lookup b
 | []=>rfl
 | (a,o)::K=>by
  unfold zb8
  by_cases q:a=P
  ·rw [List.filter_cons_of_neg (by simpa using q)]
   show (zb8 P K).lookup b=_
   rw [za5 h,List.lookup_cons,show (b == a)=false from beq_eq_false_iff_ne.mpr (by rw [q];exact h)]
  ·rw [List.filter_cons_of_pos (by simpa using q),List.lookup_cons,List.lookup_cons]
   show (match b == a with | true=>some o | false=>(zb8 P K).lookup b)=_
   rw [za5 h]
   cases b == a <;> rfl
theorem zaU {P:Addr}:∀ {K:PySem.W.Frag},(zb8 P K).lookup P=none
 | []=>rfl
 | (a,o)::K=>by
  unfold zb8
  by_cases q:a=P
  ·rw [List.filter_cons_of_neg (by simpa using q)]
   exact zaU (K:=K)
  ·rw [List.filter_cons_of_pos (by simpa using q),List.lookup_cons,show (P == a)=false from beq_eq_false_iff_ne.mpr (Ne.symm q)]
   exact zaU (K:=K)
theorem zn6 {P:Addr} {K:PySem.W.Frag} {h:Heap} (KX:K.In h):(zb8 P K).In h:=fun b o e=>by
 by_cases q:b=P
 ·rw [q,zaU] at e;cases e
 ·rw [za5 q] at e;exact KX b o e
theorem zkG {Pg:Program} {w:World} {K:PySem.W.Frag} {mg mb:Str→Option Value} {CX:CXT} {k:Nat} {fa a c P:Addr} {fd:FuncData} {x:Str} {sp:Sp} {s₁:Shared} {vs:List Value} {ns:List Int}
  (KX:K.In s₁.heap) (hPK:K.lookup P=none) (hPt:s₁.heap.get? P=some (PySem.W.tabObj #[])) (hC:PySem.W.CodeHd s₁.heap c P) (hB:s₁.heap.BuiltinsAt mg P)
  (hns:s₁.heap.Ns mainGlobals mg) (hb:s₁.heap.Ns builtinsNs mb) (hbb:∀ x:Str,x≠"__name__"→mb x=bootBuiltins x) (hlim:s₁.heap.NoLimit) (hg:s₁.gens=#[])
  (ha:s₁.heap.get? a=some { cls:=.type "list",data:=.seq vs.toArray }) (hi:IntsAre vs ns) (hl:ns.length≤sizeLine) (hr:zfk k callerA)
  (F:∀ base:Heap,K.In base→base.Ns mainGlobals mg→PySem.W.CodeHd base c P→base.BuiltinsAt mg P→zcQ Pg w K mg base CX k fa fd [x] sp) (hbind:∀ (s:Shared) (u:Value),BindsTo s fd ⟨[u],[]⟩ [(x,u)])
  (hsp:∀ H:Hp,H P=some (.tbl #[])→SqL K H a (ns.map V.int)→sp [.ref a] H (fun v _=>v=.bl true) fun _ _ _=>False)
  (hCX:∀ H e s',CX [] H s₁ (fun _ _ _=>False) e s'→False) :
  codeAny (model Pg w) callerA (.call (.ref fa) ⟨[.ref a],[]⟩) (fun r s'=>r=.ok (.ret (.bool true))∧OldK s₁.heap s'.heap∧s'.os=s₁.os∧AllBare s'.gens) s₁:=by
 have rv:=zio hi
 have lenV:=hi.length
 have naP:a≠P:=fun z=>by rw [z,hPt] at ha;cases ha
 have core:∀ H:Hp,H P=some (.tbl #[])→SqL K H a (ns.map V.int)→HOk Pg w H s₁.heap→(∀ b,H b≠none→b=P∨(b=a∧H a=some (.frz { cls:=.type "list",data:=.seq vs.toArray } (.lst (ns.map V.int)))))→(H a≠none→K.lookup a=none) →
   codeAny (model Pg w) callerA (.call (.ref fa) ⟨[.ref a],[]⟩) (fun r s'=>r=.ok (.ret (.bool true))∧OldK s₁.heap s'.heap∧s'.os=s₁.os∧AllBare s'.gens) s₁:=by
  intro H hHP hS hok hA hK
  have base_of:∀ {b:Addr} {o:Obj},s₁.heap.get? b=some o→H b=none→(zlu s₁.heap H).get? b=some o:=fun e n=>zmm e n
  have free:∀ {b:Addr} {o:Obj},s₁.heap.get? b=some o→b≠P→(∀ its n,o.data≠.seq its n)→H b=none:=fun {b o} e nP d=>by
   cases q:H b with
   | none=>rfl
   | some u =>
    rcases hA b (by rw [q];simp) with z | ⟨z,_⟩
    ·exact absurd z nP
    ·subst z
     rw [ha] at e;cases e
     exact absurd rfl (d _ _)
  have noP:∀ {b:Addr} {o:Obj},s₁.heap.get? b=some o→(∀ ps,o.data≠.fields ps)→b≠P:=fun {b o} e d z=>by
   subst z
   rw [hPt] at e;cases e
   exact d _ rfl
  have nsK:∀ {b:Addr} {m:Str→Option Value},s₁.heap.Ns b m→(zlu s₁.heap H).Ns b m:=fun {b m} ⟨o,es,ep,e,d,r⟩ =>
   ⟨o,es,ep,base_of e (free e (noP e fun ps z=>by rw [d] at z;cases z) fun its n z=>by rw [d] at z;cases z),d,r⟩
  have hKb:K.In (zlu s₁.heap H):=fun b o e=>base_of (KX b o e) (by
   cases q:H b with
   | none=>rfl
   | some u =>
    rcases hA b (by rw [q];simp) with z | ⟨z,_⟩
    ·rw [z,hPK] at e;cases e
    ·subst z
     rw [hK (by rw [q];simp)] at e;cases e)
  have hM:Mod K mg (zlu s₁.heap H):=⟨hKb,nsK hns,⟨mb,nsK hb,hbb⟩,let ⟨mc,h1,h2⟩:=hlim;⟨mc,nsK h1,h2⟩⟩
  have hC':PySem.W.CodeHd (zlu s₁.heap H) c P:=by
   obtain ⟨o,ovs,file,tf,flags,tg,inF,text,tt,e1,e2,e3,r⟩:=hC
   exact ⟨o,ovs,file,tf,flags,tg,inF,text,tt,base_of e1 (free e1 r.2.2.2.2.2.2 fun its n z=>by rw [e3] at z;cases z),e2,e3,r⟩
  have hB':(zlu s₁.heap H).BuiltinsAt mg P:=by
   obtain ⟨bm,ob,b1,b2,b3,b4,b5,b6,b7,b8⟩:=hB
   exact ⟨bm,ob,b1,b2,b3,b4,base_of b5 (free b5 b4 fun its n z=>by rw [b8] at z;cases z),b6,b7,b8⟩
  have e0:zlf Pg w K mg (zlu s₁.heap H) callerA [] s₁ H:=⟨rfl,hM,fun b o e=>znF e,Nat.le_of_eq (zkS _ _),trivial,fun b hb=>absurd (show b∈([]:List Addr) from hb) (by simp),hok,.of_eq hg⟩
  refine codeAny_mono ((F _ hKb (nsK hns) hC' hB').run callerA [] s₁ H ⟨[.ref a],[]⟩ [.ref a] [.ref a] _ _ hr e0 (hbind s₁ (.ref a)) (.cons rfl .nil) (hsp H hHP hS)) fun r s' h=>?_
  cases r with
  | error e=>exact (hCX H e s' h).elim
  | ok fl =>
   cases fl with
   | next=>exact False.elim h
   | brk=>exact False.elim h
   | cont=>exact False.elim h
   | ret u =>
    obtain ⟨v,H',os,bare,un,hok',r',q⟩:=h
    have q':v=.bl true:=q
    subst q'
    obtain rfl:u=Value.bool true:=r'
    refine ⟨rfl,⟨fun b o e=>?_,fun b o e=>un.there b o e (by simp)⟩,os,bare⟩
    by_cases zP:b=P
    ·subst zP
     rw [hPt] at e
     cases e
     obtain ⟨more,hm⟩:=un.tbls b _ hHP
     have ht':s'.heap.get? b=some { cls:=.none,data:=.fields (#[]++more) }:=hok' b _ hm
     exact .inr (.inl ⟨(hC.tab hPt).isCodeTable,rfl,#[],more,rfl,ht'⟩)
    ·refine .inl ?_
     cases q:H b with
     | none=>exact un.keep b o e q (by intro z;exact absurd (show b∈([]:List Addr) from z) (by simp)) (by simp)
     | some u =>
      rcases hA b (by rw [q];simp) with z | ⟨z,z1⟩
      ·exact absurd z zP
      ·subst z
       have z2:=un.frzs b _ _ z1
       obtain ⟨e1,_⟩:=hok b _ z1
       obtain ⟨e2,_⟩:=hok' b _ z2
       rw [e] at e1;cases e1
       exact e2
 have okP:∀ {H:Hp},H P=some (.tbl #[])→zcZ Pg w H s₁.heap P (.tbl #[]):=fun _=>hPt
 cases hk:K.lookup a with
 | some o =>
  have e:=KX a o hk
  rw [ha] at e
  cases e
  refine core (fun b=>if b=P then some (.tbl #[]) else none) (if_pos rfl) (.inr ⟨_,vs.toArray,_,hk,rfl,rfl,rfl,by rw [List.size_toArray,lenV];exact hl,by simpa using rv⟩) (fun b u z=>?_) (fun b z=>?_) fun z=>absurd (if_neg naP) z
  ·by_cases q:b=P
   ·subst q
    have z':=(if_pos rfl).symm.trans z
    cases z'
    exact hPt
   ·have z':=(if_neg q).symm.trans z
    cases z'
  ·by_cases q:b=P
   ·exact .inl q
   ·exact absurd (if_neg q) z
 | none =>
  have hfr:(if a=P then some (HO.tbl #[]) else if a=a then some (HO.frz { cls:=.type "list",data:=.seq vs.toArray } (.lst (ns.map V.int))) else none)=some (.frz { cls:=.type "list",data:=.seq vs.toArray } (.lst (ns.map V.int))):=by rw [if_neg naP,if_pos rfl]
  refine core (fun b=>if b=P then some (.tbl #[]) else if b=a then some (.frz { cls:=.type "list",data:=.seq vs.toArray } (.lst (ns.map V.int))) else none) (if_pos rfl) (.inl (.inr ⟨{ cls:=.type "list",data:=.seq vs.toArray },hfr⟩)) (fun b u z=>?_) (fun b z=>?_) fun _=>hk
  ·by_cases q:b=P
   ·subst q
    have z':=(if_pos rfl).symm.trans z
    cases z'
    exact hPt
   ·by_cases hb:b=a
    ·subst hb
     have z':=hfr.symm.trans z
     cases z'
     exact ⟨ha,by rw [List.length_map];exact hl,vs,_,rv,ha⟩
    ·have z0:(if b=P then some (HO.tbl #[]) else if b=a then some (HO.frz { cls:=.type "list",data:=.seq vs.toArray } (.lst (ns.map V.int))) else none)=some u:=z
     rw [if_neg q,if_neg hb] at z0
     cases z0
  ·by_cases q:b=P
   ·exact .inl q
   ·by_cases hb:b=a
    ·exact .inr ⟨hb,hfr⟩
    ·have z0:(if b=P then some (HO.tbl #[]) else if b=a then some (HO.frz { cls:=.type "list",data:=.seq vs.toArray } (.lst (ns.map V.int))) else none)≠none:=z
     rw [if_neg q,if_neg hb] at z0
     exact absurd rfl z0
theorem zmj {l:PySem.W.OpenLaw} {n k:Nat} {q:Program} {loose:List Str} {XP:(Str→Option Value)→Heap→Prop} {YP:World→Heap→Prop} {d:DefRec} {K:Params→PySem.W.Frag} {sp:World→Sp} {x:Str} {c P:Addr}
  (hn:l.most=some n) (hn2:n≤sizeLine) (hdf:d.params.defaults=[]) (hr:zfk k callerA)
  (hY:∀ (w:World) (h:Heap),YP w h→(K w.params).In h)
  (hPt:∀ w:World,(K w.params).lookup P=some (PySem.W.tabObj #[])) (hC:∀ (w:World) (h:Heap),(K w.params).In h→PySem.W.CodeHd h c P)
  (F:∀ (w:World) (mg:Str→Option Value) (fa:Addr) (h:Heap),(K w.params).In h→h.Ns mainGlobals mg→mg d.name=some (.ref fa) →
   ∃ fd:FuncData,(∀ (s:Shared) (u:Value),BindsTo s fd ⟨[u],[]⟩ [(x,u)]) ∧
    ∀ base:Heap,(zb8 P (K w.params)).In base→base.Ns mainGlobals mg→PySem.W.CodeHd base c P→base.BuiltinsAt mg P→zcQ l.prog w (zb8 P (K w.params)) mg base CX0 k fa fd [x] (sp w))
  (hsp:∀ (w:World) (H:Hp) (a:Addr) (ns:List Int),(∀ x∈ns,x.natAbs<2 ^ 2 ^ 20)→ns.length≤n→H P=some (.tbl #[])→SqL (zb8 P (K w.params)) H a (ns.map V.int)→sp w [.ref a] H (fun v _=>v=.bl true) fun _ _ _=>False) :
  PySem.W.WalkO q loose XP YP l.row.toRowW d [] (fun f vs=>PySem.call f vs):=by
 refine Att.attach_callL hn hdf fun w s₀ s₁ mg mb fa o pm cd doc a vs ns hb0 G Y ho hd hcd hmg hobj hints hlen hg=>?_
 have KX:=hY w _ Y
 obtain ⟨fd,hb,hF⟩:=F w mg fa _ KX G.T.g hmg
 have hP:=KX _ _ (hPt w)
 obtain ⟨bm,ob,b1,b2,b3,b4,b5,b6⟩:=G.T.bmain
 have hBt:s₁.heap.BuiltinsAt mg P:=by
  refine ⟨bm,ob,b1,b2,fun z=>?_,fun z=>?_,b3,b4,b5,b6⟩
  ·obtain ⟨o',es,ep,e,d',_⟩:=G.T.g
   rw [z,e] at b3;cases b3;rw [d'] at b6;cases b6
  ·rw [z,hP] at b3;cases b3;cases b4
 exact zkG (zn6 KX) zaU hP (hC w _ KX) hBt G.T.g G.T.b G.T.builtins G.T.nolimit hg hobj hints (Nat.le_trans hlen hn2) hr hF hb (fun H hP' hS=>hsp w H a ns hb0 hlen hP' hS) fun H e s' z=>z
section
open PySem.W
variable {P:Addr} {K:Frag}
theorem znP (hP:K.lookup P=some (tabObj #[])) (a:Addr) (x:Str):nsIn (zb8 P K) a x=nsIn K a x:=by
 unfold nsIn
 by_cases q:a=P
 ·rw [q,zaU,hP]
 ·rw [za5 q]
theorem zmh (hP:K.lookup P=some (tabObj #[])) (x:Str) (v:Value):ownIn (zb8 P K) x v=ownIn K x v:=by
 unfold ownIn
 cases v with
 | ref a =>
  by_cases q:a=P
  ·simp only [q,zaU,hP]
  ·simp only [za5 q,znP hP]
 | _=>rfl
theorem zhu (hP:K.lookup P=some (tabObj #[])) (x:Str):∀ l:List Value,alongIn (zb8 P K) x l=alongIn K x l
 | []=>rfl
 | c::r=>by simp only [alongIn,zmh hP,zhu hP x r]
theorem zcP (hP:K.lookup P=some (tabObj #[])) (t:Value) (x:Str):findIn (zb8 P K) t x=findIn K t x:=by
 unfold findIn
 cases t with
 | ref a =>
  by_cases q:a=P
  ·simp only [q,zaU,hP]
  ·simp only [za5 q,zhu hP]
 | _=>rfl
theorem zhJ (hP:K.lookup P=some (tabObj #[])) (C:Addr):clsIn (zb8 P K) C=clsIn K C:=by
 unfold clsIn
 by_cases q:C=P
 ·rw [q,zaU,hP]
 ·rw [za5 q]
theorem zfh {a:Addr} (q:a≠P):typeIn (zb8 P K) (.ref a)=typeIn K (.ref a):=by
 unfold typeIn
 simp only [za5 q]
theorem zfs (hP:K.lookup P=some (tabObj #[])) (a:Addr):keepIn (zb8 P K) (.ref a)=keepIn K (.ref a):=by
 unfold keepIn
 by_cases q:a=P
 ·simp only [q,zaU,hP]
 ·simp only [za5 q,specialIn,zfh q,zcP hP]
theorem zil (hP:K.lookup P=some (tabObj #[])) (cd:Value) (x:Str) (h:codeIn K cd x=true):codeIn (zb8 P K) cd x=true:=by
 unfold codeIn at h ⊢
 cases cd with
 | ref c =>
  by_cases q:c=P
  ·simp only [q,hP] at h
   cases h
  ·simp only [za5 q]
   exact h
 | _=>exact h
theorem zaF (hP:K.lookup P=some (tabObj #[])) {x qual:Str} {st:Stmt} {f:Addr} {fd:FuncData} (F:Fun K x qual st f fd):Fun (zb8 P K) x qual st f fd:=by
 obtain ⟨⟨oc,od,kV,doc,pm,an,cdv,ct,osl,e,l,c⟩,k⟩:=F
 have q:f≠P:=fun z=>by rw [z,hP] at l;cases l
 exact ⟨⟨oc,od,kV,doc,pm,an,cdv,ct,osl,e,(za5 q).trans l,zil hP _ _ c⟩,(zfs hP f).trans k⟩
theorem Cls.drop (hP:K.lookup P=some (tabObj #[])) {C:Addr} (c:Cls K C):Cls (zb8 P K) C:=by
 obtain ⟨h1,h2,h3,h4⟩:=c
 refine ⟨?_,?_,?_,(zcP hP _ _).trans h4⟩
 ·unfold plainGet at h1 ⊢
  rw [zcP hP,zcP hP]
  exact h1
 ·unfold hasDictIn at h2 ⊢
  rw [zhJ hP]
  exact h2
 ·unfold plainOver at h3 ⊢
  rw [zhJ hP]
  exact h3
theorem zkO (hP:K.lookup P=some (tabObj #[])) {f:Addr} (h:isFn K (.ref f)=true):f≠P:=fun z=>by
 have e:typeIn K (.ref f)=some .none:=by
  show (K.lookup f).map (·.cls)=_
  rw [z,hP]
  rfl
 unfold isFn at h
 rw [e] at h
 exact absurd h (by decide)
theorem zhj.drop (hP:K.lookup P=some (tabObj #[])) {C f:Addr} {m:Str} (c:zhj K C m f):zhj (zb8 P K) C m f:=by
 obtain ⟨h1,h2,h3⟩:=c
 have ne:=zkO hP h2
 refine ⟨(zcP hP _ _).trans h1,?_,(zfs hP f).trans h3⟩
 unfold isFn at h2 ⊢
 rw [zfh ne]
 exact h2
theorem Mk.drop (hP:K.lookup P=some (tabObj #[])) {C f:Addr} (c:Mk K C f):Mk (zb8 P K) C f:=by
 obtain ⟨h1,h2,h3,h4⟩:=c
 have ne:=zkO hP h3
 refine ⟨?_,(zcP hP _ _).trans h2,?_,(zfs hP C).trans h4⟩
 ·unfold makesIn at h1 ⊢
  by_cases q:C=P
  ·rw [q,hP] at h1
   cases h1
  ·simp only [za5 q,specialIn,instIn,zfh q,zcP hP]
   have sb:∀ t b,subIn (zb8 P K) t b=subIn K t b:=fun t b=>by
    unfold subIn
    cases t with
    | ref D=>simp only [mroIn,zhJ hP]
    | _=>rfl
   simp only [sb]
   exact h1
 ·unfold isFn at h3 ⊢
  rw [zfh ne]
  exact h3
theorem zcv.drop (hP:K.lookup P=some (tabObj #[])) {C:Addr} {f:Str} (h:zcv K C f):zcv (zb8 P K) C f:=(zcP hP _ _).trans h
structure zlC (K:Frag) (x qual:Str) (st:Stmt) (f:Addr) (fd:FuncData) (c:Addr):Prop where
 ex:∃ (oc:Value) (od:Option Addr) (kV doc pm:Value) (an:Option Addr) (ct:Value) (osl:Array (Option Value)),
  fd=fnOf x qual (zeZ st) (zdB st) (zah st) .none kV doc pm an (.ref c) ct∧K.lookup f=some ⟨oc,od,.func fd,osl⟩∧codeIn K (.ref c) qual=true
 kp:keepIn K (.ref f)=true
theorem zog {x qual:Str} {st:Stmt} {f c:Addr} {oc:Value} {od an:Option Addr} {osl:Array (Option Value)} {kV doc pm ct:Value} (l:K.lookup f=some ⟨oc,od,.func (fnOf x qual (zeZ st) (zdB st) (zah st) .none kV doc pm an (.ref c) ct),osl⟩)
  (cc:codeIn K (.ref c) qual=true) (k:keepIn K (.ref f)=true):zlC K x qual st f (fnOf x qual (zeZ st) (zdB st) (zah st) .none kV doc pm an (.ref c) ct) c:=⟨⟨oc,od,kV,doc,pm,an,ct,osl,rfl,l,cc⟩,k⟩
theorem zlC.fun {x qual:Str} {st:Stmt} {f c:Addr} {fd:FuncData} (F:zlC K x qual st f fd c):Fun K x qual st f fd:=by
 obtain ⟨⟨oc,od,kV,doc,pm,an,ct,osl,e,l,cc⟩,k⟩:=F
 exact ⟨⟨oc,od,kV,doc,pm,an,.ref c,ct,osl,e,l,cc⟩,k⟩
theorem zlC.drop (hP:K.lookup P=some (tabObj #[])) {x qual:Str} {st:Stmt} {f c:Addr} {fd:FuncData} (F:zlC K x qual st f fd c):zlC (zb8 P K) x qual st f fd c:=by
 obtain ⟨⟨oc,od,kV,doc,pm,an,ct,osl,e,l,cc⟩,k⟩:=F
 have q:f≠P:=fun z=>by rw [z,hP] at l;cases l
 exact ⟨⟨oc,od,kV,doc,pm,an,ct,osl,e,(za5 q).trans l,zil hP _ _ cc⟩,(zfs hP f).trans k⟩
theorem zlC.ok {Pg:Program} {w:World} {mg:Str→Option Value} {base:Heap} {x qual:Str} {st:Stmt} {f c:Addr} {fd:FuncData} {N ps:List Str} {k:Nat} {sp:Sp} (F:zlC K x qual st f fd c) (S:zaI N ps (zah st)) (len:∀ vs H Q E,sp vs H Q E→vs.length=ps.length)
  (hbody:∀ (A:Around) (outer:List Env) (s:Shared) (H:Hp) (vs:List V) (Q:VK) (E:XK),zfk k (A.deeper (envOfC qual (zah st) s.heap.objs.size f (.ref c)))→sp vs H Q E →
   ∃ t,PSs (znV CX0 Pg w K mg base N qual (zah st) f (.ref c) A outer s H E).nox (zdB st) t∧t { nx:=fun _ H'=>Q .non H',rt:=Q } (zbg N vs) H):zcQ Pg w K mg base CX0 (k+1) f fd ps sp:=by
 obtain ⟨⟨oc,od,kV,doc,pm,an,ct,osl,rfl,lk,hcd⟩,_⟩:=F
 refine zpL lk hcd S len fun A outer s H vs Q E hr hsp=>?_
 obtain ⟨t,h,q⟩:=hbody A outer s H vs Q E hr hsp
 exact ⟨t,h.nox,q⟩
end
end L2
namespace L2
open PySem PySem.Spec PyProof.Rows
def tAt (C:Addr) (ta:TE) (f:Str):TE:=fun σ H Q=>ta σ H fun x H1=>∃ p dx fs v,x=.ref p∧H1 p=some (.ins C dx fs)∧fs.lookup f=some v∧Q v H1
def sAt (C:Addr) (ta tv:TE) (f:Str):TS:=fun D σ H=>tv σ H fun y H1=>ta σ H1 fun x H2=>∃ p dx fs,x=.ref p∧H2 p=some (.ins C dx fs)∧fs.length<1000∧D.nx σ (upd H2 p (.ins C dx (zgk f y fs)))
section
variable {X:Cx} {o e value:Expr} {f:Str} {pos pos':Pos} {ta tv:TE} {C:Addr}
theorem zca (c:Cls X.K C) (n:zcv X.K C f) (he:PE X e ta) (hb:attributeBase e f X.env (eval e X.env)=eval e X.env:=by rfl):PE X (.Attribute e f pos) (tAt C ta f):=by
 intro pins s σ H Q I h
 refine zof hb (thn (he pins s σ H _ I h) fun u s1 hQ'=>?_)
 obtain ⟨x,H1,I1,rx,a,dx,fs,v,ex,ea,l,q⟩:=hQ'
 subst ex
 obtain rfl:u=Value.ref a:=rx
 exact zjX I1 ea c n l fun u' s2 I2 ru=>⟨v,H1,I2,ru,q⟩
theorem ziv (c:Cls X.K C) (n:zcv X.K C f) (ha:PE X o ta) (hv:PE X value tv) (hs:swapsWith value (some (.Attribute o f pos')) pos.line X.env=pure false:=by rfl):PS X (.Assign [.Attribute o f pos'] value pos) (sAt C ta tv f):=by
 intro pins s σ H D I h
 refine plainObj_wpAny_Assign_Attribute (thn (hv pins s σ H _ I h) fun u s1 ⟨y,H1,I1,ry,q⟩=>thn (ha pins s1 σ H1 _ I1 q) fun ov s2 hQ'=>?_) hs
 obtain ⟨x,H2,I2,rx,a,dx,fs,ex,ea,l,q2⟩:=hQ'
 subst ex
 obtain rfl:ov=Value.ref a:=rx
 exact zj9 I2 ea c n l ry fun s3 I3=>⟨σ,_,I3,q2⟩
end
def zpP:Expr→Pos
 | .Call _ _ (⟨_,.Lambda _ _ _ p,_⟩::_) _=>p
 | _=>⟨0,0,0,0⟩
def zpp:Stmt→Pos
 | .If _ (.Return (some e) _::_) _ _=>zpP e
 | _=>⟨0,0,0,0⟩
theorem zoI.one {X:Cx} {sc:Scope} {x:Str} {c:Addr} {j:Nat} (hN:X.N[j]?=some x) (hk:X.env.scope.names.lookup x=some .cell) (hc:X.env.cells.lookup x=some c) (hf:sc.names.lookup x=some .free) (hall:∀ z∈sc.names,z.2=.free→z.1=x) :
  zoI X sc [(x,c)] [x] [j]:=by
 have l1:([(x,c)]:List (Str×Addr)).lookup x=some c:=by simp [List.lookup]
 refine ⟨rfl,fun i y hi=>?_,fun y hy=>?_,fun y d hd=>?_⟩
 ·cases i with
  | zero =>
   have hi:some x=some y:=hi
   cases hi
   exact ⟨j,c,rfl,hN,hk,l1,hf⟩
  | succ i=>cases hi
 ·have:=hall _ (PySem.mem_of_lookup hy) rfl
  have e:y=x:=this
  rw [e]
  exact ⟨c,l1⟩
 ·rw [List.lookup_cons] at hd
  cases q:y == x with
  | true =>
   rw [q] at hd
   cases hd
   rw [beq_iff_eq.mp q]
   exact hc
  | false =>
   rw [q] at hd
   cases hd
theorem zcd.same {H H':Hp} {P:Addr} {pos:Pos} {qual:Str} (h:zcd H P pos qual) (s:∀ b o,H b=some o→H' b=some o):zcd H' P pos qual:=by
 rcases h with h | ⟨c',oc,vs,t,e1,e2,e3,e4⟩
 ·exact .inl (s _ _ h)
 ·exact .inr ⟨c',oc,vs,t,e1,s _ _ e2,s _ _ e3,e4⟩
theorem zcd.first {H:Hp} {P:Addr} {pos:Pos} {qual:Str} (h:H P=some (.tbl #[])):zcd H P pos qual:=.inl h
theorem zcd.neL {H:Hp} {P x:Addr} {pos:Pos} {qual:Str} {xs:List V} (h:zcd H P pos qual) (e:H x=some (.lst xs)):x≠P:=fun z=>by
 obtain ⟨u,h⟩:=h.tbl
 rw [z,h] at e
 cases e
theorem zcd.neT {H:Hp} {P x:Addr} {pos:Pos} {qual:Str} {xs:List V} (h:zcd H P pos qual) (e:H x=some (.tup xs)):x≠P:=fun z=>by
 obtain ⟨u,h⟩:=h.tbl
 rw [z,h] at e
 cases e
theorem zcd.neI {H:Hp} {P x C dx:Addr} {pos:Pos} {qual:Str} {fs:List (Str×V)} (h:zcd H P pos qual) (e:H x=some (.ins C dx fs)):x≠P:=fun z=>by
 obtain ⟨u,h⟩:=h.tbl
 rw [z,h] at e
 cases e
theorem zcd.put {H H':Hp} {P:Addr} {pos:Pos} {qual:Str} (h:zcd H P pos qual) (s:∀ b o,(∀ xs,o≠.lst xs)→(∀ C dx fs,o≠.ins C dx fs)→H b=some o→H' b=some o):zcd H' P pos qual:=by
 rcases h with h | ⟨c',oc,vs,t,e1,e2,e3,e4⟩
 ·exact .inl (s _ _ (fun _ z=>nomatch z) (fun _ _ _ z=>nomatch z) h)
 ·exact .inr ⟨c',oc,vs,t,e1,s _ _ (fun _ z=>nomatch z) (fun _ _ _ z=>nomatch z) e2,s _ _ (fun _ z=>nomatch z) (fun _ _ _ z=>nomatch z) e3,e4⟩
theorem zn8 {K:PySem.W.Frag} {h:Heap} {c P:Addr} {od:Option Addr} {sl:Array (Option Value)} {v0 v1 v2 v3 v4 v5 v6 v8 v12 v13 v14 v15 v16 v17:Value} {fl tx:Int} {tg tt tf:Tok} {inF:Bool} {file:Str} (X:K.In h)
  (l:K.lookup c=some ⟨.type "code",od,.fields #[v0,v1,v2,v3,v4,v5,v6,.int fl tg,v8,.bool inF,.int tx tt,.ref P,v12,v13,v14,v15,v16,v17,.str file tf],sl⟩) (ne:c≠P):PySem.W.CodeHd h c P :=
 ⟨_,_,_,_,_,_,_,_,_,X _ _ l,rfl,rfl,rfl,rfl,rfl,rfl,rfl,rfl,ne⟩
end L2
set_option maxHeartbeats 4000000
local macro_rules
 | `(tactic| simp_all only [$xs,*])=>do
  let ds ← ("znK znr zoi znH znJ znB zoh zol rI_c rI0_c zpy zo9 ex_bl zpe zpg zpz zoZ zmA zmC zmu zl1 zlX zmH zmx rNeI rNeE rIn zjM tBM0 zmI zlE ziJ tSl zgU zkY zpc zei zbW zmQ tBM znG zdG zaN zaV za9 zli zdO zk6 tCB zab zan tC tOp tUn zaQ tB tOr zeG zet zcn zbi ze7 zgx ze3 tPar zaJ rU rNe zlO zhP zaP zdf tAt zev znv zj4 zl2 zhI tTru rEq zmB iZip tAnd tOrV zmg znT zid zhs".splitOn " ").toArray.mapM fun s=>`(Lean.Parser.Tactic.simpLemma| ↓ $(Lean.mkIdent s.toName):ident)
  let ps ← ("zme Option.bind_some Option.bind_none Option.join_some Option.map_some List.getElem?_cons_zero List.getElem?_cons_succ V.str.injEq V.ty.injEq zac rI rI0 zba zbT L2.zbg zmK zn9 zl0 zn7 List.map_cons List.map_nil List.length_cons List.length_nil List.replicate List.cons_append List.nil_append List.append_nil Option.some.injEq exists_eq_left' exists_eq_left exists_and_left List.cons.injEq V.int.injEq V.ref.injEq V.bl.injEq and_true true_and List.set_cons_zero List.set_cons_succ Nat.reduceAdd Nat.reduceSub Int.reduceToNat Int.reducePow Int.reduceNeg Int.reduceMul Int.reduceAdd Int.reduceSub decide_eq_true_eq Bool.not_eq_true' decide_eq_false_iff_not exists_const and_assoc exists_eq exists_eq' if_true if_false Bool.false_eq_true Bool.true_eq_false reduceCtorEq not_true_eq_false not_false_eq_true sAt".splitOn " ").toArray.mapM fun s=>`(Lean.Parser.Tactic.simpLemma| $(Lean.mkIdent s.toName):ident)
  `(tactic| simp only [$xs,*,$ds,*,$ps,*])
namespace My
local macro_rules | `(tactic| omega)=>`(tactic| lia)
open PySem L2
def top (i:Nat):Stmt:=PySem.Challenge.pw_hideworth_k11_whole_worths_of_tables.main.body.getD i (.Pass ⟨0,0,0,0⟩)
abbrev zgR:Stmt:=top 5
abbrev zjq:Stmt:=top 6
abbrev zkL:Stmt:=top 7
abbrev zc3:Stmt:=top 8
abbrev zgg:Stmt:=top 9
abbrev zfO:Stmt:=top 11
abbrev zgd:Stmt:=top 21
abbrev zdM:Stmt:=top 22
abbrev zen:Stmt:=top 23
abbrev zda:Stmt:=top 12
abbrev zdL:Stmt:=top 24
abbrev zcw:Stmt:=top 25
abbrev zb9:Stmt:=top 26
abbrev zcH:Stmt:=top 27
abbrev zdF:Stmt:=top 28
abbrev zci:Stmt:=(zeB (top 14)).getD 0 (.Pass ⟨0,0,0,0⟩)
abbrev zbO:Stmt:=(zeB (top 14)).getD 1 (.Pass ⟨0,0,0,0⟩)
abbrev zcU:Stmt:=(zeB (top 14)).getD 2 (.Pass ⟨0,0,0,0⟩)
abbrev zb2:Stmt:=(zeB (top 14)).getD 3 (.Pass ⟨0,0,0,0⟩)
abbrev zdh:Stmt:=(zeB (top 14)).getD 4 (.Pass ⟨0,0,0,0⟩)
abbrev zcC:Stmt:=(zeB (top 14)).getD 5 (.Pass ⟨0,0,0,0⟩)
abbrev zdw:Stmt:=(zeB (top 14)).getD 6 (.Pass ⟨0,0,0,0⟩)
abbrev zbL:Stmt:=(zeB (top 14)).getD 7 (.Pass ⟨0,0,0,0⟩)
abbrev zcp:Stmt:=top 15
abbrev zc8:Stmt:=top 16
abbrev zcl:Stmt:=top 17
abbrev zgb:Stmt:=top 18
abbrev zd3:Stmt:=top 29
abbrev zfR:Stmt:=top 31
abbrev zdz:Stmt:=top 32
abbrev zeY:Stmt:=top 33
abbrev zeR:Stmt:=top 34
abbrev zdu:Stmt:=top 35
abbrev zd4:Stmt:=top 36
abbrev zel:Stmt:=top 37
abbrev zcJ:Stmt:=top 38
abbrev zdp:Stmt:=top 39
abbrev zcx:Stmt:=top 40
abbrev zlW:Stmt:=top 41
def zkC:Pos:=zpp ((zdB zbO).getD 2 (.Pass ⟨0,0,0,0⟩))
set_option genInjectivity false in
set_option genSizeOf false in
structure Ad where
 f_divisor:Addr
 d_divisor:FuncData
 f_ratio:Addr
 d_ratio:FuncData
 f_plus:Addr
 d_plus:FuncData
 f_shared_divisor:Addr
 d_shared_divisor:FuncData
 f_lowest:Addr
 d_lowest:FuncData
 f_is_whole:Addr
 d_is_whole:FuncData
 f_is_row:Addr
 d_is_row:FuncData
 f_is_table:Addr
 d_is_table:FuncData
 f_look_table:Addr
 d_look_table:FuncData
 f_are_weights:Addr
 d_are_weights:FuncData
 f_row_sums:Addr
 d_row_sums:FuncData
 f_column_sums:Addr
 d_column_sums:FuncData
 f_first_column_above:Addr
 d_first_column_above:FuncData
 f_first_row_below:Addr
 d_first_row_below:FuncData
 f_table_judged:Addr
 d_table_judged:FuncData
 f_Board___init__:Addr
 d_Board___init__:FuncData
 f_Board_entering:Addr
 d_Board_entering:FuncData
 f_Board_steepest:Addr
 d_Board_steepest:FuncData
 f_Board_steepness:Addr
 d_Board_steepness:FuncData
 f_Board_leaving:Addr
 d_Board_leaving:FuncData
 f_Board_is_sooner:Addr
 d_Board_is_sooner:FuncData
 f_Board_swap:Addr
 d_Board_swap:FuncData
 f_Board_swapped_row:Addr
 d_Board_swapped_row:FuncData
 f_first_grid:Addr
 d_first_grid:FuncData
 f_row_weights:Addr
 d_row_weights:FuncData
 f_column_weights:Addr
 d_column_weights:FuncData
 f_solved:Addr
 d_solved:FuncData
 f_table_worth:Addr
 d_table_worth:FuncData
 f__law_mix:Addr
 d__law_mix:FuncData
 f__law_cell_at:Addr
 d__law_cell_at:FuncData
 f__law_left:Addr
 d__law_left:FuncData
 f__law_draw:Addr
 d__law_draw:FuncData
 f__law_table:Addr
 d__law_table:FuncData
 f__law_copy:Addr
 d__law_copy:FuncData
 f__law_whole:Addr
 d__law_whole:FuncData
 f__law_weights:Addr
 d__law_weights:FuncData
 f__law_fraction:Addr
 d__law_fraction:FuncData
 f__law_judged:Addr
 d__law_judged:FuncData
 f_law:Addr
 d_law:FuncData
 c_Board:Addr
 k_MOST:Tok
 p_lam:Addr
 cd_lam:Addr
structure Txt (K:PySem.W.Frag) (mg:Str→Option Value) (base:Heap) (a:Ad):Prop where
 F_divisor:Fun K "divisor" "divisor" zgR a.f_divisor a.d_divisor
 b_divisor:zbj K a.d_divisor ["one","other"] []
 m_divisor:mg "divisor"=some (.ref a.f_divisor)
 F_ratio:Fun K "ratio" "ratio" zjq a.f_ratio a.d_ratio
 b_ratio:zbj K a.d_ratio ["top","bottom"] []
 m_ratio:mg "ratio"=some (.ref a.f_ratio)
 F_plus:Fun K "plus" "plus" zkL a.f_plus a.d_plus
 b_plus:zbj K a.d_plus ["one","other"] []
 m_plus:mg "plus"=some (.ref a.f_plus)
 F_shared_divisor:Fun K "shared_divisor" "shared_divisor" zc3 a.f_shared_divisor a.d_shared_divisor
 b_shared_divisor:zbj K a.d_shared_divisor ["numbers"] []
 m_shared_divisor:mg "shared_divisor"=some (.ref a.f_shared_divisor)
 F_lowest:Fun K "lowest" "lowest" zgg a.f_lowest a.d_lowest
 b_lowest:zbj K a.d_lowest ["weights"] []
 m_lowest:mg "lowest"=some (.ref a.f_lowest)
 F_is_whole:Fun K "is_whole" "is_whole" zfO a.f_is_whole a.d_is_whole
 b_is_whole:zbj K a.d_is_whole ["thing"] []
 m_is_whole:mg "is_whole"=some (.ref a.f_is_whole)
 F_is_row:Fun K "is_row" "is_row" zgd a.f_is_row a.d_is_row
 b_is_row:zbj K a.d_is_row ["thing"] []
 m_is_row:mg "is_row"=some (.ref a.f_is_row)
 F_is_table:Fun K "is_table" "is_table" zdM a.f_is_table a.d_is_table
 b_is_table:zbj K a.d_is_table ["thing"] []
 m_is_table:mg "is_table"=some (.ref a.f_is_table)
 F_look_table:Fun K "look_table" "look_table" zen a.f_look_table a.d_look_table
 b_look_table:zbj K a.d_look_table ["table"] []
 m_look_table:mg "look_table"=some (.ref a.f_look_table)
 F_are_weights:Fun K "are_weights" "are_weights" zda a.f_are_weights a.d_are_weights
 b_are_weights:zbj K a.d_are_weights ["thing","many"] []
 m_are_weights:mg "are_weights"=some (.ref a.f_are_weights)
 F_row_sums:Fun K "row_sums" "row_sums" zdL a.f_row_sums a.d_row_sums
 b_row_sums:zbj K a.d_row_sums ["table","columns"] []
 m_row_sums:mg "row_sums"=some (.ref a.f_row_sums)
 F_column_sums:Fun K "column_sums" "column_sums" zcw a.f_column_sums a.d_column_sums
 b_column_sums:zbj K a.d_column_sums ["table","rows"] []
 m_column_sums:mg "column_sums"=some (.ref a.f_column_sums)
 F_first_column_above:Fun K "first_column_above" "first_column_above" zb9 a.f_first_column_above a.d_first_column_above
 b_first_column_above:zbj K a.d_first_column_above ["table","worth","rows"] []
 m_first_column_above:mg "first_column_above"=some (.ref a.f_first_column_above)
 F_first_row_below:Fun K "first_row_below" "first_row_below" zcH a.f_first_row_below a.d_first_row_below
 b_first_row_below:zbj K a.d_first_row_below ["table","worth","columns"] []
 m_first_row_below:mg "first_row_below"=some (.ref a.f_first_row_below)
 F_table_judged:Fun K "table_judged" "table_judged" zdF a.f_table_judged a.d_table_judged
 b_table_judged:zbj K a.d_table_judged ["table","worth","rows","columns"] []
 m_table_judged:mg "table_judged"=some (.ref a.f_table_judged)
 F_Board___init__:Fun K "__init__" "Board.__init__" zci a.f_Board___init__ a.d_Board___init__
 b_Board___init__:zbj K a.d_Board___init__ ["self","grid"] []
 F_Board_entering:zlC K "entering" "Board.entering" zbO a.f_Board_entering a.d_Board_entering a.cd_lam
 b_Board_entering:zbj K a.d_Board_entering ["self"] []
 M_Board_entering:zhj K a.c_Board "entering" a.f_Board_entering
 F_Board_steepest:Fun K "steepest" "Board.steepest" zcU a.f_Board_steepest a.d_Board_steepest
 b_Board_steepest:zbj K a.d_Board_steepest ["self","columns"] []
 M_Board_steepest:zhj K a.c_Board "steepest" a.f_Board_steepest
 F_Board_steepness:Fun K "steepness" "Board.steepness" zb2 a.f_Board_steepness a.d_Board_steepness
 b_Board_steepness:zbj K a.d_Board_steepness ["self","column"] []
 M_Board_steepness:zhj K a.c_Board "steepness" a.f_Board_steepness
 F_Board_leaving:Fun K "leaving" "Board.leaving" zdh a.f_Board_leaving a.d_Board_leaving
 b_Board_leaving:zbj K a.d_Board_leaving ["self","column"] []
 M_Board_leaving:zhj K a.c_Board "leaving" a.f_Board_leaving
 F_Board_is_sooner:Fun K "is_sooner" "Board.is_sooner" zcC a.f_Board_is_sooner a.d_Board_is_sooner
 b_Board_is_sooner:zbj K a.d_Board_is_sooner ["self","k","best","column"] []
 M_Board_is_sooner:zhj K a.c_Board "is_sooner" a.f_Board_is_sooner
 F_Board_swap:Fun K "swap" "Board.swap" zdw a.f_Board_swap a.d_Board_swap
 b_Board_swap:zbj K a.d_Board_swap ["self","row","column"] []
 M_Board_swap:zhj K a.c_Board "swap" a.f_Board_swap
 F_Board_swapped_row:Fun K "swapped_row" "Board.swapped_row" zbL a.f_Board_swapped_row a.d_Board_swapped_row
 b_Board_swapped_row:zbj K a.d_Board_swapped_row ["self","k","row","column"] []
 M_Board_swapped_row:zhj K a.c_Board "swapped_row" a.f_Board_swapped_row
 F_first_grid:Fun K "first_grid" "first_grid" zcp a.f_first_grid a.d_first_grid
 b_first_grid:zbj K a.d_first_grid ["table","lift"] []
 m_first_grid:mg "first_grid"=some (.ref a.f_first_grid)
 F_row_weights:Fun K "row_weights" "row_weights" zc8 a.f_row_weights a.d_row_weights
 b_row_weights:zbj K a.d_row_weights ["board","many"] []
 m_row_weights:mg "row_weights"=some (.ref a.f_row_weights)
 F_column_weights:Fun K "column_weights" "column_weights" zcl a.f_column_weights a.d_column_weights
 b_column_weights:zbj K a.d_column_weights ["board","rows","many"] []
 m_column_weights:mg "column_weights"=some (.ref a.f_column_weights)
 F_solved:Fun K "solved" "solved" zgb a.f_solved a.d_solved
 b_solved:zbj K a.d_solved ["table"] []
 m_solved:mg "solved"=some (.ref a.f_solved)
 F_table_worth:Fun K "table_worth" "table_worth" zd3 a.f_table_worth a.d_table_worth
 b_table_worth:zbj K a.d_table_worth ["table"] []
 m_table_worth:mg "table_worth"=some (.ref a.f_table_worth)
 F__law_mix:Fun K "_law_mix" "_law_mix" zfR a.f__law_mix a.d__law_mix
 b__law_mix:zbj K a.d__law_mix ["_law_number","_law_k"] []
 m__law_mix:mg "_law_mix"=some (.ref a.f__law_mix)
 F__law_cell_at:Fun K "_law_cell_at" "_law_cell_at" zdz a.f__law_cell_at a.d__law_cell_at
 b__law_cell_at:zbj K a.d__law_cell_at ["_law_script","_law_k"] []
 m__law_cell_at:mg "_law_cell_at"=some (.ref a.f__law_cell_at)
 F__law_left:Fun K "_law_left" "_law_left" zeY a.f__law_left a.d__law_left
 b__law_left:zbj K a.d__law_left ["_law_script","_law_k"] []
 m__law_left:mg "_law_left"=some (.ref a.f__law_left)
 F__law_draw:Fun K "_law_draw" "_law_draw" zeR a.f__law_draw a.d__law_draw
 b__law_draw:zbj K a.d__law_draw ["_law_left_here","_law_base"] []
 m__law_draw:mg "_law_draw"=some (.ref a.f__law_draw)
 F__law_table:Fun K "_law_table" "_law_table" zdu a.f__law_table a.d__law_table
 b__law_table:zbj K a.d__law_table ["_law_left_here"] []
 m__law_table:mg "_law_table"=some (.ref a.f__law_table)
 F__law_copy:Fun K "_law_copy" "_law_copy" zd4 a.f__law_copy a.d__law_copy
 b__law_copy:zbj K a.d__law_copy ["_law_table_here"] []
 m__law_copy:mg "_law_copy"=some (.ref a.f__law_copy)
 F__law_whole:Fun K "_law_whole" "_law_whole" zel a.f__law_whole a.d__law_whole
 b__law_whole:zbj K a.d__law_whole ["_law_thing"] []
 m__law_whole:mg "_law_whole"=some (.ref a.f__law_whole)
 F__law_weights:Fun K "_law_weights" "_law_weights" zcJ a.f__law_weights a.d__law_weights
 b__law_weights:zbj K a.d__law_weights ["_law_thing","_law_many"] []
 m__law_weights:mg "_law_weights"=some (.ref a.f__law_weights)
 F__law_fraction:Fun K "_law_fraction" "_law_fraction" zdp a.f__law_fraction a.d__law_fraction
 b__law_fraction:zbj K a.d__law_fraction ["_law_thing"] []
 m__law_fraction:mg "_law_fraction"=some (.ref a.f__law_fraction)
 F__law_judged:Fun K "_law_judged" "_law_judged" zcx a.f__law_judged a.d__law_judged
 b__law_judged:zbj K a.d__law_judged ["_law_table_here","_law_worth","_law_rows","_law_columns"] []
 m__law_judged:mg "_law_judged"=some (.ref a.f__law_judged)
 F_law:Fun K "law" "law" zlW a.f_law a.d_law
 b_law:zbj K a.d_law ["_law_script"] []
 m_law:mg "law"=some (.ref a.f_law)
 cl_Board:Cls K a.c_Board
 K_Board:Mk K a.c_Board a.f_Board___init__
 na_Board_grid:zcv K a.c_Board "grid"
 na_Board_scale:zcv K a.c_Board "scale"
 na_Board_idle:zcv K a.c_Board "idle"
 na_Board_busy:zcv K a.c_Board "busy"
 na_Board_stuck:zcv K a.c_Board "stuck"
 hC:PySem.W.CodeHd base a.cd_lam a.p_lam
 hB:base.BuiltinsAt mg a.p_lam
 z_isinstance:mg "isinstance"=none
 z_int:mg "int"=none
 z_bool:mg "bool"=none
 z_list:mg "list"=none
 z_len:mg "len"=none
 z_all:mg "all"=none
 z_sum:mg "sum"=none
 z_min:mg "min"=none
 z_enumerate:mg "enumerate"=none
 z_range:mg "range"=none
 z_abs:mg "abs"=none
 z_zip:mg "zip"=none
 z_tuple:mg "tuple"=none
 m_Board:mg "Board"=some (.ref a.c_Board)
 m_MOST:mg "MOST"=some (.int 12 a.k_MOST)
def Bd (m:Nat) (x:Int):Prop:=x.natAbs<2 ^ m
theorem Bd.mono {m n:Nat} {x:Int} (h:Bd m x) (l:m≤n):Bd n x:=Nat.lt_of_lt_of_le h (Nat.pow_le_pow_right (by decide) l)
theorem Bd.mul {m n:Nat} {x y:Int} (hx:Bd m x) (hy:Bd n y):Bd (m+n) (x*y):=by
 unfold Bd at *
 rw [Int.natAbs_mul,Nat.pow_add]
 exact Nat.mul_lt_mul'' hx hy
theorem Bd.add {m:Nat} {x y:Int} (hx:Bd m x) (hy:Bd m y):Bd (m+1) (x+y):=by
 unfold Bd at *
 rw [Nat.pow_succ,Nat.mul_two]
 exact Nat.lt_of_le_of_lt (Int.natAbs_add_le x y) (Nat.add_lt_add hx hy)
theorem Bd.le {m:Nat} {x y:Int} (hy:Bd m y) (h:x.natAbs≤y.natAbs):Bd m x:=Nat.lt_of_le_of_lt h hy
def sg (t b:Int):Int:=if b<0 then -(Int.gcd t b:Int) else (Int.gcd t b:Int)
def zlZ (t b:Int):Int:=t.fdiv (sg t b)
def zjl (t b:Int):Int:=b.fdiv (sg t b)
theorem zk5 {t b:Int} (h:b≠0):Int.gcd t b≠0:=fun e=>h (Int.gcd_eq_zero_iff.mp e).2
theorem zk9 {t b:Int} (h:b≠0):sg t b≠0:=by
 have:=zk5 (t:=t) h
 unfold sg
 split <;> omega
theorem zm7 (t b:Int):(sg t b).natAbs=Int.gcd t b:=by
 unfold sg
 split <;> omega
theorem zno (t b:Int):sg t b∣t:=by
 unfold sg
 split
 ·exact Int.neg_dvd.mpr (Int.gcd_dvd_left ..)
 ·exact Int.gcd_dvd_left ..
theorem zoc (t b:Int):sg t b∣b:=by
 unfold sg
 split
 ·exact Int.neg_dvd.mpr (Int.gcd_dvd_right ..)
 ·exact Int.gcd_dvd_right ..
theorem zhq {x g:Int} (h:g∣x):x.fdiv g*g=x:=by
 rw [Int.fdiv_eq_ediv_of_dvd h]
 exact Int.ediv_mul_cancel h
theorem zhL (t b:Int):zlZ t b*sg t b=t:=zhq (zno t b)
theorem zgj (t b:Int):zjl t b*sg t b=b:=zhq (zoc t b)
theorem sg_le {t b:Int} (h:b≠0):(sg t b).natAbs≤b.natAbs:=by
 rw [zm7]
 exact Nat.le_of_dvd (by omega) (Int.natAbs_dvd_natAbs.mpr (Int.gcd_dvd_right t b))
theorem zhp {q g x:Int} (h:q*g=x) (hg:g≠0):q.natAbs≤x.natAbs:=by
 rw [← h,Int.natAbs_mul]
 exact Nat.le_mul_of_pos_right _ (by omega)
theorem zoo {t b:Int} (h:b≠0):(zlZ t b).natAbs≤t.natAbs:=zhp (zhL t b) (zk9 h)
theorem zny {t b:Int} (h:b≠0):(zjl t b).natAbs≤b.natAbs:=zhp (zgj t b) (zk9 h)
theorem zj5 {q g x:Int} (h:q*g=x) (s:(0<x∧0<g)∨(x<0∧g<0)):0<q:=by
 rcases s with ⟨a,c⟩ | ⟨a,c⟩
 ·exact Int.pos_of_mul_pos_left (by rw [h];exact a) c
 ·by_cases z:0<q
  ·exact z
  ·have h1:0≤(-q)*(-g):=Int.mul_nonneg (by omega) (by omega)
   rw [Int.neg_mul_neg,h] at h1
   omega
theorem zlU {t b:Int} (h:b≠0):0<zjl t b:=by
 refine zj5 (zgj t b) ?_
 have g:=zk5 (t:=t) h
 unfold sg
 split <;> omega
theorem zn3 {t b:Int} (h:b≠0):Int.gcd (zlZ t b) (zjl t b)=1:=by
 have e:Int.gcd (zlZ t b*sg t b) (zjl t b*sg t b)=Int.gcd (zlZ t b) (zjl t b)*(sg t b).natAbs:=Int.gcd_mul_right ..
 rw [zhL,zgj,zm7] at e
 exact Nat.eq_of_mul_eq_mul_right (Nat.pos_of_ne_zero (zk5 h)) (by rw [Nat.one_mul];exact e.symm)
theorem zkX {t b:Int} (h:b≠0):(Rat.divInt t b).num=zlZ t b∧((Rat.divInt t b).den:Int)=zjl t b:=by
 have p:=zlU (t:=t) h
 have g:=zn3 (t:=t) h
 have e2:((zjl t b).toNat:Int)=zjl t b:=by omega
 have nz:(zjl t b).toNat≠0:=by omega
 have red:(zlZ t b).natAbs.Coprime (zjl t b).toNat:=by
  have e:(zjl t b).toNat=(zjl t b).natAbs:=by omega
  rw [e]
  exact g
 have e:Rat.divInt t b=⟨zlZ t b,(zjl t b).toNat,nz,red⟩:=by
  rw [Rat.mk_eq_divInt,e2,Rat.divInt_eq_divInt_iff h (by omega)]
  have h1:=zhL t b
  have h2:=zgj t b
  generalize zlZ t b=x at h1 ⊢
  generalize zjl t b=y at h2 ⊢
  rw [← h1,← h2]
  grind
 rw [e]
 exact ⟨rfl,e2⟩
abbrev fr (q:Rat):List L2.V:=[.int q.num,.int (q.den:Int)]
abbrev nf (q:Rat):List Int:=[q.num,(q.den:Int)]
theorem zhl (q:Rat):(q.den:Int)≠0:=by
 have:=q.den_nz
 omega
theorem zls (q:Rat):0<(q.den:Int):=by
 have:=q.den_nz
 omega
theorem zlq (p q:Rat):Rat.divInt (p.num*q.den+q.num*p.den) (p.den*q.den)=p+q:=by
 rw [← Rat.divInt_add_divInt _ _ (zhl p) (zhl q),Rat.num_divInt_den,Rat.num_divInt_den]
structure Bq (n:Nat) (q:Rat):Prop where
 top:Bd n q.num
 bot:Bd n (q.den:Int)
theorem Bq.mono {m n:Nat} {q:Rat} (h:Bq m q) (l:m≤n):Bq n q:=⟨h.top.mono l,h.bot.mono l⟩
theorem ziW {n:Nat} {t b:Int} (h:b≠0) (ht:Bd n t) (hb:Bd n b):Bq n (Rat.divInt t b):=by
 obtain ⟨e1,e2⟩:=zkX (t:=t) h
 exact ⟨by rw [e1];exact ht.le (zoo h),by rw [e2];exact hb.le (zny h)⟩
theorem Bq.add {n:Nat} {p q:Rat} (hp:Bq n p) (hq:Bq n q):Bq (n+n+1) (p+q):=by
 rw [← zlq]
 exact ziW (Int.mul_ne_zero (zhl p) (zhl q)) ((hp.top.mul hq.bot).add (hq.top.mul hp.bot)) ((hp.bot.mul hq.bot).mono (Nat.le_succ _))
theorem zma {x y:Int} (hx:0≤x) (hy:0<y):Int.gcd y (x % y)=Int.gcd x y:=by
 obtain ⟨m,rfl⟩:=Int.eq_ofNat_of_zero_le hx
 obtain ⟨n,rfl⟩:=Int.eq_ofNat_of_zero_le (Int.le_of_lt hy)
 rw [← Int.natCast_emod]
 show Nat.gcd n (m % n)=Nat.gcd m n
 rw [Nat.gcd_comm n,← Nat.gcd_rec,Nat.gcd_comm]
theorem zkx {x y:Int} (hx:0≤x) (hy:0<y):Int.gcd y (x.fmod y)=Int.gcd x y:=by
 rw [Int.fmod_eq_emod_of_nonneg x (Int.le_of_lt hy)]
 exact zma hx hy
theorem zm2 (i:Int):(if i<0 then -i else i)=(i.natAbs:Int):=by
 split <;> omega
theorem zkc (u:Int) (h:0≤u):((Int.gcd u 0:Nat):Int)=u:=by
 show ((Nat.gcd u.natAbs 0:Nat):Int)=u
 rw [Nat.gcd_zero_right]
 omega
theorem zpd:zmU 10 18:=⟨by decide,by decide,by decide⟩
def zmw:Sp:=fun vs H Q _=>∃ a b:Int,vs=[.int a,.int b]∧Q (.int (Int.gcd a b:Nat)) H
abbrev Box:=Int×Int×Int
abbrev bx (b:Box):List V:=[.int b.1,.int b.2.1,.int b.2.2]
theorem zbS {α β:Type} {f:α→β} {l:List α} {i:Nat} {y:β} (h:(l.map f)[i]?=some y):∃ x,l[i]?=some x∧y=f x:=by
 rw [List.getElem?_map] at h
 obtain ⟨x,h1,h2⟩:=Option.map_eq_some_iff.mp h
 exact ⟨x,h1,h2.symm⟩
def Tps {α:Type} (f:α→List V) (H:Hp) (ts:List Addr) (bs:List α):Prop:=ts.length=bs.length∧∀ (i:Nat) t b,ts[i]?=some t→bs[i]?=some b→H t=some (.tup (f b))
theorem zcz {α:Type} {l:List α} {i:Nat} {x:α} (e:l[i]?=some x):x∈l:=List.mem_of_getElem? e
def Off (p c:Addr) (H:Hp):Hp:=fun b=>if b=p∨b=c then none else H b
theorem zhh (p c:Addr) (H:Hp):zaM (Off p c H) H:=fun b o h=>by
 unfold Off at h
 split at h
 ·cases h
 ·exact h
theorem zfY {p c b:Addr} {H:Hp} (h1:b≠p) (h2:b≠c):Off p c H b=H b:=if_neg (fun z=>z.elim h1 h2)
theorem zoY {p c b:Addr} {H:Hp} {o:HO} (h:Off p c H b=some o):b≠p∧b≠c:=by
 unfold Off at h
 split at h
 ·cases h
 ·rename_i z
  exact ⟨fun e=>z (.inl e),fun e=>z (.inr e)⟩
theorem zpv {p c:Addr} {H:Hp} {o:HO}:Off p c (upd H p o)=Off p c H:=by
 funext b
 unfold Off upd
 split
 ·rfl
 ·rename_i z
  rw [if_neg fun e=>z (.inl e)]
theorem zfF {p c b:Addr} {H:Hp} {o:HO} (h1:b≠p) (h2:b≠c):Off p c (upd H b o)=upd (Off p c H) b o:=by
 funext x
 unfold Off upd
 by_cases e:x=b
 ·subst e
  rw [if_neg fun z=>z.elim h1 h2,if_pos rfl,if_pos rfl]
 ·rw [if_neg e,if_neg e]
theorem zjp {H:Hp} {p c b:Addr} (hb:H b=none):Off p c H b=none:=by
 unfold Off
 split
 ·rfl
 ·exact hb
theorem zjU {H H':Hp} (p c:Addr) (s:zaM H H'):zaM (Off p c H) (Off p c H'):=fun b o h=>by
 have n:=zoY h
 rw [zfY n.1 n.2] at h ⊢
 exact s _ _ h
def zmG:Sp:=fun vs H Q _=>∃ t b:Int,vs=[.int t,.int b]∧b≠0∧Bd 6000 b∧∀ (r:Addr) (H':Hp),zaM H H'→H' r=some (.tup (fr (Rat.divInt t b)))→Q (.ref r) H'
theorem zng {t b:Int} (h:b≠0) (hb:Bd 6000 b):(sg t b).natAbs.log2<9000:=zjB 6000 (zk9 h) (hb.le (sg_le h))
structure Drw (H:Hp) (p:Addr) (c:Int):Prop where
 hp:∃ n f:Int,H p=some (.lst [.int n,.int f,.int c])∧n.natAbs<2 ^ 2 ^ 20∧(f=0∨f=1∧0≤n)
 c0:0≤c
theorem Drw.new {H:Hp} {p:Addr} {c:Int} (h:Drw H p c) {b:Addr} (hb:H b=none):b≠p:=by
 obtain ⟨n,f,hp,_⟩:=h.hp
 exact (zaY hp hb).symm
theorem Drw.upd {H:Hp} {p:Addr} {c:Int} (h:Drw H p c) {b:Addr} {o:HO} (h1:b≠p):Drw (L2.upd H b o) p c:=by
 obtain ⟨n,f,hp,e⟩:=h.hp
 exact ⟨⟨n,f,by rw [zam h1.symm];exact hp,e⟩,h.c0⟩
theorem Drw.same {H H':Hp} {p:Addr} {c:Int} (h:Drw H p c) (s:zaM H H'):Drw H' p c:=by
 obtain ⟨n,f,hp,e⟩:=h.hp
 exact ⟨⟨n,f,s _ _ hp,e⟩,h.c0⟩
def zjk:Sp:=fun vs H Q _=>∃ n k:Int,vs=[.int n,.int k]∧n.natAbs<2 ^ 2 ^ 20∧0≤k∧k≤100000∧∀ r:Int,0≤r→r<2147483587→Q (.int r) H
def zjI (K:PySem.W.Frag):Sp:=fun vs H Q _=>∃ (p:Addr) (x:Int),vs=[.ref p,.int 0]∧H p=some (.lst [.int x])∧Q (.int x) H
def zkz (K:PySem.W.Frag):Sp:=fun vs H Q _=>∃ (p:Addr) (x:Int),vs=[.ref p,.int 0]∧H p=some (.lst [.int x])∧x.natAbs<2 ^ 2 ^ 20∧∀ (l:Addr) (H':Hp),zaM H H'→H l=none→Drw H' l 0→Q (.ref l) H'
def zd0:Sp:=fun vs H Q _=>∃ (p:Addr) (c m:Int),vs=[.ref p,.int m]∧Drw H p c∧c<10000∧0<m∧m≤1000000000000000000000000000000∧∀ (r:Int) (H':Hp),0≤r→r<m→Off p p H'=Off p p H→Drw H' p (c+1)→Q (.int r) H'
theorem zfr {K:PySem.W.Frag}:PySem.W.kitOne K (.type "bool") (.type "bool")=some true:=rfl
theorem zdU {K:PySem.W.Frag} {H:Hp} {Q:VK} {r:Addr} {xs:List V} (h:H r=some (.lst xs)) (q:Q (.bl true) H):zhd K [.ref r,.ty "list"] H Q:=⟨_,_,_,_,true,rfl,rfl,.of (.lst h),rfl,q⟩
def S:Nat→(Nat→Int)→Int
 | 0,_=>0
 | n+1,f=>S n f+f n
theorem zbE {f g:Nat→Int}:∀ n,(∀ k,k<n→f k=g k)→S n f=S n g
 | 0,_=>rfl
 | n+1,h=>by show S n f+f n=S n g+g n;rw [zbE n fun k hk=>h k (by omega),h n (by omega)]
theorem zib (α β:Int) (f g:Nat→Int):∀ n,S n (fun k=>α*f k+β*g k)=α*S n f+β*S n g
 | 0=>by simp [S]
 | n+1=>by
  show S n (fun k=>α*f k+β*g k)+_=α*(S n f+f n)+β*(S n g+g n)
  rw [zib α β f g n]
  grind
theorem ziG (α:Int) (f:Nat→Int) (n:Nat):S n (fun k=>α*f k)=α*S n f:=by
 have:=zib α 0 f f n
 rw [zbE (g:=fun k=>α*f k) n (fun k _=>by grind)] at this
 grind
theorem zgH {f:Nat→Int}:∀ n,(∀ k,k<n→f k=0)→S n f=0
 | 0,_=>rfl
 | n+1,h=>by show S n f+f n=0;rw [zgH n fun k hk=>h k (by omega),h n (by omega)];rfl
theorem zit {f:Nat→Int} {r:Nat}:∀ n,r<n→(∀ k,k<n→k≠r→f k=0)→S n f=f r
 | 0,h,_=>absurd h (Nat.not_lt_zero r)
 | n+1,h,z=>by
  show S n f+f n=f r
  by_cases e:r=n
  ·subst e
   rw [zgH r fun k hk=>z k (by omega) (by omega)]
   omega
  ·rw [zit n (by omega) fun k hk=>z k (by omega),z n (by omega) (fun q=>e q.symm)]
   omega
theorem zeC {f:Nat→Int}:∀ n,(∀ k,k<n→0≤f k)→0≤S n f
 | 0,_=>Int.le_refl 0
 | n+1,h=>by
  have:=zeC n fun k hk=>h k (by omega)
  have:=h n (by omega)
  show 0≤S n f+f n
  omega
theorem zlP {f:Nat→Int} {n:Nat} (h:0<S n f):∃ k,k<n∧0<f k:=by
 refine Classical.byContradiction fun no=>?_
 have:0≤S n fun k=>(-1)*f k:=zeC n fun k hk=>by
  have:=not_exists.mp no k
  have:¬ 0<f k:=fun q=>this ⟨hk,q⟩
  omega
 rw [ziG] at this
 omega
def wdg (v:Nat→Int):(List Nat→Int)→List Nat→Int
 | _,[]=>0
 | w,a::T=>v a*w T - wdg v (fun R=>w (a::R)) T
theorem zke (v:Nat→Int) (α β:Int):∀ (T:List Nat) (w u:List Nat→Int),wdg v (fun R=>α*w R+β*u R) T=α*wdg v w T+β*wdg v u T
 | [],_,_=>by simp [wdg]
 | a::T,w,u=>by
  show v a*(α*w T+β*u T) - wdg v (fun R=>α*w (a::R)+β*u (a::R)) T=α*(v a*w T - wdg v (fun R=>w (a::R)) T)+β*(v a*u T - wdg v (fun R=>u (a::R)) T)
  rw [zke v α β T]
  grind
theorem zlJ (α β:Int) (u v:Nat→Int):∀ (T:List Nat) (w:List Nat→Int),wdg (fun j=>α*u j+β*v j) w T=α*wdg u w T+β*wdg v w T
 | [],_=>by simp [wdg]
 | a::T,w=>by
  show (α*u a+β*v a)*w T - wdg (fun j=>α*u j+β*v j) (fun R=>w (a::R)) T=α*(u a*w T - wdg u (fun R=>w (a::R)) T)+β*(v a*w T - wdg v (fun R=>w (a::R)) T)
  rw [zlJ α β u v T]
  grind
theorem zim (v:Nat→Int):∀ (T:List Nat) (w:List Nat→Int),wdg v (wdg v w) T=0
 | [],_=>rfl
 | a::T,w=>by
  show v a*wdg v w T - wdg v (fun R=>v a*w R - wdg v (fun Q=>w (a::Q)) R) T=0
  have e:(fun R=>v a*w R - wdg v (fun Q=>w (a::Q)) R)=fun R=>v a*w R+(-1)*wdg v (fun Q=>w (a::Q)) R:=funext fun R=>by grind
  rw [e,zke,zim v T]
  grind
theorem zl4 (u v:Nat→Int) (T:List Nat) (w:List Nat→Int):wdg u (wdg v w) T=- wdg v (wdg u w) T:=by
 have h:=zim (fun j=>1*u j+1*v j) T w
 have e:wdg (fun j=>1*u j+1*v j) w=fun R=>1*wdg u w R+1*wdg v w R:=funext fun R=>zlJ 1 1 u v R w
 rw [e,zlJ,zke,zke,zim,zim] at h
 grind
theorem zjO (v:Nat→Int) (T:List Nat):wdg v (fun _=>0) T=0:=by
 have:=zke v 0 0 T (fun _=>0) (fun _=>0)
 simpa using this
def W:Nat→(Nat→Nat→Int)→List Nat→Int
 | 0,_=>fun T=>if T=[] then 1 else 0
 | k+1,cs=>wdg (cs k) (W k cs)
def zbI (cs:Nat→Nat→Int) (r:Nat) (v:Nat→Int):Nat→Nat→Int:=fun k=>if k=r then v else cs k
theorem zbb {cs:Nat→Nat→Int} {r:Nat} {v:Nat→Int}:zbI cs r v r=v:=if_pos rfl
theorem zbJ {cs:Nat→Nat→Int} {r k:Nat} {v:Nat→Int} (h:k≠r):zbI cs r v k=cs k:=if_neg h
theorem ze6 {cs:Nat→Nat→Int} {r:Nat}:zbI cs r (cs r)=cs:=funext fun k=>by
 by_cases e:k=r
 ·rw [e,zbb]
 ·rw [zbJ e]
theorem zfn {cs:Nat→Nat→Int} {r l:Nat} {u v:Nat→Int} (h:r≠l):zbI (zbI cs r u) l v=zbI (zbI cs l v) r u:=funext fun k=>by
 by_cases e:k=r
 ·subst e
  rw [zbJ h,zbb,zbb]
 ·by_cases e2:k=l
  ·subst e2
   rw [zbb,zbJ e,zbb]
  ·rw [zbJ e2,zbJ e,zbJ e,zbJ e2]
theorem zhA {cs cs':Nat→Nat→Int}:∀ M,(∀ k,k<M→cs k=cs' k)→W M cs=W M cs'
 | 0,_=>rfl
 | M+1,h=>by show wdg (cs M) (W M cs)=wdg (cs' M) (W M cs');rw [h M (by omega),zhA M fun k hk=>h k (by omega)]
theorem zj3 (α β:Int) {cs:Nat→Nat→Int} {r:Nat} {u v:Nat→Int}:∀ M,r<M→W M (zbI cs r fun j=>α*u j+β*v j)=fun T=>α*W M (zbI cs r u) T+β*W M (zbI cs r v) T
 | 0,h=>absurd h (Nat.not_lt_zero r)
 | M+1,h=>funext fun T=>by
  show wdg (zbI cs r (fun j=>α*u j+β*v j) M) (W M (zbI cs r fun j=>α*u j+β*v j)) T=α*wdg (zbI cs r u M) (W M (zbI cs r u)) T+β*wdg (zbI cs r v M) (W M (zbI cs r v)) T
  by_cases e:r=M
  ·subst e
   have low:∀ x,W r (zbI cs r x)=W r cs:=fun x=>zhA r fun k hk=>zbJ (by omega)
   rw [low,low,low,zbb,zbb,zbb,zlJ]
  ·have ne:M≠r:=fun q=>e q.symm
   rw [zbJ ne,zbJ ne,zbJ ne,zj3 α β M (by omega),zke]
theorem W_nil {cs:Nat→Nat→Int} {r M:Nat} (h:r<M) (T:List Nat):W M (zbI cs r fun _=>0) T=0:=by
 have:=congrFun (zj3 0 0 (cs:=cs) (u:=fun _=>0) (v:=fun _=>0) M h) T
 simpa using this
theorem znX (α:Int) {cs:Nat→Nat→Int} {r:Nat} {u:Nat→Int} {M:Nat} (h:r<M) (T:List Nat):W M (zbI cs r fun j=>α*u j) T=α*W M (zbI cs r u) T:=by
 have:=congrFun (zj3 α 0 (cs:=cs) (u:=u) (v:=u) M h) T
 simpa using this
theorem W_S {cs:Nat→Nat→Int} {r M:Nat} (h:r<M) (a:Nat→Int) (x:Nat→Nat→Int) (T:List Nat):∀ N,W M (zbI cs r fun j=>S N fun k=>a k*x k j) T=S N fun k=>a k*W M (zbI cs r (x k)) T
 | 0=>W_nil h T
 | N+1=>by
  show W M (zbI cs r fun j=>(S N fun k=>a k*x k j)+a N*x N j) T=(S N fun k=>a k*W M (zbI cs r (x k)) T)+a N*W M (zbI cs r (x N)) T
  have:=congrFun (zj3 1 (a N) (cs:=cs) (u:=fun j=>S N fun k=>a k*x k j) (v:=x N) M h) T
  rw [W_S h a x T N] at this
  simpa using this
theorem zmP {cs:Nat→Nat→Int} {v:Nat→Int} {r:Nat} (e:cs r=v):∀ N,r<N→∀ T,wdg v (W N cs) T=0
 | 0,h,_=>absurd h (Nat.not_lt_zero r)
 | N+1,h,T=>by
  show wdg v (wdg (cs N) (W N cs)) T=0
  by_cases q:r=N
  ·subst q
   rw [e,zim]
  ·rw [zl4,show wdg v (W N cs)=fun _=>0 from funext fun R=>zmP e N (by omega) R,zjO]
   rfl
theorem zon {cs:Nat→Nat→Int} {r l:Nat} (e:cs r=cs l) (h:r<l):∀ M,l<M→∀ T,W M cs T=0
 | 0,q,_=>absurd q (Nat.not_lt_zero l)
 | M+1,q,T=>by
  show wdg (cs M) (W M cs) T=0
  by_cases z:l=M
  ·subst z
   exact zmP e l h T
  ·rw [show W M cs=fun _=>0 from funext fun R=>zon e h M (by omega) R,zjO]
theorem zir {cs:Nat→Nat→Int} {r l M:Nat} (e:cs r=cs l) (h:r≠l) (h1:r<M) (h2:l<M) (T:List Nat):W M cs T=0:=by
 by_cases q:r<l
 ·exact zon e q M h2 T
 ·exact zon e.symm (by omega) M h1 T
theorem zo5 {cs:Nat→Nat→Int} {r l M:Nat} {u v:Nat→Int} (h:r≠l) (h1:r<M) (h2:l<M) (T:List Nat):W M (zbI (zbI cs r u) l v) T=- W M (zbI (zbI cs r v) l u) T:=by
 have z:∀ x:Nat→Int,W M (zbI (zbI cs r x) l x) T=0:=fun x=>zir (r:=r) (l:=l) (by rw [zbJ h,zbb,zbb]) h h1 h2 T
 have L2:∀ y:Nat→Int,W M (zbI (zbI cs r y) l fun j=>1*u j+1*v j) T=W M (zbI (zbI cs r y) l u) T+W M (zbI (zbI cs r y) l v) T:=fun y=>by
  have:=congrFun (zj3 1 1 (cs:=zbI cs r y) (r:=l) (u:=u) (v:=v) M h2) T
  simpa using this
 have L1:∀ y:Nat→Int,W M (zbI (zbI cs r fun j=>1*u j+1*v j) l y) T=W M (zbI (zbI cs r u) l y) T+W M (zbI (zbI cs r v) l y) T:=fun y=>by
  have:=congrFun (zj3 1 1 (cs:=zbI cs l y) (r:=r) (u:=u) (v:=v) M h1) T
  rw [zfn h,zfn h,zfn h]
  simpa using this
 have q:=z fun j=>1*u j+1*v j
 rw [L2,L1,L1,z,z] at q
 omega
def dn:Nat→List Nat
 | 0=>[]
 | n+1=>n::dn n
theorem znZ:∀ (n a:Nat),a∈dn n→a<n
 | 0,_,h=>nomatch h
 | n+1,a,h=>by
  rcases List.mem_cons.mp h with rfl | h
  ·omega
  ·have:=znZ n a h
   omega
theorem ze2:∀ n,(dn n).length=n
 | 0=>rfl
 | n+1=>by rw [dn,List.length_cons,ze2 n]
theorem zlr {v:Nat→Int}:∀ (T:List Nat) (w:List Nat→Int),(∀ a∈T,v a=0)→wdg v w T=0
 | [],_,_=>rfl
 | a::T,w,h=>by
  show v a*w T - wdg v (fun R=>w (a::R)) T=0
  rw [zlr T _ fun b hb=>h b (List.mem_cons_of_mem _ hb),h a List.mem_cons_self]
  omega
theorem W_id {cs:Nat→Nat→Int}:∀ M,(∀ k j,k<M→j<M→cs k j=if j=k then 1 else 0)→W M cs (dn M)=1
 | 0,_=>rfl
 | M+1,h=>by
  show cs M M*W M cs (dn M) - wdg (cs M) (fun R=>W M cs (M::R)) (dn M)=1
  rw [zlr (dn M) _ fun a ha=>(h M a (by omega) (by have:=znZ M a ha;omega)).trans (if_neg (by have:=znZ M a ha;omega)),h M M (by omega) (by omega),if_pos rfl,W_id M fun k j h1 h2=>h k j (by omega) (by omega)]
  rfl
def fct:Nat→Nat
 | 0=>1
 | n+1=>(n+1)*fct n
theorem zm1 {v:Nat→Int} {V B:Nat} (hv:∀ j,(v j).natAbs≤V):∀ (T:List Nat) (w:List Nat→Int),(∀ R:List Nat,R.length+1=T.length→(w R).natAbs≤B)→(wdg v w T).natAbs≤T.length*(V*B)
 | [],_,_=>Nat.zero_le _
 | a::T,w,h=>by
  show (v a*w T - wdg v (fun R=>w (a::R)) T).natAbs≤(T.length+1)*(V*B)
  have h1:(wdg v (fun R=>w (a::R)) T).natAbs≤T.length*(V*B):=zm1 hv T _ fun R hR=>h (a::R) (by rw [List.length_cons,List.length_cons,hR])
  have h2:(v a*w T).natAbs≤V*B:=by
   rw [Int.natAbs_mul]
   exact Nat.mul_le_mul (hv a) (h T (by rw [List.length_cons]))
  have h3:=Int.natAbs_sub_le (v a*w T) (wdg v (fun R=>w (a::R)) T)
  rw [Nat.add_mul,Nat.one_mul]
  omega
theorem W_le {cs:Nat→Nat→Int} {V:Nat} (hv:∀ k j,(cs k j).natAbs≤V):∀ (M:Nat) (T:List Nat),T.length=M→(W M cs T).natAbs≤fct M*V ^ M
 | 0,T,h=>by
  show ((if T=[] then 1 else 0:Int)).natAbs≤1
  split <;> decide
 | M+1,T,h=>by
  have:=zm1 (hv M) (B:=fct M*V ^ M) T (W M cs) fun R hR=>W_le hv M R (by omega)
  show (wdg (cs M) (W M cs) T).natAbs≤(M+1)*fct M*V ^ (M+1)
  rw [h] at this
  refine Nat.le_trans this (Nat.le_of_eq ?_)
  rw [Nat.pow_succ]
  grind
structure Sx where
 g:Nat→Nat→Int
 d:Int
 bs:Nat→Nat
 id:Nat→Nat
def zh6 (f:Nat→Nat) (k x:Nat):Nat→Nat:=fun j=>if j=k then x else f j
theorem zcN {f:Nat→Nat} {k x:Nat}:zh6 f k x k=x:=if_pos rfl
theorem zdA {f:Nat→Nat} {k x j:Nat} (h:j≠k):zh6 f k x j=f j:=if_neg h
def piv (t:Sx) (r c:Nat):Sx where
 g:=fun k j=>if k=r then (if j=c then t.d else t.g r j) else if j=c then - t.g k c else (t.g r c*t.g k j - t.g k c*t.g r j).fdiv t.d
 d:=t.g r c
 bs:=zh6 t.bs r (t.id c)
 id:=zh6 t.id c (t.bs r)
section
variable (m n:Nat) (vec:Nat→Nat→Int)
abbrev Dt (cs:Nat→Nat→Int):Int:=W (m+1) cs (dn (m+1))
structure Tok (t:Sx):Prop where
 pos:0<t.d
 lin:∀ c,c≤n→∀ j,t.d*vec (t.id c) j=S (m+1) fun k=>t.g k c*vec (t.bs k) j
 det:t.d=Dt m fun k=>vec (t.bs k)
end
section
variable {m n:Nat} {vec:Nat→Nat→Int}
theorem Tok.ent {t:Sx} (h:Tok m n vec t) {k c:Nat} (hk:k≤m) (hc:c≤n):t.g k c=Dt m (zbI (fun k=>vec (t.bs k)) k (vec (t.id c))):=by
 have e1:Dt m (zbI (fun k=>vec (t.bs k)) k fun j=>t.d*vec (t.id c) j)=t.d*Dt m (zbI (fun k=>vec (t.bs k)) k (vec (t.id c))):=znX _ (by omega) _
 have e2:(fun j=>t.d*vec (t.id c) j)=fun j=>S (m+1) fun l=>t.g l c*vec (t.bs l) j:=funext (h.lin c hc)
 have e3:Dt m (zbI (fun k=>vec (t.bs k)) k fun j=>S (m+1) fun l=>t.g l c*vec (t.bs l) j)=S (m+1) fun l=>t.g l c*Dt m (zbI (fun k=>vec (t.bs k)) k (vec (t.bs l))) :=
  W_S (by omega) (fun l=>t.g l c) (fun l=>vec (t.bs l)) _ _
 rw [e2,e3,zit (m+1) (r:=k) (by omega) fun l hl ne=>?_] at e1
 ·have self:zbI (fun k=>vec (t.bs k)) k (vec (t.bs k))=fun k=>vec (t.bs k):=ze6 (cs:=fun k=>vec (t.bs k))
  rw [self,← h.det,Int.mul_comm] at e1
  exact Int.eq_of_mul_eq_mul_left (Int.ne_of_gt h.pos) e1
 ·have:Dt m (zbI (fun k=>vec (t.bs k)) k (vec (t.bs l)))=0:=zir (r:=l) (l:=k) (by rw [zbJ ne,zbb]) ne hl (by omega) _
  rw [this,Int.mul_zero]
theorem Tok.exact {t:Sx} (h:Tok m n vec t) {r c k j:Nat} (hr:r≤m) (hc:c≤n) (hk:k≤m) (hj:j≤n) (ne:k≠r) :
  t.d*Dt m (zbI (zbI (fun k=>vec (t.bs k)) r (vec (t.id c))) k (vec (t.id j)))=t.g r c*t.g k j - t.g k c*t.g r j:=by
 have e1:Dt m (zbI (zbI (fun k=>vec (t.bs k)) r (vec (t.id c))) k fun i=>t.d*vec (t.id j) i)=t.d*Dt m (zbI (zbI (fun k=>vec (t.bs k)) r (vec (t.id c))) k (vec (t.id j))):=znX _ (by omega) _
 have e2:(fun i=>t.d*vec (t.id j) i)=fun i=>S (m+1) fun l=>t.g l j*vec (t.bs l) i:=funext (h.lin j hj)
 have e3:Dt m (zbI (zbI (fun k=>vec (t.bs k)) r (vec (t.id c))) k fun i=>S (m+1) fun l=>t.g l j*vec (t.bs l) i)=S (m+1) fun l=>t.g l j*Dt m (zbI (zbI (fun k=>vec (t.bs k)) r (vec (t.id c))) k (vec (t.bs l))) :=
  W_S (by omega) (fun l=>t.g l j) (fun l=>vec (t.bs l)) _ _
 rw [e2,e3] at e1
 have z:∀ l,l<m+1→l≠k→l≠r→Dt m (zbI (zbI (fun k=>vec (t.bs k)) r (vec (t.id c))) k (vec (t.bs l)))=0:=fun l hl n1 n2 =>
  zir (r:=l) (l:=k) (by rw [zbJ n1,zbJ n2,zbb]) n1 hl (by omega) _
 have zk:Dt m (zbI (zbI (fun k=>vec (t.bs k)) r (vec (t.id c))) k (vec (t.bs k)))=t.g r c:=by
  rw [zfn (Ne.symm ne),show zbI (fun k=>vec (t.bs k)) k (vec (t.bs k))=fun k=>vec (t.bs k) from ze6 (cs:=fun k=>vec (t.bs k)),← h.ent hr hc]
 have zr:Dt m (zbI (zbI (fun k=>vec (t.bs k)) r (vec (t.id c))) k (vec (t.bs r)))=- t.g k c:=by
  have:=zo5 (cs:=fun k=>vec (t.bs k)) (u:=vec (t.id c)) (v:=vec (t.bs r)) (M:=m+1) (Ne.symm ne) (by omega) (by omega) (dn (m+1))
  rw [show Dt m (zbI (zbI (fun k=>vec (t.bs k)) r (vec (t.id c))) k (vec (t.bs r)))=_ from this,show zbI (fun k=>vec (t.bs k)) r (vec (t.bs r))=fun k=>vec (t.bs k) from ze6 (cs:=fun k=>vec (t.bs k))]
  exact congrArg (fun z:Int=>-z) (h.ent hk hc).symm
 have two:(S (m+1) fun l=>t.g l j*Dt m (zbI (zbI (fun k=>vec (t.bs k)) r (vec (t.id c))) k (vec (t.bs l))))=t.g k j*t.g r c+t.g r j*(- t.g k c):=by
  have sp:(S (m+1) fun l=>t.g l j*Dt m (zbI (zbI (fun k=>vec (t.bs k)) r (vec (t.id c))) k (vec (t.bs l))))=S (m+1) fun l=>1*(if l=k then t.g k j*t.g r c else 0)+1*(if l=r then t.g r j*(- t.g k c) else 0):=zbE _ fun l hl=>by
   by_cases a:l=k
   ·subst a
    rw [if_pos rfl,if_neg ne,zk]
    omega
   ·by_cases b:l=r
    ·subst b
     rw [if_neg a,if_pos rfl,zr]
     omega
    ·rw [if_neg a,if_neg b,z l hl a b]
     omega
  rw [sp,zib,zit (m+1) (r:=k) (by omega) fun l _ nl=>if_neg nl,zit (m+1) (r:=r) (by omega) fun l _ nl=>if_neg nl,if_pos rfl,if_pos rfl]
  omega
 rw [two] at e1
 rw [← e1]
 grind
theorem zmc {t:Sx} (h:Tok m n vec t) {r c k j:Nat} (hr:r≤m) (hc:c≤n) (hk:k≤m) (hj:j≤n) (n1:k≠r) (n2:j≠c):t.d*(piv t r c).g k j=t.g r c*t.g k j - t.g k c*t.g r j:=by
 show t.d*(if k=r then (if j=c then t.d else t.g r j) else if j=c then - t.g k c else (t.g r c*t.g k j - t.g k c*t.g r j).fdiv t.d)=_
 rw [if_neg n1,if_neg n2,← h.exact hr hc hk hj n1,Int.mul_fdiv_cancel_left _ (Int.ne_of_gt h.pos)]
theorem zml {t:Sx} {r c j:Nat} (n2:j≠c):(piv t r c).g r j=t.g r j:=by
 show (if r=r then (if j=c then t.d else t.g r j) else _)=_
 rw [if_pos rfl,if_neg n2]
theorem zpC {t:Sx} {r c k:Nat} (n1:k≠r):(piv t r c).g k c=- t.g k c:=by
 show (if k=r then (if c=c then t.d else t.g r c) else if c=c then - t.g k c else _)=_
 rw [if_neg n1,if_pos rfl]
theorem znd {t:Sx} {r c:Nat}:(piv t r c).g r c=t.d:=by
 show (if r=r then (if c=c then t.d else t.g r c) else _)=_
 rw [if_pos rfl,if_pos rfl]
theorem zmf {f:Nat→Int} {r:Nat}:∀ n,r<n→S n f=f r+S n fun k=>if k=r then 0 else f k:=fun n h=>by
 have e:S n f=S n fun k=>1*(if k=r then f r else 0)+1*(if k=r then 0 else f k):=zbE n fun k _=>by
  by_cases q:k=r
  ·rw [if_pos q,if_pos q,q];omega
  ·rw [if_neg q,if_neg q];omega
 rw [e,zib,zit n h fun k _ nk=>if_neg nk,if_pos rfl]
 omega
theorem Tok.piv {t:Sx} (h:Tok m n vec t) {r c:Nat} (hr:r≤m) (hc:c≤n) (hp:0<t.g r c):Tok m n vec (piv t r c):=by
 refine ⟨hp,fun j hj i=>?_,?_⟩
 ·have E:=h.lin
  have sum:∀ x:Nat,(S (m+1) fun k=>(My.piv t r c).g k x*vec ((My.piv t r c).bs k) i)=(My.piv t r c).g r x*vec (t.id c) i+S (m+1) fun k=>if k=r then 0 else (My.piv t r c).g k x*vec (t.bs k) i:=fun x=>by
   rw [zmf (m+1) (r:=r) (by omega)]
   refine congr (congrArg _ ?_) (zbE _ fun k _=>?_)
   ·show _*vec (zh6 t.bs r (t.id c) r) i=_
    rw [zcN]
   ·by_cases q:k=r
    ·rw [if_pos q,if_pos q]
    ·rw [if_neg q,if_neg q]
     show _*vec (zh6 t.bs r (t.id c) k) i=_
     rw [zdA q]
  rw [sum]
  have ec:=E c hc i
  rw [zmf (m+1) (r:=r) (by omega)] at ec
  show t.g r c*vec (zh6 t.id c (t.bs r) j) i=_
  by_cases q:j=c
  ·subst q
   rw [zcN,znd]
   have:(S (m+1) fun k=>if k=r then 0 else (My.piv t r j).g k j*vec (t.bs k) i)=S (m+1) fun k=>(-1)*(if k=r then 0 else t.g k j*vec (t.bs k) i):=zbE _ fun k _=>by
    by_cases q:k=r
    ·rw [if_pos q,if_pos q];rfl
    ·rw [if_neg q,if_neg q,zpC q];grind
   rw [this,ziG]
   grind
  ·rw [zdA q,zml q]
   have ej:=E j hj i
   rw [zmf (m+1) (r:=r) (by omega)] at ej
   have k1:t.d*(S (m+1) fun k=>if k=r then 0 else (My.piv t r c).g k j*vec (t.bs k) i)=t.g r c*(S (m+1) fun k=>if k=r then 0 else t.g k j*vec (t.bs k) i)+(- t.g r j)*(S (m+1) fun k=>if k=r then 0 else t.g k c*vec (t.bs k) i):=by
    rw [← ziG,← zib]
    refine zbE _ fun k hk=>?_
    by_cases q2:k=r
    ·simp only [if_pos q2];omega
    ·simp only [if_neg q2]
     have:=zmc h hr hc (k:=k) (j:=j) (by omega) hj q2 q
     rw [← Int.mul_assoc,this]
     grind
   refine Int.eq_of_mul_eq_mul_left (Int.ne_of_gt h.pos) ?_
   rw [Int.mul_add,k1]
   grind
 ·show t.g r c=Dt m fun k=>vec (zh6 t.bs r (t.id c) k)
  rw [h.ent hr hc]
  refine congrArg (fun cs=>Dt m cs) (funext fun k=>?_)
  by_cases q:k=r
  ·rw [q,zbb,zcN]
  ·rw [zbJ q,zdA q]
section
variable (m n:Nat) (vec:Nat→Nat→Int)
structure Fea (t:Sx):Prop where
 tok:Tok m n vec t
 bm:t.bs m=n+m
 idn:t.id n=n+m+1
 bl:∀ k,k<m→t.bs k<n+m
 il:∀ c,c<n→t.id c<n+m
 cov:∀ q,q<n+m→(∃ k,k<m∧t.bs k=q)∨∃ c,c<n∧t.id c=q
 fea:∀ k,k<m→0≤t.g k n
structure Stp (t:Sx) (s:Bool) (r c:Nat):Prop where
 hr:r<m
 hc:c<n
 neg:t.g m c<0
 pos:0<t.g r c
 lv:∀ k,k<m→0<t.g k c→t.g r n*t.g k c<t.g k n*t.g r c∨(t.g r n*t.g k c=t.g k n*t.g r c∧t.bs r≤t.bs k)
 bl:s=true→∀ j,j<n→t.g m j<0→t.id c≤t.id j
def rc (t:Sx) (q:Nat):Int:=Dt m (zbI (fun k=>vec (t.bs k)) m (vec q))
end
theorem zgE {t:Sx} {k:Nat} (hk:k<m):rc m vec t (t.bs k)=0 :=
 zir (r:=k) (l:=m) (by rw [zbJ (by omega),zbb]) (by omega) (by omega) (by omega) _
theorem zfG {t:Sx} (h:Tok m n vec t) {c:Nat} (hc:c≤n):rc m vec t (t.id c)=t.g m c:=(h.ent (Nat.le_refl m) hc).symm
theorem znj {t:Sx} (h:Tok m n vec t):rc m vec t (t.bs m)=t.d:=by
 unfold rc
 rw [h.det,show zbI (fun k=>vec (t.bs k)) m (vec (t.bs m))=fun k=>vec (t.bs k) from ze6 (cs:=fun k=>vec (t.bs k))]
theorem zph {t t':Sx} (h:Tok m n vec t) {c:Nat} (hc:c≤n):t.d*rc m vec t' (t.id c)=S (m+1) fun k=>t.g k c*rc m vec t' (t.bs k):=by
 unfold rc
 rw [← znX t.d (by omega),← W_S (by omega) (fun k=>t.g k c) (fun k=>vec (t.bs k)),show (fun j=>t.d*vec (t.id c) j)=fun j=>S (m+1) fun k=>t.g k c*vec (t.bs k) j from funext (h.lin c hc)]
theorem Tok.inj {t:Sx} (h:Tok m n vec t) {k l:Nat} (hk:k≤m) (hl:l≤m) (e:t.bs k=t.bs l):k=l:=by
 refine Classical.byContradiction fun ne=>?_
 have z:Dt m (fun k=>vec (t.bs k))=0:=zir (r:=k) (l:=l) (by rw [e]) ne (by omega) (by omega) _
 have:=h.pos
 rw [h.det,z] at this
 omega
theorem Fea.piv {t:Sx} {s:Bool} {r c:Nat} (F:Fea m n vec t) (h:Stp m n t s r c):Fea m n vec (piv t r c):=by
 have hr:=h.hr
 have hc:=h.hc
 refine ⟨F.tok.piv (by omega) (by omega) h.pos,?_,?_,fun k hk=>?_,fun k hk=>?_,fun q hq=>?_,fun k hk=>?_⟩
 ·show zh6 t.bs r (t.id c) m=_
  rw [zdA (by omega),F.bm]
 ·show zh6 t.id c (t.bs r) n=_
  rw [zdA (by omega),F.idn]
 ·show zh6 t.bs r (t.id c) k<_
  by_cases q:k=r
  ·rw [q,zcN];exact F.il c hc
  ·rw [zdA q];exact F.bl k hk
 ·show zh6 t.id c (t.bs r) k<_
  by_cases q:k=c
  ·rw [q,zcN];exact F.bl r hr
  ·rw [zdA q];exact F.il k hk
 ·rcases F.cov q hq with ⟨k,hk,e⟩ | ⟨j,hj,e⟩
  ·by_cases z:k=r
   ·subst z
    exact .inr ⟨c,hc,by show zh6 t.id c (t.bs k) c=q;rw [zcN,e]⟩
   ·exact .inl ⟨k,hk,by show zh6 t.bs r (t.id c) k=q;rw [zdA z,e]⟩
  ·by_cases z:j=c
   ·subst z
    exact .inl ⟨r,hr,by show zh6 t.bs r (t.id j) r=q;rw [zcN,e]⟩
   ·exact .inr ⟨j,hj,by show zh6 t.id c (t.bs r) j=q;rw [zdA z,e]⟩
 ·by_cases z:k=r
  ·subst z
   rw [zml (by omega)]
   exact F.fea k hk
  ·have e:=zmc F.tok (by omega) (by omega) (k:=k) (j:=n) (by omega) (Nat.le_refl n) z (by omega:n≠c)
   have p:=F.tok.pos
   have b1:=F.fea k hk
   have b2:=F.fea r hr
   have hp:=h.pos
   have:0≤t.d*(My.piv t r c).g k n:=by
    rw [e]
    by_cases q:0<t.g k c
    ·have l:=h.lv k hk q
     have:t.g r n*t.g k c≤t.g k n*t.g r c:=by
      rcases l with l | l
      ·exact Int.le_of_lt l
      ·exact Int.le_of_eq l.1
     rw [Int.mul_comm (t.g r c),Int.mul_comm (t.g k c)]
     omega
    ·have h1:0≤t.g r c*t.g k n:=Int.mul_nonneg (Int.le_of_lt hp) b1
     have h2:0≤(- t.g k c)*t.g r n:=Int.mul_nonneg (by omega) b2
     rw [Int.neg_mul] at h2
     omega
   exact Int.nonneg_of_mul_nonneg_right this p
theorem zjF {t t':Sx} {c' tn:Nat} (F':Fea m n vec t') (hb:∀ j,j<n→t'.g m j<0→tn≤t'.id j) {q:Nat} (hq:q<n+m) (lt:q<tn):0≤rc m vec t' q:=by
 rcases F'.cov q hq with ⟨k,hk,rfl⟩ | ⟨j,hj,rfl⟩
 ·rw [zgE hk];exact Int.le_refl 0
 ·rw [zfG F'.tok (by omega)]
  refine Classical.byContradiction fun no=>?_
  have:=hb j hj (by omega)
  omega
theorem bland {t t':Sx} {s:Bool} {r c c':Nat} (F:Fea m n vec t) (F':Fea m n vec t') (h:Stp m n t s r c) (hc':c'<n) (e:t'.id c'=t.bs r) (ng:t'.g m c'<0)
  (hb:∀ j,j<n→t'.g m j<0→t.bs r≤t'.id j) (hs:t.id c<t.bs r) (hq:∀ k,k<m→t.bs k≠t'.bs k→t.bs k≤t.bs r∧t.g k n=0):False:=by
 have hr:=h.hr
 have hc:=h.hc
 have E:=zph (t:=t) (t':=t') F.tok (c:=c) (by omega)
 have E':(S (m+1) fun k=>t.g k c*rc m vec t' (t.bs k))=(S m fun k=>t.g k c*rc m vec t' (t.bs k))+t.g m c*rc m vec t' (t.bs m):=rfl
 have top:rc m vec t' (t.bs m)=t'.d:=by rw [F.bm,← F'.bm,znj F'.tok]
 rw [E',top] at E
 have n1:=zjF (t:=t) (c':=c') F' hb (F.il c hc) hs
 have p1:0≤t.d*rc m vec t' (t.id c):=Int.mul_nonneg (Int.le_of_lt F.tok.pos) n1
 have p2:0<(- t.g m c)*t'.d:=Int.mul_pos (by have:=h.neg;omega) F'.tok.pos
 rw [Int.neg_mul] at p2
 obtain ⟨k,hk,pk⟩:=zlP (n:=m) (f:=fun k=>t.g k c*rc m vec t' (t.bs k)) (by omega)
 have ne:t.bs k≠t'.bs k:=fun z=>by
  have:rc m vec t' (t.bs k)=0:=by rw [z];exact zgE hk
  rw [this,Int.mul_zero] at pk
  omega
 obtain ⟨le,b0⟩:=hq k hk ne
 by_cases z:t.bs k=t.bs r
 ·have ek:k=r:=F.tok.inj (by omega) (by omega) z
  subst ek
  rw [← e,zfG F'.tok (by omega)] at pk
  have:=Int.mul_neg_of_pos_of_neg h.pos ng
  omega
 ·have n2:=zjF (t:=t) (c':=c') F' hb (F.bl k hk) (by omega)
  have gk:0<t.g k c:=by
   refine Classical.byContradiction fun no=>?_
   have:0≤(- t.g k c)*rc m vec t' (t.bs k):=Int.mul_nonneg (by omega) n2
   rw [Int.neg_mul] at this
   omega
  have br:=F.fea r hr
  have q0:0≤t.g r n*t.g k c:=Int.mul_nonneg br (Int.le_of_lt gk)
  rcases h.lv k hk gk with l | l
  ·rw [b0,Int.zero_mul] at l
   omega
  ·have:=l.2
   omega
section
variable (m n:Nat) (vec:Nat→Nat→Int)
structure Run (st:Nat→Sx) (rr cc:Nat→Nat) (su:Nat→Bool) (L:Nat):Prop where
 ok:∀ i,i≤L→Fea m n vec (st i)
 nx:∀ i,i<L→st (i+1)=piv (st i) (rr i) (cc i)
 by':∀ i,i<L→Stp m n (st i) (su i) (rr i) (cc i)
 sk:∀ i,i<L→su (i+1)=decide ((st i).g (rr i) n=0)
end
section
variable {st:Nat→Sx} {rr cc:Nat→Nat} {su:Nat→Bool} {L:Nat}
theorem Run.bs (R:Run m n vec st rr cc su L) {i:Nat} (h:i<L) (k:Nat):(st (i+1)).bs k=if k=rr i then (st i).id (cc i) else (st i).bs k:=by rw [R.nx i h];rfl
theorem Run.leave (R:Run m n vec st rr cc su L) {k q:Nat}:∀ (w i:Nat),i+w≤L→(st i).bs k=q→(st (i+w)).bs k≠q→∃ x,i≤x∧x<i+w∧rr x=k∧(st x).bs k=q
 | 0,i,_,e,ne=>absurd e ne
 | w+1,i,h,e,ne=>by
  by_cases z:(st (i+w)).bs k=q
  ·have b:=R.bs (i:=i+w) (by omega) k
   by_cases y:k=rr (i+w)
   ·exact ⟨i+w,by omega,by omega,y.symm,z⟩
   ·rw [if_neg y] at b
    exact absurd (b.trans z) ne
  ·obtain ⟨x,h1,h2,h3⟩:=R.leave w i (by omega) e z
   exact ⟨x,h1,by omega,h3⟩
theorem Run.enter (R:Run m n vec st rr cc su L) {k q:Nat}:∀ (w i:Nat),i+w≤L→(st i).bs k≠q→(st (i+w)).bs k=q→∃ x,i≤x∧x<i+w∧rr x=k∧(st x).id (cc x)=q
 | 0,i,_,ne,e=>absurd e ne
 | w+1,i,h,ne,e=>by
  by_cases z:(st (i+w)).bs k=q
  ·obtain ⟨x,h1,h2,h3⟩:=R.enter w i (by omega) ne z
   exact ⟨x,h1,by omega,h3⟩
  ·have b:=R.bs (i:=i+w) (by omega) k
   have e':(st (i+w+1)).bs k=q:=e
   by_cases y:k=rr (i+w)
   ·rw [if_pos y,e'] at b
    exact ⟨i+w,by omega,by omega,y.symm,b.symm⟩
   ·rw [if_neg y,e'] at b
    exact absurd b.symm z
theorem most {f:Nat→Nat}:∀ (w i:Nat),∃ x,i≤x∧x≤i+w∧∀ y,i≤y→y≤i+w→f y≤f x
 | 0,i=>⟨i,Nat.le_refl _,Nat.le_refl _,fun y h1 h2=>by rw [show y=i by omega];exact Nat.le_refl _⟩
 | w+1,i=>by
  obtain ⟨x,h1,h2,h3⟩:=most (f:=f) w i
  by_cases z:f x≤f (i+w+1)
  ·exact ⟨i+w+1,by omega,by omega,fun y a b=>by
    by_cases q:y=i+w+1
    ·rw [q];exact Nat.le_refl _
    ·exact Nat.le_trans (h3 y a (by omega)) z⟩
  ·exact ⟨x,h1,by omega,fun y a b=>by
    by_cases q:y=i+w+1
    ·rw [q];omega
    ·exact h3 y a (by omega)⟩
theorem gain_ {t:Sx} {s:Bool} {r c:Nat} (F:Fea m n vec t) (h:Stp m n t s r c):t.d*(piv t r c).g m n=(piv t r c).d*t.g m n+(- t.g m c)*t.g r n:=by
 have hr:=h.hr
 have hc:=h.hc
 have e:=zmc F.tok (by omega) (by omega) (k:=m) (j:=n) (Nat.le_refl m) (Nat.le_refl n) (by omega:m≠r) (by omega:n≠c)
 rw [e]
 show _=t.g r c*t.g m n+_
 rw [Int.neg_mul]
 omega
theorem Run.up (R:Run m n vec st rr cc su L) {i:Nat} (h:i<L):(st i).g m n*(st (i+1)).d≤(st (i+1)).g m n*(st i).d∧((st i).g m n*(st (i+1)).d=(st (i+1)).g m n*(st i).d→(st i).g (rr i) n=0):=by
 have F:=R.ok i (by omega)
 have b:=R.by' i h
 have g:=gain_ F b
 rw [← R.nx i h] at g
 have n0:=F.fea _ b.hr
 have ng:=b.neg
 have q:0≤(- (st i).g m (cc i))*(st i).g (rr i) n:=Int.mul_nonneg (by omega) n0
 rw [Int.mul_comm ((st i).g m n),Int.mul_comm ((st (i+1)).g m n),g]
 refine ⟨by omega,fun e=>?_⟩
 have z:(- (st i).g m (cc i))*(st i).g (rr i) n=0:=by omega
 rcases Int.mul_eq_zero.mp z with z | z
 ·omega
 ·exact z
theorem zdR {a b c p q r:Int} (hp:0<p) (hq:0<q) (hr:0<r) (h1:a*q≤b*p) (h2:b*r≤c*q):a*r≤c*p:=by
 have e1:a*q*r≤b*p*r:=Int.mul_le_mul_of_nonneg_right h1 (Int.le_of_lt hr)
 have e2:b*r*p≤c*q*p:=Int.mul_le_mul_of_nonneg_right h2 (Int.le_of_lt hp)
 have:(a*r)*q≤(c*p)*q:=by
  have x1:a*r*q=a*q*r:=by grind
  have x2:c*p*q=c*q*p:=by grind
  have x3:b*r*p=b*p*r:=by grind
  omega
 exact Int.le_of_mul_le_mul_right this hq
theorem Run.upW (R:Run m n vec st rr cc su L):∀ (w i:Nat),i+w≤L→(st i).g m n*(st (i+w)).d≤(st (i+w)).g m n*(st i).d
 | 0,i,_=>Int.le_refl _
 | w+1,i,h=>zdR (R.ok i (by omega)).tok.pos (R.ok (i+w) (by omega)).tok.pos (R.ok (i+w+1) (by omega)).tok.pos (R.upW w i (by omega)) (R.up (i:=i+w) (by omega)).1
theorem Run.flat (R:Run m n vec st rr cc su L) {i w:Nat} (h:i+w≤L) (eV:(st i).g m n=(st (i+w)).g m n) (ed:(st i).d=(st (i+w)).d) {x:Nat} (h1:i≤x) (h2:x<i+w):(st x).g (rr x) n=0:=by
 refine (R.up (i:=x) (by omega)).2 ?_
 have p:∀ y,y≤L→0<(st y).d:=fun y hy=>(R.ok y hy).tok.pos
 obtain ⟨u,rfl⟩:∃ u,x=i+u:=⟨x - i,by omega⟩
 obtain ⟨v,hv⟩:∃ v,i+w=i+u+1+v:=⟨w - u - 1,by omega⟩
 have a1:=R.upW u i (by omega)
 have a2:=(R.up (i:=i+u) (by omega)).1
 have a3:=R.upW v (i+u+1) (by omega)
 rw [← hv,← eV,← ed] at a3
 have a4:=zdR (p (i+u+1) (by omega)) (p i (by omega)) (p (i+u) (by omega)) a3 a1
 exact Int.le_antisymm a2 a4
theorem Run.zero (R:Run m n vec st rr cc su L) {k:Nat} (hk:k<m):∀ (w i:Nat),i+w≤L→(∀ x,i≤x→x<i+w→(st x).g (rr x) n=0)→((st i).g k n=0↔(st (i+w)).g k n=0)
 | 0,i,_,_=>Iff.rfl
 | w+1,i,h,z=>by
  refine Iff.trans (R.zero hk w i (by omega) fun x a b=>z x a (by omega)) ?_
  have F:=R.ok (i+w) (by omega)
  have b:=R.by' (i+w) (by omega)
  have hr:=b.hr
  have hc:=b.hc
  have zr:=z (i+w) (by omega) (by omega)
  show _↔(st (i+w+1)).g k n=0
  rw [R.nx (i+w) (by omega)]
  by_cases q:k=rr (i+w)
  ·rw [q,zml (by omega)]
  ·have e:=zmc F.tok (by omega) (by omega) (k:=k) (j:=n) (by omega) (Nat.le_refl n) q (by omega:n≠cc (i+w))
   rw [zr,Int.mul_zero,Int.sub_zero] at e
   have p1:=F.tok.pos
   have p2:=b.pos
   constructor
   ·intro y
    rw [y,Int.mul_zero] at e
    rcases Int.mul_eq_zero.mp e with e | e
    ·omega
    ·exact e
   ·intro y
    rw [y,Int.mul_zero] at e
    rcases Int.mul_eq_zero.mp e.symm with e | e
    ·omega
    ·exact e
theorem Run.never (R:Run m n vec st rr cc su L) {i w:Nat} (h:i+w≤L) (hw:0<w) (eb:∀ k,k<m→(st i).bs k=(st (i+w)).bs k) (ec:∀ c,c<n→(st i).id c=(st (i+w)).id c) (es:su i=su (i+w)):False:=by
 have Fi:=R.ok i (by omega)
 have Fj:=R.ok (i+w) h
 have eb':∀ k,k<m+1→vec ((st i).bs k)=vec ((st (i+w)).bs k):=fun k hk=>by
  by_cases q:k=m
  ·rw [q,Fi.bm,Fj.bm]
  ·rw [eb k (by omega)]
 have ed:(st i).d=(st (i+w)).d:=by
  rw [Fi.tok.det,Fj.tok.det]
  exact congrFun (zhA (m+1) eb') _
 have eV:(st i).g m n=(st (i+w)).g m n:=by
  rw [Fi.tok.ent (Nat.le_refl m) (Nat.le_refl n),Fj.tok.ent (Nat.le_refl m) (Nat.le_refl n),Fi.idn,Fj.idn]
  refine congrFun (zhA (m+1) fun k hk=>?_) _
  by_cases q:k=m
  ·rw [q,zbb,zbb]
  ·rw [zbJ q,zbJ q,eb' k hk]
 have fl:∀ x,i≤x→x<i+w→(st x).g (rr x) n=0:=fun x a b=>R.flat h eV ed a b
 have stuck:∀ x,i≤x→x<i+w→su x=true:=fun x a b=>by
  have nxt:∀ y,i≤y→y<i+w→su (y+1)=true:=fun y a b=>by
   rw [R.sk y (by omega),fl y a b]
   rfl
  by_cases q:x=i
  ·rw [q,es]
   have:=nxt (i+w - 1) (by omega) (by omega)
   rwa [show i+w - 1+1=i+w by omega] at this
  ·have:=nxt (x - 1) (by omega) (by omega)
   rwa [show x - 1+1=x by omega] at this
 have lev:∀ k q a b,k<m→i≤a→a≤i+w→i≤b→b≤i+w→(st a).bs k=q→(st b).bs k≠q→∃ x,i≤x∧x<i+w∧rr x=k∧(st x).bs k=q:=fun k q a b hk ha ha' hb hb' e ne=>by
  by_cases o:a<b
  ·obtain ⟨x,x1,x2,x3⟩:=R.leave (k:=k) (q:=q) (b - a) a (by omega) e (by rwa [show a+(b - a)=b by omega])
   exact ⟨x,by omega,by omega,x3⟩
  ·by_cases z:(st (i+w)).bs k=q
   ·obtain ⟨x,x1,x2,x3⟩:=R.leave (k:=k) (q:=q) (b - i) i (by omega) ((eb k hk).trans z) (by rwa [show i+(b - i)=b by omega])
    exact ⟨x,by omega,by omega,x3⟩
   ·obtain ⟨x,x1,x2,x3⟩:=R.leave (k:=k) (q:=q) (i+w - a) a (by omega) e (by rwa [show a+(i+w - a)=i+w by omega])
    exact ⟨x,by omega,by omega,x3⟩
 have ent:∀ k q a b,k<m→i≤a→a≤i+w→i≤b→b≤i+w→(st a).bs k=q→(st b).bs k≠q→∃ x,i≤x∧x<i+w∧rr x=k∧(st x).id (cc x)=q:=fun k q a b hk ha ha' hb hb' e ne=>by
  by_cases o:b<a
  ·obtain ⟨x,x1,x2,x3⟩:=R.enter (k:=k) (q:=q) (a - b) b (by omega) ne (by rwa [show b+(a - b)=a by omega])
   exact ⟨x,by omega,by omega,x3⟩
  ·by_cases z:(st (i+w)).bs k=q
   ·obtain ⟨x,x1,x2,x3⟩:=R.enter (k:=k) (q:=q) (i+w - b) b (by omega) ne (by rwa [show b+(i+w - b)=i+w by omega])
    exact ⟨x,by omega,by omega,x3⟩
   ·obtain ⟨x,x1,x2,x3⟩:=R.enter (k:=k) (q:=q) (a - i) i (by omega) (fun y=>z ((eb k hk).symm.trans y)) (by rwa [show i+(a - i)=a by omega])
    exact ⟨x,by omega,by omega,x3⟩
 obtain ⟨a,a1,a2,amax⟩:=most (f:=fun x=>(st x).bs (rr x)) (w - 1) i
 have hA:=R.by' a (by omega)
 have FA:=R.ok a (by omega)
 have sne:(st a).id (cc a)≠(st a).bs (rr a):=fun z=>by
  have:=zfG FA.tok (c:=cc a) (by have:=hA.hc;omega)
  rw [z,zgE hA.hr] at this
  have:=hA.neg
  omega
 have ba:=R.bs (i:=a) (by omega) (rr a)
 rw [if_pos rfl] at ba
 obtain ⟨b,b1,b2,b3,b4⟩:=ent (rr a) _ a (a+1) hA.hr a1 (by omega) (by omega) (by omega) rfl (by rw [ba];exact sne)
 have hB:=R.by' b (by omega)
 have FB:=R.ok b (by omega)
 refine bland FA FB hA hB.hc b4 hB.neg (fun j hj ng=>?_) ?_ fun k hk ne=>?_
 ·rw [← b4]
  exact hB.bl (stuck b b1 b2) j hj ng
 ·obtain ⟨x,x1,x2,x3,x4⟩:=lev (rr a) ((st a).id (cc a)) (a+1) a hA.hr (by omega) (by omega) a1 (by omega) ba (fun z=>sne z.symm)
  have:=amax x x1 (by omega)
  rw [x3,x4] at this
  have:(st a).id (cc a)≤(st a).bs (rr a):=this
  omega
 ·obtain ⟨x,x1,x2,x3,x4⟩:=lev k ((st a).bs k) a b hk a1 (by omega) b1 (by omega) rfl (fun z=>ne z.symm)
  have le:=amax x x1 (by omega)
  rw [x3,x4] at le
  refine ⟨le,?_⟩
  have zx:(st x).g k n=0:=by rw [← x3];exact fl x x1 x2
  by_cases o:a≤x
  ·have:=R.zero hk (x - a) a (by omega) fun y p q=>fl y (by omega) (by omega)
   rw [show a+(x - a)=x by omega] at this
   exact this.mpr zx
  ·have:=R.zero hk (a - x) x (by omega) fun y p q=>fl y (by omega) (by omega)
   rw [show x+(a - x)=a by omega] at this
   exact this.mp zx
end
theorem zmR:∀ (N:Nat) (f:Nat→Nat),(∀ i,i≤N→f i<N)→∃ i j,i<j∧j≤N∧f i=f j
 | 0,f,h=>absurd (h 0 (Nat.le_refl 0)) (Nat.not_lt_zero _)
 | N+1,f,h=>by
  by_cases q:∃ i,i≤N∧f i=f (N+1)
  ·obtain ⟨i,h1,h2⟩:=q
   exact ⟨i,N+1,by omega,Nat.le_refl _,h2⟩
  ·have no:∀ i,i≤N→f i≠f (N+1):=fun i hi e=>q ⟨i,hi,e⟩
   have top:=h (N+1) (Nat.le_refl _)
   obtain ⟨i,j,h1,h2,h3⟩:=zmR N (fun i=>if f (N+1)<f i then f i - 1 else f i) fun i hi=>by
    have a:=h i (by omega)
    have b:=no i hi
    show (if f (N+1)<f i then f i - 1 else f i)<N
    split <;> omega
   refine ⟨i,j,h1,by omega,?_⟩
   have a:=no i (by omega)
   have b:=no j h2
   have h3:(if f (N+1)<f i then f i - 1 else f i)=if f (N+1)<f j then f j - 1 else f j:=h3
   split at h3 <;> split at h3 <;> omega
def cde (B:Nat) (f:Nat→Nat):Nat→Nat
 | 0=>0
 | k+1=>cde B f k*B+f k
theorem zm8 {B:Nat} {f:Nat→Nat}:∀ k,(∀ i,i<k→f i<B)→cde B f k<B ^ k
 | 0,_=>Nat.one_pos
 | k+1,h=>by
  have a:=zm8 k fun i hi=>h i (by omega)
  have b:=h k (by omega)
  show cde B f k*B+f k<B ^ (k+1)
  have:(cde B f k+1)*B≤B ^ k*B:=Nat.mul_le_mul_right B a
  rw [Nat.pow_succ]
  rw [Nat.add_mul] at this
  omega
theorem zlv {B:Nat} {f g:Nat→Nat}:∀ k,(∀ i,i<k→f i<B)→(∀ i,i<k→g i<B)→cde B f k=cde B g k→∀ i,i<k→f i=g i
 | 0,_,_,_,i,hi=>absurd hi (Nat.not_lt_zero i)
 | k+1,hf,hg,e,i,hi=>by
  have e:cde B f k*B+f k=cde B g k*B+g k:=e
  have f1:=hf k (by omega)
  have g1:=hg k (by omega)
  have m1:(cde B f k*B+f k) % B=f k:=by rw [Nat.mul_comm,Nat.mul_add_mod,Nat.mod_eq_of_lt f1]
  have m2:(cde B g k*B+g k) % B=g k:=by rw [Nat.mul_comm,Nat.mul_add_mod,Nat.mod_eq_of_lt g1]
  have ek:f k=g k:=by rw [← m1,e,m2]
  by_cases q:i=k
  ·rw [q,ek]
  ·have e2:cde B f k*B=cde B g k*B:=by omega
   exact zlv k (fun i hi=>hf i (by omega)) (fun i hi=>hg i (by omega)) (Nat.eq_of_mul_eq_mul_right (by omega) e2) i (by omega)
def kyF (m n:Nat) (t:Sx) (s:Bool) (i:Nat):Nat:=if i<m then t.bs i else if i<m+n then t.id (i - m) else if s=true then 1 else 0
theorem zok {t:Sx} {s:Bool} {i:Nat} (h:i<m):kyF m n t s i=t.bs i:=if_pos h
theorem znY {t:Sx} {s:Bool} {c:Nat} (h:c<n):kyF m n t s (m+c)=t.id c:=by
 unfold kyF
 rw [if_neg (by omega),if_pos (by omega),show m+c - m=c by omega]
theorem zn2 {t:Sx} {s:Bool}:kyF m n t s (m+n)=if s=true then 1 else 0:=by
 unfold kyF
 rw [if_neg (by omega),if_neg (by omega)]
theorem Run.ends {st:Nat→Sx} {rr cc:Nat→Nat} {su:Nat→Bool} {L:Nat} (R:Run m n vec st rr cc su L):L<(n+m+2) ^ (m+n+1):=by
 refine Classical.byContradiction fun no=>?_
 have lt:∀ x,x≤L→∀ i,i<m+n+1→kyF m n (st x) (su x) i<n+m+2:=fun x hx i hi=>by
  have F:=R.ok x hx
  by_cases h1:i<m
  ·rw [zok h1]
   have:=F.bl i h1
   omega
  ·by_cases h2:i<m+n
   ·obtain ⟨c,rfl⟩:∃ c,i=m+c:=⟨i - m,by omega⟩
    rw [znY (by omega)]
    have:=F.il c (by omega)
    omega
   ·rw [show i=m+n by omega,zn2]
    split <;> omega
 obtain ⟨i,j,h1,h2,h3⟩:=zmR ((n+m+2) ^ (m+n+1)) (fun x=>cde (n+m+2) (kyF m n (st x) (su x)) (m+n+1)) fun x hx=>zm8 _ (lt x (by omega))
 have same:=zlv _ (lt i (by omega)) (lt j (by omega)) h3
 refine R.never (i:=i) (w:=j - i) (by omega) (by omega) (fun k hk=>?_) (fun c hc=>?_) ?_
 ·rw [show i+(j - i)=j by omega]
  have e:=same k (by omega)
  rwa [zok hk,zok hk] at e
 ·rw [show i+(j - i)=j by omega]
  have e:=same (m+c) (by omega)
  rwa [znY hc,znY hc] at e
 ·rw [show i+(j - i)=j by omega]
  have e:=same (m+n) (by omega)
  rw [zn2,zn2] at e
  cases a:su i <;> cases b:su j <;> rw [a,b] at e
  ·exact absurd e (by decide)
  ·exact absurd e (by decide)
def zb0 (a:Nat→Nat→Int) (m n q j:Nat):Int:=if q<n then (if j<m then a q j else if j=m then -1 else 0) else if q≤n+m then (if j+n=q then 1 else 0) else if j<m then 1 else 0
section
variable {a:Nat→Nat→Int}
theorem zk1 {q j:Nat} (h:q<n) (h2:j<m):zb0 a m n q j=a q j:=by unfold zb0;rw [if_pos h,if_pos h2]
theorem vt_m {q:Nat} (h:q<n):zb0 a m n q m=-1:=by unfold zb0;rw [if_pos h,if_neg (Nat.lt_irrefl m),if_pos rfl]
theorem zm3 {q j:Nat} (h:m<j):zb0 a m n q j=0:=by
 unfold zb0
 split
 ·rw [if_neg (by omega),if_neg (by omega)]
 ·split
  ·rw [if_neg (by omega)]
  ·rw [if_neg (by omega)]
theorem zlF {k j:Nat} (h:k≤m):zb0 a m n (n+k) j=if j=k then 1 else 0:=by
 unfold zb0
 rw [if_neg (by omega),if_pos (by omega)]
 by_cases q:j=k
 ·rw [if_pos (by omega),if_pos q]
 ·rw [if_neg (by omega),if_neg q]
theorem ziV {j:Nat}:zb0 a m n (n+m+1) j=if j<m then 1 else 0:=by unfold zb0;rw [if_neg (by omega),if_neg (by omega)]
theorem vt_le {A:Nat} (hA:1≤A) (h:∀ q j,q<n→j<m→(a q j).natAbs≤A) (q j:Nat):(zb0 a m n q j).natAbs≤A:=by
 unfold zb0
 split
 ·split
  ·exact h q j (by assumption) (by assumption)
  ·split <;> simp <;> omega
 ·split
  ·split <;> simp <;> omega
  ·split <;> simp <;> omega
theorem zmX (q j:Nat):zb0 a m n q j=S (m+1) fun k=>zb0 a m n q k*zb0 a m n (n+k) j:=by
 by_cases h:j<m+1
 ·rw [zit (m+1) (r:=j) h fun k hk ne=>by rw [zlF (by omega),if_neg (Ne.symm ne),Int.mul_zero],zlF (by omega),if_pos rfl,Int.mul_one]
 ·rw [zm3 (by omega),zgH (m+1) fun k hk=>by rw [zm3 (j:=j) (by omega),Int.mul_zero]]
def sx0 (a:Nat→Nat→Int) (m n:Nat):Sx where
 g:=fun k c=>if k<m then (if c<n then a c k else 1) else if c<n then -1 else 0
 d:=1
 bs:=fun k=>n+k
 id:=fun c=>if c<n then c else n+m+1
theorem zmS:Fea m n (zb0 a m n) (sx0 a m n):=by
 have gv:∀ k c,k≤m→c≤n→(sx0 a m n).g k c=zb0 a m n ((sx0 a m n).id c) k:=fun k c hk hc=>by
  show (if k<m then (if c<n then a c k else 1) else if c<n then -1 else 0)=zb0 a m n (if c<n then c else n+m+1) k
  by_cases h:c<n
  ·simp only [if_pos h]
   by_cases h2:k<m
   ·rw [if_pos h2,zk1 h h2]
   ·rw [if_neg h2,show k=m by omega,vt_m h]
  ·simp only [if_neg h]
   rw [ziV]
 refine ⟨⟨Int.one_pos,fun c hc j=>?_,?_⟩,rfl,if_neg (Nat.lt_irrefl n),fun k hk=>?_,fun c hc=>?_,fun q hq=>?_,fun k hk=>?_⟩
 ·show 1*zb0 a m n ((sx0 a m n).id c) j=S (m+1) fun k=>(sx0 a m n).g k c*zb0 a m n (n+k) j
  rw [Int.one_mul,zmX,zbE (m+1) fun k hk=>by rw [← gv k c (by omega) hc]]
 ·show 1=Dt m fun k=>zb0 a m n (n+k)
  exact (W_id (m+1) fun k j hk hj=>zlF (by omega)).symm
 ·show n+k<n+m
  omega
 ·show (if c<n then c else n+m+1)<n+m
  rw [if_pos hc]
  omega
 ·by_cases h:q<n
  ·exact .inr ⟨q,h,if_pos h⟩
  ·exact .inl ⟨q - n,by omega,by show n+(q - n)=q;omega⟩
 ·show 0≤(if k<m then (if n<n then a n k else 1) else if n<n then -1 else 0)
  rw [if_pos hk,if_neg (Nat.lt_irrefl n)]
  decide
theorem zkk (h1:∀ q j,q<n→j<m→1≤a q j) {q j:Nat} (hq:q<n+m) (hj:j<m):0≤zb0 a m n q j:=by
 by_cases h:q<n
 ·rw [zk1 h hj]
  have:=h1 q j h hj
  omega
 ·rw [show q=n+(q - n) by omega,zlF (by omega)]
  split <;> omega
theorem Fea.out {t:Sx} (F:Fea m n (zb0 a m n) t) (m1:0<m) (h1:∀ q j,q<n→j<m→1≤a q j) {c:Nat} (hc:c<n):∃ r,r<m∧0<t.g r c:=by
 refine Classical.byContradiction fun no=>?_
 have ng:∀ k,k<m→t.g k c≤0:=fun k hk=>by
  refine Classical.byContradiction fun q=>no ⟨k,hk,by omega⟩
 have hi:=F.il c hc
 obtain ⟨j,hj,pj⟩:∃ j,j<m∧0<zb0 a m n (t.id c) j:=by
  by_cases q:t.id c<n
  ·refine ⟨0,m1,?_⟩
   rw [zk1 q m1]
   have:=h1 _ 0 q m1
   omega
  ·refine ⟨t.id c - n,by omega,?_⟩
   rw [show t.id c=n+(t.id c - n) by omega,zlF (by omega),if_pos (by omega)]
   exact Int.one_pos
 have E:=F.tok.lin c (by omega) j
 have E':(S (m+1) fun k=>t.g k c*zb0 a m n (t.bs k) j)=(S m fun k=>t.g k c*zb0 a m n (t.bs k) j)+t.g m c*zb0 a m n (t.bs m) j:=rfl
 rw [E',F.bm,zlF (Nat.le_refl m),if_neg (by omega),Int.mul_zero] at E
 have p:=Int.mul_pos F.tok.pos pj
 have:0≤S m fun k=>(-1)*(t.g k c*zb0 a m n (t.bs k) j):=zeC m fun k hk=>by
  have:=Int.mul_nonneg (show 0≤- t.g k c by have:=ng k hk;omega) (zkk h1 (F.bl k hk) hj)
  rw [Int.neg_mul] at this
  omega
 rw [ziG] at this
 omega
theorem zmO (f:Nat→Nat→Int) (N:Nat):∀ M,(S M fun i=>S N fun k=>f i k)=S N fun k=>S M fun i=>f i k
 | 0=>(zgH N fun _ _=>rfl).symm
 | M+1=>by
  show (S M fun i=>S N fun k=>f i k)+(S N fun k=>f M k)=S N fun k=>(S M fun i=>f i k)+f M k
  rw [zmO f N M]
  have:=zib 1 1 (fun k=>S M fun i=>f i k) (fun k=>f M k) N
  rw [zbE (g:=fun k=>(S M fun i=>f i k)+f M k) N (fun k _=>by omega)] at this
  omega
def xw (m n:Nat) (t:Sx) (i:Nat):Int:=S m fun k=>if t.bs k=i then t.g k n else 0
theorem zmN (t:Sx) (f:Nat→Int):(S n fun i=>xw m n t i*f i)=S m fun k=>if t.bs k<n then t.g k n*f (t.bs k) else 0:=by
 have e:(S n fun i=>xw m n t i*f i)=S n fun i=>S m fun k=>(if t.bs k=i then t.g k n else 0)*f i:=zbE n fun i _=>by
  unfold xw
  rw [Int.mul_comm,← ziG]
  exact zbE m fun k _=>Int.mul_comm _ _
 rw [e,zmO (fun i k=>(if t.bs k=i then t.g k n else 0)*f i)]
 refine zbE m fun k _=>?_
 by_cases q:t.bs k<n
 ·rw [if_pos q,zit n q fun i _ ne=>by rw [if_neg (Ne.symm ne),Int.zero_mul],if_pos rfl]
 ·rw [if_neg q,zgH n fun i hi=>by rw [if_neg (by omega),Int.zero_mul]]
theorem Fea.x0 {t:Sx} (F:Fea m n vec t) (i:Nat):0≤xw m n t i:=zeC m fun k hk=>by
 have:=F.fea k hk
 split <;> omega
theorem Fea.xcol {t:Sx} (F:Fea m n (zb0 a m n) t) {j:Nat} (hj:j<m):(S n fun i=>xw m n t i*a i j)≤t.d:=by
 have E:=F.tok.lin n (Nat.le_refl n) j
 have E':(S (m+1) fun k=>t.g k n*zb0 a m n (t.bs k) j)=(S m fun k=>t.g k n*zb0 a m n (t.bs k) j)+t.g m n*zb0 a m n (t.bs m) j:=rfl
 rw [E',F.idn,ziV,if_pos hj,F.bm,zlF (Nat.le_refl m),if_neg (by omega),Int.mul_zero] at E
 rw [zmN t fun i=>a i j]
 have:0≤S m fun k=>1*(t.g k n*zb0 a m n (t.bs k) j)+(-1)*(if t.bs k<n then t.g k n*a (t.bs k) j else 0):=zeC m fun k hk=>by
  by_cases q:t.bs k<n
  ·rw [if_pos q,zk1 q hj];omega
  ·have b:=F.bl k hk
   rw [if_neg q,show t.bs k=n+(t.bs k - n) by omega,zlF (by omega)]
   have:=F.fea k hk
   split <;> omega
 rw [zib] at this
 omega
theorem Fea.xsum {t:Sx} (F:Fea m n (zb0 a m n) t):(S n fun i=>xw m n t i)=t.g m n:=by
 have E:=F.tok.lin n (Nat.le_refl n) m
 have E':(S (m+1) fun k=>t.g k n*zb0 a m n (t.bs k) m)=(S m fun k=>t.g k n*zb0 a m n (t.bs k) m)+t.g m n*zb0 a m n (t.bs m) m:=rfl
 rw [E',F.idn,ziV,if_neg (Nat.lt_irrefl m),F.bm,zlF (Nat.le_refl m),if_pos rfl,Int.mul_zero] at E
 have X:=zmN (m:=m) (n:=n) t fun _=>1
 rw [zbE (g:=fun i=>xw m n t i) n (fun i _=>Int.mul_one _)] at X
 rw [X]
 have:(S m fun k=>t.g k n*zb0 a m n (t.bs k) m)=S m fun k=>(-1)*(if t.bs k<n then t.g k n*1 else 0):=zbE m fun k hk=>by
  by_cases q:t.bs k<n
  ·rw [if_pos q,vt_m q];omega
  ·have b:=F.bl k hk
   rw [if_neg q,show t.bs k=n+(t.bs k - n) by omega,zlF (by omega),if_neg (by omega)]
   omega
 rw [this,ziG] at E
 omega
def zi0 (m n:Nat) (t:Sx):Prop:=∀ c,c<n→0≤t.g m c
def yw (a:Nat→Nat→Int) (m n:Nat) (t:Sx) (j:Nat):Int:=rc m (zb0 a m n) t (n+j)
theorem Fea.rc0 {t:Sx} (F:Fea m n vec t) (h:zi0 m n t) {q:Nat} (hq:q<n+m):0≤rc m vec t q:=by
 rcases F.cov q hq with ⟨k,hk,rfl⟩ | ⟨c,hc,rfl⟩
 ·rw [zgE hk];exact Int.le_refl 0
 ·rw [zfG F.tok (by omega)];exact h c hc
theorem Fea.rcsum {t:Sx} (q:Nat):rc m (zb0 a m n) t q=S (m+1) fun k=>zb0 a m n q k*rc m (zb0 a m n) t (n+k):=by
 exact (congrArg (fun v=>Dt m (zbI (fun k=>zb0 a m n (t.bs k)) m v)) (funext fun j=>zmX q j)).trans (W_S (r:=m) (M:=m+1) (Nat.lt_succ_self m) (fun k=>zb0 a m n q k) (fun k=>zb0 a m n (n+k)) _ _)
theorem Fea.yrow {t:Sx} (F:Fea m n (zb0 a m n) t) (h:zi0 m n t) {i:Nat} (hi:i<n):t.d≤S m fun j=>yw a m n t j*a i j:=by
 have r0:=F.rc0 h (q:=i) (by omega)
 have E:=Fea.rcsum (a:=a) (m:=m) (n:=n) (t:=t) i
 have E':(S (m+1) fun k=>zb0 a m n i k*rc m (zb0 a m n) t (n+k))=(S m fun k=>zb0 a m n i k*rc m (zb0 a m n) t (n+k))+zb0 a m n i m*rc m (zb0 a m n) t (n+m):=rfl
 have tp:=znj F.tok
 rw [F.bm] at tp
 rw [E',vt_m hi,tp] at E
 rw [zbE (g:=fun k=>zb0 a m n i k*rc m (zb0 a m n) t (n+k)) m fun j hj=>by rw [zk1 hi hj,Int.mul_comm];rfl]
 omega
theorem Fea.ysum {t:Sx} (F:Fea m n (zb0 a m n) t):(S m fun j=>yw a m n t j)=t.g m n:=by
 have E:=Fea.rcsum (a:=a) (m:=m) (n:=n) (t:=t) (n+m+1)
 have E':(S (m+1) fun k=>zb0 a m n (n+m+1) k*rc m (zb0 a m n) t (n+k))=(S m fun k=>zb0 a m n (n+m+1) k*rc m (zb0 a m n) t (n+k))+zb0 a m n (n+m+1) m*rc m (zb0 a m n) t (n+m):=rfl
 have ii:=zfG F.tok (c:=n) (Nat.le_refl n)
 rw [F.idn] at ii
 rw [E',ii,ziV,if_neg (Nat.lt_irrefl m),Int.zero_mul,Int.add_zero] at E
 rw [E]
 exact zbE m fun j hj=>by rw [ziV,if_pos hj,Int.one_mul];rfl
theorem Fea.y0 {t:Sx} (F:Fea m n (zb0 a m n) t) (h:zi0 m n t) {j:Nat} (hj:j<m):0≤yw a m n t j:=F.rc0 h (by omega)
theorem Fea.vpos {t:Sx} (F:Fea m n (zb0 a m n) t) (h:zi0 m n t) (n1:0<n):0<t.g m n:=by
 have d0:=F.tok.pos
 have yr:=F.yrow h n1
 obtain ⟨j,hj,pj⟩:=zlP (n:=m) (f:=fun j=>yw a m n t j*a 0 j) (by omega)
 have y0:=F.y0 h hj
 have:0<yw a m n t j:=by
  refine Classical.byContradiction fun no=>?_
  have e:yw a m n t j=0:=by omega
  have pj:0<yw a m n t j*a 0 j:=pj
  rw [e,Int.zero_mul] at pj
  omega
 rw [← F.ysum,zmf m hj]
 have:=zeC (f:=fun k=>if k=j then 0 else yw a m n t k) m fun k hk=>by
  show 0≤if k=j then 0 else yw a m n t k
  have:=F.y0 h hk
  split <;> omega
 show 0<yw a m n t j+_
 omega
theorem znL {t:Sx} (h:Tok m n vec t) {k:Nat} (hk:k<m):xw m n t (t.bs k)=t.g k n:=by
 unfold xw
 rw [zit m hk fun l hl ne=>if_neg fun z=>ne (h.inj (by omega) (by omega) z),if_pos rfl]
theorem znD {t:Sx} {i:Nat} (h:∀ k,k<m→t.bs k≠i):xw m n t i=0:=zgH m fun k hk=>if_neg (h k hk)
theorem znq {t:Sx} (h:Tok m n (zb0 a m n) t) {c:Nat} (hc:c<n) (hn:n≤t.id c):yw a m n t (t.id c - n)=t.g m c:=by
 unfold yw
 rw [show n+(t.id c - n)=t.id c by omega,zfG h (by omega)]
theorem znu {t:Sx} (F:Fea m n (zb0 a m n) t) {j:Nat} (hj:j<m) (h:∀ c,c<n→t.id c≠n+j):yw a m n t j=0:=by
 rcases F.cov (n+j) (by omega) with ⟨k,hk,e⟩ | ⟨c,hc,e⟩
 ·unfold yw
  rw [← e,zgE hk]
 ·exact absurd e (h c hc)
theorem Tok.bound {t:Sx} (h:Tok m n vec t) {A:Nat} (hA:∀ q j,(vec q j).natAbs≤A) {k c:Nat} (hk:k≤m) (hc:c≤n):(t.g k c).natAbs≤fct (m+1)*A ^ (m+1):=by
 rw [h.ent hk hc]
 refine W_le (fun l j=>?_) _ _ (ze2 _)
 unfold zbI
 split
 ·exact hA _ _
 ·exact hA _ _
theorem Tok.boundD {t:Sx} (h:Tok m n vec t) {A:Nat} (hA:∀ q j,(vec q j).natAbs≤A):t.d.natAbs≤fct (m+1)*A ^ (m+1):=by
 rw [h.det]
 exact W_le (fun l j=>hA _ _) _ _ (ze2 _)
theorem zmi {t:Sx} {A:Nat} (hA:∀ q j,(zb0 a m n q j).natAbs≤A) (j:Nat):(yw a m n t j).natAbs≤fct (m+1)*A ^ (m+1):=by
 refine W_le (fun l i=>?_) _ _ (ze2 _)
 unfold zbI
 split
 ·exact hA _ _
 ·exact hA _ _
end
end
structure Tb (H:Hp) (t:Addr) (rs:List Addr) (rows:List (List Int)) (w:Nat):Prop where
 ht:H t=some (.lst (rs.map V.ref))
 len:rs.length=rows.length
 hr:∀ (i:Nat) r row,rs[i]?=some r→rows[i]?=some row→H r=some (.lst (row.map V.int))
 hw:∀ row∈rows,row.length=w
 l1:1≤rows.length
 l6:rows.length≤12
 w1:1≤w
 w6:w≤12
 bd:∀ row∈rows,∀ x∈row,Bd 102 x
theorem Tb.same {H H':Hp} {t:Addr} {rs:List Addr} {rows:List (List Int)} {w:Nat} (h:Tb H t rs rows w) (s:zaM H H'):Tb H' t rs rows w :=
 ⟨s _ _ h.ht,h.len,fun i r row e1 e2=>s _ _ (h.hr i r row e1 e2),h.hw,h.l1,h.l6,h.w1,h.w6,h.bd⟩
theorem Tb.at {H:Hp} {t:Addr} {rs:List Addr} {rows:List (List Int)} {w:Nat} (h:Tb H t rs rows w) {i:Nat} {r:Addr} (e:rs[i]?=some r):∃ row,rows[i]?=some row∧H r=some (.lst (row.map V.int))∧row.length=w:=by
 have hi:=(List.getElem?_eq_some_iff.mp e).1
 rw [h.len] at hi
 exact ⟨rows[i],List.getElem?_eq_getElem hi,h.hr i r _ e (List.getElem?_eq_getElem hi),h.hw _ (List.getElem_mem hi)⟩
theorem Tb.first {H:Hp} {t:Addr} {rs:List Addr} {rows:List (List Int)} {w:Nat} (h:Tb H t rs rows w):∃ (r:Addr) (row:List Int),atI (rs.map V.ref) 0=some (.ref r)∧H r=some (.lst (row.map V.int))∧row.length=w:=by
 have l:=h.l1
 rw [← h.len] at l
 have e:rs[0]?=some rs[0]:=List.getElem?_eq_getElem l
 obtain ⟨row,_,h2,h3⟩:=h.at e
 exact ⟨_,row,zbD (j:=0) (by rw [List.getElem?_map,e];rfl),h2,h3⟩
def zct:Sp:=fun vs H Q _=>∃ x:V,vs=[x]∧((∃ n:Int,x=.int n)∧Q (.bl true) H∨(∃ b:Bool,x=.bl b)∧Q (.bl false) H)
def znC (K:PySem.W.Frag):Sp:=fun vs H Q _=>∃ (p:Addr) (ns:List Int),vs=[.ref p]∧H p=some (.lst (ns.map V.int))∧1≤ns.length∧ns.length≤12∧∀ H',zaM H H'→Q (.bl true) H'
def zpJ (K:PySem.W.Frag):Sp:=fun vs H Q _=>∃ (t:Addr) (rs:List Addr) (rows:List (List Int)) (w:Nat),vs=[.ref t]∧Tb H t rs rows w∧∀ H',zaM H H'→Q (.bl true) H'
def zgC (K:PySem.W.Frag):Sp:=fun vs H Q _=>∃ (t:Addr) (rs:List Addr) (rows:List (List Int)) (w:Nat),vs=[.ref t]∧Tb H t rs rows w∧∀ H',zaM H H'→Q .non H'
def zi2:Str:="Board.entering.<locals>.<lambda>"
abbrev LT (H:Hp) (P:Addr):Prop:=zcd H P zkC zi2
def zfD (t:Sx) (n k:Nat):List V:=(List.range (n+1)).map fun c=>V.int (t.g k c)
def nmL (f:Nat→Nat) (k:Nat):List V:=(List.range k).map fun i=>V.int (f i:Int)
theorem zgm (t:Sx) (n k:Nat):(zfD t n k).length=n+1:=by rw [zfD,List.length_map,List.length_range]
theorem zdy (f:Nat→Nat) (k:Nat):(nmL f k).length=k:=by rw [nmL,List.length_map,List.length_range]
theorem zjR {t:Sx} {n k c:Nat} (h:c≤n):(zfD t n k)[c]?=some (.int (t.g k c)):=by rw [zfD,List.getElem?_map,List.getElem?_range (by omega)];rfl
theorem zja {f:Nat→Nat} {k i:Nat} (h:i<k):(nmL f k)[i]?=some (.int (f i:Int)):=by rw [nmL,List.getElem?_map,List.getElem?_range h];rfl
theorem zcG {t:Sx} {n k c:Nat} (h:c≤n):atI (zfD t n k) (c:Int)=some (.int (t.g k c)):=zbD (zjR h)
theorem ziZ {f:Nat→Nat} {k i:Nat} (h:i<k):atI (nmL f k) (i:Int)=some (.int (f i:Int)):=zbD (zja h)
theorem zjb {xs:List V} {v:V} {n:Nat} (l:xs.length=n+1) (h:xs[n]?=some v):atI xs (-1)=some v:=by
 have e:xs=xs.dropLast++[v]:=by
  have ne:xs≠[]:=fun z=>by rw [z] at l;cases l
  have:=List.dropLast_concat_getLast ne
  rw [List.getLast_eq_getElem] at this
  have hv:xs[xs.length - 1]'(by omega)=v:=by
   have h2:xs[xs.length - 1]?=some v:=by rw [l];exact h
   exact (List.getElem?_eq_some_iff.mp h2).2
  rw [hv] at this
  exact this.symm
 rw [e]
 exact zl7 _ _
theorem zfj {t:Sx} {n k:Nat}:atI (zfD t n k) (-1)=some (.int (t.g k n)):=zjb (zgm t n k) (zjR (Nat.le_refl n))
structure Brd (H:Hp) (C b dx gl il ul:Addr) (rows:List Addr) (m n:Nat) (t:Sx) (s:Bool):Prop where
 hb:H b=some (.ins C dx [("grid",.ref gl),("scale",.int t.d),("idle",.ref il),("busy",.ref ul),("stuck",.bl s)])
 hg:H gl=some (.lst (rows.map V.ref))
 len:rows.length=m+1
 row:∀ (k:Nat) r,rows[k]?=some r→H r=some (.lst (zfD t n k))
 hi:H il=some (.lst (nmL t.id n))
 hu:H ul=some (.lst (nmL t.bs m))
 ne:il≠ul
section
variable {H H':Hp} {C b dx gl il ul P:Addr} {rows:List Addr} {m n:Nat} {t:Sx} {s:Bool}
theorem Brd.same (B:Brd H C b dx gl il ul rows m n t s) (e:zaM H H'):Brd H' C b dx gl il ul rows m n t s:=⟨e _ _ B.hb,e _ _ B.hg,B.len,fun k r h=>e _ _ (B.row k r h),e _ _ B.hi,e _ _ B.hu,B.ne⟩
theorem Brd.bar (B:Brd H C b dx gl il ul rows m n t s) (L:LT H P) (e:Bar P H H'):Brd H' C b dx gl il ul rows m n t s :=
 ⟨e _ _ (L.neI B.hb) B.hb,e _ _ (L.neL B.hg) B.hg,B.len,fun k r h=>e _ _ (L.neL (B.row k r h)) (B.row k r h),e _ _ (L.neL B.hi) B.hi,e _ _ (L.neL B.hu) B.hu,B.ne⟩
theorem Brd.rowAt (B:Brd H C b dx gl il ul rows m n t s) {k:Nat} (h:k≤m):∃ r,rows[k]?=some r∧H r=some (.lst (zfD t n k))∧atI (rows.map V.ref) (k:Int)=some (.ref r):=by
 have hk:k<rows.length:=by rw [B.len];omega
 refine ⟨rows[k],List.getElem?_eq_getElem hk,B.row k _ (List.getElem?_eq_getElem hk),zbD ?_⟩
 rw [List.getElem?_map,List.getElem?_eq_getElem hk]
 rfl
theorem Brd.rowEnd (B:Brd H C b dx gl il ul rows m n t s):∃ r,H r=some (.lst (zfD t n m))∧atI (rows.map V.ref) (-1)=some (.ref r):=by
 have hk:m<rows.length:=by rw [B.len];omega
 refine ⟨rows[m],B.row m _ (List.getElem?_eq_getElem hk),zjb (by rw [List.length_map,B.len]) ?_⟩
 rw [List.getElem?_map,List.getElem?_eq_getElem hk]
 rfl
end
structure LP (a:Nat→Nat→Int) (m n:Nat) (t:Sx):Prop where
 m1:1≤m
 m12:m≤12
 n1:1≤n
 n12:n≤12
 a1:∀ q j,q<n→j<m→1≤a q j
 ab:∀ q j,q<n→j<m→(a q j).natAbs≤2 ^ 104
 F:Fea m n (zb0 a m n) t
theorem zpr:∀ m,m<13→fct (m+1)≤2 ^ 33:=by decide
theorem zlb {m:Nat} (h:m≤12):fct (m+1)*(2 ^ 104) ^ (m+1)<2 ^ 1400:=by
 have h1:=zpr m (by omega)
 have h2:(2 ^ 104) ^ (m+1)≤2 ^ (104*13):=by
  rw [← Nat.pow_mul]
  exact Nat.pow_le_pow_right (by decide) (by omega)
 have h3:fct (m+1)*(2 ^ 104) ^ (m+1)≤2 ^ 33*2 ^ (104*13):=Nat.mul_le_mul h1 h2
 rw [← Nat.pow_add] at h3
 exact Nat.lt_of_le_of_lt h3 (Nat.pow_lt_pow_right (by decide) (by decide))
section
variable {a:Nat→Nat→Int} {m n:Nat} {t:Sx}
theorem LP.vb (L:LP a m n t) (q j:Nat):(zb0 a m n q j).natAbs≤2 ^ 104:=vt_le (Nat.one_le_two_pow) L.ab q j
theorem LP.g (L:LP a m n t) {k c:Nat} (hk:k≤m) (hc:c≤n):Bd 1400 (t.g k c):=Nat.lt_of_le_of_lt (L.F.tok.bound L.vb hk hc) (zlb L.m12)
theorem LP.d (L:LP a m n t):Bd 1400 t.d:=Nat.lt_of_le_of_lt (L.F.tok.boundD L.vb) (zlb L.m12)
theorem LP.y (L:LP a m n t) (j:Nat):Bd 1400 (yw a m n t j):=Nat.lt_of_le_of_lt (zmi L.vb j) (zlb L.m12)
theorem LP.piv (L:LP a m n t) {s:Bool} {r c:Nat} (h:Stp m n t s r c):LP a m n (piv t r c):=⟨L.m1,L.m12,L.n1,L.n12,L.a1,L.ab,L.F.piv h⟩
end
def hlp (m:Nat) (t:Sx) (k:Nat):List Nat:=(List.range k).filter fun c=>decide (t.g m c<0)
theorem zjP {m:Nat} {t:Sx} {k:Nat}:hlp m t (k+1)=if t.g m k<0 then hlp m t k++[k] else hlp m t k:=by
 unfold hlp
 rw [List.range_succ,List.filter_append]
 by_cases h:t.g m k<0
 ·rw [if_pos h,List.filter_cons_of_pos (by simpa using h),List.filter_nil]
 ·rw [if_neg h,List.filter_cons_of_neg (by simpa using h),List.filter_nil,List.append_nil]
theorem zkR (m:Nat) (t:Sx) (k:Nat):(hlp m t k).length≤k:=Nat.le_trans (List.length_filter_le _ _) (by rw [List.length_range];exact Nat.le_refl _)
theorem zfN {m:Nat} {t:Sx} {k c:Nat}:c∈hlp m t k↔c<k∧t.g m c<0:=by
 unfold hlp
 rw [List.mem_filter,List.mem_range,decide_eq_true_eq]
def stL (m:Nat) (t:Sx) (c:Nat):List Int:=(List.range (m+1)).map fun k=>t.g k c*t.g k c
def stX (m:Nat) (t:Sx) (c:Nat):Int:=(stL m t c).getD m 0
open HT in
def stY (m:Nat) (t:Sx) (c:Nat):Int:=t.d*t.d+(((stL m t c).drop (sIx (stL m t c).length 0 none)).take (sIx (stL m t c).length (stL m t c).length (some (-1)) - sIx (stL m t c).length 0 none)).sum
def st2 (m:Nat) (t:Sx) (b k:Nat):Nat:=if stX m t b*stY m t k<stX m t k*stY m t b then k else b
def stM (m:Nat) (t:Sx):List Nat→Nat
 | []=>0
 | c::cs=>cs.foldl (st2 m t) c
def zhF (C:Addr):Sp:=fun vs H Q _=>∃ (b dx gl il ul:Addr) (rows:List Addr) (a:Nat→Nat→Int) (m n:Nat) (t:Sx) (s:Bool) (k l c:Nat),vs=[.ref b,.int k,.int l,.int c]∧Brd H C b dx gl il ul rows m n t s∧LP a m n t∧k<m∧l<m∧c<n ∧
 ∀ r:Bool,(r=true↔t.g k n*t.g l c<t.g l n*t.g k c∨(t.g k n*t.g l c=t.g l n*t.g k c∧t.bs k<t.bs l))→Q (.bl r) H
def zi3 (C:Addr):Sp:=fun vs H Q _=>∃ (b dx gl il ul:Addr) (rows:List Addr) (a:Nat→Nat→Int) (m n:Nat) (t:Sx) (s:Bool) (c:Nat),vs=[.ref b,.int c]∧Brd H C b dx gl il ul rows m n t s∧LP a m n t∧c<n ∧
 ∀ r:Nat,r<m→0<t.g r c→(∀ k,k<m→0<t.g k c→t.g r n*t.g k c<t.g k n*t.g r c∨(t.g r n*t.g k c=t.g k n*t.g r c∧t.bs r≤t.bs k))→Q (.int r) H
def zhR (C:Addr):Sp:=fun vs H Q _=>∃ (b dx gl il ul:Addr) (rows:List Addr) (a:Nat→Nat→Int) (m n:Nat) (t:Sx) (s:Bool) (c:Nat),vs=[.ref b,.int c]∧Brd H C b dx gl il ul rows m n t s∧LP a m n t∧c<n ∧
 ∀ (x y:Int) (r:Addr) (H':Hp),zaM H H'→H' r=some (.tup [.int x,.int y])→Bd 2900 x→Bd 2900 y→x=stX m t c∧y=stY m t c→Q (.ref r) H'
def zhv (C:Addr):Sp:=fun vs H Q _=>∃ (b dx gl il ul cl:Addr) (rows:List Addr) (a:Nat→Nat→Int) (m n:Nat) (t:Sx) (s:Bool) (cs:List Nat),vs=[.ref b,.ref cl]∧Brd H C b dx gl il ul rows m n t s∧LP a m n t∧H cl=some (.lst (cs.map fun c:Nat=>V.int c))∧1≤cs.length∧cs.length≤12∧(∀ c∈cs,c<n) ∧
 ∀ c∈cs,c=stM m t cs→∀ H',zaM H H'→Q (.int c) H'
def zhH (C P:Addr):Sp:=fun vs H Q _=>∃ (b dx gl il ul:Addr) (rows:List Addr) (a:Nat→Nat→Int) (m n:Nat) (t:Sx) (s:Bool),vs=[.ref b]∧Brd H C b dx gl il ul rows m n t s∧LP a m n t∧LT H P ∧
 (zi0 m n t→∀ H',zaM H H'→Q .non H')∧∀ (c:Nat) (H':Hp),c<n→t.g m c<0→(s=true→∀ j,j<n→t.g m j<0→t.id c≤t.id j)→(s=false→c=stM m t (hlp m t n))→Bar P H H'→LT H' P→Q (.int c) H'
def zkP (C:Addr):Sp:=fun vs H Q _=>∃ (b dx gl il ul:Addr) (rows:List Addr) (a:Nat→Nat→Int) (m n:Nat) (t:Sx) (s:Bool) (k r c:Nat),vs=[.ref b,.int k,.int r,.int c]∧Brd H C b dx gl il ul rows m n t s∧LP a m n t∧k≤m∧r<m∧c<n∧0<t.g r c ∧
 ∀ (l:Addr) (H':Hp),zaM H H'→H l=none→H' l=some (.lst (zfD (piv t r c) n k))→Q (.ref l) H'
def zkl (C:Addr):Sp:=fun vs H Q _=>∃ (b dx gl il ul:Addr) (rows:List Addr) (a:Nat→Nat→Int) (m n:Nat) (t:Sx) (s:Bool) (r c:Nat),vs=[.ref b,.int r,.int c]∧Brd H C b dx gl il ul rows m n t s∧LP a m n t∧r<m∧c<n∧0<t.g r c ∧
 ∀ (gl':Addr) (rows':List Addr) (H':Hp),(∀ x o,x≠b→x≠il→x≠ul→H x=some o→H' x=some o)→Brd H' C b dx gl' il ul rows' m n (piv t r c) (decide (t.g r n=0))→Q .non H'
structure Grd (H:Hp) (gl:Addr) (rows:List Addr) (m n:Nat) (t:Sx):Prop where
 hg:H gl=some (.lst (rows.map V.ref))
 len:rows.length=m+1
 row:∀ (k:Nat) r,rows[k]?=some r→H r=some (.lst (zfD t n k))
theorem Grd.same {H H':Hp} {gl:Addr} {rows:List Addr} {m n:Nat} {t:Sx} (B:Grd H gl rows m n t) (e:zaM H H'):Grd H' gl rows m n t:=⟨e _ _ B.hg,B.len,fun k r h=>e _ _ (B.row k r h)⟩
def zkI (C:Addr):Sp:=fun vs H Q _=>∃ (b dx gl:Addr) (rows:List Addr) (m n:Nat) (t:Sx),vs=[.ref b,.ref gl]∧H b=some (.ins C dx [])∧Grd H gl rows m n t∧m≤12∧n≤12∧t.d=1∧t.id=(fun c=>if c<n then c else n+m+1)∧t.bs=(fun k=>n+k) ∧
 ∀ (il ul:Addr) (H':Hp),(∀ x o,x≠b→H x=some o→H' x=some o)→H il=none→H ul=none→Brd H' C b dx gl il ul rows m n t false→Q .non H'
section
variable {P:Program} {w:World} {mg:Str→Option Value} {base:Heap}
variable {K:PySem.W.Frag} {H:Hp} {Q:VK} {a:Ad}
def zgV:TS :=
 (zaN (za9 (tOp (rI (fun _ j=>j≠0) fun i j=>.int (i.fmod j)) (zac 0) (zac 1)) (zak 2))
 (zaN (za9 (zac 1) (zak 0))
 (za9 (zac 2) (zak 1))))
theorem zeH (D:zce) (σ:St) (H:Hp):zgV D σ H=(zaN (za9 (tOp (rI (fun _ j=>j≠0) fun i j=>.int (i.fmod j)) (zac 0) (zac 1)) (zak 2))
 (zaN (za9 (zac 1) (zak 0))
 (za9 (zac 2) (zak 1)))) D σ H:=rfl
def zgW (K:PySem.W.Frag):TS :=
 (zaN (za9 (tCB (fun xs H Q=>∃ i,xs=[.int i]∧Q (.int (if i<0 then -i else i)) H) (zab (zac 0) zan)) (zak 0))
 (zaN (za9 (tCB (fun xs H Q=>∃ i,xs=[.int i]∧Q (.int (if i<0 then -i else i)) H) (zab (zac 1) zan)) (zak 1))
 (zaN (zf0 (tTru K (zac 1)) (zgV))
 (zbi (zac 0)))))
theorem zj0 {x y:Int} (q:Q (.int (Int.gcd x y:Nat)) H):zgW K { nx:=fun _ H'=>Q .non H',rt:=Q } (L2.zbg ["one","other","rest"] [.int x,.int y]) H:=by
 unfold zgW
 simp_all only [zeH,zac]
 refine zjK (fun σ H'=>H'=H∧∃ u v r,σ=[some (.int u),some (.int v),r]∧0≤u∧0≤v∧Int.gcd u v=Int.gcd x y) (fun σ _=>match σ with | [_,some (.int y),_]=>y.toNat | _=>0) ?_ ?_ ?_
 ·rw [zm2,zm2]
  exact ⟨rfl,_,_,_,rfl,by omega,by omega,rfl⟩
 ·rintro σ H' ⟨rfl,u,v,r,rfl,hu,hv,hg⟩
  simp_all only [zeH,zac]
  refine zea (fun c=>?_) (fun c=>?_)
  ·have c':v≠0:=by simpa using c
   have hv':0<v:=by omega
   refine ⟨c',hv,Int.fmod_nonneg_of_pos u hv',?_,?_⟩
   ·rw [zkx hu hv',hg]
   ·have:=Int.fmod_lt_of_pos u hv'
    omega
  ·have c':v=0:=by simpa using c
   subst c'
   rw [← hg,zkc u hu] at q
   exact q
 ·rintro σ H1 Q1 Q2 hQ ⟨v,hv,k,hk,h⟩
  exact ⟨v,hv,k,hk,hQ _ _ h⟩
theorem zdc:zaI ["one","other","rest"] ["one","other"] (zah zgR):=⟨rfl,rfl,rfl,by decide +kernel,rfl,by decide +kernel,by decide +kernel⟩
theorem zho (T:Txt K mg base a):zcQ P w K mg base CX0 1 a.f_divisor a.d_divisor ["one","other"] zmw:=by
 refine T.F_divisor.ok zdc (fun vs H Q E h=>?_) (fun cdv A outer s H vs Q E hr h=>?_)
 ·obtain ⟨x,y,rfl,q⟩:=h
  rfl
 obtain ⟨x,y,rfl,q⟩:=h
 exact ⟨zgW K,(zad (zaK (i:=0) zdc.nd rfl (Or.inl rfl) (zal zjG rfl T.z_abs PyProof.Rows.boot_abs (zaa (pv 0) zae)))
 (zad (zaK (i:=1) zdc.nd rfl (Or.inl rfl) (zal zjG rfl T.z_abs PyProof.Rows.boot_abs (zaa (pv 1) zae)))
 (zad (zhK PassesOwn.never (zjH (pv 1) (fun _=>rfl)) (zad (zaK (i:=2) zdc.nd rfl (Or.inl rfl) (zaO zlm (pv 0) (pv 1)))
 (zad (zaK (i:=0) zdc.nd rfl (Or.inl rfl) (pv 1))
 (zaj (zaK (i:=1) zdc.nd rfl (Or.inl rfl) (pv 2))))))
 (zaj (zaG (pv 0)))))),
  zj0 q⟩
def zgp:TS :=
 (zbi (ze3 (zab (tOp (rI (fun _ j=>j≠0∧j.natAbs.log2<9000) fun i j=>.int (i.fdiv j)) (zac 0) (zac 2)) (zab (tOp (rI (fun _ j=>j≠0∧j.natAbs.log2<9000) fun i j=>.int (i.fdiv j)) (zac 1) (zac 2)) zan))))
theorem zcL (D:zce) (σ:St) (H:Hp):zgp D σ H=(zbi (ze3 (zab (tOp (rI (fun _ j=>j≠0∧j.natAbs.log2<9000) fun i j=>.int (i.fdiv j)) (zac 0) (zac 2)) (zab (tOp (rI (fun _ j=>j≠0∧j.natAbs.log2<9000) fun i j=>.int (i.fdiv j)) (zac 1) (zac 2)) zan)))) D σ H:=rfl
def ziK:TS :=
 (zaN (za9 (zaJ zmw [] E0 (zab (zac 0) (zab (zac 1) zan))) (zak 2))
 (zaN (zeN (zcn (zaQ (tOp (rI0 fun i j=>.bl (decide (i<j))) (zac 1) (tC (.int 0)))) (za9 (tUn (rU fun i=>.int (-i)) (zac 2)) (zak 2)) zaV))
 (zgp)))
theorem zcK (D:zce) (σ:St) (H:Hp):ziK D σ H=(zaN (za9 (zaJ zmw [] E0 (zab (zac 0) (zab (zac 1) zan))) (zak 2))
 (zaN (zeN (zcn (zaQ (tOp (rI0 fun i j=>.bl (decide (i<j))) (zac 1) (tC (.int 0)))) (za9 (tUn (rU fun i=>.int (-i)) (zac 2)) (zak 2)) zaV))
 (zgp))) D σ H:=rfl
def zje:TS :=
 (zaN (zeN (zcn (zaQ (tOp rEq (zac 1) (tC (.int 0)))) zld zaV))
 (ziK))
theorem zlN {t b:Int} (h:b≠0) (hb:Bd 6000 b) (q:∀ (r:Addr) (H':Hp),zaM H H'→H' r=some (.tup (fr (Rat.divInt t b)))→Q (.ref r) H') :
  zje { nx:=fun _ H'=>Q .non H',rt:=Q } (L2.zbg ["top","bottom","shared"] [.int t,.int b]) H:=by
 unfold zje
 simp_all only [zcL,zcK,zac]
 refine ⟨fun σ H'=>H'=H∧σ=[some (.int t),some (.int b),none],?_,?_⟩
 ·simp_all only [zcL,zcK,zac]
  exact zea (fun c=>absurd c h) (fun _=>trivial)
 ·rintro σ H' ⟨e,rfl⟩
  rw [e]
  simp_all only [zcL,zcK,zac]
  refine ⟨t,b,rfl,?_⟩
  refine ⟨fun σ H'=>H'=H∧σ=[some (.int t),some (.int b),some (.int (sg t b))],?_,?_⟩
  ·simp_all only [zcL,zcK,zac]
   unfold sg
   exact zea (fun c=>by rw [if_pos c]) (fun c=>by rw [if_neg c])
  ·rintro σ H' ⟨e,rfl⟩
   rw [e]
   simp_all only [zcL,zcK,zac]
   refine ⟨zk9 h,zng h hb,zk9 h,zng h hb,by decide,fun p hp=>q p _ (zai hp _) ?_⟩
   rw [fr,(zkX h).1,(zkX h).2]
   exact zaf
theorem zhX:zaI ["top","bottom","shared"] ["top","bottom"] (zah zjq):=⟨rfl,rfl,rfl,by decide +kernel,rfl,by decide +kernel,by decide +kernel⟩
theorem zjC (T:Txt K mg base a):zcQ P w K mg base CX0 2 a.f_ratio a.d_ratio ["top","bottom"] zmG:=by
 have G_divisor:=zho (P:=P) (w:=w) (base:=base) T
 refine T.F_ratio.ok zhX (fun vs H Q E h=>?_) (fun cdv A outer s H vs Q E hr h=>?_)
 ·obtain ⟨t,b,rfl,h,hb,q⟩:=h
  rfl
 obtain ⟨t,b,rfl,h,hb,q⟩:=h
 exact ⟨zje,(zad (zbZ (zcf (zaR zjo (pv 1) zag (zaS _)) (zaj zjT) zaT))
 (zad (zaK (i:=2) zhX.nd rfl (Or.inl rfl) (zaE G_divisor (hr.mono (by decide)) rfl T.m_divisor T.F_divisor.kp T.b_divisor .nil za2 (zaa (pv 0) (zaa (pv 1) zae))))
 (zad (zbZ (zcf (zaR zha (pv 1) zag (zaS _)) (zaj (zaK (i:=2) zhX.nd rfl (Or.inl rfl) (zeQ zdg (pv 2)))) zaT))
 (zaj (zaG (zdr (zaa (zaO zgl (pv 0) (pv 2)) (zaa (zaO zgl (pv 1) (pv 2)) zae)))))))),
  zlN h hb q⟩
def zjj:Sp:=fun vs H Q _=>∃ (x y:Addr) (u v:Rat),vs=[.ref x,.ref y]∧H x=some (.tup (fr u))∧H y=some (.tup (fr v))∧Bq 2900 u∧Bq 2900 v∧∀ (r:Addr) (H':Hp),zaM H H'→H' r=some (.tup (fr (u+v)))→Q (.ref r) H'
def zlj (K:PySem.W.Frag):TS :=
 (zbi (zaJ zmG [] E0 (zab (tOp (rI0 fun i j=>.int (i+j)) (tOp (rI IntMulOk fun i j=>.int (i*j)) (tOp (zbT K) (zac 0) (tC (.int 0))) (tOp (zbT K) (zac 1) (tC (.int 1)))) (tOp (rI IntMulOk fun i j=>.int (i*j)) (tOp (zbT K) (zac 1) (tC (.int 0))) (tOp (zbT K) (zac 0) (tC (.int 1))))) (zab (tOp (rI IntMulOk fun i j=>.int (i*j)) (tOp (zbT K) (zac 0) (tC (.int 1))) (tOp (zbT K) (zac 1) (tC (.int 1)))) zan))))
theorem znS {x y:Addr} {u v:Rat} (hx:H x=some (.tup (fr u))) (hy:H y=some (.tup (fr v))) (bu:Bq 2900 u) (bv:Bq 2900 v) (q:∀ (r:Addr) (H':Hp),zaM H H'→H' r=some (.tup (fr (u+v)))→Q (.ref r) H') :
  zlj K { nx:=fun _ H'=>Q .non H',rt:=Q } (L2.zbg ["one","other"] [.ref x,.ref y]) H:=by
 unfold zlj
 simp_all only [zac]
 rw [← zlq] at q
 have hx:=SqT.of (K:=K) hx
 have hy:=SqT.of (K:=K) hy
 exact ⟨_,hx,_,rfl,_,hy,_,rfl,_,rfl,_,rfl,zgi 2900 2900 bu.top bv.bot,_,hy,_,rfl,_,hx,_,rfl,_,rfl,_,rfl,zgi 2900 2900 bv.top bu.bot,_,hx,_,rfl,_,hy,_,rfl,_,rfl,_,rfl,zgi 2900 2900 bu.bot bv.bot,_,_,rfl,Int.mul_ne_zero (zhl u) (zhl v),(bu.bot.mul bv.bot).mono (by decide),q⟩
theorem znA:zaI ["one","other"] ["one","other"] (zah zkL):=⟨rfl,rfl,rfl,by decide +kernel,rfl,by decide +kernel,by decide +kernel⟩
theorem zop (T:Txt K mg base a):zcQ P w K mg base CX0 3 a.f_plus a.d_plus ["one","other"] zjj:=by
 have G_ratio:=zjC (P:=P) (w:=w) (base:=base) T
 refine T.F_plus.ok znA (fun vs H Q E h=>?_) (fun cdv A outer s H vs Q E hr h=>?_)
 ·obtain ⟨x,y,u,v,rfl,hx,hy,bu,bv,q⟩:=h
  rfl
 obtain ⟨x,y,u,v,rfl,hx,hy,bu,bv,q⟩:=h
 exact ⟨zlj K,(zaj (zaG (zaE G_ratio (hr.mono (by decide)) rfl T.m_ratio T.F_ratio.kp T.b_ratio .nil za2 (zaa (zaO zeq (zaO zaW (zaD za1 (pv 0) zag (fun _ _=>rfl)) (zaD za1 (pv 1) zag (fun _ _=>rfl))) (zaO zaW (zaD za1 (pv 1) zag (fun _ _=>rfl)) (zaD za1 (pv 0) zag (fun _ _=>rfl)))) (zaa (zaO zaW (zaD za1 (pv 0) zag (fun _ _=>rfl)) (zaD za1 (pv 1) zag (fun _ _=>rfl))) zae))))),
  znS hx hy bu bv q⟩
theorem ziO {p q D:Addr} {xs zs:List V} {te:TE} {rest:St} {x0 y0:Option V} {vs:List V} (hp:H p=some (.lst xs)) (hq:H q=some (.lst zs)) (lq:vs.length=min xs.length zs.length) (l6:vs.length≤1000) (hD:H D=none)
  (st:∀ (i:Nat) (x z v:V) (H':Hp) (R:VK),xs[i]?=some x→zs[i]?=some z→vs[i]?=some v→zaM H H'→(∀ H2:Hp,zaM H' H2→R v H2)→te (some x::some z::rest) H' R)
  (hd:∀ H':Hp,zaM H H'→H' D=some (.lst vs)→Q (.ref D) H') :
  zgu (Itz K p q) (zli K 2 (zdO (zak 0) (zdO (zak 1) zk6))) zaP te D Q (x0::y0::rest) (upd H D (.lst [])):=by
 refine zk3 (K:=K) (xs:=xs) (zs:=zs) (fun i ys σ H'=>zaM H H'∧ys=vs.take i∧∃ x y,σ=x::y::rest) ⟨zai hD _,rfl,_,_,rfl⟩ ?_ ?_ ?_
 ·rintro i ys σ H' _ ⟨s,_⟩
  exact ⟨SqL.of (s _ _ hp),SqL.of (s _ _ hq)⟩
 ·rintro i x z t ys σ H' hx hz hD' ⟨s,rfl,u,v,rfl⟩ ht
  have i1:=(List.getElem?_eq_some_iff.mp hx).1
  have i2:=(List.getElem?_eq_some_iff.mp hz).1
  have hw:vs[i]?=some (vs[i]'(by omega)):=List.getElem?_eq_getElem (by omega)
  have s1:=zai ht (.tup [x,z])
  refine ⟨t,_,rfl,SqT.of zaf,rfl,_,_,rfl,_,_,rfl,rfl,?_⟩
  refine st i x z _ _ _ hx hz hw (s.trans s1) fun H2 s2=>?_
  refine ⟨D,_,_,rfl,rfl,s2 _ _ (s1 _ _ hD'),zbX (by rw [List.length_take];omega),_,zaf,(s.trans (s1.trans s2)).put hD,?_,_,_,rfl⟩
  rw [List.take_add_one,hw]
  rfl
 ·rintro ys σ H' hD' ⟨s,rfl,u,v,rfl⟩
  rw [← lq,List.take_length] at hD'
  exact hd H' s hD'
theorem zdb {p D:Addr} {xs:List V} {te:TE} {rest:St} {x0:Option V} {vs:List V} (hp:H p=some (.lst xs)) (lq:vs.length=xs.length) (l6:vs.length≤1000) (hD:H D=none)
  (st:∀ (i:Nat) (x v:V) (H':Hp) (R:VK),xs[i]?=some x→vs[i]?=some v→zaM H H'→(∀ H2:Hp,zaM H' H2→R v H2)→te (some x::rest) H' R)
  (hd:∀ H':Hp,zaM H H'→H' D=some (.lst vs)→Q (.ref D) H') :
  zgu (Itl K p) (zak 0) zaP te D Q (x0::rest) (upd H D (.lst [])):=by
 refine zcF (K:=K) (xs:=xs) (fun i ys σ H'=>zaM H H'∧ys=vs.take i∧∃ x,σ=x::rest) ⟨zai hD _,rfl,_,rfl⟩ ?_ ?_ ?_
 ·rintro i ys σ H' _ ⟨s,_⟩
  exact SqL.of (s _ _ hp)
 ·rintro i x ys σ H' hx hD' ⟨s,rfl,u,rfl⟩
  have i1:=(List.getElem?_eq_some_iff.mp hx).1
  have hw:vs[i]?=some (vs[i]'(by omega)):=List.getElem?_eq_getElem (by omega)
  refine st i x _ _ _ hx hw s fun H2 s2=>?_
  refine ⟨D,_,_,rfl,rfl,s2 _ _ hD',zbX (by rw [List.length_take];omega),_,zaf,(s.trans s2).put hD,?_,_,rfl⟩
  rw [List.take_add_one,hw]
  rfl
 ·rintro ys σ H' hD' ⟨s,rfl,u,rfl⟩
  rw [← lq,List.take_length] at hD'
  exact hd H' s hD'
structure zg7 (ns:List Int) (g:Int):Prop where
 g0:0≤g
 all:∀ n∈ns,g∣n
 most:∀ d:Int,(∀ n∈ns,d∣n)→d∣g
theorem zg7.ne {ns:List Int} {g n:Int} (h:zg7 ns g) (hn:n∈ns) (n0:n≠0):0<g:=by
 have h1:=h.all n hn
 have h2:=h.g0
 refine Classical.byContradiction fun c=>n0 ?_
 have:g=0:=by omega
 subst this
 exact Int.zero_dvd.mp h1
theorem zg7.le {ns:List Int} {g n:Int} (h:zg7 ns g) (hn:n∈ns) (n0:n≠0):g.natAbs≤n.natAbs:=Nat.le_of_dvd (by omega) (Int.natAbs_dvd_natAbs.mpr (h.all n hn))
theorem zg7.log {ns:List Int} {g n:Int} (h:zg7 ns g) (hn:n∈ns) (n0:n≠0) (b:Bd 9000 n):g.natAbs.log2<9000:=zjB 9000 (by have:=h.ne hn n0;omega) (b.le (h.le hn n0))
def zjD:Sp:=fun vs H Q _=>∃ (l:Addr) (ns:List Int),vs=[.ref l]∧H l=some (.lst (ns.map V.int))∧∀ g:Int,zg7 ns g→Q (.int g) H
def zcV (K:PySem.W.Frag):TS :=
 (zaN (za9 (tC (.int 0)) (zak 1))
 (zaN (zjd (zdG K (zac 0)) (zak 2)
 (za9 (zaJ zmw [] E0 (zab (zac 1) (zab (zac 2) zan))) (zak 1)))
 (zbi (zac 1))))
theorem zfC {l:Addr} {ns:List Int} (hl:H l=some (.lst (ns.map V.int))) (q:∀ g:Int,zg7 ns g→Q (.int g) H) :
  zcV K { nx:=fun _ H'=>Q .non H',rt:=Q } (L2.zbg ["numbers","shared","number"] [.ref l]) H:=by
 unfold zcV
 simp_all only [zac]
 refine ⟨⟨_,SqL.of hl⟩,?_⟩
 refine zgY (K:=K) (xs:=ns.map V.int) (fun i σ H'=>H'=H∧∃ (g:Int) (x:Option V),zg7 (ns.take i) g∧σ=[some (.ref l),some (.int g),x]) ⟨rfl,0,_,⟨by decide,by simp,fun d _=>Int.dvd_zero d⟩,rfl⟩ ?_ ?_ ?_
 ·rintro i σ H' _ ⟨rfl,_⟩
  exact SqL.of hl
 ·rintro i v σ H1 hx ⟨rfl,g,x,G,rfl⟩
  obtain ⟨n,en,rfl⟩:=zbS hx
  simp_all only [zac]
  refine ⟨g,n,rfl,rfl,_,⟨by omega,fun m hm=>?_,fun d hd=>?_⟩,rfl⟩
  ·rw [List.take_add_one,en] at hm
   rcases List.mem_append.mp hm with h | h
   ·exact Int.dvd_trans (Int.gcd_dvd_left ..) (G.all m h)
   ·have:m=n:=by simpa using h
    rw [this]
    exact Int.gcd_dvd_right ..
  ·rw [List.take_add_one,en] at hd
   exact Int.dvd_coe_gcd (G.most d fun m hm=>hd m (List.mem_append_left _ hm)) (hd n (List.mem_append_right _ (by simp)))
 ·rintro σ H1 ⟨rfl,g,x,G,rfl⟩
  rw [List.length_map,List.take_length] at G
  simp_all only [zac]
  exact q g G
theorem zb3:zaI ["numbers","shared","number"] ["numbers"] (zah zc3):=⟨rfl,rfl,rfl,by decide +kernel,rfl,by decide +kernel,by decide +kernel⟩
theorem zfE (T:Txt K mg base a):zcQ P w K mg base CX0 2 a.f_shared_divisor a.d_shared_divisor ["numbers"] zjD:=by
 have G_divisor:=zho (P:=P) (w:=w) (base:=base) T
 refine T.F_shared_divisor.ok zb3 (fun vs H Q E h=>?_) (fun cdv A outer s H vs Q E hr h=>?_)
 ·obtain ⟨l,ns,rfl,hl,q⟩:=h
  rfl
 obtain ⟨l,ns,rfl,hl,q⟩:=h
 exact ⟨zcV K,(zad (zaK (i:=1) zb3.nd rfl (Or.inl rfl) zag)
 (zad (zek PassesOwn.never rfl (zco (pv 0)) (zaH (i:=2) zb3.nd rfl (Or.inl rfl))
 (zaj (zaK (i:=1) zb3.nd rfl (Or.inl rfl) (zaE G_divisor (hr.mono (by decide)) rfl T.m_divisor T.F_divisor.kp T.b_divisor .nil za2 (zaa (pv 1) (zaa (pv 2) zae))))))
 (zaj (zaG (pv 1))))),
  zfC hl q⟩
def zif:Sp:=fun vs H Q _=>∃ (l:Addr) (ns:List Int) (m:Int),vs=[.ref l]∧H l=some (.lst (ns.map V.int))∧ns.length≤1000∧m∈ns∧m≠0∧Bd 9000 m∧∀ (r:Addr) (g:Int) (H':Hp),zaM H H'→H r=none→zg7 ns g→H' r=some (.lst ((ns.map fun n=>n.fdiv g).map V.int))→Q (.ref r) H'
def zhY (K:PySem.W.Frag):TS :=
 (zaN (za9 (zaJ zjD [] E0 (zab (zac 0) zan)) (zak 1))
 (zbi (zbH (zdG K (zac 0)) (zak 0) zaP (tOp (rI (fun _ j=>j≠0∧j.natAbs.log2<9000) fun i j=>.int (i.fdiv j)) (zac 0) (zac 1)) [none,some 1])))
theorem zko {l:Addr} {ns:List Int} {m:Int} (hl:H l=some (.lst (ns.map V.int))) (l1:ns.length≤1000) (hm:m∈ns) (m0:m≠0) (mb:Bd 9000 m) (q:∀ (r:Addr) (g:Int) (H':Hp),zaM H H'→H r=none→zg7 ns g→H' r=some (.lst ((ns.map fun n=>n.fdiv g).map V.int))→Q (.ref r) H') :
  zhY K { nx:=fun _ H'=>Q .non H',rt:=Q } (L2.zbg ["weights","shared"] [.ref l]) H:=by
 unfold zhY
 simp_all only [zac]
 refine ⟨l,ns,rfl,hl,fun g G=>?_⟩
 refine ⟨⟨_,SqL.of hl⟩,fun D hD=>?_⟩
 refine zdb (vs:=(ns.map fun n=>n.fdiv g).map V.int) hl (by simp) (by simpa using l1) hD (fun i x v H' R hx hv s k=>?_) fun H1 s1 h1=>q D g H1 s1 hD G h1
 obtain ⟨n,en,rfl⟩:=zbS hx
 obtain ⟨y,ey,rfl⟩:=zbS hv
 obtain ⟨n',en',rfl⟩:=zbS ey
 rw [en] at en'
 cases en'
 simp_all only [zac]
 exact ⟨by have:=G.ne hm m0;omega,G.log hm m0 mb,k _ (.refl _)⟩
theorem zik:zaI ["weights","shared"] ["weights"] (zah zgg):=⟨rfl,rfl,rfl,by decide +kernel,rfl,by decide +kernel,by decide +kernel⟩
theorem ziM (T:Txt K mg base a):zcQ P w K mg base CX0 3 a.f_lowest a.d_lowest ["weights"] zif:=by
 have G_shared_divisor:=zfE (P:=P) (w:=w) (base:=base) T
 refine T.F_lowest.ok zik (fun vs H Q E h=>?_) (fun cdv A outer s H vs Q E hr h=>?_)
 ·obtain ⟨l,ns,m,rfl,hl,l1,hm,m0,mb,q⟩:=h
  rfl
 obtain ⟨l,ns,m,rfl,hl,l1,hm,m0,mb,q⟩:=h
 exact ⟨zhY K,(zad (zaK (i:=1) zik.nd rfl (Or.inr rfl) (zaE G_shared_divisor (hr.mono (by decide)) rfl T.m_shared_divisor T.F_shared_divisor.kp T.b_shared_divisor .nil za2 (zaa (pv 0) zae)))
 (zaj (zaG (zbP (sc:=zah zgg) (N:=["weights","shared"]) (Nc:=["weight","shared"]) (cap:=[none,some 1]) rfl rfl rfl (.of (by decide +kernel)) (zco (pv 0)) (fun _ _ _ _=>(zaH (i:=0) (show List.Nodup (["weight","shared"]:List Str) from by decide) rfl (Or.inl rfl))) (fun _ _ _ _=>zbn) (fun _ _ _ _=>(zaO zgl (pv 0) (pv 1))))))),
  zko hl l1 hm m0 mb q⟩
def zfA (K:PySem.W.Frag):TS :=
 (zbi (zet (tCB (zhd K) (zab (zac 0) (zab (tC (.ty "int")) zan))) (zmB (tCB (zhd K) (zab (zac 0) (zab (tC (.ty "bool")) zan))))))
theorem zjf {x:V} (q:(∃ n:Int,x=.int n)∧Q (.bl true) H∨(∃ b:Bool,x=.bl b)∧Q (.bl false) H):zfA K { nx:=fun _ H'=>Q .non H',rt:=Q } (L2.zbg ["thing"] [x]) H:=by
 unfold zfA
 simp_all only [zac]
 rcases q with ⟨⟨n,rfl⟩,q⟩ | ⟨⟨b,rfl⟩,q⟩
 ·refine zgv ⟨_,rfl,znt ?_⟩
  exact zf4 ⟨_,rfl,q⟩
 ·refine zjE (.bl b) (zfW K) ⟨_,rfl,znt ?_⟩
  exact zjE (.bl b) zfr ⟨_,rfl,q⟩
theorem zjh:zaI ["thing"] ["thing"] (zah zfO):=⟨rfl,rfl,rfl,by decide +kernel,rfl,by decide +kernel,by decide +kernel⟩
theorem zgD (T:Txt K mg base a):zcQ P w K mg base CX0 1 a.f_is_whole a.d_is_whole ["thing"] zct:=by
 refine T.F_is_whole.ok zjh (fun vs H Q E h=>?_) (fun cdv A outer s H vs Q E hr h=>?_)
 ·obtain ⟨x,rfl,q⟩:=h
  rfl
 obtain ⟨x,rfl,q⟩:=h
 exact ⟨zfA K,(zaj (zaG (zeI (zal zbC rfl T.z_isinstance PyProof.Rows.boot_isinstance (zaa (pv 0) (zaa (zdC rfl T.z_int zjS rfl) zae))) (zeK (zmL (zal zbC rfl T.z_isinstance PyProof.Rows.boot_isinstance (zaa (pv 0) (zaa (zdC rfl T.z_bool ziw rfl) zae)))))))),
  zjf q⟩
theorem zgo (n:Nat):(List.replicate n true).all id=true:=by
 rw [List.all_replicate]
 simp
theorem zhE (n:Nat):(List.replicate (n+1) true).map V.bl=(List.replicate n true).map V.bl++[.bl true]:=by
 rw [List.replicate_succ',List.map_append]
 rfl
def zhM (K:PySem.W.Frag):TS :=
 (zbi (zet (tCB (zhd K) (zab (zac 0) (zab (tC (.ty "list")) zan))) (zet (zhs (rI0 fun i j=>.bl (decide (i≤j))) (rI0 fun i j=>.bl (decide (i≤j))) (tC (.int 1)) (tCB (fun xs H Q=>∃ p ys,xs=[.ref p]∧(SqL K H p ys∨SqT K H p ys)∧Q (.int ys.length) H) (zab (zac 0) zan)) (tC (.int 12))) (tCB (zmg K) (zab (zbH (zdG K (zac 0)) (zak 0) zaP (zaJ zct [] E0 (zab (zac 0) zan)) [none]) zan)))))
theorem zkw {p:Addr} {ns:List Int} (hp:H p=some (.lst (ns.map V.int))) (l1:1≤ns.length) (l6:ns.length≤12) (q:∀ H',zaM H H'→Q (.bl true) H') :
  zhM K { nx:=fun _ H'=>Q .non H',rt:=Q } (L2.zbg ["thing"] [.ref p]) H:=by
 unfold zhM
 simp_all only [zac]
 refine zdU hp ⟨true,rfl,znt ?_⟩
 refine ⟨_,.inl (SqL.of hp),?_⟩
 rw [List.length_map,if_pos (by omega),if_pos (by omega)]
 refine ⟨⟨_,SqL.of hp⟩,fun D hD=>?_⟩
 refine zcF (K:=K) (xs:=ns.map V.int) (fun i ys σ H'=>zaM H H'∧ys=(List.replicate i true).map V.bl∧∃ x,σ=[x]) ⟨zai hD _,rfl,_,rfl⟩ ?_ ?_ ?_
 ·rintro i ys σ H' _ ⟨s,_⟩
  exact SqL.of (s _ _ hp)
 ·rintro i x ys σ H' hi hD' ⟨s,rfl,y,rfl⟩
  have li:=(List.getElem?_eq_some_iff.mp hi).1
  rw [List.length_map] at li
  obtain ⟨n,en,rfl⟩:=zbS hi
  simp_all only [zac]
  exact ⟨_,rfl,.inl ⟨⟨n,rfl⟩,_,hD',by simp [sizeLine];omega,_,zaf,s.put hD,(zhE i).symm⟩⟩
 ·rintro ys σ H' hD' ⟨s,rfl,y,rfl⟩
  exact ⟨D,rfl,_,SqL.of hD',by rw [zgo];exact q H' s⟩
theorem zky:zaI ["thing"] ["thing"] (zah zgd):=⟨rfl,rfl,rfl,by decide +kernel,rfl,by decide +kernel,by decide +kernel⟩
theorem zki (T:Txt K mg base a):zcQ P w K mg base CX0 2 a.f_is_row a.d_is_row ["thing"] (znC K):=by
 have G_is_whole:=zgD (P:=P) (w:=w) (base:=base) T
 refine T.F_is_row.ok zky (fun vs H Q E h=>?_) (fun cdv A outer s H vs Q E hr h=>?_)
 ·obtain ⟨p,ns,rfl,hp,l1,l6,q⟩:=h
  rfl
 obtain ⟨p,ns,rfl,hp,l1,l6,q⟩:=h
 exact ⟨zhM K,(zaj (zaG (zeI (zal zbC rfl T.z_isinstance PyProof.Rows.boot_isinstance (zaa (pv 0) (zaa (zdC rfl T.z_list zcu rfl) zae))) (zeI (zl9 zl3 zl3 zag (zal zao rfl T.z_len PySem.boot_len (zaa (pv 0) zae)) (zlw rfl T.m_MOST ⟨_,rfl⟩)) (zeK (zal (zge rfl) rfl T.z_all PyProof.Rows.boot_all (zaa (zbP (sc:=zah zgd) (N:=["thing"]) (Nc:=["number"]) (cap:=[none]) rfl rfl rfl (.of (by decide +kernel)) (zco (pv 0)) (fun _ _ _ _=>(zaH (i:=0) (show List.Nodup (["number"]:List Str) from by decide) rfl (Or.inl rfl))) (fun _ _ _ _=>zbn) (fun _ _ _ _=>(zaE G_is_whole (hr.mono (by decide)) rfl T.m_is_whole T.F_is_whole.kp T.b_is_whole .nil za2 (zaa (pv 0) zae)))) zae))))))),
  zkw hp l1 l6 q⟩
def zfZ (K:PySem.W.Frag):TS :=
 (zbi (zet (tCB (zmg K) (zab (zbH (zdG K (zac 0)) (zak 0) zaP (zaJ (znC K) [] E0 (zab (zac 0) zan)) [none]) zan)) (tCB (zmg K) (zab (zbH (zdG K (zac 0)) (zak 0) zaP (tOp rEq (tCB (fun xs H Q=>∃ p ys,xs=[.ref p]∧(SqL K H p ys∨SqT K H p ys)∧Q (.int ys.length) H) (zab (zac 0) zan)) (tCB (fun xs H Q=>∃ p ys,xs=[.ref p]∧(SqL K H p ys∨SqT K H p ys)∧Q (.int ys.length) H) (zab (tOp (zba K) (zac 1) (tC (.int 0))) zan))) [none,some 0]) zan))))
theorem zbG (K:PySem.W.Frag) (D:zce) (σ:St) (H:Hp):zfZ K D σ H=(zbi (zet (tCB (zmg K) (zab (zbH (zdG K (zac 0)) (zak 0) zaP (zaJ (znC K) [] E0 (zab (zac 0) zan)) [none]) zan)) (tCB (zmg K) (zab (zbH (zdG K (zac 0)) (zak 0) zaP (tOp rEq (tCB (fun xs H Q=>∃ p ys,xs=[.ref p]∧(SqL K H p ys∨SqT K H p ys)∧Q (.int ys.length) H) (zab (zac 0) zan)) (tCB (fun xs H Q=>∃ p ys,xs=[.ref p]∧(SqL K H p ys∨SqT K H p ys)∧Q (.int ys.length) H) (zab (tOp (zba K) (zac 1) (tC (.int 0))) zan))) [none,some 0]) zan)))) D σ H:=rfl
def zfV (K:PySem.W.Frag):TS :=
 (zcn (tOr (zeG (tB (tCB (zhd K) (zab (zac 0) (zab (tC (.ty "list")) zan))))) (zeG (zaQ (zhs (rI0 fun i j=>.bl (decide (i≤j))) (rI0 fun i j=>.bl (decide (i≤j))) (tC (.int 1)) (tCB (fun xs H Q=>∃ p ys,xs=[.ref p]∧(SqL K H p ys∨SqT K H p ys)∧Q (.int ys.length) H) (zab (zac 0) zan)) (tC (.int 12)))))) (zbi (tC (.bl false))) zaV)
theorem zbF (K:PySem.W.Frag) (D:zce) (σ:St) (H:Hp):zfV K D σ H=(zcn (tOr (zeG (tB (tCB (zhd K) (zab (zac 0) (zab (tC (.ty "list")) zan))))) (zeG (zaQ (zhs (rI0 fun i j=>.bl (decide (i≤j))) (rI0 fun i j=>.bl (decide (i≤j))) (tC (.int 1)) (tCB (fun xs H Q=>∃ p ys,xs=[.ref p]∧(SqL K H p ys∨SqT K H p ys)∧Q (.int ys.length) H) (zab (zac 0) zan)) (tC (.int 12)))))) (zbi (tC (.bl false))) zaV) D σ H:=rfl
def zfM (K:PySem.W.Frag):TS :=
 (zaN (zeN (zfV K))
 (zfZ K))
theorem zji {t:Addr} {rs:List Addr} {rows:List (List Int)} {w:Nat} (B:Tb H t rs rows w) (q:∀ H',zaM H H'→Q (.bl true) H') :
  zfM K { nx:=fun _ H'=>Q .non H',rt:=Q } (L2.zbg ["thing"] [.ref t]) H:=by
 unfold zfM
 have l1:=B.l1
 have l6:=B.l6
 rw [← B.len] at l1 l6
 simp_all only [zbG,zbF,zac]
 refine ⟨fun σ H'=>H'=H∧σ=[some (.ref t)],?_,?_⟩
 ·simp_all only [zbG,zbF,zac]
  refine zdU B.ht ⟨true,rfl,?_⟩
  simp_all only [zbG,zbF,zac]
  refine ⟨_,.inl (SqL.of B.ht),?_⟩
  rw [List.length_map,if_pos (by omega),if_neg (by omega)]
  trivial
 ·rintro σ H1 ⟨rfl,rfl⟩
  simp_all only [zbG,zbF,zac]
  refine ⟨⟨_,SqL.of B.ht⟩,fun D hD=>?_⟩
  refine zcF (K:=K) (xs:=rs.map V.ref) (fun i ys σ H'=>zaM H1 H'∧ys=(List.replicate i true).map V.bl∧∃ x,σ=[x]) ⟨zai hD _,rfl,_,rfl⟩ ?_ ?_ ?_
  ·rintro i ys σ H' _ ⟨s,_⟩
   exact SqL.of (s _ _ B.ht)
  ·rintro i x ys σ H' hi hD' ⟨s,rfl,y,rfl⟩
   have li:=(List.getElem?_eq_some_iff.mp hi).1
   rw [List.length_map] at li
   obtain ⟨r,er,rfl⟩:=zbS hi
   obtain ⟨row,e1,e2,e3⟩:=B.at er
   have w1:=B.w1
   have w6:=B.w6
   simp_all only [zbG,zbF,zac]
   refine ⟨r,row,rfl,s _ _ e2,by omega,by omega,fun H2 s2=>?_⟩
   have hD2:=s2 _ _ hD'
   exact ⟨_,hD2,by simp [sizeLine];omega,_,zaf,(s.trans s2).put hD,(zhE i).symm⟩
  ·rintro ys σ H' hD' ⟨s,rfl,y,rfl⟩
   have B2:=B.same s
   refine ⟨D,rfl,_,SqL.of hD',?_⟩
   rw [zgo]
   refine znt ⟨⟨_,SqL.of B2.ht⟩,fun D2 hD2=>?_⟩
   obtain ⟨r0,row0,a0,h0,w0⟩:=B2.first
   refine zcF (K:=K) (xs:=rs.map V.ref) (fun i ys σ H2=>zaM H' H2∧ys=(List.replicate i true).map V.bl∧∃ x,σ=[x,some (.ref t)]) ⟨zai hD2 _,rfl,_,rfl⟩ ?_ ?_ ?_
   ·rintro i ys σ H2 _ ⟨s2,_⟩
    exact SqL.of (s2 _ _ B2.ht)
   ·rintro i x ys σ H2 hi hD3 ⟨s2,rfl,y,rfl⟩
    have li:=(List.getElem?_eq_some_iff.mp hi).1
    rw [List.length_map] at li
    obtain ⟨r,er,rfl⟩:=zbS hi
    obtain ⟨row,e1,e2,e3⟩:=B2.at er
    simp_all only [zbG,zbF,zac]
    refine ⟨_,.inl (SqL.of (s2 _ _ e2)),_,SqL.of (s2 _ _ B2.ht),_,a0,_,rfl,_,.inl (SqL.of (s2 _ _ h0)),?_⟩
    rw [List.length_map,List.length_map,e3,w0]
    rw [decide_eq_true rfl]
    exact ⟨_,hD3,by simp [sizeLine];omega,_,zaf,s2.put hD2,(zhE i).symm⟩
   ·rintro ys σ H2 hD3 ⟨s2,rfl,y,rfl⟩
    exact ⟨D2,rfl,_,SqL.of hD3,by rw [zgo];exact q H2 (s.trans s2)⟩
theorem zjm:zaI ["thing"] ["thing"] (zah zdM):=⟨rfl,rfl,rfl,by decide +kernel,rfl,by decide +kernel,by decide +kernel⟩
theorem zjg (T:Txt K mg base a):zcQ P w K mg base CX0 3 a.f_is_table a.d_is_table ["thing"] (zpJ K):=by
 have G_is_row:=zki (P:=P) (w:=w) (base:=base) T
 refine T.F_is_table.ok zjm (fun vs H Q E h=>?_) (fun cdv A outer s H vs Q E hr h=>?_)
 ·obtain ⟨t,rs,rows,w,rfl,B,q⟩:=h
  rfl
 obtain ⟨t,rs,rows,w,rfl,B,q⟩:=h
 exact ⟨zfM K,(zad (zbZ (zcf (PW.pt (zeW (zc4 (zc5 (zal zbC rfl T.z_isinstance PyProof.Rows.boot_isinstance (zaa (pv 0) (zaa (zdC rfl T.z_list zcu rfl) zae))))) (zeO (zc4 (zmz zl3 zl3 zag (zal zao rfl T.z_len PySem.boot_len (zaa (pv 0) zae)) (zlw rfl T.m_MOST ⟨_,rfl⟩)))))) (zaj (zaG zgX)) zaT))
 (zaj (zaG (zeI (zal (zge rfl) rfl T.z_all PyProof.Rows.boot_all (zaa (zbP (sc:=zah zdM) (N:=["thing"]) (Nc:=["row"]) (cap:=[none]) rfl rfl rfl (.of (by decide +kernel)) (zco (pv 0)) (fun _ _ _ _=>(zaH (i:=0) (show List.Nodup (["row"]:List Str) from by decide) rfl (Or.inl rfl))) (fun _ _ _ _=>zbn) (fun _ _ _ _=>(zaE G_is_row (hr.mono (by decide)) rfl T.m_is_row T.F_is_row.kp T.b_is_row .nil za2 (zaa (pv 0) zae)))) zae)) (zeK (zal (zge rfl) rfl T.z_all PyProof.Rows.boot_all (zaa (zbP (sc:=zah zdM) (N:=["thing"]) (Nc:=["row","thing"]) (cap:=[none,some 0]) rfl rfl rfl (.of (by decide +kernel)) (zco (pv 0)) (fun _ _ _ _=>(zaH (i:=0) (show List.Nodup (["row","thing"]:List Str) from by decide) rfl (Or.inl rfl))) (fun _ _ _ _=>zbn) (fun _ _ _ _=>(zdo zjo (zal zao rfl T.z_len PySem.boot_len (zaa (pv 0) zae)) (zal zao rfl T.z_len PySem.boot_len (zaa (zaD zap (pv 1) zag (fun _ _=>rfl)) zae)) (zaS _)))) zae))))))),
  zji B q⟩
def zeA (K:PySem.W.Frag):TS :=
 (zcn (zeG (tB (zaJ (zpJ K) [] E0 (zab (zac 0) zan)))) zld zaV)
theorem zh9 {t:Addr} {rs:List Addr} {rows:List (List Int)} {w:Nat} (B:Tb H t rs rows w) (q:∀ H',zaM H H'→Q .non H') :
  zeA K { nx:=fun _ H'=>Q .non H',rt:=Q } (L2.zbg ["table"] [.ref t]) H:=by
 unfold zeA
 simp_all only [zac]
 refine ⟨t,rs,rows,w,rfl,B,fun H' s=>⟨true,rfl,?_⟩⟩
 rw [if_neg Bool.noConfusion]
 exact q H' s
theorem zhV:zaI ["table"] ["table"] (zah zen):=⟨rfl,rfl,rfl,by decide +kernel,rfl,by decide +kernel,by decide +kernel⟩
theorem zfo (T:Txt K mg base a):zcQ P w K mg base CX0 4 a.f_look_table a.d_look_table ["table"] (zgC K):=by
 have G_is_table:=zjg (P:=P) (w:=w) (base:=base) T
 refine T.F_look_table.ok zhV (fun vs H Q E h=>?_) (fun cdv A outer s H vs Q E hr h=>?_)
 ·obtain ⟨t,rs,rows,w,rfl,B,q⟩:=h
  rfl
 obtain ⟨t,rs,rows,w,rfl,B,q⟩:=h
 exact ⟨zeA K,(zaj (zcf (zc4 (zc5 (zaE G_is_table (hr.mono (by decide)) rfl T.m_is_table T.F_is_table.kp T.b_is_table .nil za2 (zaa (pv 0) zae)))) (zaj zjT) zaT)),
  zh9 B q⟩
def zcE (K:PySem.W.Frag) (a:Ad):TS :=
 (zaN (za9 (tOp (rI IntMulOk fun i j=>.int (i*j)) (tOp (zba K) (tOp (zba K) (tAt a.c_Board (zac 0) "grid") (zac 1)) (tUn (rU fun i=>.int (-i)) (tC (.int 1)))) (tOp (zba K) (tOp (zba K) (tAt a.c_Board (zac 0) "grid") (zac 2)) (zac 3))) (zak 4))
 (zaN (za9 (tOp (rI IntMulOk fun i j=>.int (i*j)) (tOp (zba K) (tOp (zba K) (tAt a.c_Board (zac 0) "grid") (zac 2)) (tUn (rU fun i=>.int (-i)) (tC (.int 1)))) (tOp (zba K) (tOp (zba K) (tAt a.c_Board (zac 0) "grid") (zac 1)) (zac 3))) (zak 5))
 (zbi (tOrV (tOp (rI0 fun i j=>.bl (decide (i<j))) (zac 4) (zac 5)) (zet (tOp rEq (zac 4) (zac 5)) (tOp (rI0 fun i j=>.bl (decide (i<j))) (tOp (zba K) (tAt a.c_Board (zac 0) "busy") (zac 1)) (tOp (zba K) (tAt a.c_Board (zac 0) "busy") (zac 2))))))))
theorem zfm {b dx gl il ul:Addr} {rows:List Addr} {α:Nat→Nat→Int} {m n:Nat} {t:Sx} {s:Bool} {k l c:Nat} (B:Brd H a.c_Board b dx gl il ul rows m n t s) (L:LP α m n t) (hk:k<m) (hl:l<m) (hc:c<n)
  (q:∀ r:Bool,(r=true↔t.g k n*t.g l c<t.g l n*t.g k c∨(t.g k n*t.g l c=t.g l n*t.g k c∧t.bs k<t.bs l))→Q (.bl r) H) :
  zcE K a { nx:=fun _ H'=>Q .non H',rt:=Q } (L2.zbg ["self","k","best","column","here","there"] [.ref b,.int k,.int l,.int c]) H:=by
 unfold zcE
 obtain ⟨rk,_,hk1,hk2⟩:=B.rowAt (k:=k) (by omega)
 obtain ⟨rl,_,hl1,hl2⟩:=B.rowAt (k:=l) (by omega)
 have hg:=SqL.of (K:=K) B.hg
 have hu:=SqL.of (K:=K) B.hu
 have b1:=zgi (i:=t.g k n) (j:=t.g l c) 1400 1400 (L.g (by omega) (by omega)) (L.g (by omega) (by omega))
 have b2:=zgi (i:=t.g l n) (j:=t.g k c) 1400 1400 (L.g (by omega) (by omega)) (L.g (by omega) (by omega))
 simp_all only [zac]
 refine ⟨_,_,B.hb,_,rfl,gl,rfl,_,hg,_,hk2,rk,rfl,_,SqL.of hk1,_,zfj,_,_,B.hb,_,rfl,gl,rfl,_,hg,_,hl2,rl,rfl,_,SqL.of hl1,_,zcG (by omega),_,rfl,_,rfl,b1,?_⟩
 refine ⟨_,_,B.hb,_,rfl,gl,rfl,_,hg,_,hl2,rl,rfl,_,SqL.of hl1,_,zfj,_,_,B.hb,_,rfl,gl,rfl,_,hg,_,hk2,rk,rfl,_,SqL.of hk1,_,zcG (by omega),_,rfl,_,rfl,b2,?_⟩
 refine zea (fun z=>q true ⟨fun _=>.inl z,fun _=>rfl⟩) (fun z=>zea (fun z2=>?_) (fun z2=>q false ⟨fun h=>(by cases h),fun h=>?_⟩))
 ·refine ⟨_,_,B.hb,_,rfl,ul,rfl,_,hu,_,ziZ hk,_,_,B.hb,_,rfl,ul,rfl,_,hu,_,ziZ hl,_,rfl,_,rfl,?_⟩
  refine q _ ⟨fun h=>.inr ⟨z2,?_⟩,fun h=>?_⟩
  ·have:=of_decide_eq_true h
   omega
  ·rcases h with h | h
   ·exact absurd h z
   ·refine decide_eq_true ?_
    have:=h.2
    omega
 ·rcases h with h | h
  ·exact absurd h z
  ·exact absurd h.1 z2
theorem zcq:zaI ["self","k","best","column","here","there"] ["self","k","best","column"] (zah zcC):=⟨rfl,rfl,rfl,by decide +kernel,rfl,by decide +kernel,by decide +kernel⟩
theorem zfp (T:Txt K mg base a):zcQ P w K mg base CX0 1 a.f_Board_is_sooner a.d_Board_is_sooner ["self","k","best","column"] (zhF a.c_Board):=by
 refine T.F_Board_is_sooner.ok zcq (fun vs H Q E h=>?_) (fun cdv A outer s H vs Q E hr h=>?_)
 ·obtain ⟨b,dx,gl,il,ul,rows,α,m,n,t,s,k,l,c,rfl,B,L,hk,hl,hc,q⟩:=h
  rfl
 obtain ⟨b,dx,gl,il,ul,rows,α,m,n,t,s,k,l,c,rfl,B,L,hk,hl,hc,q⟩:=h
 exact ⟨zcE K a,(zad (zaK (i:=4) zcq.nd rfl (Or.inl rfl) (zaO zaW (zaD zap (zaD zap (zca T.cl_Board T.na_Board_grid (pv 0)) (pv 1) (fun _ _=>rfl)) (zeQ zdg zag) (fun _ _=>rfl)) (zaD zap (zaD zap (zca T.cl_Board T.na_Board_grid (pv 0)) (pv 2) (fun _ _=>rfl)) (pv 3) (fun _ _=>rfl))))
 (zad (zaK (i:=5) zcq.nd rfl (Or.inl rfl) (zaO zaW (zaD zap (zaD zap (zca T.cl_Board T.na_Board_grid (pv 0)) (pv 2) (fun _ _=>rfl)) (zeQ zdg zag) (fun _ _=>rfl)) (zaD zap (zaD zap (zca T.cl_Board T.na_Board_grid (pv 0)) (pv 1) (fun _ _=>rfl)) (pv 3) (fun _ _=>rfl))))
 (zaj (zaG (pe_or (zdo zha (pv 4) (pv 5) (zaS _)) (zeK (zeI (zdo zjo (pv 4) (pv 5) (zaS _)) (zeK (zdo zha (zaD zap (zca T.cl_Board T.na_Board_busy (pv 0)) (pv 1) (fun _ _=>rfl)) (zaD zap (zca T.cl_Board T.na_Board_busy (pv 0)) (pv 2) (fun _ _=>rfl)) (zaS _)))))))))),
  zfm B L hk hl hc q⟩
def LE (n:Nat) (t:Sx) (c r k:Nat):Prop:=t.g r n*t.g k c<t.g k n*t.g r c∨(t.g r n*t.g k c=t.g k n*t.g r c∧t.bs r≤t.bs k)
theorem LE.le {n:Nat} {t:Sx} {c r k:Nat} (h:LE n t c r k):t.g r n*t.g k c≤t.g k n*t.g r c:=by
 rcases h with h | h
 ·exact Int.le_of_lt h
 ·exact Int.le_of_eq h.1
theorem LE.trans {n:Nat} {t:Sx} {c i r k:Nat} (pi:0<t.g i c) (pr:0<t.g r c) (pk:0<t.g k c) (h1:LE n t c i r) (h2:LE n t c r k):LE n t c i k:=by
 have l:=zdR pi pr pk h1.le h2.le
 by_cases e:t.g i n*t.g k c=t.g k n*t.g i c
 ·have a1:=zdR pr pk pi h2.le (Int.le_of_eq e.symm)
  have a2:=zdR pk pi pr (Int.le_of_eq e.symm) h1.le
  refine .inr ⟨e,?_⟩
  have e1:t.bs i≤t.bs r:=by
   rcases h1 with h | h
   ·omega
   ·exact h.2
  have e2:t.bs r≤t.bs k:=by
   rcases h2 with h | h
   ·omega
   ·exact h.2
  omega
 ·exact .inl (by omega)
def zdT (K:PySem.W.Frag) (a:Ad):TS :=
 (zcn (tAnd (zaQ (tOp (rI0 fun i j=>.bl (decide (j<i))) (tOp (zba K) (tOp (zba K) (tAt a.c_Board (zac 0) "grid") (zac 3)) (zac 1)) (tC (.int 0)))) (tOr (zaQ (tOp (fun x y H Q=>y=.non∧Q (.bl (decide (x=.non))) H) (zac 2) (tC .non))) (tB (zev a.c_Board "is_sooner" (zhF a.c_Board) [] E0 (zac 0) (zab (zac 3) (zab (zac 2) (zab (zac 1) zan))))))) (za9 (zac 3) (zak 2)) zaV)
theorem zb7 (K:PySem.W.Frag) (a:Ad) (D:zce) (σ:St) (H:Hp):zdT K a D σ H=(zcn (tAnd (zaQ (tOp (rI0 fun i j=>.bl (decide (j<i))) (tOp (zba K) (tOp (zba K) (tAt a.c_Board (zac 0) "grid") (zac 3)) (zac 1)) (tC (.int 0)))) (tOr (zaQ (tOp (fun x y H Q=>y=.non∧Q (.bl (decide (x=.non))) H) (zac 2) (tC .non))) (tB (zev a.c_Board "is_sooner" (zhF a.c_Board) [] E0 (zac 0) (zab (zac 3) (zab (zac 2) (zab (zac 1) zan))))))) (za9 (zac 3) (zak 2)) zaV) D σ H:=rfl
def zdj (K:PySem.W.Frag) (a:Ad):TS :=
 (zaN (za9 (tC .non) (zak 2))
 (zaN (zjd (zdf (zab (tCB (fun xs H Q=>∃ p ys,xs=[.ref p]∧(SqL K H p ys∨SqT K H p ys)∧Q (.int ys.length) H) (zab (tAt a.c_Board (zac 0) "busy") zan)) zan)) (zak 3)
 (zdT K a))
 (zbi (zac 2))))
theorem zf9 {b dx gl il ul:Addr} {rows:List Addr} {α:Nat→Nat→Int} {m n:Nat} {t:Sx} {s:Bool} {c:Nat} (B:Brd H a.c_Board b dx gl il ul rows m n t s) (L:LP α m n t) (hc:c<n)
  (q:∀ r:Nat,r<m→0<t.g r c→(∀ k,k<m→0<t.g k c→t.g r n*t.g k c<t.g k n*t.g r c∨(t.g r n*t.g k c=t.g k n*t.g r c∧t.bs r≤t.bs k))→Q (.int r) H) :
  zdj K a { nx:=fun _ H'=>Q .non H',rt:=Q } (L2.zbg ["self","column","best","k"] [.ref b,.int c]) H:=by
 unfold zdj
 have m12:=L.m12
 simp_all only [zb7,zac]
 refine ⟨_,_,B.hb,_,rfl,ul,rfl,_,.inl (SqL.of B.hu),?_⟩
 rw [zdy]
 refine ⟨by omega,by omega,?_⟩
 refine zeD (fun i σ H'=>H'=H∧∃ (v:V) (z:Option V),σ=[some (.ref b),some (.int c),some v,z]∧((v=.non∧∀ k,k<i→¬ 0<t.g k c)∨∃ r:Nat,r<m∧v=.int r∧0<t.g r c∧∀ k,k<i→0<t.g k c→LE n t c r k)) ⟨rfl,_,_,rfl,.inl ⟨rfl,fun k hk=>absurd hk (Nat.not_lt_zero k)⟩⟩ ?_ ?_
 ·rintro i σ H' hi ⟨rfl,v,z,rfl,st⟩
  have hi:i<m:=by omega
  obtain ⟨ri,_,h1,h2⟩:=B.rowAt (k:=i) (by omega)
  simp_all only [zb7,zac]
  rw [Int.zero_add]
  refine ⟨_,_,B.hb,_,rfl,gl,rfl,_,SqL.of B.hg,_,h2,ri,rfl,_,SqL.of h1,_,zcG (by omega),_,rfl,?_⟩
  have keep:¬ 0<t.g i c→((v=.non∧∀ k,k<i+1→¬ 0<t.g k c)∨∃ r:Nat,r<m∧v=.int r∧0<t.g r c∧∀ k,k<i+1→0<t.g k c→LE n t c r k):=fun no=>by
   rcases st with ⟨e,st⟩ | ⟨r,hr,e,p,st⟩
   ·refine .inl ⟨e,fun k hk=>?_⟩
    by_cases ek:k=i
    ·rw [ek];exact no
    ·exact st k (by omega)
   ·refine .inr ⟨r,hr,e,p,fun k hk pk=>?_⟩
    by_cases ek:k=i
    ·rw [ek] at pk;exact absurd pk no
    ·exact st k (by omega) pk
  refine zea (fun pi=>?_) (fun pi=>keep pi)
  rcases st with ⟨rfl,st⟩ | ⟨r,hr,rfl,pr,st⟩
  ·refine zea (fun _=>?_) (fun z=>absurd rfl z)
   refine .inr ⟨i,hi,rfl,pi,fun k hk pk=>?_⟩
   by_cases ek:k=i
   ·rw [ek];exact .inr ⟨rfl,Nat.le_refl _⟩
   ·exact absurd pk (st k (by omega))
  ·refine zea (fun z=>(by cases z)) (fun _=>⟨_,_,B.hb,rfl,?_⟩)
   refine ⟨_,_,_,_,_,_,_,_,_,_,_,i,r,c,rfl,B,L,hi,hr,hc,fun x hx=>⟨x,rfl,?_⟩⟩
   refine zea (fun zx=>⟨rfl,.inr ⟨i,hi,rfl,pi,fun k hk pk=>?_⟩⟩) (fun zx=>⟨rfl,.inr ⟨r,hr,rfl,pr,fun k hk pk=>?_⟩⟩)
   ·by_cases ek:k=i
    ·rw [ek];exact .inr ⟨rfl,Nat.le_refl _⟩
    ·refine LE.trans pi pr pk ?_ (st k (by omega) pk)
     rcases hx.mp zx with h | h
     ·exact .inl h
     ·exact .inr ⟨h.1,Nat.le_of_lt h.2⟩
   ·by_cases ek:k=i
    ·rw [ek]
     have no:=fun h=>zx (hx.mpr h)
     by_cases e:t.g r n*t.g i c=t.g i n*t.g r c
     ·refine .inr ⟨e,Nat.le_of_not_lt fun h=>no (.inr ⟨e.symm,h⟩)⟩
     ·refine .inl ?_
      have:¬ t.g i n*t.g r c<t.g r n*t.g i c:=fun h=>no (.inl h)
      omega
    ·exact st k (by omega) pk
 ·rintro σ H' ⟨rfl,v,z,rfl,st⟩
  simp_all only [zb7,zac]
  rcases st with ⟨rfl,st⟩ | ⟨r,hr,rfl,pr,st⟩
  ·obtain ⟨r,hr,pr⟩:=L.F.out L.m1 L.a1 hc
   exact absurd pr (st r (by omega))
  ·exact q r hr pr fun k hk pk=>st k (by omega) pk
theorem zch:zaI ["self","column","best","k"] ["self","column"] (zah zdh):=⟨rfl,rfl,rfl,by decide +kernel,rfl,by decide +kernel,by decide +kernel⟩
theorem zf7 (T:Txt K mg base a):zcQ P w K mg base CX0 2 a.f_Board_leaving a.d_Board_leaving ["self","column"] (zi3 a.c_Board):=by
 have G_Board_is_sooner:=zfp (P:=P) (w:=w) (base:=base) T
 refine T.F_Board_leaving.ok zch (fun vs H Q E h=>?_) (fun cdv A outer s H vs Q E hr h=>?_)
 ·obtain ⟨b,dx,gl,il,ul,rows,α,m,n,t,s,c,rfl,B,L,hc,q⟩:=h
  rfl
 obtain ⟨b,dx,gl,il,ul,rows,α,m,n,t,s,c,rfl,B,L,hc,q⟩:=h
 exact ⟨zdj K a,(zad (zaK (i:=2) zch.nd rfl (Or.inl rfl) zdS)
 (zad (zek PassesOwn.never rfl (zbq rfl T.z_range (zaa (zal zao rfl T.z_len PySem.boot_len (zaa (zca T.cl_Board T.na_Board_busy (pv 0)) zae)) zae)) (zaH (i:=3) zch.nd rfl (Or.inl rfl))
 (zaj (zcf (PW.pt (zpF (zaR ziD (zaD zap (zaD zap (zca T.cl_Board T.na_Board_grid (pv 0)) (pv 3) (fun _ _=>rfl)) (pv 1) (fun _ _=>rfl)) zag (zaS _)) (zoj (PW.pt (zeW (zaR zo1 (pv 2) zdS (zaS _)) (zeO (zc5 (ze1 (pv 0) T.cl_Board T.M_Board_is_sooner G_Board_is_sooner (hr.mono (by decide)) T.b_Board_is_sooner .nil za2 (zaa (pv 3) (zaa (pv 2) (zaa (pv 1) zae))))))))))) (zaj (zaK (i:=2) zch.nd rfl (Or.inl rfl) (pv 3))) zaT)))
 (zaj (zaG (pv 2))))),
  zf9 B L hc q⟩
theorem zod {m:Nat}:∀ (l:List Int),(∀ x∈l,Bd m x)→l.length≤13→Bd (m+13) l.sum:=fun l h hl=>by
 have key:∀ l:List Int,(∀ x∈l,Bd m x)→l.sum.natAbs≤l.length*2 ^ m:=by
  intro l
  induction l with
  | nil=>intro _;exact Nat.zero_le _
  | cons x l ih =>
   intro h
   have h1:=ih fun y hy=>h y (List.mem_cons_of_mem _ hy)
   have h2:x.natAbs<2 ^ m:=h x List.mem_cons_self
   have h3:=Int.natAbs_add_le x l.sum
   rw [List.sum_cons,List.length_cons,Nat.add_mul,Nat.one_mul]
   omega
 have h1:=key l h
 have h2:l.length*2 ^ m≤13*2 ^ m:=Nat.mul_le_mul_right _ hl
 show l.sum.natAbs<2 ^ (m+13)
 rw [Nat.pow_add]
 have h4:0<2 ^ m:=Nat.two_pow_pos m
 have h5:2 ^ m*2 ^ 13=8192*2 ^ m:=by rw [Nat.mul_comm]
 omega
def zcD (K:PySem.W.Frag) (a:Ad):TS :=
 (zaN (za9 (zbH (zdG K (tAt a.c_Board (zac 0) "grid")) (zak 0) zaP (tOp (rI IntMulOk fun i j=>.int (i*j)) (tOp (zba K) (zac 0) (zac 1)) (tOp (zba K) (zac 0) (zac 1))) [none,some 1]) (zak 2))
 (zbi (ze3 (zab (tOp (zba K) (zac 2) (tUn (rU fun i=>.int (-i)) (tC (.int 1)))) (zab (tOp (rI0 fun i j=>.int (i+j)) (tOp (rI IntMulOk fun i j=>.int (i*j)) (tAt a.c_Board (zac 0) "scale") (tAt a.c_Board (zac 0) "scale")) (tCB (zhP K) (zab (tSl (zpc K) (zac 2) zgU (zkY (tUn (rU fun i=>.int (-i)) (tC (.int 1))))) zan))) zan)))))
open HT in
theorem zfq {b dx gl il ul:Addr} {rows:List Addr} {α:Nat→Nat→Int} {m n:Nat} {t:Sx} {s:Bool} {c:Nat} (B:Brd H a.c_Board b dx gl il ul rows m n t s) (L:LP α m n t) (hc:c<n)
  (q:∀ (x y:Int) (r:Addr) (H':Hp),zaM H H'→H' r=some (.tup [.int x,.int y])→Bd 2900 x→Bd 2900 y→x=stX m t c∧y=stY m t c→Q (.ref r) H') :
  zcD K a { nx:=fun _ H'=>Q .non H',rt:=Q } (L2.zbg ["self","column","squares"] [.ref b,.int c]) H:=by
 unfold zcD
 have m12:=L.m12
 have rl:=B.len
 simp_all only [zac]
 refine ⟨_,_,B.hb,_,rfl,gl,rfl,⟨_,SqL.of B.hg⟩,fun D hD=>?_⟩
 have lq:(((List.range (m+1)).map fun k=>t.g k c*t.g k c).map V.int).length=(rows.map V.ref).length:=by rw [List.length_map,List.length_map,List.length_map,List.length_range,rl]
 refine zdb B.hg lq (by rw [lq,List.length_map];omega) hD (fun i x v H' R hx hv s' hR=>?_) fun H' s' hD'=>?_
 ·obtain ⟨r,hr,rfl⟩:=zbS hx
  have hi:=(List.getElem?_eq_some_iff.mp hr).1
  have h1:=(B.same s').row i r hr
  rw [List.getElem?_map,List.getElem?_map,List.getElem?_range (by omega)] at hv
  cases hv
  simp_all only [zac]
  exact ⟨_,SqL.of h1,_,zcG (by omega),_,SqL.of h1,_,zcG (by omega),_,rfl,_,rfl,zgi 1400 1400 (L.g (by omega) (by omega)) (L.g (by omega) (by omega)),hR H' (.refl _)⟩
 ·have B':=B.same s'
  have g2:∀ k,k≤m→Bd 2800 (t.g k c*t.g k c):=fun k hk=>(L.g hk (by omega)).mul (L.g hk (by omega))
  have dB:=L.d
  have d2:Bd 2800 (t.d*t.d):=dB.mul dB
  have hm:∀ x∈(List.range (m+1)).map fun k=>t.g k c*t.g k c,Bd 2800 x:=fun x hx=>by
   obtain ⟨k,hk,rfl⟩:=List.mem_map.mp hx
   exact g2 k (by have:=List.mem_range.mp hk;omega)
  have hl:((List.range (m+1)).map fun k=>t.g k c*t.g k c).length=m+1:=by rw [List.length_map,List.length_range]
  generalize hns:(List.range (m+1)).map (fun k=>t.g k c*t.g k c)=ns at hD' hm hl
  have e1:atI (ns.map V.int) (-1)=some (.int (ns.getD m 0)):=zjb (n:=m) (by rw [List.length_map,hl]) (by rw [List.getElem?_map,List.getElem?_eq_getElem (by omega),List.getD_eq_getElem?_getD,List.getElem?_eq_getElem (by omega)];rfl)
  have m1:ns.getD m 0∈ns:=by rw [List.getD_eq_getElem?_getD,List.getElem?_eq_getElem (by omega)];exact List.getElem_mem _
  refine ⟨D,rfl,_,SqL.of hD',_,e1,_,_,B'.hb,_,rfl,_,_,B'.hb,_,rfl,_,rfl,_,rfl,zgi 1400 1400 dB dB,D,rfl,_,SqL.of hD',fun p hp=>?_⟩
  have ec:zkM (ns.map V.int) none (some (-1))=((ns.drop (sIx ns.length 0 none)).take (sIx ns.length ns.length (some (-1)) - sIx ns.length 0 none)).map V.int:=by
   unfold zkM
   rw [List.length_map,List.map_take,List.map_drop]
  refine ⟨_,SqL.of (by rw [ec];exact zaf),by decide,fun r hr=>?_⟩
  have hs:zaM H (L2.upd H' p (.lst (zkM (ns.map V.int) none (some (-1))))):=s'.trans (zai hp _)
  refine q _ _ r _ (hs.trans (zai hr _)) zaf ((hm _ m1).mono (by decide)) ?_ ⟨by rw [← hns];rfl,by rw [← hns];rfl⟩
  refine ((d2.mono (show 2800≤2813 by decide)).add (zod (m:=2800) _ (fun x hx=>hm x (List.mem_of_mem_drop (List.mem_of_mem_take hx))) ?_)).mono (by decide)
  rw [List.length_take,List.length_drop]
  omega
theorem zds:zaI ["self","column","squares"] ["self","column"] (zah zb2):=⟨rfl,rfl,rfl,by decide +kernel,rfl,by decide +kernel,by decide +kernel⟩
theorem zfg (T:Txt K mg base a):zcQ P w K mg base CX0 1 a.f_Board_steepness a.d_Board_steepness ["self","column"] (zhR a.c_Board):=by
 refine T.F_Board_steepness.ok zds (fun vs H Q E h=>?_) (fun cdv A outer s H vs Q E hr h=>?_)
 ·obtain ⟨b,dx,gl,il,ul,rows,α,m,n,t,s,c,rfl,B,L,hc,q⟩:=h
  rfl
 obtain ⟨b,dx,gl,il,ul,rows,α,m,n,t,s,c,rfl,B,L,hc,q⟩:=h
 exact ⟨zcD K a,(zad (zdK (i:=2) zds.nd rfl rfl (sc:=zah zb2) (N:=["self","column","squares"]) (Nc:=["row","column"]) (cap:=[none,some 1]) rfl rfl rfl (.of (by decide +kernel)) (zco (zca T.cl_Board T.na_Board_grid (pv 0))) (fun _ _ _ _=>(zaH (i:=0) (show List.Nodup (["row","column"]:List Str) from by decide) rfl (Or.inl rfl))) (fun _ _ _ _=>zbn) (fun _ _ _ _=>(zaO zaW (zaD zap (pv 0) (pv 1) (fun _ _=>rfl)) (zaD zap (pv 0) (pv 1) (fun _ _=>rfl)))))
 (zaj (zaG (zdr (zaa (zaD zap (pv 2) (zeQ zdg zag) (fun _ _=>rfl)) (zaa (zaO zeq (zaO zaW (zca T.cl_Board T.na_Board_scale (pv 0)) (zca T.cl_Board T.na_Board_scale (pv 0))) (zal (zcs rfl) rfl T.z_sum PyProof.Rows.boot_sum (zaa (zh5 zi4 (pv 2) zju (zi7 (zeQ zdg zag))) zae))) zae)))))),
  zfq B L hc q⟩
def zdv (K:PySem.W.Frag) (a:Ad):TS :=
 (zaN (za9 (zev a.c_Board "steepness" (zhR a.c_Board) [] E0 (zac 0) (zab (zac 4) zan)) (zak 5))
 (zcn (zaQ (tOp (rI0 fun i j=>.bl (decide (j<i))) (tOp (rI IntMulOk fun i j=>.int (i*j)) (tOp (zbT K) (zac 5) (tC (.int 0))) (tOp (zbT K) (zac 3) (tC (.int 1)))) (tOp (rI IntMulOk fun i j=>.int (i*j)) (tOp (zbT K) (zac 3) (tC (.int 0))) (tOp (zbT K) (zac 5) (tC (.int 1)))))) (zaN (za9 (zac 4) (zak 2))
 (za9 (zac 5) (zak 3))) zaV))
theorem zbA (K:PySem.W.Frag) (a:Ad) (D:zce) (σ:St) (H:Hp):zdv K a D σ H=(zaN (za9 (zev a.c_Board "steepness" (zhR a.c_Board) [] E0 (zac 0) (zab (zac 4) zan)) (zak 5))
 (zcn (zaQ (tOp (rI0 fun i j=>.bl (decide (j<i))) (tOp (rI IntMulOk fun i j=>.int (i*j)) (tOp (zbT K) (zac 5) (tC (.int 0))) (tOp (zbT K) (zac 3) (tC (.int 1)))) (tOp (rI IntMulOk fun i j=>.int (i*j)) (tOp (zbT K) (zac 3) (tC (.int 0))) (tOp (zbT K) (zac 5) (tC (.int 1)))))) (zaN (za9 (zac 4) (zak 2))
 (za9 (zac 5) (zak 3))) zaV)) D σ H:=rfl
def zc1 (K:PySem.W.Frag) (a:Ad):TS :=
 (zaN (za9 (tOp (zba K) (zac 1) (tC (.int 0))) (zak 2))
 (zaN (za9 (zev a.c_Board "steepness" (zhR a.c_Board) [] E0 (zac 0) (zab (zac 2) zan)) (zak 3))
 (zaN (zjd (zdG K (tSl (zpc K) (zac 1) (zkY (tC (.int 1))) zgU)) (zak 4)
 (zdv K a))
 (zbi (zac 2)))))
open HT in
theorem zfw {b dx gl il ul cl:Addr} {rows:List Addr} {α:Nat→Nat→Int} {m n:Nat} {t:Sx} {s:Bool} {cs:List Nat} (B:Brd H a.c_Board b dx gl il ul rows m n t s) (L:LP α m n t) (hcl:H cl=some (.lst (cs.map fun c:Nat=>V.int c))) (l1:1≤cs.length) (l12:cs.length≤12) (hn:∀ c∈cs,c<n)
  (q:∀ c∈cs,c=stM m t cs→∀ H',zaM H H'→Q (.int c) H') :
  zc1 K a { nx:=fun _ H'=>Q .non H',rt:=Q } (L2.zbg ["self","columns","best","most","k","here"] [.ref b,.ref cl]) H:=by
 unfold zc1
 obtain ⟨c0,cs',rfl⟩:∃ c0 cs',cs=c0::cs':=by
  cases cs with
  | nil=>cases l1
  | cons x y=>exact ⟨x,y,rfl⟩
 have h0:=hn c0 List.mem_cons_self
 simp_all only [zbA,zac]
 have e0:atI ((c0::cs').map fun c:Nat=>V.int c) 0=some (.int c0):=zbD (j:=0) rfl
 refine ⟨_,SqL.of hcl,_,e0,_,_,B.hb,rfl,?_⟩
 refine ⟨_,_,_,_,_,_,_,_,_,_,_,c0,rfl,B,L,h0,fun x y r H1 s1 h1 bx by' exy=>?_⟩
 refine ⟨_,SqL.of (s1 _ _ hcl),fun p hp=>?_⟩
 have ec:zkM ((c0::cs').map fun c:Nat=>V.int c) (some 1) none=cs'.map fun c:Nat=>V.int c:=by
  unfold zkM
  rw [show sIx ((c0::cs').map fun c:Nat=>V.int c).length 0 (some 1)=1 from by rw [List.length_map];exact (znM _ _ 1).trans (by rw [List.length_cons];omega),zlM,List.map_cons,List.drop_succ_cons,List.drop_zero,List.take_of_length_le (by rw [List.length_cons];omega)]
 rw [ec]
 have hp':(L2.upd H1 p (.lst (cs'.map fun c:Nat=>V.int c))) p=some (.lst (cs'.map fun c:Nat=>V.int c)):=zaf
 have s2:zaM H (L2.upd H1 p (.lst (cs'.map fun c:Nat=>V.int c))):=s1.trans (zai hp _)
 have h2:=zai hp (.lst (cs'.map fun c:Nat=>V.int c)) _ _ h1
 generalize L2.upd H1 p (.lst (cs'.map fun c:Nat=>V.int c))=H2 at hp' s2 h2
 refine ⟨⟨_,SqL.of hp'⟩,?_⟩
 refine zgY (K:=K) (xs:=cs'.map fun c:Nat=>V.int c) (fun i σ H'=>zaM H2 H'∧∃ (c:Nat) (x y:Int) (r:Addr) (u v:Option V),c∈c0::cs'∧H' r=some (.tup [.int x,.int y])∧Bd 2900 x∧Bd 2900 y∧(c=(cs'.take i).foldl (st2 m t) c0∧x=stX m t c∧y=stY m t c)∧σ=[some (.ref b),some (.ref cl),some (.int c),some (.ref r),u,v]) ⟨.refl _,c0,x,y,r,_,_,List.mem_cons_self,h2,bx,by',⟨rfl,exy⟩,rfl⟩ ?_ ?_ ?_
 ·rintro i σ H' _ ⟨s3,_⟩
  exact SqL.of (s3 _ _ hp')
 ·rintro i z σ H3 hz ⟨s3,c,x,y,r,u,v,mc,hr,bx,by',⟨ec,ex,ey⟩,rfl⟩
  obtain ⟨d,hd,rfl⟩:=zbS hz
  have md:d∈c0::cs':=List.mem_cons_of_mem _ (zcz hd)
  have B3:=B.same (s2.trans s3)
  simp_all only [zbA,zac]
  refine ⟨_,_,B3.hb,rfl,?_⟩
  refine ⟨_,_,_,_,_,_,_,_,_,_,_,d,rfl,B3,L,hn d md,fun x' y' r' H4 s4 h4 bx' by'' e'=>?_⟩
  have hr4:=s4 _ _ hr
  simp_all only [zbA,zac]
  refine ⟨_,SqT.of h4,_,rfl,_,SqT.of hr4,_,rfl,_,rfl,_,rfl,zgi 2900 2900 bx' by',_,SqT.of hr4,_,rfl,_,SqT.of h4,_,rfl,_,rfl,_,rfl,zgi 2900 2900 bx by'',?_⟩
  have et:cs'.take (i+1)=cs'.take i++[d]:=by rw [List.take_add_one,hd];rfl
  have es:(cs'.take (i+1)).foldl (st2 m t) c0=st2 m t c d:=by rw [et,List.foldl_append,← ec];rfl
  rw [es]
  unfold st2
  rw [← ex,← ey,← e'.1,← e'.2]
  exact zea (fun z=>⟨s3.trans s4,d,md,x',y',r',h4,bx',by'',by rw [if_pos z],e'.1,e'.2,rfl,rfl⟩) (fun z=>⟨s3.trans s4,c,mc,x,y,r,hr4,bx,by',by rw [if_neg z],ex,ey,rfl,rfl⟩)
 ·rintro σ H3 ⟨s3,c,x,y,r,u,v,mc,hr,bx,by',⟨ec,_⟩,rfl⟩
  rw [List.length_map,List.take_length] at ec
  simp_all only [zbA,zac]
  exact q c mc ec H3 (s2.trans s3)
theorem za4:zaI ["self","columns","best","most","k","here"] ["self","columns"] (zah zcU):=⟨rfl,rfl,rfl,by decide +kernel,rfl,by decide +kernel,by decide +kernel⟩
theorem zfv (T:Txt K mg base a):zcQ P w K mg base CX0 2 a.f_Board_steepest a.d_Board_steepest ["self","columns"] (zhv a.c_Board):=by
 have G_Board_steepness:=zfg (P:=P) (w:=w) (base:=base) T
 refine T.F_Board_steepest.ok za4 (fun vs H Q E h=>?_) (fun cdv A outer s H vs Q E hr h=>?_)
 ·obtain ⟨b,dx,gl,il,ul,cl,rows,α,m,n,t,s,cs,rfl,B,L,hcl,l1,l12,hn,q⟩:=h
  rfl
 obtain ⟨b,dx,gl,il,ul,cl,rows,α,m,n,t,s,cs,rfl,B,L,hcl,l1,l12,hn,q⟩:=h
 exact ⟨zc1 K a,(zad (zaK (i:=2) za4.nd rfl (Or.inl rfl) (zaD zap (pv 1) zag (fun _ _=>rfl)))
 (zad (zaK (i:=3) za4.nd rfl (Or.inl rfl) (ze1 (pv 0) T.cl_Board T.M_Board_steepness G_Board_steepness (hr.mono (by decide)) T.b_Board_steepness .nil za2 (zaa (pv 2) zae)))
 (zad (zek PassesOwn.never rfl (zco (zh5 zi4 (pv 1) (zi7 zag) zju)) (zaH (i:=4) za4.nd rfl (Or.inl rfl))
 (zad (zaK (i:=5) za4.nd rfl (Or.inl rfl) (ze1 (pv 0) T.cl_Board T.M_Board_steepness G_Board_steepness (hr.mono (by decide)) T.b_Board_steepness .nil za2 (zaa (pv 4) zae)))
 (zaj (zcf (zaR ziD (zaO zaW (zaD za1 (pv 5) zag (fun _ _=>rfl)) (zaD za1 (pv 3) zag (fun _ _=>rfl))) (zaO zaW (zaD za1 (pv 3) zag (fun _ _=>rfl)) (zaD za1 (pv 5) zag (fun _ _=>rfl))) (zaS _)) (zad (zaK (i:=2) za4.nd rfl (Or.inl rfl) (pv 4))
 (zaj (zaK (i:=3) za4.nd rfl (Or.inl rfl) (pv 5)))) zaT))))
 (zaj (zaG (pv 2)))))),
  zfw B L hcl l1 l12 hn q⟩
def zdq (K:PySem.W.Frag) (a:Ad):TS :=
 (zcn (tB (tAt a.c_Board (zac 0) "stuck")) (zbi (zhI K a.p_lam zkC zi2 [0] (zab (zac 1) zan) (tOp (zba K) (tAt a.c_Board (zac 1) "idle") (zac 0)))) zaV)
theorem zaX (K:PySem.W.Frag) (a:Ad) (D:zce) (σ:St) (H:Hp):zdq K a D σ H=(zcn (tB (tAt a.c_Board (zac 0) "stuck")) (zbi (zhI K a.p_lam zkC zi2 [0] (zab (zac 1) zan) (tOp (zba K) (tAt a.c_Board (zac 1) "idle") (zac 0)))) zaV) D σ H:=rfl
def zc2 (K:PySem.W.Frag) (a:Ad):TS :=
 (zaN (za9 (zbH (zdf (zab (tCB (fun xs H Q=>∃ p ys,xs=[.ref p]∧(SqL K H p ys∨SqT K H p ys)∧Q (.int ys.length) H) (zab (tAt a.c_Board (zac 0) "idle") zan)) zan)) (zak 0) (zaQ (tOp (rI0 fun i j=>.bl (decide (i<j))) (tOp (zba K) (tOp (zba K) (tAt a.c_Board (zac 1) "grid") (tUn (rU fun i=>.int (-i)) (tC (.int 1)))) (zac 0)) (tC (.int 0)))) (zac 0) [none,some 0]) (zak 1))
 (zaN (zeN (zcn (zeG (tTru K (zac 1))) (zbi (tC .non)) zaV))
 (zaN (zeN (zdq K a))
 (zbi (zev a.c_Board "steepest" (zhv a.c_Board) [] E0 (zac 0) (zab (zac 1) zan))))))
theorem zfy {b dx gl il ul:Addr} {rows:List Addr} {α:Nat→Nat→Int} {m n:Nat} {t:Sx} {s:Bool} (B:Brd H a.c_Board b dx gl il ul rows m n t s) (L:LP α m n t) (LH:LT H a.p_lam) (q0:zi0 m n t→∀ H',zaM H H'→Q .non H')
  (q:∀ (c:Nat) (H':Hp),c<n→t.g m c<0→(s=true→∀ j,j<n→t.g m j<0→t.id c≤t.id j)→(s=false→c=stM m t (hlp m t n))→Bar a.p_lam H H'→LT H' a.p_lam→Q (.int c) H') :
  zc2 K a { nx:=fun _ H'=>Q .non H',rt:=Q } (L2.zbg ["self","helping"] [.ref b]) H:=by
 unfold zc2
 have n12:=L.n12
 simp_all only [zaX,zac]
 refine ⟨_,_,B.hb,_,rfl,il,rfl,_,.inl (SqL.of B.hi),?_⟩
 rw [zdy]
 refine ⟨by omega,by omega,fun D hD=>?_⟩
 rw [Int.toNat_natCast]
 refine zbK (fun i ys σ H'=>zaM H H'∧ys=(hlp m t i).map (fun c:Nat=>V.int c)∧∃ z,σ=[z,some (.ref b)]) ⟨zai hD _,rfl,_,rfl⟩ ?_ ?_
 ·rintro i ys σ H' hi hD' ⟨s',rfl,z,rfl⟩
  have B':=B.same s'
  obtain ⟨r,h1,h2⟩:=B'.rowEnd
  simp_all only [zaX,zac]
  rw [Int.zero_add]
  refine ⟨_,_,B'.hb,_,rfl,gl,rfl,_,SqL.of B'.hg,_,h2,r,rfl,_,SqL.of h1,_,zcG (by omega),_,rfl,?_⟩
  have hl:=zkR m t i
  refine zea (fun c=>?_) (fun c=>?_)
  ·refine ⟨_,hD',zbX (by rw [List.length_map];omega),_,zaf,s'.put hD,?_⟩
   rw [zjP,if_pos c,List.map_append]
   rfl
  ·refine ⟨_,hD',s',?_⟩
   rw [zjP,if_neg c]
 ·rintro ys σ H' hD' ⟨s',rfl,z,rfl⟩
  have B':=B.same s'
  have LH':=LH.same s'
  refine ⟨fun σ H2=>H2=H'∧1≤(hlp m t n).length∧σ=[some (.ref b),some (.ref D)],?_,?_⟩
  ·simp_all only [zaX,zac]
   refine ⟨_,.inl ⟨_,SqL.of hD',rfl⟩,?_⟩
   cases e:hlp m t n with
   | nil =>
    refine zea (fun _=>q0 (fun c hc=>?_) H' s') (fun z=>absurd rfl z)
    refine Classical.byContradiction fun no=>?_
    have:c∈hlp m t n:=zfN.mpr ⟨hc,by omega⟩
    rw [e] at this
    cases this
   | cons x l=>exact zea (fun z=>absurd z (by simp)) (fun _=>Nat.le_add_left _ _)
  ·rintro σ H2 ⟨rfl,hl,rfl⟩
   have l12:=zkR m t n
   refine ⟨fun σ H3=>H3=H2∧s=false∧σ=[some (.ref b),some (.ref D)],?_,?_⟩
   ·simp_all only [zaX,zac]
    refine ⟨_,_,B'.hb,_,rfl,s,rfl,zea (fun hs=>?_) (fun hs=>by cases s;rfl;exact absurd rfl hs)⟩
    have el:(hlp m t n).map (fun c:Nat=>V.int c)=((hlp m t n).map fun c:Nat=>(c:Int)).map V.int:=by rw [List.map_map];rfl
    refine ⟨(hlp m t n).map fun c:Nat=>(c:Int),SqL.of (by rw [← el];exact hD'),by rw [List.length_map];omega,[.ref b],rfl,LH',fun H3 bar L3=>?_⟩
    have B3:=B'.bar LH' bar
    refine ⟨fun x=>(t.id x.toNat:Int),fun x hx=>?_,fun x hx best=>?_⟩
    ·obtain ⟨c,hc,rfl⟩:=List.mem_map.mp hx
     simp_all only [zaX,zac]
     refine ⟨_,_,B3.hb,_,rfl,il,rfl,_,SqL.of B3.hi,_,ziZ (zfN.mp hc).1,?_⟩
     rw [Int.toNat_natCast]
    ·obtain ⟨c,hc,rfl⟩:=List.mem_map.mp hx
     obtain ⟨c1,c2⟩:=zfN.mp hc
     refine q c H3 c1 c2 (fun _ j hj ng=>?_) (fun z=>by rw [hs] at z;cases z) (fun x o nx e=>bar _ _ nx (s' _ _ e)) L3
     have:(t.id (c:Int).toNat:Int)≤(t.id (j:Int).toNat:Int):=best j (List.mem_map.mpr ⟨j,zfN.mpr ⟨hj,ng⟩,rfl⟩)
     rw [Int.toNat_natCast,Int.toNat_natCast] at this
     omega
   ·rintro σ H3 ⟨rfl,hs,rfl⟩
    simp_all only [zaX,zac]
    refine ⟨_,_,B'.hb,rfl,?_⟩
    refine ⟨_,_,_,_,_,_,_,_,_,_,_,_,_,rfl,B',L,hD',hl,by omega,fun c hc=>(zfN.mp hc).1,fun c hc ec H4 s4=>?_⟩
    obtain ⟨c1,c2⟩:=zfN.mp hc
    exact q c H4 c1 c2 (fun z=>by rw [hs] at z;cases z) (fun _=>ec) (fun x o _ e=>s4 _ _ (s' _ _ e)) (LH'.same s4)
theorem zdQ:zaI ["self","helping"] ["self"] (zah zbO):=⟨rfl,rfl,rfl,by decide +kernel,rfl,by decide +kernel,by decide +kernel⟩
theorem zfK (T:Txt K mg base a):zcQ P w K mg base CX0 4 a.f_Board_entering a.d_Board_entering ["self"] (zhH a.c_Board a.p_lam):=by
 have G_Board_steepest:=zfv (P:=P) (w:=w) (base:=base) T
 refine T.F_Board_entering.ok zdQ (fun vs H Q E h=>?_) (fun A outer s H vs Q E hr h=>?_)
 ·obtain ⟨b,dx,gl,il,ul,rows,α,m,n,t,s,rfl,B,L,LH,q0,q⟩:=h
  rfl
 obtain ⟨b,dx,gl,il,ul,rows,α,m,n,t,s,rfl,B,L,LH,q0,q⟩:=h
 exact ⟨zc2 K a,(zad (zdK (i:=1) zdQ.nd rfl rfl (sc:=zah zbO) (N:=["self","helping"]) (Nc:=["k","self"]) (cap:=[none,some 0]) rfl rfl rfl (.of (by decide +kernel)) (zbq rfl T.z_range (zaa (zal zao rfl T.z_len PySem.boot_len (zaa (zca T.cl_Board T.na_Board_idle (pv 0)) zae)) zae)) (fun _ _ _ _=>(zaH (i:=0) (show List.Nodup (["k","self"]:List Str) from by decide) rfl (Or.inl rfl))) (fun _ _ _ _=>(zkN (zaR zha (zaD zap (zaD zap (zca T.cl_Board T.na_Board_grid (pv 1)) (zeQ zdg zag) (fun _ _=>rfl)) (pv 0) (fun _ _=>rfl)) zag (zaS _)))) (fun _ _ _ _=>(pv 0)))
 (zad (zbZ (zcf (zc4 (zjH (pv 1) (fun _=>rfl))) (zaj (zaG zdS)) zaT))
 (zad (zbZ (zcf (zc5 (zca T.cl_Board T.na_Board_stuck (pv 0))) (zaj (zaG (zkn (k:=0) (hr.mono (by decide)) rfl T.z_min (zaa (pv 1) zae) rfl T.hC T.hB rfl rfl rfl (zoI.one (j:=0) rfl rfl rfl rfl (by decide +kernel)) (fun _ _ _ _=>rfl) rfl rfl rfl rfl (by decide +kernel) (fun _ _ _ _ _ _=>(zaD zap (zca T.cl_Board T.na_Board_idle (pv 1)) (pv 0) (fun _ _=>rfl)))))) zaT))
 (zaj (zaG (ze1 (pv 0) T.cl_Board T.M_Board_steepest G_Board_steepest (hr.mono (by decide)) T.b_Board_steepest .nil za2 (zaa (pv 1) zae))))))),
  zfy B L LH q0 q⟩
theorem zgy {n c:Nat} (h:c<n):ixN n (c:Int)=some c:=by
 have e:atI (List.replicate n V.non) (c:Int)=some .non:=zbD (by rw [List.getElem?_replicate,if_pos h])
 unfold ixN
 have h1:¬ ((c:Int)<0):=by omega
 simp [PySem.seqIndex?,h1,h]
theorem zkg {f g:Nat→Int} {n c:Nat} {x:Int} (hc:c≤n) (h1:g c=x) (h2:∀ j,j≤n→j≠c→g j=f j):((List.range (n+1)).map fun j=>V.int (f j)).set c (.int x)=(List.range (n+1)).map fun j=>V.int (g j):=by
 refine List.ext_getElem? fun j=>?_
 rw [List.getElem?_set,List.getElem?_map,List.getElem?_map]
 by_cases hj:j<n+1
 ·rw [List.getElem?_range hj]
  by_cases e:c=j
  ·subst e
   rw [if_pos rfl,if_pos (by rw [List.length_map,List.length_range];omega),Option.map_some,h1]
  ·rw [if_neg e,Option.map_some,Option.map_some,h2 j (by omega) (Ne.symm e)]
 ·rw [if_neg (by omega),List.getElem?_eq_none (by rw [List.length_range];omega)]
  rfl
def zcO (K:PySem.W.Frag) (a:Ad):TS :=
 (zaN (za9 (tOp (zba K) (tAt a.c_Board (zac 0) "grid") (zac 1)) (zak 6))
 (zaN (za9 (zbH (zdf (zab (tCB (fun xs H Q=>∃ p ys,xs=[.ref p]∧(SqL K H p ys∨SqT K H p ys)∧Q (.int ys.length) H) (zab (zac 6) zan)) zan)) (zak 0) zaP (tOp (rI (fun _ j=>j≠0∧j.natAbs.log2<9000) fun i j=>.int (i.fdiv j)) (tOp (rI0 fun i j=>.int (i - j)) (tOp (rI IntMulOk fun i j=>.int (i*j)) (tOp (zba K) (zac 2) (zac 3)) (tOp (zba K) (zac 4) (zac 0))) (tOp (rI IntMulOk fun i j=>.int (i*j)) (tOp (zba K) (zac 4) (zac 3)) (tOp (zba K) (zac 2) (zac 0)))) (tAt a.c_Board (zac 1) "scale")) [none,some 0,some 4,some 3,some 6]) (zak 5))
 (zaN (za9 (tUn (rU fun i=>.int (-i)) (tOp (zba K) (zac 6) (zac 3))) (ziJ (zac 5) (zac 3) zei))
 (zbi (zac 5)))))
theorem za0 (K:PySem.W.Frag) (a:Ad) (D:zce) (σ:St) (H:Hp):zcO K a D σ H=(zaN (za9 (tOp (zba K) (tAt a.c_Board (zac 0) "grid") (zac 1)) (zak 6))
 (zaN (za9 (zbH (zdf (zab (tCB (fun xs H Q=>∃ p ys,xs=[.ref p]∧(SqL K H p ys∨SqT K H p ys)∧Q (.int ys.length) H) (zab (zac 6) zan)) zan)) (zak 0) zaP (tOp (rI (fun _ j=>j≠0∧j.natAbs.log2<9000) fun i j=>.int (i.fdiv j)) (tOp (rI0 fun i j=>.int (i - j)) (tOp (rI IntMulOk fun i j=>.int (i*j)) (tOp (zba K) (zac 2) (zac 3)) (tOp (zba K) (zac 4) (zac 0))) (tOp (rI IntMulOk fun i j=>.int (i*j)) (tOp (zba K) (zac 4) (zac 3)) (tOp (zba K) (zac 2) (zac 0)))) (tAt a.c_Board (zac 1) "scale")) [none,some 0,some 4,some 3,some 6]) (zak 5))
 (zaN (za9 (tUn (rU fun i=>.int (-i)) (tOp (zba K) (zac 6) (zac 3))) (ziJ (zac 5) (zac 3) zei))
 (zbi (zac 5))))) D σ H:=rfl
def zcM (K:PySem.W.Frag) (a:Ad):TS :=
 (zcn (zaQ (tOp rEq (zac 1) (zac 2))) (zaN (za9 (tCB (fun xs H Q=>∃ p ys,xs=[.ref p]∧(SqL K H p ys∨SqT K H p ys)∧∀ l,H l=none→Q (.ref l) (upd H l (.lst ys))) (zab (zac 4) zan)) (zak 5))
 (zaN (za9 (tAt a.c_Board (zac 0) "scale") (ziJ (zac 5) (zac 3) zei))
 (zbi (zac 5)))) zaV)
theorem zaZ (K:PySem.W.Frag) (a:Ad) (D:zce) (σ:St) (H:Hp):zcM K a D σ H=(zcn (zaQ (tOp rEq (zac 1) (zac 2))) (zaN (za9 (tCB (fun xs H Q=>∃ p ys,xs=[.ref p]∧(SqL K H p ys∨SqT K H p ys)∧∀ l,H l=none→Q (.ref l) (upd H l (.lst ys))) (zab (zac 4) zan)) (zak 5))
 (zaN (za9 (tAt a.c_Board (zac 0) "scale") (ziJ (zac 5) (zac 3) zei))
 (zbi (zac 5)))) zaV) D σ H:=rfl
def zcm (K:PySem.W.Frag) (a:Ad):TS :=
 (zaN (za9 (tOp (zba K) (tAt a.c_Board (zac 0) "grid") (zac 2)) (zak 4))
 (zaN (zeN (zcM K a))
 (zcO K a)))
theorem zeF {b dx gl il ul:Addr} {rows:List Addr} {α:Nat→Nat→Int} {m n:Nat} {t:Sx} {s:Bool} {k r c:Nat} (B:Brd H a.c_Board b dx gl il ul rows m n t s) (L:LP α m n t) (hk:k≤m) (hr:r<m) (hc:c<n) (hp:0<t.g r c)
  (q:∀ (l:Addr) (H':Hp),zaM H H'→H l=none→H' l=some (.lst (zfD (piv t r c) n k))→Q (.ref l) H') :
  zcm K a { nx:=fun _ H'=>Q .non H',rt:=Q } (L2.zbg ["self","k","row","column","ahead","fresh","old"] [.ref b,.int k,.int r,.int c]) H:=by
 unfold zcm
 obtain ⟨rr,_,hr1,hr2⟩:=B.rowAt (k:=r) (by omega)
 obtain ⟨rk,_,hk1,hk2⟩:=B.rowAt hk
 have hg:=SqL.of (K:=K) B.hg
 have n12:=L.n12
 simp_all only [za0,zaZ,zac]
 refine ⟨_,_,B.hb,_,rfl,gl,rfl,_,hg,_,hr2,?_⟩
 refine ⟨fun σ H'=>H'=H∧k≠r∧σ=[some (.ref b),some (.int k),some (.int r),some (.int c),some (.ref rr),none,none],?_,?_⟩
 ·simp_all only [za0,zaZ,zac]
  refine zea (fun e=>?_) (fun e=>fun z=>e (by rw [z]))
  have e:k=r:=by omega
  subst e
  refine ⟨_,.inl (SqL.of hr1),fun l hl=>?_⟩
  have B':=B.same (zai hl (.lst (zfD t n k)))
  refine ⟨_,_,B'.hb,_,rfl,_,zaf,c,zgy (by rw [zgm];omega),?_⟩
  rw [zhT]
  refine q l _ (zai hl _) hl ?_
  rw [zaf]
  exact congrArg (fun z=>some (HO.lst z)) (zkg (by omega) znd fun j _ ne=>zml ne)
 ·rintro σ H' ⟨rfl,ne,rfl⟩
  simp_all only [za0,zaZ,zac]
  refine ⟨_,_,B.hb,_,rfl,gl,rfl,_,hg,_,hk2,rk,rfl,_,.inl (SqL.of hk1),?_⟩
  rw [zgm]
  refine ⟨by omega,by omega,fun D hD=>?_⟩
  rw [Int.toNat_natCast]
  have d0:=L.F.tok.pos
  have dl:t.d.natAbs.log2<9000:=zjB 1400 (by omega) L.d
  let f:Nat→Int:=fun j=>(t.g r c*t.g k j - t.g k c*t.g r j).fdiv t.d
  refine zbK (fun i ys σ H2=>zaM H' H2∧ys=(List.range i).map (fun j=>V.int (f j))∧∃ z,σ=[z,some (.ref b),some (.ref rr),some (.int c),some (.ref rk)]) ⟨zai hD _,rfl,_,rfl⟩ ?_ ?_
  ·rintro i ys σ H2 hi hD2 ⟨s2,rfl,z,rfl⟩
   have B2:=B.same s2
   have h1:=s2 _ _ hr1
   have h2:=s2 _ _ hk1
   simp_all only [za0,zaZ,zac]
   rw [Int.zero_add]
   refine ⟨_,SqL.of h1,_,zcG (by omega),_,SqL.of h2,_,zcG (by omega),_,rfl,_,rfl,zgi 1400 1400 (L.g (by omega) (by omega)) (L.g (by omega) (by omega)),_,SqL.of h2,_,zcG (by omega),_,SqL.of h1,_,zcG (by omega),_,rfl,_,rfl,zgi 1400 1400 (L.g (by omega) (by omega)) (L.g (by omega) (by omega)),_,_,B2.hb,_,rfl,_,rfl,by omega,dl,_,hD2,zbX (by rw [List.length_map,List.length_range];omega),_,zaf,s2.put hD,?_⟩
   rw [List.range_succ,List.map_append]
   rfl
  ·rintro ys σ H2 hD2 ⟨s2,rfl,z,rfl⟩
   have h2:=s2 _ _ hk1
   simp_all only [za0,zaZ,zac]
   refine ⟨_,SqL.of h2,_,zcG (by omega),_,rfl,_,hD2,c,zgy (by rw [List.length_map,List.length_range];omega),?_⟩
   refine q D _ (s2.put hD) hD ?_
   rw [zaf]
   refine congrArg (fun z=>some (HO.lst z)) (zkg (by omega) (zpC ne) fun j hj nj=>?_)
   show (if k=r then (if j=c then t.d else t.g r j) else if j=c then - t.g k c else (t.g r c*t.g k j - t.g k c*t.g r j).fdiv t.d)=_
   rw [if_neg ne,if_neg nj]
theorem zbd:zaI ["self","k","row","column","ahead","fresh","old"] ["self","k","row","column"] (zah zbL):=⟨rfl,rfl,rfl,by decide +kernel,rfl,by decide +kernel,by decide +kernel⟩
theorem zeE (T:Txt K mg base a):zcQ P w K mg base CX0 1 a.f_Board_swapped_row a.d_Board_swapped_row ["self","k","row","column"] (zkP a.c_Board):=by
 refine T.F_Board_swapped_row.ok zbd (fun vs H Q E h=>?_) (fun cdv A outer s H vs Q E hr h=>?_)
 ·obtain ⟨b,dx,gl,il,ul,rows,α,m,n,t,s,k,r,c,rfl,B,L,hk,hr1,hc,hp,q⟩:=h
  rfl
 obtain ⟨b,dx,gl,il,ul,rows,α,m,n,t,s,k,r,c,rfl,B,L,hk,hr1,hc,hp,q⟩:=h
 exact ⟨zcm K a,(zad (zaK (i:=4) zbd.nd rfl (Or.inr rfl) (zaD zap (zca T.cl_Board T.na_Board_grid (pv 0)) (pv 2) (fun _ _=>rfl)))
 (zad (zbZ (zcf (zaR zjo (pv 1) (pv 2) (zaS _)) (zad (zaK (i:=5) zbd.nd rfl (Or.inl rfl) (zez zdt rfl T.z_list zcu (zaa (pv 4) zae)))
 (zad (zeM (zca T.cl_Board T.na_Board_scale (pv 0)) (zfb (pv 5) (pv 3) zc9))
 (zaj (zaG (pv 5))))) zaT))
 (zad (zaK (i:=6) zbd.nd rfl (Or.inr rfl) (zaD zap (zca T.cl_Board T.na_Board_grid (pv 0)) (pv 1) (fun _ _=>rfl)))
 (zad (zdK (i:=5) zbd.nd rfl rfl (sc:=zah zbL) (N:=["self","k","row","column","ahead","fresh","old"]) (Nc:=["j","self","ahead","column","old"]) (cap:=[none,some 0,some 4,some 3,some 6]) rfl rfl rfl (.of (by decide +kernel)) (zbq rfl T.z_range (zaa (zal zao rfl T.z_len PySem.boot_len (zaa (pv 6) zae)) zae)) (fun _ _ _ _=>(zaH (i:=0) (show List.Nodup (["j","self","ahead","column","old"]:List Str) from by decide) rfl (Or.inl rfl))) (fun _ _ _ _=>zbn) (fun _ _ _ _=>(zaO zgl (zaO zf2 (zaO zaW (zaD zap (pv 2) (pv 3) (fun _ _=>rfl)) (zaD zap (pv 4) (pv 0) (fun _ _=>rfl))) (zaO zaW (zaD zap (pv 4) (pv 3) (fun _ _=>rfl)) (zaD zap (pv 2) (pv 0) (fun _ _=>rfl)))) (zca T.cl_Board T.na_Board_scale (pv 1)))))
 (zad (zeM (zeQ zdg (zaD zap (pv 6) (pv 3) (fun _ _=>rfl))) (zfb (pv 5) (pv 3) zc9))
 (zaj (zaG (pv 5)))))))),
  zeF B L hk hr1 hc hp q⟩
theorem zmM {f:Nat→Nat} {k r x:Nat} (h:r<k):(nmL f k).set r (.int (x:Int))=nmL (zh6 f r x) k:=by
 unfold nmL
 refine List.ext_getElem? fun j=>?_
 rw [List.getElem?_set,List.getElem?_map,List.getElem?_map]
 by_cases hj:j<k
 ·rw [List.getElem?_range hj]
  by_cases e:r=j
  ·subst e
   rw [if_pos rfl,if_pos (by rw [List.length_map,List.length_range];exact h),Option.map_some,zcN]
  ·rw [if_neg e,Option.map_some,Option.map_some,zdA (Ne.symm e)]
 ·rw [if_neg (by omega),List.getElem?_eq_none (by rw [List.length_range];omega)]
  rfl
def zeo (K:PySem.W.Frag) (a:Ad):TS :=
 (zaN (za9 (tOp (zba K) (tOp (zba K) (tAt a.c_Board (zac 0) "grid") (zac 1)) (zac 2)) (zak 3))
 (zaN (sAt a.c_Board (zac 0) (tOp rEq (tOp (zba K) (tOp (zba K) (tAt a.c_Board (zac 0) "grid") (zac 1)) (tUn (rU fun i=>.int (-i)) (tC (.int 1)))) (tC (.int 0))) "stuck")
 (zaN (sAt a.c_Board (zac 0) (zbH (zdf (zab (tCB (fun xs H Q=>∃ p ys,xs=[.ref p]∧(SqL K H p ys∨SqT K H p ys)∧Q (.int ys.length) H) (zab (tAt a.c_Board (zac 0) "grid") zan)) zan)) (zak 0) zaP (zev a.c_Board "swapped_row" (zkP a.c_Board) [] E0 (zac 3) (zab (zac 0) (zab (zac 1) (zab (zac 2) zan)))) [none,some 1,some 2,some 0]) "grid")
 (zaN (sAt a.c_Board (zac 0) (zac 3) "scale")
 (zaN (za9 (tOp (zba K) (tAt a.c_Board (zac 0) "busy") (zac 1)) (zak 4))
 (zaN (za9 (tOp (zba K) (tAt a.c_Board (zac 0) "idle") (zac 2)) (ziJ (tAt a.c_Board (zac 0) "busy") (zac 1) zei))
 (za9 (zac 4) (ziJ (tAt a.c_Board (zac 0) "idle") (zac 2) zei))))))))
theorem zh8 {b dx gl il ul:Addr} {rows:List Addr} {α:Nat→Nat→Int} {m n:Nat} {t:Sx} {s:Bool} {r c:Nat} (B:Brd H a.c_Board b dx gl il ul rows m n t s) (L:LP α m n t) (hr:r<m) (hc:c<n) (hp:0<t.g r c)
  (q:∀ (gl':Addr) (rows':List Addr) (H':Hp),(∀ x o,x≠b→x≠il→x≠ul→H x=some o→H' x=some o)→Brd H' a.c_Board b dx gl' il ul rows' m n (piv t r c) (decide (t.g r n=0))→Q .non H') :
  zeo K a { nx:=fun _ H'=>Q .non H',rt:=Q } (L2.zbg ["self","row","column","pivot","name"] [.ref b,.int r,.int c]) H:=by
 unfold zeo
 obtain ⟨rr,_,hr1,hr2⟩:=B.rowAt (k:=r) (by omega)
 have hg:=SqL.of (K:=K) B.hg
 have n12:=L.n12
 have m12:=L.m12
 simp_all only [zac]
 refine ⟨_,_,B.hb,_,rfl,gl,rfl,_,hg,_,hr2,rr,rfl,_,SqL.of hr1,_,zcG (by omega),?_⟩
 refine ⟨_,_,B.hb,_,rfl,gl,rfl,_,hg,_,hr2,rr,rfl,_,SqL.of hr1,_,zfj,rfl,_,_,B.hb,show 5<1000 by decide,?_⟩
 have e1:zgk "stuck" (V.bl (decide (V.int (t.g r n)=V.int 0))) [("grid",V.ref gl),("scale",V.int t.d),("idle",V.ref il),("busy",V.ref ul),("stuck",V.bl s)]=([("grid",V.ref gl),("scale",V.int t.d),("idle",V.ref il),("busy",V.ref ul),("stuck",V.bl (decide (t.g r n=0)))]:List (Str×V)):=by
  rw [show decide (V.int (t.g r n)=V.int 0)=decide (t.g r n=0) from by simp]
  rfl
 rw [e1]
 have k1:∀ x o,x≠b→H x=some o→(L2.upd H b (.ins a.c_Board dx [("grid",V.ref gl),("scale",V.int t.d),("idle",V.ref il),("busy",V.ref ul),("stuck",V.bl (decide (t.g r n=0)))])) x=some o:=fun x o nx e=>(zam nx).trans e
 have nb:∀ x xs,H x=some (.lst xs)→x≠b:=fun x xs e z=>by rw [z,B.hb] at e;cases e
 have B1:Brd (L2.upd H b (.ins a.c_Board dx [("grid",V.ref gl),("scale",V.int t.d),("idle",V.ref il),("busy",V.ref ul),("stuck",V.bl (decide (t.g r n=0)))])) a.c_Board b dx gl il ul rows m n t (decide (t.g r n=0)) :=
  ⟨zaf,k1 _ _ (nb _ _ B.hg) B.hg,B.len,fun k x e=>k1 _ _ (nb _ _ (B.row k x e)) (B.row k x e),k1 _ _ (nb _ _ B.hi) B.hi,k1 _ _ (nb _ _ B.hu) B.hu,B.ne⟩
 generalize L2.upd H b (.ins a.c_Board dx [("grid",V.ref gl),("scale",V.int t.d),("idle",V.ref il),("busy",V.ref ul),("stuck",V.bl (decide (t.g r n=0)))])=H1 at k1 B1 ⊢
 refine ⟨_,_,B1.hb,_,rfl,gl,rfl,_,.inl (SqL.of B1.hg),?_⟩
 rw [List.length_map,B.len]
 refine ⟨by omega,by omega,fun D hD=>?_⟩
 rw [Int.toNat_natCast]
 refine zbK (fun i ys σ H2=>zaM H1 H2∧(∃ us:List Addr,ys=us.map V.ref∧us.length=i∧∀ (k:Nat) x,us[k]?=some x→x≠D∧H1 x=none∧H2 x=some (.lst (zfD (piv t r c) n k)))∧∃ z,σ=[z,some (.int r),some (.int c),some (.ref b)]) ⟨zai hD _,⟨[],rfl,rfl,fun k x e=>nomatch e⟩,_,rfl⟩ ?_ ?_
 ·rintro i ys σ H2 hi hD2 ⟨s2,⟨us,rfl,lu,hu⟩,z,rfl⟩
  have B2:=B1.same s2
  simp_all only [zac]
  rw [Int.zero_add]
  refine ⟨_,_,B2.hb,rfl,?_⟩
  refine ⟨_,_,_,_,_,_,_,_,_,_,_,i,r,c,rfl,B2,L,by omega,hr,hc,hp,fun l H3 s3 nl hl=>?_⟩
  have nlD:l≠D:=fun z=>by rw [z,hD2] at nl;cases nl
  refine ⟨_,s3 _ _ hD2,zbX (by rw [List.length_map];omega),_,zaf,(s2.trans s3).put hD,us++[l],by rw [List.map_append];rfl,by rw [List.length_append,lu];rfl,fun k x e=>?_⟩
  by_cases hk:k<us.length
  ·rw [List.getElem?_append_left hk] at e
   obtain ⟨z1,z0,z2⟩:=hu k x e
   exact ⟨z1,z0,by rw [zam z1];exact s3 _ _ z2⟩
  ·rw [List.getElem?_append_right (by omega)] at e
   have zk:k - us.length=0:=by
    have:=(List.getElem?_eq_some_iff.mp e).1
    simp only [List.length_cons,List.length_nil] at this
    omega
   rw [zk] at e
   cases e
   refine ⟨nlD,s2.free nl,?_⟩
   rw [zam nlD,show k=i by omega]
   exact hl
 ·rintro ys σ H2 hD2 ⟨s2,⟨us,rfl,lu,hu⟩,z,rfl⟩
  have B2:=B1.same s2
  refine ⟨_,_,B2.hb,show 5<1000 by decide,_,_,zaf,show 5<1000 by decide,?_⟩
  rw [zhT]
  have e2:zgk "scale" (V.int (t.g r c)) (zgk "grid" (V.ref D) [("grid",V.ref gl),("scale",V.int t.d),("idle",V.ref il),("busy",V.ref ul),("stuck",V.bl (decide (t.g r n=0)))])=([("grid",V.ref D),("scale",V.int (t.g r c)),("idle",V.ref il),("busy",V.ref ul),("stuck",V.bl (decide (t.g r n=0)))]:List (Str×V)):=rfl
  rw [e2]
  have nb2:∀ x xs,H2 x=some (.lst xs)→x≠b:=fun x xs e z=>by rw [z,B2.hb] at e;cases e
  have k3:∀ x o,x≠b→H2 x=some o→(L2.upd H2 b (.ins a.c_Board dx [("grid",V.ref D),("scale",V.int (t.g r c)),("idle",V.ref il),("busy",V.ref ul),("stuck",V.bl (decide (t.g r n=0)))])) x=some o:=fun x o nx e=>(zam nx).trans e
  have hb3:(L2.upd H2 b (.ins a.c_Board dx [("grid",V.ref D),("scale",V.int (t.g r c)),("idle",V.ref il),("busy",V.ref ul),("stuck",V.bl (decide (t.g r n=0)))])) b=some (.ins a.c_Board dx [("grid",V.ref D),("scale",V.int (t.g r c)),("idle",V.ref il),("busy",V.ref ul),("stuck",V.bl (decide (t.g r n=0)))]):=zaf
  generalize L2.upd H2 b (.ins a.c_Board dx [("grid",V.ref D),("scale",V.int (t.g r c)),("idle",V.ref il),("busy",V.ref ul),("stuck",V.bl (decide (t.g r n=0)))])=H3 at k3 hb3 ⊢
  have hi3:=k3 _ _ (nb2 _ _ B2.hi) B2.hi
  have hu3:=k3 _ _ (nb2 _ _ B2.hu) B2.hu
  have hD3:=k3 _ _ (nb2 _ _ hD2) hD2
  refine ⟨_,_,hb3,_,rfl,ul,rfl,_,SqL.of hu3,_,ziZ hr,?_⟩
  refine ⟨_,_,hb3,_,rfl,il,rfl,_,SqL.of hi3,_,ziZ hc,?_⟩
  refine ⟨_,_,hb3,_,rfl,ul,rfl,_,hu3,r,zgy (by rw [zdy];exact hr),?_⟩
  rw [zmM hr]
  have ub:ul≠b:=nb2 _ _ B2.hu
  have ib:il≠b:=nb2 _ _ B2.hi
  have hb4:(L2.upd H3 ul (.lst (nmL (zh6 t.bs r (t.id c)) m))) b=_:=(zam (Ne.symm ub)).trans hb3
  have hi4:(L2.upd H3 ul (.lst (nmL (zh6 t.bs r (t.id c)) m))) il=_:=(zam B.ne).trans hi3
  refine ⟨_,_,hb4,_,rfl,il,rfl,_,hi4,c,zgy (by rw [zdy];exact hc),?_⟩
  rw [zmM hc]
  refine q D us _ (fun x o n1 n2 n3 e=>?_) ⟨?_,?_,lu,fun k x e=>?_,zaf,?_,B.ne⟩
  ·rw [zam n2,zam n3]
   exact k3 _ _ n1 (s2 _ _ (k1 _ _ n1 e))
  ·rw [zam (Ne.symm ib)]
   exact hb4
  ·have h1:D≠il:=fun z=>by rw [z,B1.hi] at hD;cases hD
   have h2:D≠ul:=fun z=>by rw [z,B1.hu] at hD;cases hD
   rw [zam h1,zam h2]
   exact hD3
  ·obtain ⟨z1,z0,z2⟩:=hu k x e
   have h1:x≠il:=fun z=>by rw [z,B1.hi] at z0;cases z0
   have h2:x≠ul:=fun z=>by rw [z,B1.hu] at z0;cases z0
   rw [zam h1,zam h2]
   exact k3 _ _ (nb2 _ _ z2) z2
  ·rw [zam (Ne.symm B.ne)]
   exact zaf
theorem zd2:zaI ["self","row","column","pivot","name"] ["self","row","column"] (zah zdw):=⟨rfl,rfl,rfl,by decide +kernel,rfl,by decide +kernel,by decide +kernel⟩
theorem zh3 (T:Txt K mg base a):zcQ P w K mg base CX0 2 a.f_Board_swap a.d_Board_swap ["self","row","column"] (zkl a.c_Board):=by
 have G_Board_swapped_row:=zeE (P:=P) (w:=w) (base:=base) T
 refine T.F_Board_swap.ok zd2 (fun vs H Q E h=>?_) (fun cdv A outer s H vs Q E hr h=>?_)
 ·obtain ⟨b,dx,gl,il,ul,rows,α,m,n,t,s,r,c,rfl,B,L,hr1,hc,hp,q⟩:=h
  rfl
 obtain ⟨b,dx,gl,il,ul,rows,α,m,n,t,s,r,c,rfl,B,L,hr1,hc,hp,q⟩:=h
 exact ⟨zeo K a,(zad (zaK (i:=3) zd2.nd rfl (Or.inl rfl) (zaD zap (zaD zap (zca T.cl_Board T.na_Board_grid (pv 0)) (pv 1) (fun _ _=>rfl)) (pv 2) (fun _ _=>rfl)))
 (zad (ziv T.cl_Board T.na_Board_stuck (pv 0) (zdo zjo (zaD zap (zaD zap (zca T.cl_Board T.na_Board_grid (pv 0)) (pv 1) (fun _ _=>rfl)) (zeQ zdg zag) (fun _ _=>rfl)) zag (zaS _)))
 (zad (ziv T.cl_Board T.na_Board_grid (pv 0) (zbP (sc:=zah zdw) (N:=["self","row","column","pivot","name"]) (Nc:=["k","row","column","self"]) (cap:=[none,some 1,some 2,some 0]) rfl rfl rfl (.of (by decide +kernel)) (zbq rfl T.z_range (zaa (zal zao rfl T.z_len PySem.boot_len (zaa (zca T.cl_Board T.na_Board_grid (pv 0)) zae)) zae)) (fun _ _ _ _=>(zaH (i:=0) (show List.Nodup (["k","row","column","self"]:List Str) from by decide) rfl (Or.inl rfl))) (fun _ _ _ _=>zbn) (fun _ _ _ _=>(ze1 (pv 3) T.cl_Board T.M_Board_swapped_row G_Board_swapped_row (hr.mono (by decide)) T.b_Board_swapped_row .nil za2 (zaa (pv 0) (zaa (pv 1) (zaa (pv 2) zae)))))))
 (zad (ziv T.cl_Board T.na_Board_scale (pv 0) (pv 3))
 (zad (zaK (i:=4) zd2.nd rfl (Or.inl rfl) (zaD zap (zca T.cl_Board T.na_Board_busy (pv 0)) (pv 1) (fun _ _=>rfl)))
 (zad (zeM (zaD zap (zca T.cl_Board T.na_Board_idle (pv 0)) (pv 2) (fun _ _=>rfl)) (zfb (zca T.cl_Board T.na_Board_busy (pv 0)) (pv 1) zc9))
 (zaj (zeM (pv 4) (zfb (zca T.cl_Board T.na_Board_idle (pv 0)) (pv 2) zc9))))))))),
  zh8 B L hr1 hc hp q⟩
def zcR (K:PySem.W.Frag) (a:Ad):TS :=
 (zaN (sAt a.c_Board (zac 0) (zac 1) "grid")
 (zaN (sAt a.c_Board (zac 0) (tC (.int 1)) "scale")
 (zaN (sAt a.c_Board (zac 0) (tCB zid (zab (znT (zab (tOp (rI0 fun i j=>.int (i - j)) (tCB (fun xs H Q=>∃ p ys,xs=[.ref p]∧(SqL K H p ys∨SqT K H p ys)∧Q (.int ys.length) H) (zab (tOp (zba K) (zac 1) (tC (.int 0))) zan)) (tC (.int 1))) zan)) zan)) "idle")
 (zaN (sAt a.c_Board (zac 0) (zbH (zdf (zab (tOp (rI0 fun i j=>.int (i - j)) (tCB (fun xs H Q=>∃ p ys,xs=[.ref p]∧(SqL K H p ys∨SqT K H p ys)∧Q (.int ys.length) H) (zab (zac 1) zan)) (tC (.int 1))) zan)) (zak 0) zaP (tOp (rI0 fun i j=>.int (i+j)) (tCB (fun xs H Q=>∃ p ys,xs=[.ref p]∧(SqL K H p ys∨SqT K H p ys)∧Q (.int ys.length) H) (zab (tAt a.c_Board (zac 1) "idle") zan)) (zac 0)) [none,some 0]) "busy")
 (sAt a.c_Board (zac 0) (tC (.bl false)) "stuck")))))
theorem zfz {b dx gl:Addr} {rows:List Addr} {m n:Nat} {t:Sx} (hb:H b=some (.ins a.c_Board dx [])) (G:Grd H gl rows m n t) (m12:m≤12) (n12:n≤12) (td:t.d=1) (ti:t.id=(fun c=>if c<n then c else n+m+1)) (tb:t.bs=(fun k=>n+k))
  (q:∀ (il ul:Addr) (H':Hp),(∀ x o,x≠b→H x=some o→H' x=some o)→H il=none→H ul=none→Brd H' a.c_Board b dx gl il ul rows m n t false→Q .non H') :
  zcR K a { nx:=fun _ H'=>Q .non H',rt:=Q } (L2.zbg ["self","grid"] [.ref b,.ref gl]) H:=by
 unfold zcR
 have nb:∀ x xs,H x=some (.lst xs)→x≠b:=fun x xs e z=>by rw [z,hb] at e;cases e
 simp_all only [zac]
 refine ⟨_,_,hb,show 0<1000 by decide,_,_,zaf,show 1<1000 by decide,?_⟩
 rw [zhT]
 have k1:∀ x o,x≠b→H x=some o→(L2.upd H b (.ins a.c_Board dx [("grid",V.ref gl),("scale",V.int 1)])) x=some o:=fun x o nx e=>(zam nx).trans e
 have hb1:(L2.upd H b (.ins a.c_Board dx [("grid",V.ref gl),("scale",V.int 1)])) b=some (.ins a.c_Board dx [("grid",V.ref gl),("scale",V.int 1)]):=zaf
 have e1:zgk "scale" (V.int 1) (zgk "grid" (V.ref gl) [])=([("grid",V.ref gl),("scale",V.int 1)]:List (Str×V)):=rfl
 rw [e1]
 have f1:∀ x,(L2.upd H b (.ins a.c_Board dx [("grid",V.ref gl),("scale",V.int 1)])) x=none→H x=none:=fun x e=>by
  by_cases z:x=b
  ·rw [z,zaf] at e;cases e
  ·rwa [zam z] at e
 generalize L2.upd H b (.ins a.c_Board dx [("grid",V.ref gl),("scale",V.int 1)])=H1 at k1 hb1 f1 ⊢
 have l0:0<rows.length:=by rw [G.len];omega
 have g1:=k1 _ _ (nb _ _ G.hg) G.hg
 have r0:=G.row 0 rows[0] (List.getElem?_eq_getElem l0)
 have r1:=k1 _ _ (nb _ _ r0) r0
 refine ⟨_,SqL.of g1,_,zbD (j:=0) (by rw [List.getElem?_map,List.getElem?_eq_getElem l0];rfl),rows[0],rfl,_,.inl (SqL.of r1),?_⟩
 rw [zgm]
 refine ⟨by omega,by omega,fun p hp=>⟨_,_,zaf,by decide,by decide,by omega,by omega,by omega,fun il hil=>?_⟩⟩
 have ep:((List.range (((n+1:Nat):Int) - 1 - 0).toNat).map fun k:Nat=>V.int (0+(k:Int)))=nmL t.id n:=by
  rw [show (((n+1:Nat):Int) - 1 - 0).toNat=n by omega,nmL,ti]
  refine List.map_congr_left fun k hk=>?_
  show V.int (0+(k:Int))=V.int ((if k<n then k else n+m+1:Nat):Int)
  rw [if_pos (List.mem_range.mp hk),Int.zero_add]
 rw [ep]
 have s2:=(zai hp (.rng 0 (((n+1:Nat):Int) - 1))).trans (zai hil (.lst (nmL t.id n)))
 have f2:∀ x,(L2.upd (L2.upd H1 p (.rng 0 (((n+1:Nat):Int) - 1))) il (.lst (nmL t.id n))) x=none→H1 x=none:=fun x e=>s2.free e
 have hi2:(L2.upd (L2.upd H1 p (.rng 0 (((n+1:Nat):Int) - 1))) il (.lst (nmL t.id n))) il=some (.lst (nmL t.id n)):=zaf
 have ni:H1 il=none:=(zai hp _).free hil
 generalize L2.upd (L2.upd H1 p (.rng 0 (((n+1:Nat):Int) - 1))) il (.lst (nmL t.id n))=H2 at s2 f2 hi2 ⊢
 refine ⟨_,_,s2 _ _ hb1,show 2<1000 by decide,?_⟩
 have ib:il≠b:=fun z=>by rw [z,hb1] at ni;cases ni
 have e2:zgk "idle" (V.ref il) [("grid",V.ref gl),("scale",V.int 1)]=([("grid",V.ref gl),("scale",V.int 1),("idle",V.ref il)]:List (Str×V)):=rfl
 rw [e2]
 have k3:∀ x o,x≠b→H2 x=some o→(L2.upd H2 b (.ins a.c_Board dx [("grid",V.ref gl),("scale",V.int 1),("idle",V.ref il)])) x=some o:=fun x o nx e=>(zam nx).trans e
 have hb3:(L2.upd H2 b (.ins a.c_Board dx [("grid",V.ref gl),("scale",V.int 1),("idle",V.ref il)])) b=some (.ins a.c_Board dx [("grid",V.ref gl),("scale",V.int 1),("idle",V.ref il)]):=zaf
 have f3:∀ x,(L2.upd H2 b (.ins a.c_Board dx [("grid",V.ref gl),("scale",V.int 1),("idle",V.ref il)])) x=none→H2 x=none:=fun x e=>by
  by_cases z:x=b
  ·rw [z,zaf] at e;cases e
  ·rwa [zam z] at e
 generalize L2.upd H2 b (.ins a.c_Board dx [("grid",V.ref gl),("scale",V.int 1),("idle",V.ref il)])=H3 at k3 hb3 f3 ⊢
 have g3:=k3 _ _ (nb _ _ G.hg) (s2 _ _ g1)
 refine ⟨_,.inl (SqL.of g3),?_⟩
 rw [List.length_map,G.len]
 refine ⟨by omega,by omega,fun D hD=>?_⟩
 rw [show (((m+1:Nat):Int) - 1).toNat=m by omega]
 have hi3:=k3 _ _ ib hi2
 refine zbK (fun i ys σ H'=>zaM H3 H'∧ys=nmL t.bs i∧∃ z,σ=[z,some (.ref b)]) ⟨zai hD _,rfl,_,rfl⟩ ?_ ?_
 ·rintro i ys σ H' hi hD' ⟨s',rfl,z,rfl⟩
  simp_all only [zac]
  refine ⟨_,_,s' _ _ hb3,_,rfl,il,rfl,_,.inl (SqL.of (s' _ _ hi3)),_,hD',zbX (by rw [zdy];omega),_,zaf,s'.put hD,?_⟩
  rw [zdy,nmL,nmL,List.range_succ,List.map_append,tb,Int.zero_add]
  rfl
 ·rintro ys σ H' hD' ⟨s',rfl,z,rfl⟩
  refine ⟨_,_,s' _ _ hb3,show 3<1000 by decide,_,_,zaf,show 4<1000 by decide,?_⟩
  rw [zhT]
  have e4:zgk "stuck" (V.bl false) (zgk "busy" (V.ref D) [("grid",V.ref gl),("scale",V.int 1),("idle",V.ref il)])=([("grid",V.ref gl),("scale",V.int 1),("idle",V.ref il),("busy",V.ref D),("stuck",V.bl false)]:List (Str×V)):=rfl
  rw [e4]
  have ne:il≠D:=fun z=>by rw [← z,hi3] at hD;cases hD
  have nD:D≠b:=fun z=>by rw [z,hb3] at hD;cases hD
  have kk:∀ x o,x≠b→H x=some o→(L2.upd H' b (.ins a.c_Board dx [("grid",V.ref gl),("scale",V.int 1),("idle",V.ref il),("busy",V.ref D),("stuck",V.bl false)])) x=some o:=fun x o nx e=>(zam nx).trans (s' _ _ (k3 _ _ nx (s2 _ _ (k1 _ _ nx e))))
  refine q il D _ kk (f1 _ ni) (f1 _ (f2 _ (f3 _ hD))) ⟨by rw [td];exact zaf,kk _ _ (nb _ _ G.hg) G.hg,G.len,fun k x e=>kk _ _ (nb _ _ (G.row k x e)) (G.row k x e),(zam ib).trans (s' _ _ hi3),(zam nD).trans hD',ne⟩
theorem zfu:zaI ["self","grid"] ["self","grid"] (zah zci):=⟨rfl,rfl,rfl,by decide +kernel,rfl,by decide +kernel,by decide +kernel⟩
theorem zfH (T:Txt K mg base a):zcQ P w K mg base CX0 1 a.f_Board___init__ a.d_Board___init__ ["self","grid"] (zkI a.c_Board):=by
 refine T.F_Board___init__.ok zfu (fun vs H Q E h=>?_) (fun cdv A outer s H vs Q E hr h=>?_)
 ·obtain ⟨b,dx,gl,rows,m,n,t,rfl,hb,G,m12,n12,td,ti,tb,q⟩:=h
  rfl
 obtain ⟨b,dx,gl,rows,m,n,t,rfl,hb,G,m12,n12,td,ti,tb,q⟩:=h
 exact ⟨zcR K a,(zad (ziv T.cl_Board T.na_Board_grid (pv 0) (pv 1))
 (zad (ziv T.cl_Board T.na_Board_scale (pv 0) zag)
 (zad (ziv T.cl_Board T.na_Board_idle (pv 0) (zez (zhU rfl) rfl T.z_list zcu (zaa (zoa rfl T.z_range (zaa (zaO zf2 (zal zao rfl T.z_len PySem.boot_len (zaa (zaD zap (pv 1) zag (fun _ _=>rfl)) zae)) zag) zae)) zae)))
 (zad (ziv T.cl_Board T.na_Board_busy (pv 0) (zbP (sc:=zah zci) (N:=["self","grid"]) (Nc:=["k","self"]) (cap:=[none,some 0]) rfl rfl rfl (.of (by decide +kernel)) (zbq rfl T.z_range (zaa (zaO zf2 (zal zao rfl T.z_len PySem.boot_len (zaa (pv 1) zae)) zag) zae)) (fun _ _ _ _=>(zaH (i:=0) (show List.Nodup (["k","self"]:List Str) from by decide) rfl (Or.inl rfl))) (fun _ _ _ _=>zbn) (fun _ _ _ _=>(zaO zeq (zal zao rfl T.z_len PySem.boot_len (zaa (zca T.cl_Board T.na_Board_idle (pv 1)) zae)) (pv 0)))))
 (zaj (ziv T.cl_Board T.na_Board_stuck (pv 0) zgX)))))),
  zfz hb G m12 n12 td ti tb q⟩
def aOf (rows:List (List Int)) (lift:Int) (i j:Nat):Int:=(rows.getD i []).getD j 0+lift
theorem zo8 {rows:List (List Int)} {lift:Int} {w j:Nat} (h:j<w):zfD (sx0 (aOf rows lift) w rows.length) rows.length j=(rows.map fun row=>V.int (row.getD j 0+lift))++[V.int 1]:=by
 rw [zfD,List.range_succ,List.map_append]
 congr 1
 ·refine List.ext_getElem? fun i=>?_
  rw [List.getElem?_map,List.getElem?_map]
  by_cases hi:i<rows.length
  ·rw [List.getElem?_range hi,List.getElem?_eq_getElem hi,Option.map_some,Option.map_some]
   show some (V.int (if j<w then (if i<rows.length then aOf rows lift i j else 1) else _))=_
   rw [if_pos h,if_pos hi,aOf,show rows.getD i []=rows[i] from by rw [List.getD_eq_getElem?_getD,List.getElem?_eq_getElem hi];rfl]
  ·rw [List.getElem?_eq_none (by rw [List.length_range];omega),List.getElem?_eq_none (by omega)]
   rfl
 ·show [V.int (if j<w then (if rows.length<rows.length then _ else 1) else _)]=_
  rw [if_pos h,if_neg (Nat.lt_irrefl _)]
theorem zob {rows:List (List Int)} {lift:Int} {w:Nat}:zfD (sx0 (aOf rows lift) w rows.length) rows.length w=(rows.map fun _=>V.int (-1))++[V.int 0]:=by
 rw [zfD,List.range_succ,List.map_append]
 congr 1
 ·refine List.ext_getElem? fun i=>?_
  rw [List.getElem?_map,List.getElem?_map]
  by_cases hi:i<rows.length
  ·rw [List.getElem?_range hi,List.getElem?_eq_getElem hi,Option.map_some,Option.map_some]
   show some (V.int (if w<w then _ else if i<rows.length then -1 else 0))=_
   rw [if_neg (Nat.lt_irrefl w),if_pos hi]
  ·rw [List.getElem?_eq_none (by rw [List.length_range];omega),List.getElem?_eq_none (by omega)]
   rfl
 ·show [V.int (if w<w then _ else if rows.length<rows.length then -1 else 0)]=_
  rw [if_neg (Nat.lt_irrefl w),if_neg (Nat.lt_irrefl _)]
def zkT:Sp:=fun vs H Q _=>∃ (tt:Addr) (rs:List Addr) (rows:List (List Int)) (w:Nat) (lift:Int),vs=[.ref tt,.int lift]∧Tb H tt rs rows w ∧
 ∀ (gl:Addr) (us:List Addr) (H':Hp),zaM H H'→Grd H' gl us w rows.length (sx0 (aOf rows lift) w rows.length)→Q (.ref gl) H'
def zew (K:PySem.W.Frag):TS :=
 (zaN (za9 (zbH (zdf (zab (tCB (fun xs H Q=>∃ p ys,xs=[.ref p]∧(SqL K H p ys∨SqT K H p ys)∧Q (.int ys.length) H) (zab (tOp (zba K) (zac 0) (tC (.int 0))) zan)) zan)) (zak 0) zaP (tOp zmQ (zbH (zdG K (zac 2)) (zak 0) zaP (tOp (rI0 fun i j=>.int (i+j)) (tOp (zba K) (zac 0) (zac 2)) (zac 1)) [none,some 1,some 0]) (zgx (zab (tC (.int 1)) zan))) [none,some 1,some 0]) (zak 2))
 (zbi (tOp zmQ (zac 2) (zgx (zab (tOp zmQ (zbH (zdG K (zac 0)) (zak 0) zaP (tUn (rU fun i=>.int (-i)) (tC (.int 1))) [none]) (zgx (zab (tC (.int 0)) zan))) zan)))))
theorem zhQ {tt:Addr} {rs:List Addr} {rows:List (List Int)} {w:Nat} {lift:Int} (B:Tb H tt rs rows w) (q:∀ (gl:Addr) (us:List Addr) (H':Hp),zaM H H'→Grd H' gl us w rows.length (sx0 (aOf rows lift) w rows.length)→Q (.ref gl) H') :
  zew K { nx:=fun _ H'=>Q .non H',rt:=Q } (L2.zbg ["table","lift","grid"] [.ref tt,.int lift]) H:=by
 unfold zew
 have l12:=B.l6
 have w12:=B.w6
 have ln:=B.len
 obtain ⟨r0,row0,a0,h0,w0⟩:=B.first
 simp_all only [zac]
 refine ⟨_,SqL.of B.ht,_,a0,r0,rfl,_,.inl (SqL.of h0),?_⟩
 rw [List.length_map,w0]
 refine ⟨by omega,by omega,fun D hD=>?_⟩
 rw [Int.toNat_natCast]
 refine zbK (fun i ys σ H'=>zaM H H'∧(∃ us:List Addr,ys=us.map V.ref∧us.length=i∧∀ (k:Nat) x,us[k]?=some x→x≠D∧H' x=some (.lst (zfD (sx0 (aOf rows lift) w rows.length) rows.length k)))∧∃ z,σ=[z,some (.int lift),some (.ref tt)]) ⟨zai hD _,⟨[],rfl,rfl,fun k x e=>nomatch e⟩,_,rfl⟩ ?_ ?_
 ·rintro i ys σ H2 hi hD2 ⟨s2,⟨us,rfl,lu,hu⟩,z,rfl⟩
  have B2:=B.same s2
  simp_all only [zac]
  refine ⟨⟨_,SqL.of B2.ht⟩,fun F hF=>?_⟩
  have lq:(rows.map fun row=>V.int (row.getD i 0+lift)).length=(rs.map V.ref).length:=by rw [List.length_map,List.length_map,ln]
  refine zdb B2.ht lq (by rw [List.length_map];omega) hF (fun j x v H3 R hx hv s3 hR=>?_) fun H3 s3 hF3=>?_
  ·obtain ⟨r,hr,rfl⟩:=zbS hx
   obtain ⟨row,e1,e2,e3⟩:=(B2.same s3).at hr
   rw [List.getElem?_map,e1] at hv
   cases hv
   simp_all only [zac]
   rw [Int.zero_add]
   refine ⟨_,SqL.of e2,_,zbD (by rw [List.getElem?_map,List.getElem?_eq_getElem (by omega)];rfl),_,rfl,?_⟩
   have:row[i]'(by omega)=row.getD i 0:=by rw [List.getD_eq_getElem?_getD,List.getElem?_eq_getElem (by omega)];rfl
   rw [this]
   exact hR H3 (.refl _)
  ·refine ⟨by decide,fun p hp=>?_⟩
   have nF:F≠p:=fun z=>by rw [← z,hF3] at hp;cases hp
   refine ⟨F,rfl,_,(zam nF).trans hF3,_,zaf,by rw [List.length_map];simp only [sizeLine,List.length_cons,List.length_nil];omega,fun x hx=>?_⟩
   rw [← zo8 hi]
   have s4:zaM H2 (L2.upd (L2.upd H3 p (.lst [V.int 1])) x (.lst (zfD (sx0 (aOf rows lift) w rows.length) rows.length i))):=s3.trans ((zai hp _).trans (zai hx _))
   have hx4:(L2.upd (L2.upd H3 p (.lst [V.int 1])) x (.lst (zfD (sx0 (aOf rows lift) w rows.length) rows.length i))) x=some (.lst (zfD (sx0 (aOf rows lift) w rows.length) rows.length i)):=zaf
   have nx:H2 x=none:=s3.free ((zai hp _).free hx)
   generalize L2.upd (L2.upd H3 p (.lst [V.int 1])) x (.lst (zfD (sx0 (aOf rows lift) w rows.length) rows.length i))=H4 at s4 hx4 ⊢
   have nxD:x≠D:=fun z=>by rw [z,hD2] at nx;cases nx
   refine ⟨_,s4 _ _ hD2,zbX (by rw [List.length_map];omega),_,zaf,(s2.trans s4).put hD,us++[x],by rw [List.map_append];rfl,by rw [List.length_append,lu];rfl,fun k y e=>?_⟩
   by_cases hk:k<us.length
   ·rw [List.getElem?_append_left hk] at e
    obtain ⟨z1,z2⟩:=hu k y e
    exact ⟨z1,by rw [zam z1];exact s4 _ _ z2⟩
   ·rw [List.getElem?_append_right (by omega)] at e
    have zk:k - us.length=0:=by
     have:=(List.getElem?_eq_some_iff.mp e).1
     simp only [List.length_cons,List.length_nil] at this
     omega
    rw [zk] at e
    cases e
    refine ⟨nxD,?_⟩
    rw [zam nxD,show k=i by omega]
    exact hx4
 ·rintro ys σ H2 hD2 ⟨s2,⟨us,rfl,lu,hu⟩,z,rfl⟩
  have B2:=B.same s2
  simp_all only [zac]
  refine ⟨⟨_,SqL.of B2.ht⟩,fun F hF=>?_⟩
  have lq:(rows.map fun _=>V.int (-1)).length=(rs.map V.ref).length:=by rw [List.length_map,List.length_map,ln]
  refine zdb B2.ht lq (by rw [List.length_map];omega) hF (fun j x v H3 R hx hv s3 hR=>?_) fun H3 s3 hF3=>?_
  ·rw [List.getElem?_map] at hv
   cases e:rows[j]? with
   | none=>rw [e] at hv;cases hv
   | some y =>
    rw [e] at hv
    cases hv
    simp_all only [zac]
    exact hR H3 (.refl _)
  ·refine ⟨by decide,fun p hp=>?_⟩
   have nF:F≠p:=fun z=>by rw [← z,hF3] at hp;cases hp
   refine ⟨F,rfl,_,(zam nF).trans hF3,_,zaf,by rw [List.length_map];simp only [sizeLine,List.length_cons,List.length_nil];omega,fun x hx=>?_⟩
   rw [← zob (lift:=lift) (w:=w)]
   have s4:zaM H2 (L2.upd (L2.upd H3 p (.lst [V.int 0])) x (.lst (zfD (sx0 (aOf rows lift) w rows.length) rows.length w))):=s3.trans ((zai hp _).trans (zai hx _))
   have hx4:(L2.upd (L2.upd H3 p (.lst [V.int 0])) x (.lst (zfD (sx0 (aOf rows lift) w rows.length) rows.length w))) x=some (.lst (zfD (sx0 (aOf rows lift) w rows.length) rows.length w)):=zaf
   generalize L2.upd (L2.upd H3 p (.lst [V.int 0])) x (.lst (zfD (sx0 (aOf rows lift) w rows.length) rows.length w))=H4 at s4 hx4 ⊢
   refine ⟨by decide,fun y hy=>?_⟩
   have s5:=zai hy (.lst [V.ref x])
   refine ⟨_,s5 _ _ (s4 _ _ hD2),_,zaf,by rw [List.length_map];simp only [sizeLine,List.length_cons,List.length_nil];omega,fun g hg=>?_⟩
   have s6:=s5.trans (zai hg (.lst (us.map V.ref++[V.ref x])))
   refine q g (us++[x]) _ (s2.trans (s4.trans s6)) ⟨?_,by rw [List.length_append,lu];rfl,fun k v e=>?_⟩
   ·rw [zaf,List.map_append]
    rfl
   ·by_cases hk:k<us.length
    ·rw [List.getElem?_append_left hk] at e
     exact s6 _ _ (s4 _ _ (hu k v e).2)
    ·rw [List.getElem?_append_right (by omega)] at e
     have zk:k - us.length=0:=by
      have:=(List.getElem?_eq_some_iff.mp e).1
      simp only [List.length_cons,List.length_nil] at this
      omega
     rw [zk] at e
     cases e
     rw [show k=w by omega]
     exact s6 _ _ hx4
theorem zfa:zaI ["table","lift","grid"] ["table","lift"] (zah zcp):=⟨rfl,rfl,rfl,by decide +kernel,rfl,by decide +kernel,by decide +kernel⟩
theorem zih (T:Txt K mg base a):zcQ P w K mg base CX0 1 a.f_first_grid a.d_first_grid ["table","lift"] zkT:=by
 refine T.F_first_grid.ok zfa (fun vs H Q E h=>?_) (fun cdv A outer s H vs Q E hr h=>?_)
 ·obtain ⟨tt,rs,rows,w,lift,rfl,B,q⟩:=h
  rfl
 obtain ⟨tt,rs,rows,w,lift,rfl,B,q⟩:=h
 exact ⟨zew K,(zad (zjr (i:=2) zfa.nd rfl rfl (sc:=zah zcp) (N:=["table","lift","grid"]) (Nc:=["j","lift","table"]) (cap:=[none,some 1,some 0]) rfl rfl rfl (.of (by decide +kernel)) (zbq rfl T.z_range (zaa (zal zao rfl T.z_len PySem.boot_len (zaa (zaD zap (pv 0) zag (fun _ _=>rfl)) zae)) zae)) (fun _ _ _ _=>(zaH (i:=0) (show List.Nodup (["j","lift","table"]:List Str) from by decide) rfl (Or.inr rfl))) (fun _ _ _ _=>zbn) (fun _ _ _ _=>(zaO ziH (zbP (N:=["j","lift","table"]) (Nc:=["row","lift","j"]) (cap:=[none,some 1,some 0]) rfl (zlh.trans (congrArg (ze8 _) (rfl:_=zah zcp))) rfl (.of (by decide +kernel)) (zco (pv 2)) (fun _ _ _ _=>(zaH (i:=0) (show List.Nodup (["row","lift","j"]:List Str) from by decide) rfl (Or.inl rfl))) (fun _ _ _ _=>zbn) (fun _ _ _ _=>(zaO zeq (zaD zap (pv 0) (pv 2) (fun _ _=>rfl)) (pv 1)))) (zc6 (zaa zag zae)))))
 (zaj (zaG (zaO ziH (pv 2) (zc6 (zaa (zaO ziH (zbP (sc:=zah zcp) (N:=["table","lift","grid"]) (Nc:=["row"]) (cap:=[none]) rfl rfl rfl (.of (by decide +kernel)) (zco (pv 0)) (fun _ _ _ _=>(zaH (i:=0) (show List.Nodup (["row"]:List Str) from by decide) rfl (Or.inl rfl))) (fun _ _ _ _=>zbn) (fun _ _ _ _=>(zeQ zdg zag))) (zc6 (zaa zag zae))) zae)))))),
  zhQ B q⟩
def Lst (f:Nat→Int) (n:Nat):List Int:=(List.range n).map f
structure Low (f:Nat→Int) (n:Nat) (ws:List Int) (g:Int):Prop where
 pos:0<g
 len:ws.length=n
 at':∀ i,i<n→f i=g*ws.getD i 0
theorem zni {f:Nat→Int} {n:Nat} {g:Int} (G:zg7 (Lst f n) g) {i:Nat} (hi:i<n) (n0:f i≠0):Low f n ((Lst f n).map fun x=>x.fdiv g) g:=by
 have mem:∀ j,j<n→f j∈Lst f n:=fun j hj=>List.mem_map.mpr ⟨j,List.mem_range.mpr hj,rfl⟩
 have p:=G.ne (mem i hi) n0
 refine ⟨p,by rw [List.length_map,Lst,List.length_map,List.length_range],fun j hj=>?_⟩
 rw [List.getD_eq_getElem?_getD,List.getElem?_map,Lst,List.getElem?_map,List.getElem?_range hj]
 show f j=g*(f j).fdiv g
 obtain ⟨d,hd⟩:=G.all _ (mem j hj)
 rw [hd,Int.mul_fdiv_cancel_left _ (by omega)]
theorem zk8 {f:Nat→Int} {n j:Nat} {x:Int} (h:j<n):((Lst f n).map V.int).set j (.int x)=(Lst (fun i=>if i=j then x else f i) n).map V.int:=by
 unfold Lst
 rw [List.map_map,List.map_map]
 refine List.ext_getElem? fun i=>?_
 rw [List.getElem?_set,List.getElem?_map,List.getElem?_map]
 by_cases hi:i<n
 ·rw [List.getElem?_range hi]
  by_cases e:j=i
  ·subst e
   rw [if_pos rfl,if_pos (by rw [List.length_map,List.length_range];exact h),Option.map_some]
   show _=some (V.int (if j=j then x else f j))
   rw [if_pos rfl]
  ·rw [if_neg e,Option.map_some,Option.map_some]
   show some (V.int (f i))=some (V.int (if i=j then x else f i))
   rw [if_neg (Ne.symm e)]
 ·rw [if_neg (by omega),List.getElem?_eq_none (by rw [List.length_range];omega)]
  rfl
def zkB (C:Addr):Sp:=fun vs H Q _=>∃ (b dx gl il ul:Addr) (rows:List Addr) (α:Nat→Nat→Int) (m n:Nat) (t:Sx) (s:Bool),vs=[.ref b,.int n]∧Brd H C b dx gl il ul rows m n t s∧LP α m n t∧zi0 m n t ∧
 ∀ (l:Addr) (ws:List Int) (g:Int) (H':Hp),zaM H H'→H l=none→H' l=some (.lst (ws.map V.int))→Low (xw m n t) n ws g∧zg7 (Lst (xw m n t) n) g∧ws=(Lst (xw m n t) n).map (fun x=>x.fdiv g)→Q (.ref l) H'
def zeu (K:PySem.W.Frag) (a:Ad):TS :=
 (zcn (zaQ (tOp (rI0 fun i j=>.bl (decide (i<j))) (zac 4) (zac 1))) (za9 (tOp (zba K) (tOp (zba K) (tAt a.c_Board (zac 0) "grid") (zac 3)) (tUn (rU fun i=>.int (-i)) (tC (.int 1)))) (ziJ (zac 2) (zac 4) zei)) zaV)
theorem zby (K:PySem.W.Frag) (a:Ad) (D:zce) (σ:St) (H:Hp):zeu K a D σ H=(zcn (zaQ (tOp (rI0 fun i j=>.bl (decide (i<j))) (zac 4) (zac 1))) (za9 (tOp (zba K) (tOp (zba K) (tAt a.c_Board (zac 0) "grid") (zac 3)) (tUn (rU fun i=>.int (-i)) (tC (.int 1)))) (ziJ (zac 2) (zac 4) zei)) zaV) D σ H:=rfl
def zdZ (K:PySem.W.Frag) (a:Ad):TS :=
 (zaN (za9 (zbH (zdf (zab (zac 1) zan)) (zak 0) zaP (tC (.int 0)) [none]) (zak 2))
 (zaN (zjd (zj4 K (zab (tAt a.c_Board (zac 0) "busy") zan)) (zli K 2 (zdO (zak 3) (zdO (zak 4) zk6)))
 (zeu K a))
 (zbi (zaJ zif [] E0 (zab (zac 2) zan)))))
theorem zhe {b dx gl il ul:Addr} {rows:List Addr} {α:Nat→Nat→Int} {m n:Nat} {t:Sx} {s:Bool} (B:Brd H a.c_Board b dx gl il ul rows m n t s) (L:LP α m n t) (Dn:zi0 m n t)
  (q:∀ (l:Addr) (ws:List Int) (g:Int) (H':Hp),zaM H H'→H l=none→H' l=some (.lst (ws.map V.int))→Low (xw m n t) n ws g∧zg7 (Lst (xw m n t) n) g∧ws=(Lst (xw m n t) n).map (fun x=>x.fdiv g)→Q (.ref l) H') :
  zdZ K a { nx:=fun _ H'=>Q .non H',rt:=Q } (L2.zbg ["board","many","weights","k","name"] [.ref b,.int n]) H:=by
 unfold zdZ
 have m12:=L.m12
 have n12:=L.n12
 simp_all only [zby,zac]
 refine ⟨by omega,by omega,fun D hD=>?_⟩
 rw [Int.toNat_natCast]
 refine zbK (fun i ys σ H'=>zaM H H'∧ys=(Lst (fun _=>0) i).map V.int∧∃ z,σ=[z]) ⟨zai hD _,rfl,_,rfl⟩ ?_ ?_
 ·rintro i ys σ H' hi hD' ⟨s',rfl,z,rfl⟩
  simp_all only [zby,zac]
  refine ⟨_,hD',zbX (by rw [List.length_map,Lst,List.length_map,List.length_range];omega),_,zaf,s'.put hD,?_⟩
  rw [Lst,Lst,List.range_succ,List.map_append,List.map_append]
  rfl
 ·rintro ys σ H1 hD1 ⟨s1,rfl,z,rfl⟩
  have B1:=B.same s1
  refine ⟨_,_,B1.hb,_,rfl,ul,rfl,⟨_,SqL.of B1.hu⟩,?_⟩
  refine zfc (K:=K) (xs:=nmL t.bs m) (fun i σ H'=>zaM H H'∧H' D=some (.lst ((Lst (fun j=>S i fun k=>if t.bs k=j then t.g k n else 0) n).map V.int))∧∃ x y,σ=[some (.ref b),some (.int n),some (.ref D),x,y]) ⟨s1,hD1,_,_,rfl⟩ ?_ ?_ ?_
  ·rintro i σ H' _ ⟨s',_⟩
   exact SqL.of (B.same s').hu
  ·rintro i v tp σ H2 hx ⟨s2,hD2,x,y,rfl⟩ ht
   have hi:i<m:=by
    have:=(List.getElem?_eq_some_iff.mp hx).1
    rwa [zdy] at this
   rw [zja hi] at hx
   cases hx
   have ntD:D≠tp:=fun z=>by rw [← z,hD2] at ht;cases ht
   have s3:=s2.trans (zai ht (.tup [V.int (i:Int),V.int (t.bs i:Int)]))
   have hD3:=(zai ht (.tup [V.int (i:Int),V.int (t.bs i:Int)])) _ _ hD2
   have ht3:(L2.upd H2 tp (.tup [V.int (i:Int),V.int (t.bs i:Int)])) tp=some (.tup [V.int (i:Int),V.int (t.bs i:Int)]):=zaf
   generalize L2.upd H2 tp (.tup [V.int (i:Int),V.int (t.bs i:Int)])=H3 at s3 hD3 ht3 ⊢
   have B3:=B.same s3
   obtain ⟨ri,_,h1,h2⟩:=B3.rowAt (k:=i) (by omega)
   simp_all only [zby,zac]
   refine ⟨_,SqT.of ht3,rfl,_,_,rfl,_,_,rfl,rfl,?_⟩
   simp_all only [zby,zac]
   refine zea (fun c=>?_) (fun c=>?_)
   ·have c:t.bs i<n:=by omega
    refine ⟨_,_,B3.hb,_,rfl,gl,rfl,_,SqL.of B3.hg,_,h2,ri,rfl,_,SqL.of h1,_,zfj,_,hD3,t.bs i,zgy (by rw [List.length_map,Lst,List.length_map,List.length_range];exact c),s3.put hD,?_⟩
    rw [zaf,zk8 c]
    refine congrArg (fun z=>some (HO.lst (z.map V.int))) (List.map_congr_left fun j hj=>?_)
    show (if j=t.bs i then t.g i n else S i fun k=>if t.bs k=j then t.g k n else 0)=(S i fun k=>if t.bs k=j then t.g k n else 0)+if t.bs i=j then t.g i n else 0
    by_cases e:j=t.bs i
    ·rw [if_pos e,if_pos e.symm,zgH i fun k hk=>if_neg fun z=>by have:=L.F.tok.inj (k:=k) (l:=i) (by omega) (by omega) (z.trans e);omega]
     omega
    ·rw [if_neg e,if_neg (Ne.symm e)]
     omega
   ·refine ⟨s3,?_⟩
    rw [hD3]
    refine congrArg (fun z=>some (HO.lst (z.map V.int))) (List.map_congr_left fun j hj=>?_)
    have hj:=List.mem_range.mp hj
    show (S i fun k=>if t.bs k=j then t.g k n else 0)=(S i fun k=>if t.bs k=j then t.g k n else 0)+if t.bs i=j then t.g i n else 0
    rw [if_neg (by omega)]
    omega
  ·rintro σ H2 ⟨s2,hD2,x,y,rfl⟩
   rw [zdy] at hD2
   simp_all only [zby,zac]
   have vp:=L.F.vpos Dn (by have:=L.n1;omega)
   rw [← L.F.xsum] at vp
   obtain ⟨i,hi,pi⟩:=zlP vp
   have bi:Bd 9000 (xw m n t i):=by
    by_cases z:∃ k,k<m∧t.bs k=i
    ·obtain ⟨k,hk,rfl⟩:=z
     rw [znL L.F.tok hk]
     exact (L.g (by omega) (by omega)).mono (by decide)
    ·rw [znD fun k hk e=>z ⟨k,hk,e⟩]
     exact Nat.two_pow_pos _
   refine ⟨D,Lst (xw m n t) n,xw m n t i,rfl,hD2,by rw [Lst,List.length_map,List.length_range];omega,List.mem_map.mpr ⟨i,List.mem_range.mpr hi,rfl⟩,by omega,bi,fun r g H3 s3 nr G hr=>?_⟩
   exact q r _ g H3 (s2.trans s3) (s2.free nr) hr ⟨zni G hi (by omega),G,rfl⟩
theorem zcI:zaI ["board","many","weights","k","name"] ["board","many"] (zah zc8):=⟨rfl,rfl,rfl,by decide +kernel,rfl,by decide +kernel,by decide +kernel⟩
theorem zg8 (T:Txt K mg base a):zcQ P w K mg base CX0 4 a.f_row_weights a.d_row_weights ["board","many"] (zkB a.c_Board):=by
 have G_lowest:=ziM (P:=P) (w:=w) (base:=base) T
 refine T.F_row_weights.ok zcI (fun vs H Q E h=>?_) (fun cdv A outer s H vs Q E hr h=>?_)
 ·obtain ⟨b,dx,gl,il,ul,rows,α,m,n,t,s,rfl,B,L,Dn,q⟩:=h
  rfl
 obtain ⟨b,dx,gl,il,ul,rows,α,m,n,t,s,rfl,B,L,Dn,q⟩:=h
 exact ⟨zdZ K a,(zad (zdK (i:=2) zcI.nd rfl rfl (sc:=zah zc8) (N:=["board","many","weights","k","name"]) (Nc:=["k"]) (cap:=[none]) rfl rfl rfl (.of (by decide +kernel)) (zbq rfl T.z_range (zaa (pv 1) zae)) (fun _ _ _ _=>(zaH (i:=0) (show List.Nodup (["k"]:List Str) from by decide) rfl (Or.inl rfl))) (fun _ _ _ _=>zbn) (fun _ _ _ _=>zag))
 (zad (zek PassesOwn.never rfl (zhZ rfl T.z_enumerate (zaa (zca T.cl_Board T.na_Board_busy (pv 0)) zae)) (zgK rfl (zbR (zaH (i:=3) zcI.nd rfl (Or.inl rfl)) (zbR (zaH (i:=4) zcI.nd rfl (Or.inl rfl)) zeU)))
 (zaj (zcf (zaR zha (pv 4) (pv 1) (zaS _)) (zaj (zeM (zaD zap (zaD zap (zca T.cl_Board T.na_Board_grid (pv 0)) (pv 3) (fun _ _=>rfl)) (zeQ zdg zag) (fun _ _=>rfl)) (zfb (pv 2) (pv 4) zc9))) zaT)))
 (zaj (zaG (zaE G_lowest (hr.mono (by decide)) rfl T.m_lowest T.F_lowest.kp T.b_lowest .nil za2 (zaa (pv 2) zae)))))),
  zhe B L Dn q⟩
def yp (α:Nat→Nat→Int) (m n:Nat) (t:Sx) (i j:Nat):Int:=if (List.range i).any (fun k=>t.id k == n+j)=true then yw α m n t j else 0
theorem zlg {α:Nat→Nat→Int} {m n:Nat} {t:Sx} {i j:Nat}:yp α m n t (i+1) j=if t.id i=n+j then yw α m n t j else yp α m n t i j:=by
 unfold yp
 rw [List.range_succ,List.any_append]
 by_cases e:t.id i=n+j
 ·rw [if_pos e,if_pos]
  simp [e]
 ·rw [if_neg e]
  have:([i].any fun k=>t.id k == n+j)=false:=by simp [e]
  rw [this,Bool.or_false]
theorem zpa {α:Nat→Nat→Int} {m n:Nat} {t:Sx} (F:Fea m n (zb0 α m n) t) {j:Nat} (hj:j<m):yp α m n t n j=yw α m n t j:=by
 unfold yp
 by_cases e:((List.range n).any fun k=>t.id k == n+j)=true
 ·rw [if_pos e]
 ·rw [if_neg e,znu F hj]
  intro c hc z
  refine e (List.any_eq_true.mpr ⟨c,List.mem_range.mpr hc,?_⟩)
  rw [z]
  exact beq_self_eq_true _
def zkm (C:Addr):Sp:=fun vs H Q _=>∃ (b dx gl il ul:Addr) (rows:List Addr) (α:Nat→Nat→Int) (m n:Nat) (t:Sx) (s:Bool),vs=[.ref b,.int n,.int m]∧Brd H C b dx gl il ul rows m n t s∧LP α m n t∧zi0 m n t ∧
 ∀ (l:Addr) (ws:List Int) (g:Int) (H':Hp),zaM H H'→H l=none→H' l=some (.lst (ws.map V.int))→Low (yw α m n t) m ws g∧zg7 (Lst (yw α m n t) m) g∧ws=(Lst (yw α m n t) m).map (fun x=>x.fdiv g)→Q (.ref l) H'
def zdx (K:PySem.W.Frag) (a:Ad):TS :=
 (zcn (zaQ (tOp (rI0 fun i j=>.bl (decide (j≤i))) (zac 5) (zac 1))) (za9 (tOp (zba K) (tOp (zba K) (tAt a.c_Board (zac 0) "grid") (tUn (rU fun i=>.int (-i)) (tC (.int 1)))) (zac 4)) (ziJ (zac 3) (tOp (rI0 fun i j=>.int (i - j)) (zac 5) (zac 1)) zei)) zaV)
theorem za8 (K:PySem.W.Frag) (a:Ad) (D:zce) (σ:St) (H:Hp):zdx K a D σ H=(zcn (zaQ (tOp (rI0 fun i j=>.bl (decide (j≤i))) (zac 5) (zac 1))) (za9 (tOp (zba K) (tOp (zba K) (tAt a.c_Board (zac 0) "grid") (tUn (rU fun i=>.int (-i)) (tC (.int 1)))) (zac 4)) (ziJ (zac 3) (tOp (rI0 fun i j=>.int (i - j)) (zac 5) (zac 1)) zei)) zaV) D σ H:=rfl
def zcX (K:PySem.W.Frag) (a:Ad):TS :=
 (zaN (za9 (zbH (zdf (zab (zac 2) zan)) (zak 0) zaP (tC (.int 0)) [none]) (zak 3))
 (zaN (zjd (zj4 K (zab (tAt a.c_Board (zac 0) "idle") zan)) (zli K 2 (zdO (zak 4) (zdO (zak 5) zk6)))
 (zdx K a))
 (zbi (zaJ zif [] E0 (zab (zac 3) zan)))))
theorem zfx {b dx gl il ul:Addr} {rows:List Addr} {α:Nat→Nat→Int} {m n:Nat} {t:Sx} {s:Bool} (B:Brd H a.c_Board b dx gl il ul rows m n t s) (L:LP α m n t) (Dn:zi0 m n t)
  (q:∀ (l:Addr) (ws:List Int) (g:Int) (H':Hp),zaM H H'→H l=none→H' l=some (.lst (ws.map V.int))→Low (yw α m n t) m ws g∧zg7 (Lst (yw α m n t) m) g∧ws=(Lst (yw α m n t) m).map (fun x=>x.fdiv g)→Q (.ref l) H') :
  zcX K a { nx:=fun _ H'=>Q .non H',rt:=Q } (L2.zbg ["board","rows","many","weights","k","name"] [.ref b,.int n,.int m]) H:=by
 unfold zcX
 have m12:=L.m12
 have n12:=L.n12
 simp_all only [za8,zac]
 refine ⟨by omega,by omega,fun D hD=>?_⟩
 rw [Int.toNat_natCast]
 refine zbK (fun i ys σ H'=>zaM H H'∧ys=(Lst (fun _=>0) i).map V.int∧∃ z,σ=[z]) ⟨zai hD _,rfl,_,rfl⟩ ?_ ?_
 ·rintro i ys σ H' hi hD' ⟨s',rfl,z,rfl⟩
  simp_all only [za8,zac]
  refine ⟨_,hD',zbX (by rw [List.length_map,Lst,List.length_map,List.length_range];omega),_,zaf,s'.put hD,?_⟩
  rw [Lst,Lst,List.range_succ,List.map_append,List.map_append]
  rfl
 ·rintro ys σ H1 hD1 ⟨s1,rfl,z,rfl⟩
  have B1:=B.same s1
  refine ⟨_,_,B1.hb,_,rfl,il,rfl,⟨_,SqL.of B1.hi⟩,?_⟩
  refine zfc (K:=K) (xs:=nmL t.id n) (fun i σ H'=>zaM H H'∧H' D=some (.lst ((Lst (yp α m n t i) m).map V.int))∧∃ x y,σ=[some (.ref b),some (.int n),some (.int m),some (.ref D),x,y]) ⟨s1,hD1,_,_,rfl⟩ ?_ ?_ ?_
  ·rintro i σ H' _ ⟨s',_⟩
   exact SqL.of (B.same s').hi
  ·rintro i v tp σ H2 hx ⟨s2,hD2,x,y,rfl⟩ ht
   have hi:i<n:=by
    have:=(List.getElem?_eq_some_iff.mp hx).1
    rwa [zdy] at this
   rw [zja hi] at hx
   cases hx
   have s3:=s2.trans (zai ht (.tup [V.int (i:Int),V.int (t.id i:Int)]))
   have hD3:=(zai ht (.tup [V.int (i:Int),V.int (t.id i:Int)])) _ _ hD2
   have ht3:(L2.upd H2 tp (.tup [V.int (i:Int),V.int (t.id i:Int)])) tp=some (.tup [V.int (i:Int),V.int (t.id i:Int)]):=zaf
   generalize L2.upd H2 tp (.tup [V.int (i:Int),V.int (t.id i:Int)])=H3 at s3 hD3 ht3 ⊢
   have B3:=B.same s3
   have il':=L.F.il i hi
   obtain ⟨re,h1,h2⟩:=B3.rowEnd
   simp_all only [za8,zac]
   refine ⟨_,SqT.of ht3,rfl,_,_,rfl,_,_,rfl,rfl,?_⟩
   simp_all only [za8,zac]
   refine zea (fun c=>?_) (fun c=>?_)
   ·have c:n≤t.id i:=by omega
    have ej:(t.id i:Int) - (n:Int)=((t.id i - n:Nat):Int):=by omega
    rw [ej]
    refine ⟨_,_,B3.hb,_,rfl,gl,rfl,_,SqL.of B3.hg,_,h2,re,rfl,_,SqL.of h1,_,zcG (by omega),_,hD3,t.id i - n,zgy (by rw [List.length_map,Lst,List.length_map,List.length_range];omega),s3.put hD,?_⟩
    rw [zaf,zk8 (by omega)]
    refine congrArg (fun z=>some (HO.lst (z.map V.int))) (List.map_congr_left fun j hj=>?_)
    show (if j=t.id i - n then t.g m i else yp α m n t i j)=yp α m n t (i+1) j
    rw [zlg]
    by_cases e:j=t.id i - n
    ·rw [if_pos e,if_pos (by omega),e,znq L.F.tok hi c]
    ·rw [if_neg e,if_neg (by omega)]
   ·refine ⟨s3,?_⟩
    rw [hD3]
    refine congrArg (fun z=>some (HO.lst (z.map V.int))) (List.map_congr_left fun j hj=>?_)
    rw [zlg,if_neg (by omega)]
  ·rintro σ H2 ⟨s2,hD2,x,y,rfl⟩
   rw [zdy,show Lst (yp α m n t n) m=Lst (yw α m n t) m from List.map_congr_left fun j hj=>zpa L.F (List.mem_range.mp hj)] at hD2
   simp_all only [za8,zac]
   have vp:=L.F.vpos Dn (by have:=L.n1;omega)
   rw [← L.F.ysum] at vp
   obtain ⟨i,hi,pi⟩:=zlP vp
   refine ⟨D,Lst (yw α m n t) m,yw α m n t i,rfl,hD2,by rw [Lst,List.length_map,List.length_range];omega,List.mem_map.mpr ⟨i,List.mem_range.mpr hi,rfl⟩,by omega,(L.y i).mono (by decide),fun r g H3 s3 nr G hr=>?_⟩
   exact q r _ g H3 (s2.trans s3) (s2.free nr) hr ⟨zni G hi (by omega),G,rfl⟩
theorem zb4:zaI ["board","rows","many","weights","k","name"] ["board","rows","many"] (zah zcl):=⟨rfl,rfl,rfl,by decide +kernel,rfl,by decide +kernel,by decide +kernel⟩
theorem zfQ (T:Txt K mg base a):zcQ P w K mg base CX0 4 a.f_column_weights a.d_column_weights ["board","rows","many"] (zkm a.c_Board):=by
 have G_lowest:=ziM (P:=P) (w:=w) (base:=base) T
 refine T.F_column_weights.ok zb4 (fun vs H Q E h=>?_) (fun cdv A outer s H vs Q E hr h=>?_)
 ·obtain ⟨b,dx,gl,il,ul,rows,α,m,n,t,s,rfl,B,L,Dn,q⟩:=h
  rfl
 obtain ⟨b,dx,gl,il,ul,rows,α,m,n,t,s,rfl,B,L,Dn,q⟩:=h
 exact ⟨zcX K a,(zad (zdK (i:=3) zb4.nd rfl rfl (sc:=zah zcl) (N:=["board","rows","many","weights","k","name"]) (Nc:=["k"]) (cap:=[none]) rfl rfl rfl (.of (by decide +kernel)) (zbq rfl T.z_range (zaa (pv 2) zae)) (fun _ _ _ _=>(zaH (i:=0) (show List.Nodup (["k"]:List Str) from by decide) rfl (Or.inl rfl))) (fun _ _ _ _=>zbn) (fun _ _ _ _=>zag))
 (zad (zek PassesOwn.never rfl (zhZ rfl T.z_enumerate (zaa (zca T.cl_Board T.na_Board_idle (pv 0)) zae)) (zgK rfl (zbR (zaH (i:=4) zb4.nd rfl (Or.inl rfl)) (zbR (zaH (i:=5) zb4.nd rfl (Or.inl rfl)) zeU)))
 (zaj (zcf (zaR zoU (pv 5) (pv 1) (zaS _)) (zaj (zeM (zaD zap (zaD zap (zca T.cl_Board T.na_Board_grid (pv 0)) (zeQ zdg zag) (fun _ _=>rfl)) (pv 4) (fun _ _=>rfl)) (zfb (pv 3) (zaO zf2 (pv 5) (pv 1)) zc9))) zaT)))
 (zaj (zaG (zaE G_lowest (hr.mono (by decide)) rfl T.m_lowest T.F_lowest.kp T.b_lowest .nil za2 (zaa (pv 3) zae)))))),
  zfx B L Dn q⟩
def Nx (m n:Nat) (x y:Sx×Bool):Prop:=∃ r c,Stp m n x.1 x.2 r c∧(x.2=false→c=stM m x.1 (hlp m x.1 n))∧y=(piv x.1 r c,decide (x.1.g r n=0))
structure Inj (m n:Nat) (t:Sx):Prop where
 bb:∀ k l,k<m→l<m→t.bs k=t.bs l→k=l
 ii:∀ c d,c<n→d<n→t.id c=t.id d→c=d
 bi:∀ k c,k<m→c<n→t.bs k≠t.id c
theorem Inj.piv {m n:Nat} {t:Sx} (h:Inj m n t) {r c:Nat} (hr:r<m) (hc:c<n):Inj m n (piv t r c):=by
 have eb:∀ k,(My.piv t r c).bs k=if k=r then t.id c else t.bs k:=fun k=>rfl
 have ei:∀ d,(My.piv t r c).id d=if d=c then t.bs r else t.id d:=fun d=>rfl
 refine ⟨fun k l hk hl e=>?_,fun d f hd hf e=>?_,fun k d hk hd e=>?_⟩
 ·rw [eb,eb] at e
  by_cases z1:k=r
  ·by_cases z2:l=r
   ·omega
   ·rw [if_pos z1,if_neg z2] at e
    exact absurd e.symm (h.bi l c hl hc)
  ·by_cases z2:l=r
   ·rw [if_neg z1,if_pos z2] at e
    exact absurd e (h.bi k c hk hc)
   ·rw [if_neg z1,if_neg z2] at e
    exact h.bb k l hk hl e
 ·rw [ei,ei] at e
  by_cases z1:d=c
  ·by_cases z2:f=c
   ·omega
   ·rw [if_pos z1,if_neg z2] at e
    exact absurd e (h.bi r f hr hf)
  ·by_cases z2:f=c
   ·rw [if_neg z1,if_pos z2] at e
    exact absurd e.symm (h.bi r d hr hd)
   ·rw [if_neg z1,if_neg z2] at e
    exact h.ii d f hd hf e
 ·rw [eb,ei] at e
  by_cases z1:k=r
  ·by_cases z2:d=c
   ·rw [if_pos z1,if_pos z2] at e
    exact h.bi r c hr hc e.symm
   ·rw [if_pos z1,if_neg z2] at e
    exact z2 (h.ii c d hc hd e).symm
  ·by_cases z2:d=c
   ·rw [if_neg z1,if_pos z2] at e
    exact z1 (h.bb k r hk hr e)
   ·rw [if_neg z1,if_neg z2] at e
    exact h.bi k d hk hd e
theorem Nx.det {m n:Nat} {x y z:Sx×Bool} (I:Inj m n x.1) (h:Nx m n x y) (h':Nx m n x z):y=z:=by
 obtain ⟨r,c,S1,k1,rfl⟩:=h
 obtain ⟨r',c',S2,k2,rfl⟩:=h'
 have ec:c=c':=by
  cases e:x.2 with
  | false=>rw [k1 e,k2 e]
  | true =>
   have h1:=S1.bl e c' S2.hc S2.neg
   have h2:=S2.bl e c S1.hc S1.neg
   exact I.ii c c' S1.hc S2.hc (by omega)
 subst ec
 have er:r=r':=by
  have h1:=S1.lv r' S2.hr S2.pos
  have h2:=S2.lv r S1.hr S1.pos
  refine I.bb r r' S1.hr S2.hr ?_
  generalize x.1.g r n*x.1.g r' c=u at h1 h2
  generalize x.1.g r' n*x.1.g r c=v at h1 h2
  omega
 rw [er]
inductive Go (m n:Nat):Sx×Bool→Sx×Bool→Prop
 | refl (x:Sx×Bool):Go m n x x
 | head {x y z:Sx×Bool}:Nx m n x y→Go m n y z→Go m n x z
theorem Go.snoc {m n:Nat} {x y z:Sx×Bool} (h:Go m n x y) (k:Nx m n y z):Go m n x z:=by
 induction h with
 | refl x=>exact .head k (.refl _)
 | head a _ ih=>exact .head a (ih k)
theorem zmY {m n:Nat} {x y:Sx×Bool} (d:zi0 m n x.1) (h:Nx m n x y):False:=by
 obtain ⟨r,c,S1,_⟩:=h
 have h1:=S1.neg
 have h2:=d c S1.hc
 omega
theorem Go.det {m n:Nat} {x y z:Sx×Bool} (I:Inj m n x.1) (h:Go m n x y) (d:zi0 m n y.1) (h':Go m n x z) (d':zi0 m n z.1):y=z:=by
 induction h with
 | refl x =>
  cases h' with
  | refl=>rfl
  | head a _=>exact (zmY d a).elim
 | head a _ ih =>
  cases h' with
  | refl=>exact (zmY d' a).elim
  | head b k =>
   have e:=Nx.det I a b
   subst e
   refine ih ?_ d k
   obtain ⟨r,c,S1,_,rfl⟩:=a
   exact I.piv S1.hr S1.hc
theorem inj0 {α:Nat→Nat→Int} {m n:Nat}:Inj m n (sx0 α m n):=by
 refine ⟨fun k l _ _ e=>?_,fun c d hc hd e=>?_,fun k c hk hc e=>?_⟩
 ·have e:n+k=n+l:=e
  omega
 ·have e:(if c<n then c else n+m+1)=if d<n then d else n+m+1:=e
  rw [if_pos hc,if_pos hd] at e
  exact e
 ·have e:n+k=if c<n then c else n+m+1:=e
  rw [if_pos hc] at e
  omega
theorem zg7.one {ns:List Int} {g h:Int} (a:zg7 ns g) (b:zg7 ns h):g=h:=Int.dvd_antisymm a.g0 b.g0 (b.most g a.all) (a.most h b.all)
theorem zn1 {c:TT} {tb:TS} {D:zce} {σ:St} {H:Hp} (W:Nat→St→Hp→Prop) {m:Nat} (h0:W m σ H)
  (hs:∀ m σ H,W m σ H→c σ H fun b H1=>if b=true then ∃ N:St→Hp→Prop,(∀ σ' H',N σ' H'→∃ m',m'<m∧W m' σ' H')∧tb { D with nx:=N,ct:=N,bk:=D.nx } σ H1 else D.nx σ H1):zf0 c tb D σ H:=⟨W,⟨m,h0⟩,hs⟩
def zl6 (m n:Nat) (vec:Nat→Nat→Int) (t:Sx) (s:Bool) (L:Nat):Prop:=∃ st rr cc su,Run m n vec st rr cc su L∧st L=t∧su L=s
theorem zl6.zero {m n:Nat} {vec:Nat→Nat→Int} {t:Sx} (F:Fea m n vec t) (s:Bool):zl6 m n vec t s 0 :=
 ⟨fun _=>t,fun _=>0,fun _=>0,fun _=>s,⟨fun _ _=>F,fun i h=>absurd h (Nat.not_lt_zero i),fun i h=>absurd h (Nat.not_lt_zero i),fun i h=>absurd h (Nat.not_lt_zero i)⟩,rfl,rfl⟩
theorem zl6.lt {m n:Nat} {vec:Nat→Nat→Int} {t:Sx} {s:Bool} {L:Nat} (h:zl6 m n vec t s L):L<(n+m+2) ^ (m+n+1):=by
 obtain ⟨_,_,_,_,R,_⟩:=h
 exact R.ends
theorem zl6.step {m n:Nat} {vec:Nat→Nat→Int} {t:Sx} {s:Bool} {L r c:Nat} (h:zl6 m n vec t s L) (hs:Stp m n t s r c):zl6 m n vec (piv t r c) (decide (t.g r n=0)) (L+1):=by
 obtain ⟨st,rr,cc,su,R,e1,e2⟩:=h
 have a1:∀ i,i≤L→(if i≤L then st i else piv t r c)=st i:=fun i hi=>if_pos hi
 have a2:(if L+1≤L then st (L+1) else piv t r c)=piv t r c:=if_neg (by omega)
 have b1:∀ i,i≤L→(if i≤L then su i else decide (t.g r n=0))=su i:=fun i hi=>if_pos hi
 have b2:(if L+1≤L then su (L+1) else decide (t.g r n=0))=decide (t.g r n=0):=if_neg (by omega)
 have c1:∀ i,i<L→(if i<L then rr i else r)=rr i:=fun i hi=>if_pos hi
 have c2:(if L<L then rr L else r)=r:=if_neg (by omega)
 have d1:∀ i,i<L→(if i<L then cc i else c)=cc i:=fun i hi=>if_pos hi
 have d2:(if L<L then cc L else c)=c:=if_neg (by omega)
 refine ⟨fun i=>if i≤L then st i else piv t r c,fun i=>if i<L then rr i else r,fun i=>if i<L then cc i else c,fun i=>if i≤L then su i else decide (t.g r n=0),⟨fun i hi=>?_,fun i hi=>?_,fun i hi=>?_,fun i hi=>?_⟩,a2,b2⟩
 ·by_cases q:i≤L
  ·show Fea m n vec (if i≤L then st i else piv t r c)
   rw [a1 i q]
   exact R.ok i q
  ·show Fea m n vec (if i≤L then st i else piv t r c)
   rw [if_neg q]
   have:=R.ok L (Nat.le_refl L)
   rw [e1] at this
   exact this.piv hs
 ·show (if i+1≤L then st (i+1) else piv t r c)=piv (if i≤L then st i else piv t r c) (if i<L then rr i else r) (if i<L then cc i else c)
  by_cases q:i<L
  ·rw [a1 (i+1) q,a1 i (by omega),c1 i q,d1 i q,R.nx i q]
  ·have:i=L:=by omega
   subst this
   rw [a2,a1 i (by omega),c2,d2,e1]
 ·show Stp m n (if i≤L then st i else piv t r c) (if i≤L then su i else decide (t.g r n=0)) (if i<L then rr i else r) (if i<L then cc i else c)
  by_cases q:i<L
  ·rw [a1 i (by omega),b1 i (by omega),c1 i q,d1 i q]
   exact R.by' i q
  ·have:i=L:=by omega
   subst this
   rw [a1 i (by omega),b1 i (by omega),c2,d2,e1,e2]
   exact hs
 ·show (if i+1≤L then su (i+1) else decide (t.g r n=0))=decide ((if i≤L then st i else piv t r c).g (if i<L then rr i else r) n=0)
  by_cases q:i<L
  ·rw [b1 (i+1) q,a1 i (by omega),c1 i q]
   exact R.sk i q
  ·have:i=L:=by omega
   subst this
   rw [b2,a1 i (by omega),c2,e1]
def ent (rows:List (List Int)) (i j:Nat):Int:=(rows.getD i []).getD j 0
structure Sol (rows:List (List Int)) (w:Nat) (W:Rat) (R C:List Int):Prop where
 rl:R.length=rows.length
 cl:C.length=w
 r0:∀ i,i<rows.length→0≤R.getD i 0
 c0:∀ j,j<w→0≤C.getD j 0
 rp:0<S rows.length fun i=>R.getD i 0
 cp:0<S w fun j=>C.getD j 0
 col:∀ j,j<w→(((S rows.length fun i=>R.getD i 0*ent rows i j:Int)):Rat)≤W*((S rows.length fun i=>R.getD i 0:Int):Rat)
 row:∀ i,i<rows.length→W*((S w fun j=>C.getD j 0:Int):Rat)≤((S w fun j=>C.getD j 0*ent rows i j:Int):Rat)
 rb:Bd 1400 (S rows.length fun i=>R.getD i 0)
 cb:Bd 1400 (S w fun j=>C.getD j 0)
theorem zk7 {g x y:Int} (e:y=g*x) (g0:0<g):x.natAbs≤y.natAbs:=by
 rw [e,Int.natAbs_mul]
 exact Nat.le_mul_of_pos_left _ (by omega)
theorem zkp {f h:Nat→Int} {n:Nat} {ws:List Int} {g:Int} (L:Low f n ws g):(S n fun i=>f i*h i)=g*S n fun i=>ws.getD i 0*h i:=by
 rw [← ziG]
 exact zbE n fun i hi=>by rw [L.at' i hi,Int.mul_assoc]
theorem zjQ {f:Nat→Int} {n:Nat} {ws:List Int} {g:Int} (L:Low f n ws g):(S n fun i=>f i)=g*S n fun i=>ws.getD i 0:=by
 rw [← ziG]
 exact zbE n fun i hi=>L.at' i hi
theorem zpD {rows:List (List Int)} {w:Nat} {lift:Int} {t:Sx} {R C:List Int} {g h:Int} (L:LP (aOf rows lift) w rows.length t) (D:zi0 w rows.length t) (lR:Low (xw w rows.length t) rows.length R g) (lC:Low (yw (aOf rows lift) w rows.length t) w C h) :
  Sol rows w (Rat.divInt t.d (t.g w rows.length)+((-lift:Int):Rat)) R C:=by
 have F:=L.F
 have n1:=L.n1
 have vp:=F.vpos D (by omega)
 have gp:=lR.pos
 have hp:=lC.pos
 have vq:((t.g w rows.length:Int):Rat)≠0:=fun z=>by
  have:t.g w rows.length=0:=by exact_mod_cast z
  omega
 have vr:(0:Rat)<((t.g w rows.length:Int):Rat):=by exact_mod_cast vp
 have gr:(0:Rat)<(g:Rat):=by exact_mod_cast gp
 have hr:(0:Rat)<(h:Rat):=by exact_mod_cast hp
 have key:(Rat.divInt t.d (t.g w rows.length)+((-lift:Int):Rat))*((t.g w rows.length:Int):Rat)=((t.d - lift*t.g w rows.length:Int):Rat):=by
  rw [Rat.divInt_eq_div]
  push_cast
  grind
 generalize Rat.divInt t.d (t.g w rows.length)+((-lift:Int):Rat)=W at key ⊢
 have sx:=zjQ lR
 rw [F.xsum] at sx
 have sy:=zjQ lC
 rw [F.ysum] at sy
 refine ⟨lR.len,lC.len,fun i hi=>?_,fun j hj=>?_,?_,?_,fun j hj=>?_,fun i hi=>?_,((L.g (by omega) (by omega)).mono (by decide)).le (zk7 sx gp),((L.g (by omega) (by omega)).mono (by decide)).le (zk7 sy hp)⟩
 ·have:=F.x0 i
  rw [lR.at' i hi] at this
  exact Int.nonneg_of_mul_nonneg_right this gp
 ·have:=F.y0 D hj
  rw [lC.at' j hj] at this
  exact Int.nonneg_of_mul_nonneg_right this hp
 ·rw [sx] at vp
  exact Int.pos_of_mul_pos_right vp gp
 ·rw [sy] at vp
  exact Int.pos_of_mul_pos_right vp hp
 ·have xc:=F.xcol hj
  have e:(S rows.length fun i=>xw w rows.length t i*aOf rows lift i j)=(S rows.length fun i=>xw w rows.length t i*ent rows i j)+lift*t.g w rows.length:=by
   have:(S rows.length fun i=>xw w rows.length t i*aOf rows lift i j)=S rows.length fun i=>1*(xw w rows.length t i*ent rows i j)+lift*xw w rows.length t i:=zbE _ fun i _=>by
    show xw w rows.length t i*(ent rows i j+lift)=_
    grind
   rw [this,zib,show (S rows.length fun i=>xw w rows.length t i)=t.g w rows.length from F.xsum,Int.one_mul]
  rw [e,zkp lR] at xc
  generalize (S rows.length fun i=>R.getD i 0*ent rows i j)=A at xc ⊢
  generalize (S rows.length fun i=>R.getD i 0)=B at sx ⊢
  have xq:((g*A:Int):Rat)≤((t.d - lift*t.g w rows.length:Int):Rat):=by
   have:g*A≤t.d - lift*t.g w rows.length:=by omega
   exact_mod_cast this
  rw [← key,sx] at xq
  push_cast at xq
  have:(g:Rat)*(A:Rat)≤(g:Rat)*(W*(B:Rat)):=by
   have z:W*((g:Rat)*(B:Rat))=(g:Rat)*(W*(B:Rat)):=by grind
   rw [← z]
   exact xq
  exact Rat.le_of_mul_le_mul_left this gr
 ·have yr:=F.yrow D hi
  have e:(S w fun j=>yw (aOf rows lift) w rows.length t j*aOf rows lift i j)=(S w fun j=>yw (aOf rows lift) w rows.length t j*ent rows i j)+lift*t.g w rows.length:=by
   have:(S w fun j=>yw (aOf rows lift) w rows.length t j*aOf rows lift i j)=S w fun j=>1*(yw (aOf rows lift) w rows.length t j*ent rows i j)+lift*yw (aOf rows lift) w rows.length t j:=zbE _ fun j _=>by
    show yw (aOf rows lift) w rows.length t j*(ent rows i j+lift)=_
    grind
   rw [this,zib,show (S w fun j=>yw (aOf rows lift) w rows.length t j)=t.g w rows.length from F.ysum,Int.one_mul]
  rw [e,zkp lC] at yr
  generalize (S w fun j=>C.getD j 0*ent rows i j)=A at yr ⊢
  generalize (S w fun j=>C.getD j 0)=B at sy ⊢
  have yq:((t.d - lift*t.g w rows.length:Int):Rat)≤((h*A:Int):Rat):=by
   have:t.d - lift*t.g w rows.length≤h*A:=by omega
   exact_mod_cast this
  rw [← key,sy] at yq
  push_cast at yq
  have:(h:Rat)*(W*(B:Rat))≤(h:Rat)*(A:Rat):=by
   have z:W*((h:Rat)*(B:Rat))=(h:Rat)*(W*(B:Rat)):=by grind
   rw [← z]
   exact yq
  exact Rat.le_of_mul_le_mul_left this hr
def Ety (rows:List (List Int)) (w:Nat) (x:Int):Prop:=∃ i j,i<rows.length∧j<w∧x=ent rows i j
def Tld (rows:List (List Int)) (w:Nat) (W:Rat) (R C:List Int):Prop:=∃ (M:Int) (t:Sx) (s:Bool) (g h:Int),((∃ i j,i<rows.length∧j<w∧M=ent rows i j)∧∀ i j,i<rows.length→j<w→M≤ent rows i j)∧Go w rows.length (sx0 (aOf rows (1 - M)) w rows.length,false) (t,s)∧zi0 w rows.length t ∧
 W=Rat.divInt t.d (t.g w rows.length)+((-(1 - M):Int):Rat)∧(zg7 (Lst (xw w rows.length t) rows.length) g∧R=(Lst (xw w rows.length t) rows.length).map fun x=>x.fdiv g)∧zg7 (Lst (yw (aOf rows (1 - M)) w rows.length t) w) h∧C=(Lst (yw (aOf rows (1 - M)) w rows.length t) w).map fun x=>x.fdiv h
theorem Tld.det {rows:List (List Int)} {w:Nat} {W W':Rat} {R C R' C':List Int} (a:Tld rows w W R C) (b:Tld rows w W' R' C'):W=W'∧R=R'∧C=C':=by
 obtain ⟨M,t,s,g,h,⟨⟨i,j,hi,hj,eM⟩,lM⟩,go,d,e1,⟨G1,e2⟩,G2,e3⟩:=a
 obtain ⟨M',t',s',g',h',⟨⟨i',j',hi',hj',eM'⟩,lM'⟩,go',d',e1',⟨G1',e2'⟩,G2',e3'⟩:=b
 have eM2:M=M':=by
  have h1:=lM i' j' hi' hj'
  have h2:=lM' i j hi hj
  omega
 subst eM2
 have e:=Go.det inj0 go d go' d'
 injection e with e e'
 subst e
 have k1:=G1.one G1'
 have k2:=G2.one G2'
 subst k1
 subst k2
 exact ⟨e1.trans e1'.symm,e2.trans e2'.symm,e3.trans e3'.symm⟩
def Col (m n:Nat) (t:Sx) (s:Bool) (v:V):Prop:=(v=.non∧zi0 m n t)∨∃ c:Nat,v=.int c∧c<n∧t.g m c<0∧(s=true→∀ j,j<n→t.g m j<0→t.id c≤t.id j)∧(s=false→c=stM m t (hlp m t n))
def zhG (P:Addr):Sp:=fun vs H Q _=>∃ (tt:Addr) (rs:List Addr) (rows:List (List Int)) (w:Nat),vs=[.ref tt]∧Tb H tt rs rows w∧LT H P ∧
 ∀ (r wr rl cl:Addr) (W:Rat) (R C:List Int) (H':Hp),Bar P H H'→LT H' P→H' r=some (.tup [.ref wr,.ref rl,.ref cl])→H' wr=some (.tup (fr W))→H' rl=some (.lst (R.map V.int))→H' cl=some (.lst (C.map V.int))→(H rl=none∧H cl=none∧rl≠cl)∧Tld rows w W R C→Sol rows w W R C→Bq 2801 W→Q (.ref r) H'
theorem Tb.bar {H H':Hp} {P tt:Addr} {rs:List Addr} {rows:List (List Int)} {w:Nat} (B:Tb H tt rs rows w) (L:LT H P) (e:Bar P H H'):Tb H' tt rs rows w :=
 ⟨e _ _ (L.neL B.ht) B.ht,B.len,fun i r row e1 e2=>e _ _ (L.neL (B.hr i r row e1 e2)) (B.hr i r row e1 e2),B.hw,B.l1,B.l6,B.w1,B.w6,B.bd⟩
theorem zaM.bar {P:Addr} {H H':Hp} (s:zaM H H'):Bar P H H':=fun _ _ _ e=>s _ _ e
theorem za7 {P:Addr} {H H' H2:Hp} (s:Bar P H H') (s2:Bar P H' H2):Bar P H H2:=fun x o n e=>s2 _ _ n (s _ _ n e)
def zfS (a:Ad):TS :=
 (zaN (ze7 (zev a.c_Board "swap" (zkl a.c_Board) [] E0 (zac 2) (zab (zev a.c_Board "leaving" (zi3 a.c_Board) [] E0 (zac 2) (zab (zac 3) zan)) (zab (zac 3) zan))))
 (za9 (zev a.c_Board "entering" (zhH a.c_Board a.p_lam) [] E0 (zac 2) zan) (zak 3)))
theorem zd7 (a:Ad) (D:zce) (σ:St) (H:Hp):zfS a D σ H=(zaN (ze7 (zev a.c_Board "swap" (zkl a.c_Board) [] E0 (zac 2) (zab (zev a.c_Board "leaving" (zi3 a.c_Board) [] E0 (zac 2) (zab (zac 3) zan)) (zab (zac 3) zan))))
 (za9 (zev a.c_Board "entering" (zhH a.c_Board a.p_lam) [] E0 (zac 2) zan) (zak 3))) D σ H:=rfl
def zft (K:PySem.W.Frag) (a:Ad):TS :=
 (zaN (za9 (zaJ zjj [] E0 (zab (zaJ zmG [] E0 (zab (tAt a.c_Board (zac 2) "scale") (zab (tOp (zba K) (tOp (zba K) (tAt a.c_Board (zac 2) "grid") (tUn (rU fun i=>.int (-i)) (tC (.int 1)))) (tUn (rU fun i=>.int (-i)) (tC (.int 1)))) zan))) (zab (ze3 (zab (tUn (rU fun i=>.int (-i)) (zac 1)) (zab (tC (.int 1)) zan))) zan))) (zak 4))
 (zaN (za9 (tCB (fun xs H Q=>∃ p ys,xs=[.ref p]∧(SqL K H p ys∨SqT K H p ys)∧Q (.int ys.length) H) (zab (zac 0) zan)) (zak 5))
 (zbi (ze3 (zab (zac 4) (zab (zaJ (zkB a.c_Board) [] E0 (zab (zac 2) (zab (zac 5) zan))) (zab (zaJ (zkm a.c_Board) [] E0 (zab (zac 2) (zab (zac 5) (zab (tCB (fun xs H Q=>∃ p ys,xs=[.ref p]∧(SqL K H p ys∨SqT K H p ys)∧Q (.int ys.length) H) (zab (tOp (zba K) (zac 0) (tC (.int 0))) zan)) zan)))) zan)))))))
theorem zd5 (K:PySem.W.Frag) (a:Ad) (D:zce) (σ:St) (H:Hp):zft K a D σ H=(zaN (za9 (zaJ zjj [] E0 (zab (zaJ zmG [] E0 (zab (tAt a.c_Board (zac 2) "scale") (zab (tOp (zba K) (tOp (zba K) (tAt a.c_Board (zac 2) "grid") (tUn (rU fun i=>.int (-i)) (tC (.int 1)))) (tUn (rU fun i=>.int (-i)) (tC (.int 1)))) zan))) (zab (ze3 (zab (tUn (rU fun i=>.int (-i)) (zac 1)) (zab (tC (.int 1)) zan))) zan))) (zak 4))
 (zaN (za9 (tCB (fun xs H Q=>∃ p ys,xs=[.ref p]∧(SqL K H p ys∨SqT K H p ys)∧Q (.int ys.length) H) (zab (zac 0) zan)) (zak 5))
 (zbi (ze3 (zab (zac 4) (zab (zaJ (zkB a.c_Board) [] E0 (zab (zac 2) (zab (zac 5) zan))) (zab (zaJ (zkm a.c_Board) [] E0 (zab (zac 2) (zab (zac 5) (zab (tCB (fun xs H Q=>∃ p ys,xs=[.ref p]∧(SqL K H p ys∨SqT K H p ys)∧Q (.int ys.length) H) (zab (tOp (zba K) (zac 0) (tC (.int 0))) zan)) zan)))) zan))))))) D σ H:=rfl
def zia (K:PySem.W.Frag) (a:Ad):TS :=
 (zaN (za9 (tOp (rI0 fun i j=>.int (i - j)) (tC (.int 1)) (tCB (zl2 K) (zab (zbH (zdG K (zac 0)) (zak 0) zaP (tCB (zl2 K) (zab (zac 0) zan)) [none]) zan))) (zak 1))
 (zaN (za9 (znv a.c_Board (zkI a.c_Board) [] E0 (zab (zaJ zkT [] E0 (zab (zac 0) (zab (zac 1) zan))) zan)) (zak 2))
 (zaN (za9 (zev a.c_Board "entering" (zhH a.c_Board a.p_lam) [] E0 (zac 2) zan) (zak 3))
 (zaN (zf0 (zaQ (tOp (fun x y H Q=>y=.non∧Q (.bl (!decide (x=.non))) H) (zac 3) (tC .non))) (zfS a))
 (zft K a)))))
theorem zkj {tt:Addr} {rs:List Addr} {rows:List (List Int)} {w:Nat} (B:Tb H tt rs rows w) (LH:LT H a.p_lam)
  (q:∀ (r wr rl cl:Addr) (W:Rat) (R C:List Int) (H':Hp),Bar a.p_lam H H'→LT H' a.p_lam→H' r=some (.tup [.ref wr,.ref rl,.ref cl])→H' wr=some (.tup (fr W))→H' rl=some (.lst (R.map V.int))→H' cl=some (.lst (C.map V.int))→(H rl=none∧H cl=none∧rl≠cl)∧Tld rows w W R C→Sol rows w W R C→Bq 2801 W→Q (.ref r) H') :
  zia K a { nx:=fun _ H'=>Q .non H',rt:=Q } (L2.zbg ["table","lift","board","column","worth","rows"] [.ref tt]) H:=by
 unfold zia
 have l1:=B.l1
 have l12:=B.l6
 have w1:=B.w1
 have w12:=B.w6
 have ln:=B.len
 simp_all only [zd7,zd5,zac]
 refine ⟨⟨_,SqL.of B.ht⟩,fun D hD=>?_⟩
 refine zcF (K:=K) (xs:=rs.map V.ref) (fun i ys σ H'=>zaM H H'∧(∃ ms:List Int,ys=ms.map V.int∧ms.length=i∧(∀ x∈ms,Bd 102 x∧Ety rows w x)∧∀ k,k<i→∀ j,j<w→ms.getD k 0≤ent rows k j)∧∃ z,σ=[z]) ⟨zai hD _,⟨[],rfl,rfl,fun x h=>(nomatch h),fun k hk=>absurd hk (Nat.not_lt_zero k)⟩,_,rfl⟩ ?_ ?_ ?_
 ·rintro i ys σ H' _ ⟨s,_⟩
  exact SqL.of (s _ _ B.ht)
 ·rintro i x ys σ H' hx hD' ⟨s,⟨ms,rfl,lm,mb,ml⟩,z,rfl⟩
  obtain ⟨r,hr,rfl⟩:=zbS hx
  obtain ⟨row,e1,e2,e3⟩:=B.at hr
  have hi:=(List.getElem?_eq_some_iff.mp e1).1
  simp_all only [zd7,zd5,zac]
  have er:rows.getD i []=row:=by rw [List.getD_eq_getElem?_getD,e1];rfl
  refine ⟨row,SqL.of (s _ _ e2),by omega,fun m hm le=>⟨_,hD',zbX (by rw [List.length_map];omega),_,zaf,s.put hD,ms++[m],by rw [List.map_append];rfl,by rw [List.length_append,lm];rfl,fun x hx=>?_,fun k hk j hj=>?_⟩⟩
  ·rcases List.mem_append.mp hx with h | h
   ·exact mb x h
   ·rw [List.mem_singleton.mp h]
    refine ⟨B.bd row (zcz e1) m hm,?_⟩
    obtain ⟨j,hj,ej⟩:=List.mem_iff_getElem.mp hm
    refine ⟨i,j,hi,by omega,?_⟩
    rw [ent,er,List.getD_eq_getElem?_getD,List.getElem?_eq_getElem hj]
    exact ej.symm
  ·by_cases ek:k=i
   ·subst ek
    rw [List.getD_eq_getElem?_getD,List.getElem?_append_right (by omega),lm,Nat.sub_self,ent,er]
    refine le _ ?_
    rw [List.getD_eq_getElem?_getD,List.getElem?_eq_getElem (by omega)]
    exact List.getElem_mem _
   ·rw [List.getD_eq_getElem?_getD,List.getElem?_append_left (by omega),← List.getD_eq_getElem?_getD]
    exact ml k (by omega) j hj
 ·rintro ys σ H1 hD1 ⟨s1,⟨ms,rfl,lm,mb,ml⟩,z,rfl⟩
  rw [List.length_map,ln] at lm ml
  refine ⟨D,rfl,ms,SqL.of hD1,by omega,fun M hM le=>?_⟩
  have bM:=(mb M hM).1
  have mM:=(mb M hM).2
  have lM:∀ i j,i<rows.length→j<w→M≤ent rows i j:=fun i j hi hj=>by
   have h1:=ml i (by omega) j hj
   have h2:M≤ms.getD i 0:=le _ (by rw [List.getD_eq_getElem?_getD,List.getElem?_eq_getElem (by omega)];exact List.getElem_mem _)
   omega
  have B1:=B.same s1
  have LH1:=LH.same s1
  refine ⟨tt,rs,rows,w,1 - M,rfl,B1,fun gl us H2 s2 G2=>?_⟩
  have B2:=B1.same s2
  have LH2:=LH1.same s2
  have L0:LP (aOf rows (1 - M)) w rows.length (sx0 (aOf rows (1 - M)) w rows.length):=by
   refine ⟨w1,w12,l1,l12,fun i j hi hj=>?_,fun i j hi hj=>?_,zmS⟩
   ·have h1:=ml i (by omega) j hj
    have h2:M≤ms.getD i 0:=le _ (by rw [List.getD_eq_getElem?_getD,List.getElem?_eq_getElem (by omega)];exact List.getElem_mem _)
    show 1≤ent rows i j+(1 - M)
    omega
   ·have hr:rows.getD i []=rows[i]:=by rw [List.getD_eq_getElem?_getD,List.getElem?_eq_getElem hi];rfl
    have hw:=B.hw rows[i] (List.getElem_mem _)
    have h1:Bd 102 (ent rows i j):=B.bd rows[i] (List.getElem_mem _) _ (by rw [ent,hr,List.getD_eq_getElem?_getD,List.getElem?_eq_getElem (by omega)];exact List.getElem_mem _)
    have h1:(ent rows i j).natAbs<2 ^ 102:=h1
    have h2:M.natAbs<2 ^ 102:=bM
    show (ent rows i j+(1 - M)).natAbs≤2 ^ 104
    omega
  intro b dx nb nd nbd
  have s3:zaM H2 (L2.upd (L2.upd H2 dx (.own b)) b (.ins a.c_Board dx [])):=(zai nd _).trans (zai ((zam (Ne.symm nbd)).trans nb) _)
  have hb3:(L2.upd (L2.upd H2 dx (.own b)) b (.ins a.c_Board dx [])) b=some (.ins a.c_Board dx []):=zaf
  generalize L2.upd (L2.upd H2 dx (.own b)) b (.ins a.c_Board dx [])=H3 at s3 hb3 ⊢
  refine ⟨b,dx,gl,us,w,rows.length,_,rfl,hb3,G2.same s3,w12,l12,rfl,rfl,rfl,fun il ul H4 k4 ni nu B4=>⟨rfl,?_⟩⟩
  have base4:∀ x o,H x=some o→H4 x=some o:=fun x o e=>k4 _ _ (fun z=>by rw [z] at e;rw [s2 _ _ (s1 _ _ e)] at nb;cases nb) (s3 _ _ (s2 _ _ (s1 _ _ e)))
  have fb:H b=none:=s1.free (s2.free nb)
  have fi:H il=none:=s1.free (s2.free (s3.free ni))
  have fu:H ul=none:=s1.free (s2.free (s3.free nu))
  have LH4:LT H4 a.p_lam:=LH.same base4
  refine ⟨_,_,B4.hb,rfl,?_⟩
  have loop:∀ (v:V) (H5:Hp),Bar a.p_lam H4 H5→LT H5 a.p_lam→Col w rows.length (sx0 (aOf rows (1 - M)) w rows.length) false v →
    zf0 (zaQ (tOp (fun x y H Q=>y=.non∧Q (.bl (!decide (x=.non))) H) (zac 3) (tC .non))) (zfS a) { nx:=zft K a { nx:=fun x H'=>Q .non H',rt:=Q },rt:=Q } [some (.ref tt),some (.int (1 - M)),some (.ref b),some v,none,none] H5:=by
   intro v H5 bar5 LH5 C5
   refine zn1 (m:=(rows.length+w+2) ^ (w+rows.length+1)) (fun k σ H'=>∃ (gl:Addr) (us:List Addr) (t:Sx) (s:Bool) (v:V) (Z:Nat),Brd H' a.c_Board b dx gl il ul us w rows.length t s∧LP (aOf rows (1 - M)) w rows.length t∧LT H' a.p_lam∧Bar a.p_lam H H'∧Col w rows.length t s v∧(zl6 w rows.length (zb0 (aOf rows (1 - M)) w rows.length) t s Z∧Go w rows.length (sx0 (aOf rows (1 - M)) w rows.length,false) (t,s))∧k+Z=(rows.length+w+2) ^ (w+rows.length+1)∧σ=[some (.ref tt),some (.int (1 - M)),some (.ref b),some v,none,none]) ⟨gl,us,_,false,v,0,B4.bar LH4 bar5,L0,LH5,za7 (zaM.bar base4) bar5,C5,⟨zl6.zero zmS false,.refl _⟩,rfl,rfl⟩ ?_
   rintro k σ H6 ⟨gl,us,t,s,v,Z,B6,L6,LH6,bar6,C6,⟨Hi,Gi⟩,ek,rfl⟩
   simp_all only [zd7,zd5,zac]
   refine zea (fun nv=>?_) (fun nv=>?_)
   ·rcases C6 with ⟨z,_⟩ | ⟨c,rfl,c1,c2,c3,c4⟩
    ·exact absurd z nv
    refine ⟨_,fun _ _ h=>h,_,_,B6.hb,rfl,_,_,B6.hb,rfl,⟨b,dx,gl,il,ul,us,_,w,rows.length,t,s,c,rfl,B6,L6,c1,fun r hr pr lv=>?_⟩⟩
    have stp:Stp w rows.length t s r c:=⟨hr,c1,c2,pr,lv,c3⟩
    refine ⟨b,dx,gl,il,ul,us,_,w,rows.length,t,s,r,c,rfl,B6,L6,hr,c1,pr,fun gl' us' H7 k7 B7=>?_⟩
    have LH7:LT H7 a.p_lam:=LH6.put fun x o n1 n2 e=>k7 x o (fun z=>by rw [z,B6.hb] at e;cases e;exact n2 _ _ _ rfl) (fun z=>by rw [z,B6.hi] at e;cases e;exact n1 _ rfl) (fun z=>by rw [z,B6.hu] at e;cases e;exact n1 _ rfl) e
    have bar7:Bar a.p_lam H H7:=fun x o nx e=>k7 x o (fun z=>by rw [z,fb] at e;cases e) (fun z=>by rw [z,fi] at e;cases e) (fun z=>by rw [z,fu] at e;cases e) (bar6 _ _ nx e)
    have L7:=L6.piv stp
    have zl:=Hi.lt
    have H7i:=Hi.step stp
    have G7:=Gi.snoc ⟨r,c,stp,c4,rfl⟩
    refine ⟨_,_,B7.hb,rfl,b,dx,gl',il,ul,us',_,w,rows.length,_,_,rfl,B7,L7,LH7,fun Dn H8 s8=>?_,fun c' H8 d1 d2 d3 d4 bar LT8=>?_⟩
    ·exact ⟨k - 1,by omega,gl',us',_,_,B7.same s8,L7,LH7.same s8,za7 bar7 (zaM.bar s8),_,.inl ⟨rfl,Dn⟩,_,H7i,G7,by omega,rfl⟩
    ·exact ⟨k - 1,by omega,gl',us',_,_,B7.bar LH7 bar,L7,LT8,za7 bar7 bar,_,.inr ⟨c',rfl,d1,d2,d3,d4⟩,_,H7i,G7,by omega,rfl⟩
   ·rcases C6 with ⟨rfl,Dn⟩ | ⟨c,rfl,_⟩
    ·obtain ⟨re,h1,h2⟩:=B6.rowEnd
     have vp:=L6.F.vpos Dn (by omega)
     have T6:=B.bar LH bar6
     refine ⟨_,_,B6.hb,_,rfl,_,_,B6.hb,_,rfl,gl,rfl,_,SqL.of B6.hg,_,h2,re,rfl,_,SqL.of h1,_,zfj,⟨t.d,t.g w rows.length,rfl,by omega,(L6.g (by omega) (by omega)).mono (by decide),fun u H7 s7 h7=>?_⟩⟩
     refine ⟨by decide,fun p hp=>?_⟩
     have ep:[V.int (-(1 - M)),V.int 1]=fr (((-(1 - M):Int)):Rat):=rfl
     rw [ep]
     have s8:=zai hp (.tup (fr (((-(1 - M):Int)):Rat)))
     have bl:Bd 104 (-(1 - M)):=by
      have h2:M.natAbs<2 ^ 102:=bM
      show (-(1 - M)).natAbs<2 ^ 104
      omega
     have bq1:Bq 1400 (Rat.divInt t.d (t.g w rows.length)):=ziW (by omega) L6.d (L6.g (by omega) (by omega))
     have bq2:Bq 1400 (((-(1 - M):Int)):Rat):=⟨bl.mono (by decide),by show (1:Nat)<2 ^ 1400;exact Nat.one_lt_two_pow (by decide)⟩
     refine ⟨u,p,_,_,rfl,s8 _ _ h7,zaf,bq1.mono (by decide),bq2.mono (by decide),fun wr H9 s9 h9=>?_⟩
     have S9:=s7.trans (s8.trans s9)
     have T9:=T6.same S9
     have B9:=B6.same S9
     refine ⟨_,.inl (SqL.of T9.ht),?_⟩
     rw [List.length_map,ln]
     refine ⟨b,dx,gl,il,ul,us,_,w,rows.length,t,s,rfl,B9,L6,Dn,fun rl R g Ha sa nR hR lR=>?_⟩
     have Ta:=T9.same sa
     obtain ⟨r0,row0,a0,h0,w0⟩:=Ta.first
     refine ⟨_,SqL.of Ta.ht,_,a0,r0,rfl,_,.inl (SqL.of h0),?_⟩
     rw [List.length_map,w0]
     refine ⟨b,dx,gl,il,ul,us,_,w,rows.length,t,s,rfl,B9.same sa,L6,Dn,fun cl C h Hb sb nC hC lC=>⟨by decide,fun r hr=>?_⟩⟩
     have sc:=zai hr (.tup [V.ref wr,V.ref rl,V.ref cl])
     have fr0:∀ {x:Addr},H9 x=none→H x=none:=fun {x} n=>by
      cases z:H x with
      | none=>rfl
      | some o =>
       have nx:x≠a.p_lam:=fun e=>by
        obtain ⟨u,hu⟩:=(LH6.same S9).tbl
        rw [e,hu] at n
        cases n
       rw [S9 _ _ (bar6 _ _ nx z)] at n
       cases n
     refine q r wr rl cl _ R C _ (za7 bar6 (zaM.bar (S9.trans (sa.trans (sb.trans sc))))) (LH6.same (S9.trans (sa.trans (sb.trans sc)))) zaf (sc _ _ (sb _ _ (sa _ _ h9))) (sc _ _ (sb _ _ hR)) (sc _ _ hC) ⟨⟨fr0 nR,fr0 (sa.free nC),zaY hR nC⟩,M,t,s,g,h,⟨mM,lM⟩,Gi,Dn,rfl,lR.2,lC.2⟩ (zpD L6 Dn lR.1 lC.1) ((bq1.add bq2).mono (by decide))
    ·exact absurd (fun z=>by cases z) nv
  refine ⟨b,dx,gl,il,ul,us,_,_,_,_,_,rfl,B4,L0,LH4,fun Dn H5 s5=>?_,fun c H5 c1 c2 c3 c4 bar LT5=>?_⟩
  ·exact loop _ H5 (zaM.bar s5) (LH4.same s5) (.inl ⟨rfl,Dn⟩)
  ·exact loop _ H5 bar LT5 (.inr ⟨c,rfl,c1,c2,c3,c4⟩)
theorem zdl:zaI ["table","lift","board","column","worth","rows"] ["table"] (zah zgb):=⟨rfl,rfl,rfl,by decide +kernel,rfl,by decide +kernel,by decide +kernel⟩
theorem zkJ (T:Txt K mg base a):zcQ P w K mg base CX0 6 a.f_solved a.d_solved ["table"] (zhG a.p_lam):=by
 have G_Board___init__:=zfH (P:=P) (w:=w) (base:=base) T
 have G_Board_entering:=zfK (P:=P) (w:=w) (base:=base) T
 have G_Board_leaving:=zf7 (P:=P) (w:=w) (base:=base) T
 have G_Board_swap:=zh3 (P:=P) (w:=w) (base:=base) T
 have G_column_weights:=zfQ (P:=P) (w:=w) (base:=base) T
 have G_first_grid:=zih (P:=P) (w:=w) (base:=base) T
 have G_plus:=zop (P:=P) (w:=w) (base:=base) T
 have G_ratio:=zjC (P:=P) (w:=w) (base:=base) T
 have G_row_weights:=zg8 (P:=P) (w:=w) (base:=base) T
 refine T.F_solved.ok zdl (fun vs H Q E h=>?_) (fun cdv A outer s H vs Q E hr h=>?_)
 ·obtain ⟨tt,rs,rows,w,rfl,B,LH,q⟩:=h
  rfl
 obtain ⟨tt,rs,rows,w,rfl,B,LH,q⟩:=h
 exact ⟨zia K a,(zad (zaK (i:=1) zdl.nd rfl (Or.inl rfl) (zaO zf2 zag (zal (ziR rfl) rfl T.z_min PyProof.Rows.boot_min (zaa (zbP (sc:=zah zgb) (N:=["table","lift","board","column","worth","rows"]) (Nc:=["row"]) (cap:=[none]) rfl rfl rfl (.of (by decide +kernel)) (zco (pv 0)) (fun _ _ _ _=>(zaH (i:=0) (show List.Nodup (["row"]:List Str) from by decide) rfl (Or.inl rfl))) (fun _ _ _ _=>zbn) (fun _ _ _ _=>(zal (ziR rfl) rfl T.z_min PyProof.Rows.boot_min (zaa (pv 0) zae)))) zae))))
 (zad (zaK (i:=2) zdl.nd rfl (Or.inl rfl) (znE T.K_Board G_Board___init__ (hr.mono (by decide)) rfl T.m_Board T.b_Board___init__ .nil za2 (zaa (zaE G_first_grid (hr.mono (by decide)) rfl T.m_first_grid T.F_first_grid.kp T.b_first_grid .nil za2 (zaa (pv 0) (zaa (pv 1) zae))) zae)))
 (zad (zaK (i:=3) zdl.nd rfl (Or.inl rfl) (zjz (pv 2) T.cl_Board T.M_Board_entering G_Board_entering (hr.mono (by decide)) T.b_Board_entering .nil za2))
 (zad (zhK PassesOwn.never (zaR zfI (pv 3) zdS (zaS _)) (zad (zeX (ze1 (pv 2) T.cl_Board T.M_Board_swap G_Board_swap (hr.mono (by decide)) T.b_Board_swap .nil za2 (zaa (ze1 (pv 2) T.cl_Board T.M_Board_leaving G_Board_leaving (hr.mono (by decide)) T.b_Board_leaving .nil za2 (zaa (pv 3) zae)) (zaa (pv 3) zae))))
 (zaj (zaK (i:=3) zdl.nd rfl (Or.inl rfl) (zjz (pv 2) T.cl_Board T.M_Board_entering G_Board_entering (hr.mono (by decide)) T.b_Board_entering .nil za2)))))
 (zad (zaK (i:=4) zdl.nd rfl (Or.inl rfl) (zaE G_plus (hr.mono (by decide)) rfl T.m_plus T.F_plus.kp T.b_plus .nil za2 (zaa (zaE G_ratio (hr.mono (by decide)) rfl T.m_ratio T.F_ratio.kp T.b_ratio .nil za2 (zaa (zca T.cl_Board T.na_Board_scale (pv 2)) (zaa (zaD zap (zaD zap (zca T.cl_Board T.na_Board_grid (pv 2)) (zeQ zdg zag) (fun _ _=>rfl)) (zeQ zdg zag) (fun _ _=>rfl)) zae))) (zaa (zdr (zaa (zeQ zdg (pv 1)) (zaa zag zae))) zae))))
 (zad (zaK (i:=5) zdl.nd rfl (Or.inl rfl) (zal zao rfl T.z_len PySem.boot_len (zaa (pv 0) zae)))
 (zaj (zaG (zdr (zaa (pv 4) (zaa (zaE G_row_weights (hr.mono (by decide)) rfl T.m_row_weights T.F_row_weights.kp T.b_row_weights .nil za2 (zaa (pv 2) (zaa (pv 5) zae))) (zaa (zaE G_column_weights (hr.mono (by decide)) rfl T.m_column_weights T.F_column_weights.kp T.b_column_weights .nil za2 (zaa (pv 2) (zaa (pv 5) (zaa (zal zao rfl T.z_len PySem.boot_len (zaa (zaD zap (pv 0) zag (fun _ _=>rfl)) zae)) zae)))) zae)))))))))))),
  zkj B LH q⟩
def zd6 (P:Addr):Sp:=zhG P
def zdX (K:PySem.W.Frag) (a:Ad):TS :=
 (zaN (ze7 (zaJ (zgC K) [] E0 (zab (zac 0) zan)))
 (zbi (zaJ (zhG a.p_lam) [] E0 (zab (zac 0) zan))))
theorem zgZ {tt:Addr} {rs:List Addr} {rows:List (List Int)} {w:Nat} (B:Tb H tt rs rows w) (LH:LT H a.p_lam)
  (q:∀ (r wr rl cl:Addr) (W:Rat) (R C:List Int) (H':Hp),Bar a.p_lam H H'→LT H' a.p_lam→H' r=some (.tup [.ref wr,.ref rl,.ref cl])→H' wr=some (.tup (fr W))→H' rl=some (.lst (R.map V.int))→H' cl=some (.lst (C.map V.int))→(H rl=none∧H cl=none∧rl≠cl)∧Tld rows w W R C→Sol rows w W R C→Bq 2801 W→Q (.ref r) H') :
  zdX K a { nx:=fun _ H'=>Q .non H',rt:=Q } (L2.zbg ["table"] [.ref tt]) H:=by
 unfold zdX
 simp_all only [zac]
 refine ⟨tt,rs,rows,w,rfl,B,fun H1 s1=>?_⟩
 refine ⟨tt,rs,rows,w,rfl,B.same s1,LH.same s1,fun r wr rl cl W R C H' bar L' h1 h2 h3 h4 nn so bq=>?_⟩
 exact q r wr rl cl W R C H' (za7 (zaM.bar s1) bar) L' h1 h2 h3 h4 ⟨⟨s1.free nn.1.1,s1.free nn.1.2.1,nn.1.2.2⟩,nn.2⟩ so bq
theorem zg6:zaI ["table"] ["table"] (zah zd3):=⟨rfl,rfl,rfl,by decide +kernel,rfl,by decide +kernel,by decide +kernel⟩
theorem zg5 (T:Txt K mg base a):zcQ P w K mg base CX0 7 a.f_table_worth a.d_table_worth ["table"] (zd6 a.p_lam):=by
 have G_look_table:=zfo (P:=P) (w:=w) (base:=base) T
 have G_solved:=zkJ (P:=P) (w:=w) (base:=base) T
 refine T.F_table_worth.ok zg6 (fun vs H Q E h=>?_) (fun cdv A outer s H vs Q E hr h=>?_)
 ·obtain ⟨tt,rs,rows,w,rfl,B,LH,q⟩:=h
  rfl
 obtain ⟨tt,rs,rows,w,rfl,B,LH,q⟩:=h
 exact ⟨zdX K a,(zad (zeX (zaE G_look_table (hr.mono (by decide)) rfl T.m_look_table T.F_look_table.kp T.b_look_table .nil za2 (zaa (pv 0) zae)))
 (zaj (zaG (zaE G_solved (hr.mono (by decide)) rfl T.m_solved T.F_solved.kp T.b_solved .nil za2 (zaa (pv 0) zae))))),
  zgZ B LH q⟩
def zfL:TS :=
 (zaN (za9 (tOp (rI (fun _ j=>0<j) fun i j=>.int (i % j)) (tOp (rI IntMulOk fun i j=>.int (i*j)) (tOp (rI0 fun i j=>.int (i+j)) (tOp (rI0 fun i j=>.int (i+j)) (tOp (rI IntMulOk fun i j=>.int (i*j)) (zac 0) (zac 0)) (tOp (rI IntMulOk fun i j=>.int (i*j)) (zac 1) (zac 0))) (tOp (rI IntMulOk fun i j=>.int (i*j)) (tOp (rI IntMulOk fun i j=>.int (i*j)) (tC (.int 7)) (zac 1)) (zac 1))) (tC (.int 1103515245))) (tC (.int 2147483629))) (zak 2))
 (zbi (tOp (rI (fun _ j=>0<j) fun i j=>.int (i % j)) (tOp (rI IntMulOk fun i j=>.int (i*j)) (zac 2) (zac 2)) (tC (.int 2147483587)))))
theorem zjx {n k:Int} (hn:n.natAbs<2 ^ 2 ^ 20) (k0:0≤k) (k1:k≤100000) (q:∀ r:Int,0≤r→r<2147483587→Q (.int r) H) :
  zfL { nx:=fun _ H'=>Q .non H',rt:=Q } (L2.zbg ["_law_number","_law_k","_law_mixed"] [.int n,.int k]) H:=by
 unfold zfL
 simp_all only [zac]
 refine ⟨zgi 1048576 1048576 hn hn,mulL (by omega) (by omega),zpA (by omega) (by omega),zpA (by omega) (by omega),zpA (by decide) (by decide),by decide,?_⟩
 have b3:=Int.emod_nonneg ((n*n+k*n+7*k*k)*1103515245) (show (2147483629:Int)≠0 by decide)
 have b4:=Int.emod_lt_of_pos ((n*n+k*n+7*k*k)*1103515245) (show (0:Int)<2147483629 by decide)
 generalize (n*n+k*n+7*k*k)*1103515245 % 2147483629=x at b3 b4 ⊢
 refine ⟨zpA (by omega) (by omega),by decide,q _ (Int.emod_nonneg _ (by decide)) (Int.emod_lt_of_pos _ (by decide))⟩
theorem zgt:zaI ["_law_number","_law_k","_law_mixed"] ["_law_number","_law_k"] (zah zfR):=⟨rfl,rfl,rfl,by decide +kernel,rfl,by decide +kernel,by decide +kernel⟩
theorem zjw (T:Txt K mg base a):zcQ P w K mg base CX0 1 a.f__law_mix a.d__law_mix ["_law_number","_law_k"] zjk:=by
 refine T.F__law_mix.ok zgt (fun vs H Q E h=>?_) (fun cdv A outer s H vs Q E hr h=>?_)
 ·obtain ⟨n,k,rfl,hn,k0,k1,q⟩:=h
  rfl
 obtain ⟨n,k,rfl,hn,k0,k1,q⟩:=h
 exact ⟨zfL,(zad (zaK (i:=2) zgt.nd rfl (Or.inl rfl) (zaO ziC (zaO zaW (zaO zeq (zaO zeq (zaO zaW (pv 0) (pv 0)) (zaO zaW (pv 1) (pv 0))) (zaO zaW (zaO zaW zag (pv 1)) (pv 1))) zag) zag))
 (zaj (zaG (zaO ziC (zaO zaW (pv 2) (pv 2)) zag)))),
  zjx hn k0 k1 q⟩
def zed (K:PySem.W.Frag):TS :=
 (zcn (zaQ (tOp (rI0 fun i j=>.bl (decide (i<j))) (zac 1) (tCB (fun xs H Q=>∃ p ys,xs=[.ref p]∧(SqL K H p ys∨SqT K H p ys)∧Q (.int ys.length) H) (zab (zac 0) zan)))) (zbi (tOp (zba K) (zac 0) (zac 1))) zaV)
theorem zde (K:PySem.W.Frag) (D:zce) (σ:St) (H:Hp):zed K D σ H=(zcn (zaQ (tOp (rI0 fun i j=>.bl (decide (i<j))) (zac 1) (tCB (fun xs H Q=>∃ p ys,xs=[.ref p]∧(SqL K H p ys∨SqT K H p ys)∧Q (.int ys.length) H) (zab (zac 0) zan)))) (zbi (tOp (zba K) (zac 0) (zac 1))) zaV) D σ H:=rfl
def zdH (K:PySem.W.Frag):TS :=
 (zaN (zeN (zed K))
 (zbi (tC (.int 0))))
theorem zgM {p:Addr} {x:Int} (hp:H p=some (.lst [.int x])) (q:Q (.int x) H) :
  zdH K { nx:=fun _ H'=>Q .non H',rt:=Q } (L2.zbg ["_law_script","_law_k"] [.ref p,.int 0]) H:=by
 unfold zdH
 simp_all only [zde,zac]
 refine ⟨fun _ _=>False,?_,fun _ _ z=>z.elim⟩
 simp_all only [zde,zac]
 refine ⟨_,.inl (SqL.of hp),?_⟩
 exact zea (fun _=>⟨_,SqL.of hp,_,rfl,q⟩) (fun z=>absurd (show (0:Int)<1 by decide) z)
theorem zgF:zaI ["_law_script","_law_k"] ["_law_script","_law_k"] (zah zdz):=⟨rfl,rfl,rfl,by decide +kernel,rfl,by decide +kernel,by decide +kernel⟩
theorem zgT (T:Txt K mg base a):zcQ P w K mg base CX0 1 a.f__law_cell_at a.d__law_cell_at ["_law_script","_law_k"] (zjI K):=by
 refine T.F__law_cell_at.ok zgF (fun vs H Q E h=>?_) (fun cdv A outer s H vs Q E hr h=>?_)
 ·obtain ⟨p,x,rfl,hp,q⟩:=h
  rfl
 obtain ⟨p,x,rfl,hp,q⟩:=h
 exact ⟨zdH K,(zad (zbZ (zcf (zaR zha (pv 1) (zal zao rfl T.z_len PySem.boot_len (zaa (pv 0) zae)) (zaS _)) (zaj (zaG (zaD zap (pv 0) (pv 1) (fun _ _=>rfl)))) zaT))
 (zaj (zaG zag))),
  zgM hp q⟩
def zfd:TS :=
 (zbi (zgx (zab (tOp (rI0 fun i j=>.int (i - j)) (zac 2) (tOp (rI zmU fun i j=>.int (i ^ j.toNat)) (tC (.int 10)) (tC (.int 18)))) (zab (tC (.int 1)) (zab (tC (.int 0)) zan)))))
theorem zcS (D:zce) (σ:St) (H:Hp):zfd D σ H=(zbi (zgx (zab (tOp (rI0 fun i j=>.int (i - j)) (zac 2) (tOp (rI zmU fun i j=>.int (i ^ j.toNat)) (tC (.int 10)) (tC (.int 18)))) (zab (tC (.int 1)) (zab (tC (.int 0)) zan))))) D σ H:=rfl
def zff:TS :=
 (zcn (zaQ (tOp (rI0 fun i j=>.bl (decide (i<j))) (zac 2) (tOp (rI zmU fun i j=>.int (i ^ j.toNat)) (tC (.int 10)) (tC (.int 18))))) (zbi (zgx (zab (zac 2) (zab (tC (.int 0)) (zab (tC (.int 0)) zan))))) zaV)
theorem zc0 (D:zce) (σ:St) (H:Hp):zff D σ H=(zcn (zaQ (tOp (rI0 fun i j=>.bl (decide (i<j))) (zac 2) (tOp (rI zmU fun i j=>.int (i ^ j.toNat)) (tC (.int 10)) (tC (.int 18))))) (zbi (zgx (zab (zac 2) (zab (tC (.int 0)) (zab (tC (.int 0)) zan))))) zaV) D σ H:=rfl
def zeV (K:PySem.W.Frag):TS :=
 (zaN (za9 (zaJ (zjI K) [] E0 (zab (zac 0) (zab (zac 1) zan))) (zak 2))
 (zaN (zeN (zff))
 (zfd)))
theorem ziA {p:Addr} {x:Int} (hp:H p=some (.lst [.int x])) (bx:x.natAbs<2 ^ 2 ^ 20) (q:∀ (l:Addr) (H':Hp),zaM H H'→H l=none→Drw H' l 0→Q (.ref l) H') :
  zeV K { nx:=fun _ H'=>Q .non H',rt:=Q } (L2.zbg ["_law_script","_law_k","_law_cell"] [.ref p,.int 0]) H:=by
 unfold zeV
 simp_all only [zcS,zc0,zac]
 refine ⟨p,x,rfl,hp,?_⟩
 refine ⟨fun σ H'=>H'=H∧1000000000000000000≤x∧σ=[some (.ref p),some (.int 0),some (.int x)],?_,?_⟩
 ·simp_all only [zcS,zc0,zac]
  refine ⟨zpd,zea (fun c=>⟨by decide,fun l hl=>?_⟩) (fun c=>by omega)⟩
  exact q l _ (zai hl _) hl ⟨⟨x,0,zaf,bx,.inl rfl⟩,by decide⟩
 ·rintro σ H1 ⟨rfl,c,rfl⟩
  simp_all only [zcS,zc0,zac]
  refine ⟨zpd,by decide,fun l hl=>?_⟩
  exact q l _ (zai hl _) hl ⟨⟨_,1,zaf,Nat.lt_of_le_of_lt (by omega) bx,.inr ⟨rfl,by omega⟩⟩,by decide⟩
theorem zfU:zaI ["_law_script","_law_k","_law_cell"] ["_law_script","_law_k"] (zah zeY):=⟨rfl,rfl,rfl,by decide +kernel,rfl,by decide +kernel,by decide +kernel⟩
theorem zis (T:Txt K mg base a):zcQ P w K mg base CX0 2 a.f__law_left a.d__law_left ["_law_script","_law_k"] (zkz K):=by
 have G__law_cell_at:=zgT (P:=P) (w:=w) (base:=base) T
 refine T.F__law_left.ok zfU (fun vs H Q E h=>?_) (fun cdv A outer s H vs Q E hr h=>?_)
 ·obtain ⟨p,x,rfl,hp,bx,q⟩:=h
  rfl
 obtain ⟨p,x,rfl,hp,bx,q⟩:=h
 exact ⟨zeV K,(zad (zaK (i:=2) zfU.nd rfl (Or.inl rfl) (zaE G__law_cell_at (hr.mono (by decide)) rfl T.m__law_cell_at T.F__law_cell_at.kp T.b__law_cell_at .nil za2 (zaa (pv 0) (zaa (pv 1) zae))))
 (zad (zbZ (zcf (zaR zha (pv 2) (zaO zkq zag zag) (zaS _)) (zaj (zaG (zc6 (zaa (pv 2) (zaa zag (zaa zag zae)))))) zaT))
 (zaj (zaG (zc6 (zaa (zaO zf2 (pv 2) (zaO zkq zag zag)) (zaa zag (zaa zag zae)))))))),
  ziA hp bx q⟩
theorem logM {m:Int} (h0:0<m) (h1:m≤1000000000000000000000000000000):m.natAbs.log2<9000:=zjB 100 (by omega) (by omega)
def ze4 (K:PySem.W.Frag):TS :=
 (zaN (za9 (tOp (rI (fun _ j=>0<j) fun i j=>.int (i % j)) (tOp (zba K) (zac 0) (tC (.int 0))) (zac 1)) (zak 3))
 (zaN (za9 (tOp (rI (fun _ j=>0<j∧j.natAbs.log2<9000) fun i j=>.int (i / j)) (tOp (zba K) (zac 0) (tC (.int 0))) (zac 1)) (ziJ (zac 0) (tC (.int 0)) zei))
 (zbi (zac 3))))
theorem zck (K:PySem.W.Frag) (D:zce) (σ:St) (H:Hp):ze4 K D σ H=(zaN (za9 (tOp (rI (fun _ j=>0<j) fun i j=>.int (i % j)) (tOp (zba K) (zac 0) (tC (.int 0))) (zac 1)) (zak 3))
 (zaN (za9 (tOp (rI (fun _ j=>0<j∧j.natAbs.log2<9000) fun i j=>.int (i / j)) (tOp (zba K) (zac 0) (tC (.int 0))) (zac 1)) (ziJ (zac 0) (tC (.int 0)) zei))
 (zbi (zac 3)))) D σ H:=rfl
def ze9 (K:PySem.W.Frag):TS :=
 (zcn (zaQ (tOp rEq (tOp (zba K) (zac 0) (tC (.int 1))) (tC (.int 0)))) (zaN (za9 (zaJ zjk [] E0 (zab (tOp (zba K) (zac 0) (tC (.int 0))) (zab (tOp (zba K) (zac 0) (tC (.int 2))) zan))) (zak 2))
 (zbi (tOp (rI (fun _ j=>0<j) fun i j=>.int (i % j)) (tOp (rI (fun _ j=>0<j) fun i j=>.int (i % j)) (tOp (rI IntMulOk fun i j=>.int (i*j)) (zac 2) (tOp (rI0 fun i j=>.int (i+j)) (zac 2) (tC (.int 2)))) (tC (.int 2147483579))) (zac 1)))) zaV)
theorem zcg (K:PySem.W.Frag) (D:zce) (σ:St) (H:Hp):ze9 K D σ H=(zcn (zaQ (tOp rEq (tOp (zba K) (zac 0) (tC (.int 1))) (tC (.int 0)))) (zaN (za9 (zaJ zjk [] E0 (zab (tOp (zba K) (zac 0) (tC (.int 0))) (zab (tOp (zba K) (zac 0) (tC (.int 2))) zan))) (zak 2))
 (zbi (tOp (rI (fun _ j=>0<j) fun i j=>.int (i % j)) (tOp (rI (fun _ j=>0<j) fun i j=>.int (i % j)) (tOp (rI IntMulOk fun i j=>.int (i*j)) (zac 2) (tOp (rI0 fun i j=>.int (i+j)) (zac 2) (tC (.int 2)))) (tC (.int 2147483579))) (zac 1)))) zaV) D σ H:=rfl
def zeS (K:PySem.W.Frag):TS :=
 (zaN (za9 (tOp (rI0 fun i j=>.int (i+j)) (tOp (zba K) (zac 0) (tC (.int 2))) (tC (.int 1))) (ziJ (zac 0) (tC (.int 2)) zei))
 (zaN (zeN (ze9 K))
 (ze4 K)))
theorem ziz {p:Addr} {c m:Int} (hP:Drw H p c) (c1:c<10000) (m0:0<m) (m1:m≤1000000000000000000000000000000)
  (q:∀ (r:Int) (H':Hp),0≤r→r<m→Off p p H'=Off p p H→Drw H' p (c+1)→Q (.int r) H') :
  zeS K { nx:=fun _ H'=>Q .non H',rt:=Q } (L2.zbg ["_law_left_here","_law_base","_law_mixed","_law_digit"] [.ref p,.int m]) H:=by
 unfold zeS
 obtain ⟨n,f,hp,bn,hf⟩:=hP.hp
 have c0:=hP.c0
 simp_all only [zck,zcg,zac]
 refine ⟨_,SqL.of hp,_,rfl,_,rfl,_,hp,2,rfl,?_⟩
 simp_all only [zck,zcg,zac]
 have hp2:(L2.upd H p (.lst [.int n,.int f,.int (c+1)])) p=some (.lst [.int n,.int f,.int (c+1)]):=zaf
 have o2:Off p p (L2.upd H p (.lst [.int n,.int f,.int (c+1)]))=Off p p H:=zpv
 generalize L2.upd H p (.lst [.int n,.int f,.int (c+1)])=G at hp2 o2 ⊢
 refine ⟨fun σ H'=>H'=G∧f=1∧0≤n∧σ=[some (.ref p),some (.int m),none,none],?_,?_⟩
 ·simp_all only [zck,zcg,zac]
  refine ⟨_,SqL.of hp2,_,rfl,rfl,zea (fun z=>?_) (fun z=>?_)⟩
  ·refine ⟨_,SqL.of hp2,_,rfl,_,SqL.of hp2,_,rfl,n,c+1,rfl,bn,by omega,by omega,fun x x0 x1=>?_⟩
   refine ⟨x,rfl,x,rfl,zpA (by omega) (by omega),by decide,m0,?_⟩
   exact q _ _ (Int.emod_nonneg _ (by omega)) (Int.emod_lt_of_pos _ m0) o2 ⟨⟨n,f,hp2,bn,hf⟩,by omega⟩
  ·rcases hf with rfl | h
   ·exact absurd rfl z
   ·exact h
 ·rintro σ H' ⟨rfl,rfl,n0,rfl⟩
  simp_all only [zck,zcg,zac]
  refine ⟨_,SqL.of hp2,_,rfl,n,rfl,m0,_,SqL.of hp2,_,rfl,n,rfl,m0,logM m0 m1,_,hp2,0,rfl,?_⟩
  have d0:0≤n / m:=Int.ediv_nonneg n0 (by omega)
  have d1:n / m≤n:=Int.ediv_le_self m n0
  exact q _ _ (Int.emod_nonneg _ (by omega)) (Int.emod_lt_of_pos _ m0) (zpv.trans o2) ⟨⟨n / m,1,zaf,Nat.lt_of_le_of_lt (by omega) bn,.inr ⟨rfl,d0⟩⟩,by omega⟩
theorem zej:zaI ["_law_left_here","_law_base","_law_mixed","_law_digit"] ["_law_left_here","_law_base"] (zah zeR):=⟨rfl,rfl,rfl,by decide +kernel,rfl,by decide +kernel,by decide +kernel⟩
theorem ziI (T:Txt K mg base a):zcQ P w K mg base CX0 2 a.f__law_draw a.d__law_draw ["_law_left_here","_law_base"] zd0:=by
 have G__law_mix:=zjw (P:=P) (w:=w) (base:=base) T
 refine T.F__law_draw.ok zej (fun vs H Q E h=>?_) (fun cdv A outer s H vs Q E hr h=>?_)
 ·obtain ⟨p,c,m,rfl,hP,c1,m0,m1,q⟩:=h
  rfl
 obtain ⟨p,c,m,rfl,hP,c1,m0,m1,q⟩:=h
 exact ⟨zeS K,(zad (zeM (zaO zeq (zaD zap (pv 0) zag (fun _ _=>rfl)) zag) (zfb (pv 0) zag zc9))
 (zad (zbZ (zcf (zaR zjo (zaD zap (pv 0) zag (fun _ _=>rfl)) zag (zaS _)) (zad (zaK (i:=2) zej.nd rfl (Or.inl rfl) (zaE G__law_mix (hr.mono (by decide)) rfl T.m__law_mix T.F__law_mix.kp T.b__law_mix .nil za2 (zaa (zaD zap (pv 0) zag (fun _ _=>rfl)) (zaa (zaD zap (pv 0) zag (fun _ _=>rfl)) zae))))
 (zaj (zaG (zaO ziC (zaO ziC (zaO zaW (pv 2) (zaO zeq (pv 2) zag)) zag) (pv 1))))) zaT))
 (zad (zaK (i:=3) zej.nd rfl (Or.inl rfl) (zaO ziC (zaD zap (pv 0) zag (fun _ _=>rfl)) (pv 1)))
 (zad (zeM (zaO zic (zaD zap (pv 0) zag (fun _ _=>rfl)) (pv 1)) (zfb (pv 0) zag zc9))
 (zaj (zaG (pv 3))))))),
  ziz hP c1 m0 m1 q⟩
def zi9:Sp:=fun vs H Q _=>∃ (p:Addr) (c:Int),vs=[.ref p]∧Drw H p c∧c<1000∧∀ (t:Addr) (rs:List Addr) (rows:List (List Int)) (w:Nat) (c':Int) (H':Hp),zaM (Off p p H) (Off p p H')→Drw H' p c'→c'≤c+148→Tb (Off p p H') t rs rows w→(∀ row∈rows,∀ x∈row,Bd 98 x)→rows.length≤12→w≤12→Q (.ref t) H'
def Cp (H:Hp) (t':Addr) (rs':List Addr):Prop:=H t'=none∧(∀ x∈rs',H x=none)∧rs'.Nodup
def ziU:Sp:=fun vs H Q _=>∃ (t:Addr) (rs:List Addr) (rows:List (List Int)) (w:Nat),vs=[.ref t]∧Tb H t rs rows w∧∀ (t':Addr) (rs':List Addr) (H':Hp),zaM H H'→Tb H' t' rs' rows w→Cp H t' rs'→Q (.ref t') H'
theorem pow29:zmU 10 29:=⟨by decide,by decide,by decide⟩
theorem log2:(0:Int)<2∧(Int.natAbs 2).log2<9000:=by decide +kernel
def Rws (H:Hp) (D:Addr) (rs:List Addr) (rows:List (List Int)):Prop:=rs.length=rows.length∧∀ (k:Nat) (r:Addr) (row:List Int),rs[k]?=some r→rows[k]?=some row→r≠D∧H r=some (.lst (row.map V.int))
theorem Rws.nil {H:Hp} {D:Addr}:Rws H D [] []:=⟨rfl,fun _ _ _ e=>nomatch e⟩
theorem Rws.put {H H':Hp} {D b:Addr} {rs:List Addr} {rows:List (List Int)} {row:List Int} (h:Rws H D rs rows) (s:∀ (x:Addr) (o:HO),x≠D→H x=some o→H' x=some o) (nb:b≠D) (hb:H' b=some (.lst (row.map V.int))):Rws H' D (rs++[b]) (rows++[row]):=by
 refine ⟨by rw [List.length_append,List.length_append,h.1];rfl,fun k r row' k1 k2=>?_⟩
 by_cases ck:k<rs.length
 ·rw [List.getElem?_append_left ck] at k1
  rw [List.getElem?_append_left (by rw [← h.1];exact ck)] at k2
  obtain ⟨z1,z2⟩:=h.2 k r row' k1 k2
  exact ⟨z1,s _ _ z1 z2⟩
 ·rw [List.getElem?_append_right (by omega)] at k1
  rw [List.getElem?_append_right (by rw [← h.1];omega),← h.1] at k2
  have zk:k - rs.length=0:=by
   have:=(List.getElem?_eq_some_iff.mp k1).1
   simp only [List.length_cons,List.length_nil] at this
   omega
  rw [zk] at k1 k2
  cases k1
  cases k2
  exact ⟨nb,hb⟩
def zeJ (K:PySem.W.Frag):TS :=
 (ze7 (tBM K "list" zbW (zac 5) (zab (zbH (zdf (zab (zac 3) zan)) (zak 0) zaP (tOp (rI0 fun i j=>.int (i - j)) (zaJ zd0 [] E0 (zab (zac 1) (zab (zac 2) zan))) (tOp (rI (fun _ j=>0<j∧j.natAbs.log2<9000) fun i j=>.int (i / j)) (zac 2) (tC (.int 2)))) [none,some 0,some 4]) zan)))
theorem zb1 (K:PySem.W.Frag) (D:zce) (σ:St) (H:Hp):zeJ K D σ H=(ze7 (tBM K "list" zbW (zac 5) (zab (zbH (zdf (zab (zac 3) zan)) (zak 0) zaP (tOp (rI0 fun i j=>.int (i - j)) (zaJ zd0 [] E0 (zab (zac 1) (zab (zac 2) zan))) (tOp (rI (fun _ j=>0<j∧j.natAbs.log2<9000) fun i j=>.int (i / j)) (zac 2) (tC (.int 2)))) [none,some 0,some 4]) zan))) D σ H:=rfl
def zem (K:PySem.W.Frag):TS :=
 (zaN (za9 (tOp (zba K) (zgx (zab (tC (.int 6)) (zab (tC (.int 12)) zan))) (zaJ zd0 [] E0 (zab (zac 0) (zab (tC (.int 2)) zan)))) (zak 1))
 (zaN (za9 (tOp (rI0 fun i j=>.int (i+j)) (tC (.int 1)) (zaJ zd0 [] E0 (zab (zac 0) (zab (zac 1) zan)))) (zak 2))
 (zaN (za9 (tOp (rI0 fun i j=>.int (i+j)) (tC (.int 1)) (zaJ zd0 [] E0 (zab (zac 0) (zab (zac 1) zan)))) (zak 3))
 (zaN (za9 (tOp (zba K) (zgx (zab (tC (.int 3)) (zab (tC (.int 7)) (zab (tC (.int 19)) (zab (tOp (zba K) (zgx (zab (tOp (rI0 fun i j=>.int (i - j)) (tOp (rI IntMulOk fun i j=>.int (i*j)) (tC (.int 2)) (tOp (rI zmU fun i j=>.int (i ^ j.toNat)) (tC (.int 10)) (tC (.int 29)))) (tC (.int 1))) (zab (tC (.int 100)) zan))) (tOp (rI (fun _ j=>0<j∧j.natAbs.log2<9000) fun i j=>.int (i / j)) (zac 1) (tC (.int 12)))) zan))))) (zaJ zd0 [] E0 (zab (zac 0) (zab (tC (.int 4)) zan)))) (zak 4))
 (zaN (za9 (zgx zan) (zak 5))
 (zaN (zjd (zdf (zab (zac 2) zan)) (zak 6)
 (zeJ K))
 (zbi (zac 5))))))))
theorem zh0 {p:Addr} {c:Int} (hP:Drw H p c) (c1:c<1000) (q:∀ (t:Addr) (rs:List Addr) (rows:List (List Int)) (w:Nat) (c':Int) (H':Hp),zaM (Off p p H) (Off p p H')→Drw H' p c'→c'≤c+148→Tb (Off p p H') t rs rows w→(∀ row∈rows,∀ x∈row,Bd 98 x)→rows.length≤12→w≤12→Q (.ref t) H') :
  zem K { nx:=fun _ H'=>Q .non H',rt:=Q } (L2.zbg ["_law_left_here","_law_most","_law_high","_law_wide","_law_base","_law_table_here","_law_i"] [.ref p]) H:=by
 unfold zem
 have c0:=hP.c0
 simp_all only [zb1,zac]
 refine ⟨by decide,fun e he=>?_⟩
 have ne:=hP.new he
 have se:=zai he (.lst [.int 6,.int 12])
 have P0:=hP.same se
 have e0:(L2.upd H e (.lst [.int 6,.int 12])) e=some (.lst [.int 6,.int 12]):=zaf
 generalize L2.upd H e (.lst [.int 6,.int 12])=He at se P0 e0 ⊢
 refine ⟨p,c,2,rfl,P0,by omega,by decide,by decide,fun r0 H0 z0 z1 o0 P0=>?_⟩
 have e1:H0 e=some (.lst [.int 6,.int 12]):=zhh _ _ _ _ _ (by rw [o0,zfY ne ne];exact e0)
 obtain ⟨mo,hmo,m6⟩:∃ mo:Int,atI [V.int 6,V.int 12] r0=some (.int mo)∧(mo=6∨mo=12):=by
  rcases (show r0=0∨r0=1 by omega) with rfl | rfl
  ·exact ⟨6,rfl,.inl rfl⟩
  ·exact ⟨12,rfl,.inr rfl⟩
 refine ⟨_,r0,rfl,SqL.of e1,_,hmo,?_⟩
 refine ⟨p,c+1,mo,rfl,P0,by omega,by omega,by omega,fun r1 H1 a0 a1 o1 P1=>?_⟩
 refine ⟨r1,rfl,p,c+1+1,mo,rfl,P1,by omega,by omega,by omega,fun r2 H2 b0 b1 o2 P2=>?_⟩
 refine ⟨r2,rfl,pow29,mulL (by decide) (by decide),by decide,fun d1 hd1=>?_⟩
 have n1:=P2.new hd1
 have sd1:=zai hd1 (.lst [.int 199999999999999999999999999999,.int 100])
 have P2':=P2.same sd1
 have f1:(L2.upd H2 d1 (.lst [.int 199999999999999999999999999999,.int 100])) d1=some (.lst [.int 199999999999999999999999999999,.int 100]):=zaf
 generalize L2.upd H2 d1 (.lst [.int 199999999999999999999999999999,.int 100])=H2' at sd1 P2' f1 ⊢
 obtain ⟨z,hz,y0,y1⟩:∃ z:Int,atI [V.int 199999999999999999999999999999,V.int 100] (mo / 12)=some (.int z)∧100≤z∧z≤199999999999999999999999999999:=by
  rcases m6 with rfl | rfl
  ·exact ⟨_,rfl,by decide,by decide⟩
  ·exact ⟨_,rfl,by decide,by decide⟩
 refine ⟨mo,rfl,by decide,by decide,_,SqL.of f1,_,hz,by decide,fun d hd=>?_⟩
 have nd:=P2'.new hd
 have sd:=zai hd (.lst [.int 3,.int 7,.int 19,.int z])
 have P3:=P2'.same sd
 have e3:(L2.upd H2' d (.lst [.int 3,.int 7,.int 19,.int z])) d=some (.lst [.int 3,.int 7,.int 19,.int z]):=zaf
 generalize L2.upd H2' d (.lst [.int 3,.int 7,.int 19,.int z])=H3 at sd P3 e3 ⊢
 refine ⟨p,c+1+1+1,4,rfl,P3,by omega,by decide,by decide,fun r3 H5x d0 d1' o4 P5x=>?_⟩
 have h4:H5x d=some (.lst [.int 3,.int 7,.int 19,.int z]):=zhh _ _ _ _ _ (by rw [o4,zfY nd nd];exact e3)
 obtain ⟨b,hb,b2,b3⟩:∃ b:Int,atI [V.int 3,V.int 7,V.int 19,V.int z] r3=some (.int b)∧3≤b∧b≤199999999999999999999999999999:=by
  rcases (show r3=0∨r3=1∨r3=2∨r3=3 by omega) with rfl | rfl | rfl | rfl
  ·exact ⟨_,rfl,by decide,by decide⟩
  ·exact ⟨_,rfl,by decide,by decide⟩
  ·exact ⟨_,rfl,by decide,by decide⟩
  ·exact ⟨_,rfl,by omega,by omega⟩
 have s5x:zaM (Off p p H) (Off p p H5x):=by
  rw [o4]
  refine zaM.trans ?_ (zjU p p (sd1.trans sd))
  rw [o2,o1,o0]
  exact zjU p p se
 refine ⟨_,r3,rfl,SqL.of h4,_,hb,by decide,fun D hD=>⟨by omega,by omega,?_⟩⟩
 have nD:=P5x.new hD
 have fD:Off p p H5x D=none:=zjp hD
 obtain ⟨w,ew⟩:∃ w:Nat,1+r2=(w:Int):=⟨(1+r2).toNat,by omega⟩
 rw [ew]
 refine zeD (fun i σ H'=>∃ (rs:List Addr) (rows:List (List Int)) (u:Int),H' D=some (.lst (rs.map V.ref))∧rs.length=i∧Rws (Off p p H') D rs rows∧(∀ row∈rows,row.length=w∧∀ x∈row,Bd 98 x)∧Drw H' p u∧u≤c+4+12*i∧zaM (Off p p H5x) (Off p p H')∧∃ x,σ=[some (.ref p),some (.int mo),some (.int (1+r1)),some (.int w),some (.int b),some (.ref D),x]) ?_ ?_ ?_
 ·refine ⟨[],[],_,zaf,rfl,.nil,fun row h=>absurd h List.not_mem_nil,P5x.upd nD,by omega,?_,_,rfl⟩
  rw [zfF nD nD]
  exact zai fD _
 ·rintro i σ H5 hi ⟨rs,rows,u,hD5,lr,R5,lw,P5,hu,s5,x,rfl⟩
  simp_all only [zb1,zac]
  refine ⟨.inl ⟨rfl,_,SqL.of hD5⟩,by omega,by omega,fun F hF=>?_⟩
  have nF:=P5.new hF
  have u0:=P5.c0
  have nFD:D≠F:=zaY hD5 hF
  refine zbK (fun j ys σ H'=>∃ (ns:List Int) (u':Int),ys=ns.map V.int∧(ns.length=j∧∀ x∈ns,Bd 98 x)∧Drw H' p u'∧u'≤u+j∧zaM (Off p p H5) (Off p p H')∧∃ k,σ=[k,some (.ref p),some (.int b)]) ?_ ?_ ?_
  ·refine ⟨[],u,rfl,⟨rfl,fun x h=>(nomatch h)⟩,P5.upd nF,by omega,?_,_,rfl⟩
   rw [zfF nF nF]
   exact zai (zjp hF) _
  ·rintro j ys σ H' hj hF' ⟨ns,u',rfl,⟨ln,bn⟩,P',hu',s',k,rfl⟩
   simp_all only [zb1,zac]
   have u0':=P'.c0
   refine ⟨p,u',b,rfl,P',by omega,by omega,by omega,fun r H6 q0 q1 o6 P6=>?_⟩
   have hF6:H6 F=some (.lst (ns.map V.int)):=by
    have:Off p p H6 F=some (.lst (ns.map V.int)):=by rw [o6,zfY nF nF];exact hF'
    exact zhh _ _ _ _ _ this
   refine ⟨log2.1,log2.2,r,rfl,_,hF6,by rw [List.length_map];simp only [sizeLine];omega,_,zaf,ns++[r - b / 2],by rw [List.map_append];rfl,by rw [List.length_append,ln];rfl,fun x hx=>?_,u'+1,P6.upd nF,by omega,?_⟩
   ·rcases List.mem_append.mp hx with h | h
    ·exact bn x h
    ·rw [List.mem_singleton.mp h]
     show (r - b / 2).natAbs<2 ^ 98
     omega
   ·rw [zfF nF nF,o6]
    exact s'.put (zjp hF)
  ·rintro ys σ H' hF' ⟨ns,u',rfl,⟨ln,bn⟩,P',hu',s',k,rfl⟩
   have hD':H' D=some (.lst (rs.map V.ref)):=by
    have:Off p p H5 D=some (.lst (rs.map V.ref)):=by rw [zfY nD nD];exact hD5
    exact zhh _ _ _ _ _ (s' _ _ this)
   have l6:=R5.1
   refine ⟨_,hD',by rw [List.length_map];simp only [sizeLine];omega,rs++[F],by rw [zaf,List.map_append];rfl,by rw [List.length_append,lr];rfl,rows++[ns],?_,?_,u',P'.upd nD,by omega,?_⟩
   ·refine R5.put (fun x o nx hx=>?_) nFD.symm ?_
    ·rw [zfF nD nD,zam nx]
     exact s' _ _ hx
    ·rw [zfF nD nD,zam nFD.symm,zfY nF nF]
     exact hF'
   ·intro row hrow
    rcases List.mem_append.mp hrow with h | h
    ·exact lw row h
    ·rw [List.mem_singleton.mp h]
     exact ⟨by rw [ln,Int.toNat_natCast],bn⟩
   ·rw [zfF nD nD]
    exact (s5.trans s').put fD
 ·rintro σ H5 ⟨rs,rows,u,hD5,lr,R5,lw,P5,hu,s5,x,rfl⟩
  simp_all only [zb1,zac]
  have l6:=R5.1
  refine q D rs rows w u H5 (s5x.trans s5) P5 (by omega) ⟨by rw [zfY nD nD];exact hD5,R5.1,fun k r row k1 k2=>(R5.2 k r row k1 k2).2,fun row h=>(lw row h).1,by omega,by omega,by omega,by omega,fun row h x hx=>((lw row h).2 x hx).mono (by decide)⟩ (fun row h x hx=>(lw row h).2 x hx) (by omega) (by omega)
theorem zbN:zaI ["_law_left_here","_law_most","_law_high","_law_wide","_law_base","_law_table_here","_law_i"] ["_law_left_here"] (zah zdu):=⟨rfl,rfl,rfl,by decide +kernel,rfl,by decide +kernel,by decide +kernel⟩
theorem zh4 (T:Txt K mg base a):zcQ P w K mg base CX0 3 a.f__law_table a.d__law_table ["_law_left_here"] zi9:=by
 have G__law_draw:=ziI (P:=P) (w:=w) (base:=base) T
 refine T.F__law_table.ok zbN (fun vs H Q E h=>?_) (fun cdv A outer s H vs Q E hr h=>?_)
 ·obtain ⟨p,c,rfl,hP,c1,q⟩:=h
  rfl
 obtain ⟨p,c,rfl,hP,c1,q⟩:=h
 refine ⟨zem K,?_,zh0 hP c1 q⟩
 refine zad ?_ ?_
 ·exact (zaK (i:=1) zbN.nd rfl (Or.inl rfl) (zaD zap (zc6 (zaa zag (zaa zag zae))) (zaE G__law_draw (hr.mono (by decide)) rfl T.m__law_draw T.F__law_draw.kp T.b__law_draw .nil za2 (zaa (pv 0) (zaa zag zae))) (fun _ _=>rfl)))
 refine zad ?_ ?_
 ·exact (zaK (i:=2) zbN.nd rfl (Or.inl rfl) (zaO zeq zag (zaE G__law_draw (hr.mono (by decide)) rfl T.m__law_draw T.F__law_draw.kp T.b__law_draw .nil za2 (zaa (pv 0) (zaa (pv 1) zae)))))
 refine zad ?_ ?_
 ·exact (zaK (i:=3) zbN.nd rfl (Or.inl rfl) (zaO zeq zag (zaE G__law_draw (hr.mono (by decide)) rfl T.m__law_draw T.F__law_draw.kp T.b__law_draw .nil za2 (zaa (pv 0) (zaa (pv 1) zae)))))
 refine zad ?_ ?_
 ·refine zaK (i:=4) ?_ ?_ ?_ ?_ ?_ ?_
  ·exact zbN.nd
  ·rfl
  ·exact Or.inr rfl
  ·with_reducible refine zaD zap ?_ ?_ ?_
   ·with_reducible refine zc6 ?_
    refine zaa ?_ ?_ (hs:=by kernel_rfl)
    ·with_reducible exact zag
    refine zaa ?_ ?_ (hs:=by kernel_rfl)
    ·with_reducible exact zag
    refine zaa ?_ ?_ (hs:=by kernel_rfl)
    ·with_reducible exact zag
    refine zaa ?_ ?_ (hs:=by kernel_rfl)
    rotate_left
    ·with_reducible exact zae
    with_reducible refine zaD zap ?_ ?_ ?_
    ·exact zc6 (zaa (zaO zf2 (zaO zaW zag (zaO zkq zag zag)) zag) (zaa zag zae))
    ·exact zaO zic (pv 1) zag
    ·exact fun _ _=>rfl
   ·exact zaE G__law_draw (hr.mono (by decide)) rfl T.m__law_draw T.F__law_draw.kp T.b__law_draw .nil za2 (zaa (pv 0) (zaa zag zae))
   ·exact fun _ _=>rfl
  ·rfl
  ·first | exact .inl rfl | exact .inr rfl
 refine zad ?_ ?_
 ·exact (zaK (i:=5) zbN.nd rfl (Or.inl rfl) (zc6 zae))
 refine zad ?_ ?_
 ·exact (zek PassesOwn.never rfl (zbq rfl T.z_range (zaa (pv 2) zae)) (zaH (i:=6) zbN.nd rfl (Or.inl rfl))
 (zaj (zeX (zpo PySem.F.plainAttrs_list PySem.F.slot_list_append PySem.F.type_list_append zfe (pv 5) (zaa (zbP (sc:=zah zdu) (N:=["_law_left_here","_law_most","_law_high","_law_wide","_law_base","_law_table_here","_law_i"]) (Nc:=["_law_j","_law_left_here","_law_base"]) (cap:=[none,some 0,some 4]) rfl rfl rfl (.of (by decide +kernel)) (zbq rfl T.z_range (zaa (pv 3) zae)) (fun _ _ _ _=>(zaH (i:=0) (show List.Nodup (["_law_j","_law_left_here","_law_base"]:List Str) from by decide) rfl (Or.inl rfl))) (fun _ _ _ _=>zbn) (fun _ _ _ _=>(zaO zf2 (zaE G__law_draw (hr.mono (by decide)) rfl T.m__law_draw T.F__law_draw.kp T.b__law_draw .nil za2 (zaa (pv 1) (zaa (pv 2) zae))) (zaO zic (pv 2) zag)))) zae)))))
 exact zaj (zaG (pv 5))
def zeT (K:PySem.W.Frag):TS :=
 (zbi (zbH (zdG K (zac 0)) (zak 0) zaP (tCB (fun xs H Q=>∃ p ys,xs=[.ref p]∧(SqL K H p ys∨SqT K H p ys)∧∀ l,H l=none→Q (.ref l) (upd H l (.lst ys))) (zab (zac 0) zan)) [none]))
theorem ziY {t:Addr} {rs:List Addr} {rows:List (List Int)} {w:Nat} (B:Tb H t rs rows w) (q:∀ (t':Addr) (rs':List Addr) (H':Hp),zaM H H'→Tb H' t' rs' rows w→Cp H t' rs'→Q (.ref t') H') :
  zeT K { nx:=fun _ H'=>Q .non H',rt:=Q } (L2.zbg ["_law_table_here"] [.ref t]) H:=by
 unfold zeT
 have l6:=B.l6
 simp_all only [zac]
 refine ⟨⟨_,SqL.of B.ht⟩,fun D hD=>?_⟩
 refine zcF (K:=K) (xs:=rs.map V.ref) (fun i ys σ H'=>zaM H H'∧(∃ rs':List Addr,ys=rs'.map V.ref∧rs'.length=i∧(∀ (k:Nat) r row,rs'[k]?=some r→rows[k]?=some row→r≠D∧H' r=some (.lst (row.map V.int)))∧Cp H D rs')∧∃ x,σ=[x]) ⟨zai hD _,⟨[],rfl,rfl,fun k r row e=>(nomatch e),hD,fun x h=>(nomatch h),List.nodup_nil⟩,_,rfl⟩ ?_ ?_ ?_
 ·rintro i ys σ H' _ ⟨s,_⟩
  exact SqL.of (s _ _ B.ht)
 ·rintro i x ys σ H' hi hD' ⟨s,⟨rs',rfl,lr,hr,cp⟩,y,rfl⟩
  obtain ⟨r,er,rfl⟩:=zbS hi
  obtain ⟨row,e1,e2,e3⟩:=B.at er
  have li:=(List.getElem?_eq_some_iff.mp e1).1
  simp_all only [zac]
  refine ⟨_,.inl (SqL.of (s _ _ e2)),fun b hb=>?_⟩
  have nb:D≠b:=zaY hD' hb
  refine ⟨_,by rw [zam nb];exact hD',by rw [List.length_map];simp only [sizeLine];omega,_,zaf,(s.add hb).put hD,rs'++[b],by rw [List.map_append];rfl,by rw [List.length_append,lr];rfl,fun k r' row' k1 k2=>?_,cp.1,fun x hx=>?_,?_⟩
  rotate_left
  ·rcases List.mem_append.mp hx with h | h
   ·exact cp.2.1 x h
   ·rw [List.mem_singleton.mp h]
    exact s.free hb
  ·refine List.nodup_append.mpr ⟨cp.2.2,by simp,fun x hx z hz=>?_⟩
   rw [List.mem_singleton.mp hz]
   rintro rfl
   obtain ⟨k,hk,ek⟩:=List.mem_iff_getElem.mp hx
   have q1:=(hr k x (rows[k]'(by omega)) (by rw [List.getElem?_eq_getElem hk,ek]) (List.getElem?_eq_getElem (by omega))).2
   rw [hb] at q1
   cases q1
  by_cases ck:k<rs'.length
  ·rw [List.getElem?_append_left ck] at k1
   obtain ⟨z1,z2⟩:=hr k r' row' k1 k2
   exact ⟨z1,by rw [zam z1,zam (zaY z2 hb)];exact z2⟩
  ·rw [List.getElem?_append_right (by omega)] at k1
   have zk:k - rs'.length=0:=by
    have:=(List.getElem?_eq_some_iff.mp k1).1
    simp only [List.length_cons,List.length_nil] at this
    omega
   rw [zk] at k1
   cases k1
   have ek:k=i:=by omega
   rw [ek,e1] at k2
   cases k2
   exact ⟨nb.symm,by rw [zam nb.symm];exact zaf⟩
 ·rintro ys σ H' hD' ⟨s,⟨rs',rfl,lr,hr,cp⟩,y,rfl⟩
  rw [List.length_map] at lr
  exact q D rs' H' s ⟨hD',by rw [lr];exact B.len,fun k r row k1 k2=>(hr k r row k1 k2).2,B.hw,B.l1,B.l6,B.w1,B.w6,B.bd⟩ cp
theorem ziu:zaI ["_law_table_here"] ["_law_table_here"] (zah zd4):=⟨rfl,rfl,rfl,by decide +kernel,rfl,by decide +kernel,by decide +kernel⟩
theorem ziy (T:Txt K mg base a):zcQ P w K mg base CX0 1 a.f__law_copy a.d__law_copy ["_law_table_here"] ziU:=by
 refine T.F__law_copy.ok ziu (fun vs H Q E h=>?_) (fun cdv A outer s H vs Q E hr h=>?_)
 ·obtain ⟨t,rs,rows,w,rfl,B,q⟩:=h
  rfl
 obtain ⟨t,rs,rows,w,rfl,B,q⟩:=h
 exact ⟨zeT K,(zaj (zaG (zbP (sc:=zah zd4) (N:=["_law_table_here"]) (Nc:=["_law_row"]) (cap:=[none]) rfl rfl rfl (.of (by decide +kernel)) (zco (pv 0)) (fun _ _ _ _=>(zaH (i:=0) (show List.Nodup (["_law_row"]:List Str) from by decide) rfl (Or.inl rfl))) (fun _ _ _ _=>zbn) (fun _ _ _ _=>(zez zdt rfl T.z_list zcu (zaa (pv 0) zae)))))),
  ziY B q⟩
theorem znk {W:Rat} {s x:Int}:W*(s:Rat)≤(x:Rat)↔W.num*s≤x*W.den:=by
 have d:=zls W
 have dq:(0:Rat)<((W.den:Int):Rat):=by exact_mod_cast d
 have e:W*((W.den:Int):Rat)=((W.num:Int):Rat):=by
  have h:=Rat.num_divInt_den W
  rw [Rat.divInt_eq_div] at h
  have z:((W.den:Int):Rat)≠0:=fun z=>by rw [z] at dq;exact absurd dq (by decide)
  generalize ((W.den:Int):Rat)=d' at h z ⊢
  generalize ((W.num:Int):Rat)=n' at h ⊢
  grind
 constructor
 ·intro h
  have h1:W*(s:Rat)*((W.den:Int):Rat)≤(x:Rat)*((W.den:Int):Rat):=Rat.mul_le_mul_of_nonneg_right h (Rat.le_of_lt dq)
  have h2:W*(s:Rat)*((W.den:Int):Rat)=((W.num*s:Int):Rat):=by
   push_cast
   rw [← e]
   push_cast
   grind
  rw [h2] at h1
  exact_mod_cast h1
 ·intro h
  have h1:((W.num*s:Int):Rat)≤((x*W.den:Int):Rat):=by exact_mod_cast h
  have h2:W*(s:Rat)*((W.den:Int):Rat)=((W.num*s:Int):Rat):=by
   push_cast
   rw [← e]
   push_cast
   grind
  rw [← h2] at h1
  push_cast at h1
  exact Rat.le_of_mul_le_mul_right h1 (by exact_mod_cast d)
theorem zpw {W:Rat} {s x:Int}:(x:Rat)≤W*(s:Rat)↔x*W.den≤W.num*s:=by
 have h:=znk (W:=-W) (s:=s) (x:=-x)
 have e1:(-W*(s:Rat)≤((-x:Int):Rat))↔((x:Rat)≤W*(s:Rat)):=by
  push_cast
  constructor
  ·intro z;grind
  ·intro z;grind
 rw [e1,Rat.neg_num,Rat.neg_den] at h
 rw [h,Int.neg_mul,Int.neg_mul]
 constructor <;> intro z <;> omega
theorem zj8 (f:Nat→Int):∀ n,S n f=((List.range n).map f).sum
 | 0=>rfl
 | n+1=>by rw [List.range_succ,List.map_append,List.sum_append,← zj8 f n];show S n f+f n=S n f+(f n+0);omega
section
variable {A:Nat→Nat→Int} {n m:Nat} {W:Rat}
end
theorem ze0 {D:Addr} {n:Nat} {te:TE} {rest:St} {x0:Option V} {vs:List V} (lq:vs.length=n) (l6:vs.length≤1000) (hD:H D=none)
  (st:∀ (i:Nat) (v:V) (H':Hp) (R:VK),i<n→vs[i]?=some v→zaM H H'→(∀ H2:Hp,zaM H' H2→R v H2)→te (some (.int (0+i))::rest) H' R)
  (hd:∀ H':Hp,zaM H H'→H' D=some (.lst vs)→Q (.ref D) H') :
  zgu (Itr 0 n) (zak 0) zaP te D Q (x0::rest) (upd H D (.lst [])):=by
 refine zbK (fun i ys σ H'=>zaM H H'∧ys=vs.take i∧∃ x,σ=x::rest) ⟨zai hD _,rfl,_,rfl⟩ ?_ ?_
 ·rintro i ys σ H' hi hD' ⟨s,rfl,u,rfl⟩
  have hw:vs[i]?=some (vs[i]'(by omega)):=List.getElem?_eq_getElem (by omega)
  refine st i _ _ _ hi hw s fun H2 s2=>?_
  refine ⟨D,_,_,rfl,rfl,s2 _ _ hD',zbX (by rw [List.length_take];omega),_,zaf,(s.trans s2).put hD,?_,_,rfl⟩
  rw [List.take_add_one,hw]
  rfl
 ·rintro ys σ H' hD' ⟨s,rfl,u,rfl⟩
  rw [← lq,List.take_length] at hD'
  exact hd H' s hD'
theorem ziX {rows:List (List Int)} {i:Nat} {row:List Int} (e:rows[i]?=some row) (j:Nat):ent rows i j=row.getD j 0:=by rw [ent,List.getD_eq_getElem?_getD (l:=rows),e];rfl
theorem znf {m w i j:Nat} {rows:List (List Int)} (h:∀ row∈rows,∀ x∈row,Bd m x) (hw:∀ row∈rows,row.length=w) (hi:i<rows.length) (hj:j<w):Bd m (ent rows i j):=by
 have e:rows[i]?=some rows[i]:=List.getElem?_eq_getElem hi
 have l:=hw _ (List.getElem_mem hi)
 rw [ziX e,List.getD_eq_getElem?_getD,List.getElem?_eq_getElem (by omega)]
 exact h _ (List.getElem_mem hi) _ (List.getElem_mem _)
open HT in
def wts (ws:List Int) (m:Nat):Bool:=decide (ws.length=m)&&(ws.all (fun x=>decide (0≤x))&&decide (0<ws.sum))
def zmF (ws:List Int) (rows:List (List Int)) (w i:Nat):Int:=S w fun j=>ws.getD j 0*ent rows i j
def zmk (ws:List Int) (rows:List (List Int)) (j:Nat):Int:=S rows.length fun i=>ws.getD i 0*ent rows i j
def zg9:Sp:=fun vs H Q _=>∃ (p:Addr) (ws:List Int) (m:Nat),vs=[.ref p,.int m]∧H p=some (.lst (ws.map V.int))∧ws.length≤100∧∀ H',zaM H H'→Q (.bl (wts ws m)) H'
def zlt:Sp:=fun vs H Q _=>∃ (t l:Addr) (rs:List Addr) (rows:List (List Int)) (w:Nat) (ws:List Int),vs=[.ref t,.ref l]∧Tb H t rs rows w∧H l=some (.lst (ws.map V.int))∧ws.length=w∧(∀ x∈ws,Bd 3000 x)∧∀ (r:Addr) (H':Hp),zaM H H'→H' r=some (.lst (((List.range rows.length).map fun i=>zmF ws rows w i).map V.int))→Q (.ref r) H'
def zlo:Sp:=fun vs H Q _=>∃ (t l:Addr) (rs:List Addr) (rows:List (List Int)) (w:Nat) (ws:List Int),vs=[.ref t,.ref l]∧Tb H t rs rows w∧H l=some (.lst (ws.map V.int))∧ws.length=rows.length∧(∀ x∈ws,Bd 3000 x)∧∀ (r:Addr) (H':Hp),zaM H H'→H' r=some (.lst (((List.range w).map fun j=>zmk ws rows j).map V.int))→Q (.ref r) H'
theorem zf3 {f:Nat→Int} {n i:Nat} {v:V} (hi:i<n) (h:(((List.range n).map f).map V.int)[i]?=some v):v=.int (f i):=by
 rw [List.getElem?_map,List.getElem?_map,List.getElem?_range hi] at h
 cases h
 rfl
theorem zcb (f:Nat→Int) (n:Nat):(((List.range n).map f).map V.int).length=n:=by rw [List.length_map,List.length_map,List.length_range]
def zex (K:PySem.W.Frag):TS :=
 (zbi (zet (tCB (zmg K) (zab (zbH (zdG K (zac 0)) (zak 0) zaP (zet (zaJ zct [] E0 (zab (zac 0) zan)) (tOp (rI0 fun i j=>.bl (decide (j≤i))) (zac 0) (tC (.int 0)))) [none]) zan)) (tOp (rI0 fun i j=>.bl (decide (j<i))) (tCB (zhP K) (zab (zac 0) zan)) (tC (.int 0)))))
theorem zbz (K:PySem.W.Frag) (D:zce) (σ:St) (H:Hp):zex K D σ H=(zbi (zet (tCB (zmg K) (zab (zbH (zdG K (zac 0)) (zak 0) zaP (zet (zaJ zct [] E0 (zab (zac 0) zan)) (tOp (rI0 fun i j=>.bl (decide (j≤i))) (zac 0) (tC (.int 0)))) [none]) zan)) (tOp (rI0 fun i j=>.bl (decide (j<i))) (tCB (zhP K) (zab (zac 0) zan)) (tC (.int 0))))) D σ H:=rfl
def zeh (K:PySem.W.Frag):TS :=
 (zcn (tOr (zeG (tB (tCB (zhd K) (zab (zac 0) (zab (tC (.ty "list")) zan))))) (zaQ (tOp rNe (tCB (fun xs H Q=>∃ p ys,xs=[.ref p]∧(SqL K H p ys∨SqT K H p ys)∧Q (.int ys.length) H) (zab (zac 0) zan)) (zac 1)))) (zbi (tC (.bl false))) zaV)
theorem zbB (K:PySem.W.Frag) (D:zce) (σ:St) (H:Hp):zeh K D σ H=(zcn (tOr (zeG (tB (tCB (zhd K) (zab (zac 0) (zab (tC (.ty "list")) zan))))) (zaQ (tOp rNe (tCB (fun xs H Q=>∃ p ys,xs=[.ref p]∧(SqL K H p ys∨SqT K H p ys)∧Q (.int ys.length) H) (zab (zac 0) zan)) (zac 1)))) (zbi (tC (.bl false))) zaV) D σ H:=rfl
def zdV (K:PySem.W.Frag):TS :=
 (zaN (zeN (zeh K))
 (zex K))
theorem zhf {p:Addr} {ws:List Int} {m:Nat} (hp:H p=some (.lst (ws.map V.int))) (hl:ws.length≤100) (q:∀ H',zaM H H'→Q (.bl (wts ws m)) H') :
  zdV K { nx:=fun _ H'=>Q .non H',rt:=Q } (L2.zbg ["thing","many"] [.ref p,.int m]) H:=by
 unfold zdV
 simp_all only [zbz,zbB,zac]
 refine ⟨fun σ H'=>H'=H∧ws.length=m∧σ=[some (.ref p),some (.int m)],?_,?_⟩
 ·simp_all only [zbz,zbB,zac]
  refine zdU hp ⟨true,rfl,?_⟩
  simp_all only [zbz,zbB,zac]
  refine ⟨_,.inl (SqL.of hp),zea (fun c=>?_) (fun c=>?_)⟩
  ·have:=q H (.refl _)
   rw [List.length_map] at c
   unfold wts at this
   rw [decide_eq_false (by omega),Bool.false_and] at this
   exact this
  ·rw [List.length_map] at c
   omega
 ·rintro σ H1 ⟨rfl,em,rfl⟩
  simp_all only [zbz,zbB,zac]
  refine ⟨⟨_,SqL.of hp⟩,fun D hD=>?_⟩
  refine zdb hp (vs:=(ws.map fun x=>decide (0≤x)).map V.bl) (by rw [List.length_map,List.length_map,List.length_map]) (by rw [List.length_map,List.length_map];omega) hD (fun i x v H2 R hx hv s2 hR=>?_) fun H2 s2 hD2=>?_
  ·obtain ⟨n,en,rfl⟩:=zbS hx
   rw [List.getElem?_map,List.getElem?_map,en] at hv
   cases hv
   simp_all only [zbz,zbB,zac]
   exact ⟨_,rfl,.inl ⟨⟨n,rfl⟩,true,rfl,znt (hR _ (.refl _))⟩⟩
  ·have q1:=q H2 s2
   unfold wts at q1
   rw [decide_eq_true em,Bool.true_and] at q1
   have ea:(ws.map fun x=>decide (0≤x)).all id=ws.all fun x=>decide (0≤x):=by rw [List.all_map];rfl
   refine ⟨D,rfl,_,SqL.of hD2,zea (fun c=>?_) (fun c=>?_)⟩
   ·rw [ea] at c
    rw [c,Bool.true_and] at q1
    exact ⟨ws,SqL.of (s2 _ _ hp),q1⟩
   ·rw [ea,Bool.not_eq_true] at c
    rw [c,Bool.false_and] at q1
    exact q1
theorem zg3:zaI ["thing","many"] ["thing","many"] (zah zda):=⟨rfl,rfl,rfl,by decide +kernel,rfl,by decide +kernel,by decide +kernel⟩
theorem zg0 (T:Txt K mg base a):zcQ P w K mg base CX0 2 a.f_are_weights a.d_are_weights ["thing","many"] zg9:=by
 have G_is_whole:=zgD (P:=P) (w:=w) (base:=base) T
 refine T.F_are_weights.ok zg3 (fun vs H Q E h=>?_) (fun cdv A outer s H vs Q E hr h=>?_)
 ·obtain ⟨p,ws,m,rfl,hp,hl,q⟩:=h
  rfl
 obtain ⟨p,ws,m,rfl,hp,hl,q⟩:=h
 exact ⟨zdV K,(zad (zbZ (zcf (PW.pt (zeW (zc4 (zc5 (zal zbC rfl T.z_isinstance PyProof.Rows.boot_isinstance (zaa (pv 0) (zaa (zdC rfl T.z_list zcu rfl) zae))))) (zeO (zaR zmJ (zal zao rfl T.z_len PySem.boot_len (zaa (pv 0) zae)) (pv 1) (zaS _))))) (zaj (zaG zgX)) zaT))
 (zaj (zaG (zeI (zal (zge rfl) rfl T.z_all PyProof.Rows.boot_all (zaa (zbP (sc:=zah zda) (N:=["thing","many"]) (Nc:=["weight"]) (cap:=[none]) rfl rfl rfl (.of (by decide +kernel)) (zco (pv 0)) (fun _ _ _ _=>(zaH (i:=0) (show List.Nodup (["weight"]:List Str) from by decide) rfl (Or.inl rfl))) (fun _ _ _ _=>zbn) (fun _ _ _ _=>(zeI (zaE G_is_whole (hr.mono (by decide)) rfl T.m_is_whole T.F_is_whole.kp T.b_is_whole .nil za2 (zaa (pv 0) zae)) (zeK (zdo zoU (pv 0) zag (zaS _)))))) zae)) (zeK (zdo ziD (zal (zcs rfl) rfl T.z_sum PyProof.Rows.boot_sum (zaa (pv 0) zae)) zag (zaS _))))))),
  zhf hp hl q⟩
def zfB (K:PySem.W.Frag):TS :=
 (zbi (zbH (zdG K (zac 0)) (zak 0) zaP (tCB (zhP K) (zab (zbH (iZip K (zab (zac 1) (zab (zac 0) zan))) (zli K 2 (zdO (zak 0) (zdO (zak 1) zk6))) zaP (tOp (rI IntMulOk fun i j=>.int (i*j)) (zac 0) (zac 1)) [none,none]) zan)) [none,some 1]))
theorem zjc {t l:Addr} {rs:List Addr} {rows:List (List Int)} {w:Nat} {ws:List Int} (B:Tb H t rs rows w) (hl:H l=some (.lst (ws.map V.int))) (lw:ws.length=w) (bw:∀ x∈ws,Bd 3000 x) (q:∀ (r:Addr) (H':Hp),zaM H H'→H' r=some (.lst (((List.range rows.length).map fun i=>zmF ws rows w i).map V.int))→Q (.ref r) H') :
  zfB K { nx:=fun _ H'=>Q .non H',rt:=Q } (L2.zbg ["table","columns"] [.ref t,.ref l]) H:=by
 unfold zfB
 have l6:=B.l6
 have w6:=B.w6
 have lq:=B.len
 simp_all only [zac]
 refine ⟨⟨_,SqL.of B.ht⟩,fun D hD=>?_⟩
 refine zdb B.ht (vs:=((List.range rows.length).map fun i=>zmF ws rows w i).map V.int) (by rw [zcb,List.length_map,lq]) (by rw [zcb];omega) hD (fun i x v H2 R hx hv s2 hR=>?_) fun H2 s2 hD2=>q D H2 s2 hD2
 obtain ⟨r,er,rfl⟩:=zbS hx
 obtain ⟨row,e1,e2,e3⟩:=B.at er
 have li:=(List.getElem?_eq_some_iff.mp e1).1
 have:=zf3 li hv
 subst this
 have hl':=s2 _ _ hl
 have e2':=s2 _ _ e2
 simp_all only [zac]
 refine ⟨⟨_,SqL.of hl'⟩,⟨_,SqL.of e2'⟩,fun F hF=>?_⟩
 refine ziO hl' e2' (vs:=((List.range w).map fun j=>ws.getD j 0*ent rows i j).map V.int) (by rw [zcb,List.length_map,List.length_map];omega) (by rw [zcb];omega) hF (fun j x z v H3 R3 hx hz hv s3 hR3=>?_) fun H3 s3 hF3=>?_
 ·obtain ⟨n,en,rfl⟩:=zbS hx
  obtain ⟨o,eo,rfl⟩:=zbS hz
  have lj:=(List.getElem?_eq_some_iff.mp en).1
  have:=zf3 (by omega) hv
  subst this
  rw [ziX e1,List.getD_eq_getElem?_getD,List.getD_eq_getElem?_getD,en,eo] at hR3
  simp_all only [zac]
  exact ⟨zgi 3000 102 (bw _ (zcz en)) (B.bd _ (zcz e1) _ (zcz eo)),hR3 _ (.refl _)⟩
 ·refine ⟨F,rfl,_,SqL.of hF3,?_⟩
  rw [← zj8]
  exact hR _ s3
theorem zjn:zaI ["table","columns"] ["table","columns"] (zah zdL):=⟨rfl,rfl,rfl,by decide +kernel,rfl,by decide +kernel,by decide +kernel⟩
theorem zjv (T:Txt K mg base a):zcQ P w K mg base CX0 1 a.f_row_sums a.d_row_sums ["table","columns"] zlt:=by
 refine T.F_row_sums.ok zjn (fun vs H Q E h=>?_) (fun cdv A outer s H vs Q E hr h=>?_)
 ·obtain ⟨t,l,rs,rows,w,ws,rfl,B,hl,lw,bw,q⟩:=h
  rfl
 obtain ⟨t,l,rs,rows,w,ws,rfl,B,hl,lw,bw,q⟩:=h
 exact ⟨zfB K,(zaj (zaG (zbP (sc:=zah zdL) (N:=["table","columns"]) (Nc:=["row","columns"]) (cap:=[none,some 1]) rfl rfl rfl (.of (by decide +kernel)) (zco (pv 0)) (fun _ _ _ _=>(zaH (i:=0) (show List.Nodup (["row","columns"]:List Str) from by decide) rfl (Or.inl rfl))) (fun _ _ _ _=>zbn) (fun _ _ _ _=>(zal (zcs rfl) rfl T.z_sum PyProof.Rows.boot_sum (zaa (zbP (N:=["row","columns"]) (Nc:=["weight","number"]) (cap:=[none,none]) rfl (zpM.trans (congrArg (ze8 _) (rfl:_=zah zdL))) rfl (.of (by decide +kernel)) (znh rfl T.z_zip (zaa (pv 1) (zaa (pv 0) zae))) (fun _ _ _ _=>(zgK rfl (zbR (zaH (i:=0) (show List.Nodup (["weight","number"]:List Str) from by decide) rfl (Or.inl rfl)) (zbR (zaH (i:=1) (show List.Nodup (["weight","number"]:List Str) from by decide) rfl (Or.inl rfl)) zeU)))) (fun _ _ _ _=>zbn) (fun _ _ _ _=>(zaO zaW (pv 0) (pv 1)))) zae)))))),
  zjc B hl lw bw q⟩
def zd1 (K:PySem.W.Frag):TS :=
 (zaN (za9 (tCB (fun xs H Q=>∃ p ys,xs=[.ref p]∧(SqL K H p ys∨SqT K H p ys)∧Q (.int ys.length) H) (zab (tOp (zba K) (zac 0) (tC (.int 0))) zan)) (zak 2))
 (zbi (zbH (zdf (zab (zac 2) zan)) (zak 0) zaP (tCB (zhP K) (zab (zbH (iZip K (zab (zac 1) (zab (zac 2) zan))) (zli K 2 (zdO (zak 0) (zdO (zak 1) zk6))) zaP (tOp (rI IntMulOk fun i j=>.int (i*j)) (zac 0) (tOp (zba K) (zac 1) (zac 2))) [none,none,some 0]) zan)) [none,some 1,some 0])))
theorem zg2 {t l:Addr} {rs:List Addr} {rows:List (List Int)} {w:Nat} {ws:List Int} (B:Tb H t rs rows w) (hl:H l=some (.lst (ws.map V.int))) (lw:ws.length=rows.length) (bw:∀ x∈ws,Bd 3000 x) (q:∀ (r:Addr) (H':Hp),zaM H H'→H' r=some (.lst (((List.range w).map fun j=>zmk ws rows j).map V.int))→Q (.ref r) H') :
  zd1 K { nx:=fun _ H'=>Q .non H',rt:=Q } (L2.zbg ["table","rows","many"] [.ref t,.ref l]) H:=by
 unfold zd1
 have l1:=B.l1
 have l6:=B.l6
 have w6:=B.w6
 have lq:=B.len
 have hk2:rs[0]?=some (rs[0]'(by omega)):=List.getElem?_eq_getElem _
 obtain ⟨row0,a1,a2,a3⟩:=B.at hk2
 simp_all only [zac]
 refine ⟨_,SqL.of B.ht,_,zbD (j:=0) (by rw [List.getElem?_map,hk2];rfl),_,rfl,_,.inl (SqL.of a2),?_⟩
 rw [List.length_map,a3,Int.toNat_natCast]
 refine ⟨by omega,by omega,fun D hD=>?_⟩
 refine ze0 (vs:=((List.range w).map fun j=>zmk ws rows j).map V.int) (zcb _ _) (by rw [zcb];omega) hD (fun j v H2 R hj hv s2 hR=>?_) fun H2 s2 hD2=>q D H2 s2 hD2
 have:=zf3 hj hv
 subst this
 have hl':=s2 _ _ hl
 have ht':=s2 _ _ B.ht
 simp_all only [zac]
 refine ⟨⟨_,SqL.of hl'⟩,⟨_,SqL.of ht'⟩,fun F hF=>?_⟩
 refine ziO hl' ht' (vs:=((List.range rows.length).map fun i=>ws.getD i 0*ent rows i j).map V.int) (by rw [zcb,List.length_map,List.length_map];omega) (by rw [zcb];omega) hF (fun i x z v H3 R3 hx hz hv s3 hR3=>?_) fun H3 s3 hF3=>?_
 ·obtain ⟨n,en,rfl⟩:=zbS hx
  obtain ⟨r,er,rfl⟩:=zbS hz
  obtain ⟨row,e1,e2,e3⟩:=B.at er
  have lj:=(List.getElem?_eq_some_iff.mp en).1
  have:=zf3 (by omega) hv
  subst this
  have ej:row[j]?=some (row[j]'(by omega)):=List.getElem?_eq_getElem _
  rw [ziX e1,List.getD_eq_getElem?_getD,List.getD_eq_getElem?_getD,en,ej] at hR3
  simp_all only [zac]
  rw [Int.zero_add]
  exact ⟨_,SqL.of (s3 _ _ (s2 _ _ e2)),_,zbD (by rw [List.getElem?_map,ej];rfl),_,rfl,zgi 3000 102 (bw _ (zcz en)) (B.bd _ (zcz e1) _ (zcz ej)),hR3 _ (.refl _)⟩
 ·refine ⟨F,rfl,_,SqL.of hF3,?_⟩
  rw [← zj8]
  exact hR _ s3
theorem zeP:zaI ["table","rows","many"] ["table","rows"] (zah zcw):=⟨rfl,rfl,rfl,by decide +kernel,rfl,by decide +kernel,by decide +kernel⟩
theorem zg1 (T:Txt K mg base a):zcQ P w K mg base CX0 1 a.f_column_sums a.d_column_sums ["table","rows"] zlo:=by
 refine T.F_column_sums.ok zeP (fun vs H Q E h=>?_) (fun cdv A outer s H vs Q E hr h=>?_)
 ·obtain ⟨t,l,rs,rows,w,ws,rfl,B,hl,lw,bw,q⟩:=h
  rfl
 obtain ⟨t,l,rs,rows,w,ws,rfl,B,hl,lw,bw,q⟩:=h
 exact ⟨zd1 K,(zad (zaK (i:=2) zeP.nd rfl (Or.inl rfl) (zal zao rfl T.z_len PySem.boot_len (zaa (zaD zap (pv 0) zag (fun _ _=>rfl)) zae)))
 (zaj (zaG (zmp (sc:=zah zcw) (N:=["table","rows","many"]) (Nc:=["j","rows","table"]) (cap:=[none,some 1,some 0]) rfl rfl rfl (.of (by decide +kernel)) (zbq rfl T.z_range (zaa (pv 2) zae)) (fun _ _ _ _=>(zaH (i:=0) (show List.Nodup (["j","rows","table"]:List Str) from by decide) rfl (Or.inr rfl))) (fun _ _ _ _=>zbn) (fun _ _ _ _=>(zal (zcs rfl) rfl T.z_sum PyProof.Rows.boot_sum (zaa (zbP (N:=["j","rows","table"]) (Nc:=["weight","row","j"]) (cap:=[none,none,some 0]) rfl (zlh.trans (congrArg (ze8 _) (rfl:_=zah zcw))) rfl (.of (by decide +kernel)) (znh rfl T.z_zip (zaa (pv 1) (zaa (pv 2) zae))) (fun _ _ _ _=>(zgK rfl (zbR (zaH (i:=0) (show List.Nodup (["weight","row","j"]:List Str) from by decide) rfl (Or.inl rfl)) (zbR (zaH (i:=1) (show List.Nodup (["weight","row","j"]:List Str) from by decide) rfl (Or.inl rfl)) zeU)))) (fun _ _ _ _=>zbn) (fun _ _ _ _=>(zaO zaW (pv 0) (zaD zap (pv 1) (pv 2) (fun _ _=>rfl))))) zae))))))),
  zg2 B hl lw bw q⟩
theorem zmr (ws:List Int):ws.sum=S ws.length fun i=>ws.getD i 0:=by
 rw [zj8]
 congr 1
 refine List.ext_getElem? fun i=>?_
 rw [List.getElem?_map]
 by_cases hi:i<ws.length
 ·rw [List.getElem?_range hi,List.getElem?_eq_getElem hi,Option.map_some,List.getD_eq_getElem?_getD,List.getElem?_eq_getElem hi]
  rfl
 ·rw [List.getElem?_eq_none (l:=ws) (by omega),List.getElem?_eq_none (l:=List.range ws.length) (by rw [List.length_range];omega)]
  rfl
theorem zmo {m:Nat} {f:Nat→Int}:∀ n,(∀ i,i<n→Bd m (f i))→Bd (m+n) (S n f)
 | 0,_=>Nat.two_pow_pos _
 | n+1,h=>Bd.add (zmo n fun i hi=>h i (by omega)) ((h n (by omega)).mono (by omega))
theorem zjt {m:Nat} {ws:List Int} (h:∀ x∈ws,Bd m x) (i:Nat):Bd m (ws.getD i 0):=by
 rw [List.getD_eq_getElem?_getD]
 cases e:ws[i]? with
 | none=>exact Nat.two_pow_pos _
 | some x=>exact h x (List.mem_of_getElem? e)
theorem zjN {k:Nat} {ws:List Int} (h:∀ x∈ws,Bd k x) (l:ws.length≤12):Bd (k+12) ws.sum:=by
 rw [zmr]
 exact (zmo _ fun i _=>zjt h i).mono (by omega)
section
variable {t:Addr} {rs:List Addr} {rows:List (List Int)} {w:Nat} {ws:List Int}
theorem zkW {k:Nat} (B:Tb H t rs rows w) (h:∀ x∈ws,Bd k x) {j:Nat} (hj:j<w):Bd (k+114) (zmk ws rows j):=by
 have l6:=B.l6
 exact (zmo (m:=k+102) _ fun i hi=>(zjt h i).mul (znf B.bd B.hw hi hj)).mono (by omega)
theorem zln {k:Nat} (B:Tb H t rs rows w) (h:∀ x∈ws,Bd k x) {i:Nat} (hi:i<rows.length):Bd (k+114) (zmF ws rows w i):=by
 have w6:=B.w6
 exact (zmo (m:=k+102) _ fun j hj=>(zjt h j).mul (znf B.bd B.hw hi hj)).mono (by omega)
end
def CB (rows:List (List Int)) (W:Rat) (ws:List Int) (j:Nat):Prop:=zmk ws rows j*W.den≤W.num*ws.sum
def RB (rows:List (List Int)) (w:Nat) (W:Rat) (ws:List Int) (i:Nat):Prop:=W.num*ws.sum≤zmF ws rows w i*W.den
def zh7:Sp:=fun vs H Q _=>∃ (t wr l:Addr) (rs:List Addr) (rows:List (List Int)) (w:Nat) (W:Rat) (ws:List Int),vs=[.ref t,.ref wr,.ref l]∧Tb H t rs rows w∧H wr=some (.tup (fr W))∧Bq 3000 W∧H l=some (.lst (ws.map V.int))∧ws.length=rows.length∧(∀ x∈ws,Bd 3000 x) ∧
 ((∀ j,j<w→CB rows W ws j)→∀ H',zaM H H'→Q .non H')∧∀ (j:Nat) (H':Hp),j<w→¬ CB rows W ws j→(∀ k,k<j→CB rows W ws k)→zaM H H'→Q (.int j) H'
def zhS:Sp:=fun vs H Q _=>∃ (t wr l:Addr) (rs:List Addr) (rows:List (List Int)) (w:Nat) (W:Rat) (ws:List Int),vs=[.ref t,.ref wr,.ref l]∧Tb H t rs rows w∧H wr=some (.tup (fr W))∧Bq 3000 W∧H l=some (.lst (ws.map V.int))∧ws.length=w∧(∀ x∈ws,Bd 3000 x) ∧
 ((∀ i,i<rows.length→RB rows w W ws i)→∀ H',zaM H H'→Q .non H')∧∀ (i:Nat) (H':Hp),i<rows.length→¬ RB rows w W ws i→(∀ k,k<i→RB rows w W ws k)→zaM H H'→Q (.int i) H'
def zcy (K:PySem.W.Frag):TS :=
 (zcn (zaQ (tOp (rI0 fun i j=>.bl (decide (j<i))) (tOp (rI IntMulOk fun i j=>.int (i*j)) (zac 5) (tOp (zbT K) (zac 1) (tC (.int 1)))) (zac 3))) (zbi (zac 4)) zaV)
theorem za6 (K:PySem.W.Frag) (D:zce) (σ:St) (H:Hp):zcy K D σ H=(zcn (zaQ (tOp (rI0 fun i j=>.bl (decide (j<i))) (tOp (rI IntMulOk fun i j=>.int (i*j)) (zac 5) (tOp (zbT K) (zac 1) (tC (.int 1)))) (zac 3))) (zbi (zac 4)) zaV) D σ H:=rfl
def zb6 (K:PySem.W.Frag):TS :=
 (zaN (za9 (tOp (rI IntMulOk fun i j=>.int (i*j)) (tOp (zbT K) (zac 1) (tC (.int 0))) (tCB (zhP K) (zab (zac 2) zan))) (zak 3))
 (zaN (zjd (zj4 K (zab (zaJ zlo [] E0 (zab (zac 0) (zab (zac 2) zan))) zan)) (zli K 2 (zdO (zak 4) (zdO (zak 5) zk6)))
 (zcy K))
 (zbi (tC .non))))
theorem zes {t wr l:Addr} {rs:List Addr} {rows:List (List Int)} {w:Nat} {W:Rat} {ws:List Int} (B:Tb H t rs rows w) (hw:H wr=some (.tup (fr W))) (bW:Bq 3000 W) (hl:H l=some (.lst (ws.map V.int))) (lw:ws.length=rows.length) (bw:∀ x∈ws,Bd 3000 x)
  (q1:(∀ j,j<w→CB rows W ws j)→∀ H',zaM H H'→Q .non H') (q2:∀ (j:Nat) (H':Hp),j<w→¬ CB rows W ws j→(∀ k,k<j→CB rows W ws k)→zaM H H'→Q (.int j) H') :
  zb6 K { nx:=fun _ H'=>Q .non H',rt:=Q } (L2.zbg ["table","worth","rows","bound","j","paid"] [.ref t,.ref wr,.ref l]) H:=by
 unfold zb6
 have l6:=B.l6
 have hw':=SqT.of (K:=K) hw
 simp_all only [za6,zac]
 refine ⟨_,hw',_,rfl,_,SqL.of hl,_,rfl,zgi 3000 3012 bW.top (zjN bw (by omega)),?_⟩
 refine ⟨t,l,rs,rows,w,ws,rfl,B,hl,lw,bw,fun r H1 s1 hr=>?_⟩
 refine ⟨r,rfl,⟨_,SqL.of hr⟩,?_⟩
 refine zfc (K:=K) (xs:=((List.range w).map fun j=>zmk ws rows j).map V.int) (fun i σ H'=>zaM H1 H'∧(∀ k,k<i→CB rows W ws k)∧∃ x z,σ=[some (.ref t),some (.ref wr),some (.ref l),some (.int (W.num*ws.sum)),x,z]) ⟨.refl _,fun k hk=>absurd hk (Nat.not_lt_zero k),_,_,rfl⟩ ?_ ?_ ?_
 ·rintro i σ H' _ ⟨s,_⟩
  exact SqL.of (s _ _ hr)
 ·rintro i x tt σ H2 hx ⟨s2,hk,x4,x5,rfl⟩ ht
  have hi:i<w:=by
   have:=(List.getElem?_eq_some_iff.mp hx).1
   rw [zcb] at this
   exact this
  have:=zf3 hi hx
  subst this
  have s3:=zai ht (.tup [.int i,.int (zmk ws rows i)])
  simp_all only [za6,zac]
  refine ⟨_,SqT.of zaf,rfl,_,_,rfl,_,_,rfl,rfl,?_⟩
  simp_all only [za6,zac]
  refine ⟨_,SqT.of (s3 _ _ (s2 _ _ (s1 _ _ hw))),_,rfl,_,rfl,zgi 3114 3000 (zkW B bw hi) bW.bot,zea (fun c=>?_) (fun c=>⟨s2.trans s3,fun k hk'=>?_⟩)⟩
  ·exact q2 i _ hi (fun z=>absurd (show zmk ws rows i*W.den≤W.num*ws.sum from z) (by omega)) hk (s1.trans (s2.trans s3))
  ·by_cases z:k<i
   ·exact hk k z
   ·rw [show k=i by omega]
    exact Int.not_lt.mp c
 ·rintro σ H2 ⟨s2,hk,x4,x5,rfl⟩
  simp_all only [za6,zac]
  rw [zcb] at hk
  exact q1 hk _ (s1.trans s2)
theorem zbx:zaI ["table","worth","rows","bound","j","paid"] ["table","worth","rows"] (zah zb9):=⟨rfl,rfl,rfl,by decide +kernel,rfl,by decide +kernel,by decide +kernel⟩
theorem zey (T:Txt K mg base a):zcQ P w K mg base CX0 3 a.f_first_column_above a.d_first_column_above ["table","worth","rows"] zh7:=by
 have G_column_sums:=zg1 (P:=P) (w:=w) (base:=base) T
 refine T.F_first_column_above.ok zbx (fun vs H Q E h=>?_) (fun cdv A outer s H vs Q E hr h=>?_)
 ·obtain ⟨t,wr,l,rs,rows,w,W,ws,rfl,B,hw,bW,hl,lw,bw,q1,q2⟩:=h
  rfl
 obtain ⟨t,wr,l,rs,rows,w,W,ws,rfl,B,hw,bW,hl,lw,bw,q1,q2⟩:=h
 exact ⟨zb6 K,(zad (zaK (i:=3) zbx.nd rfl (Or.inl rfl) (zaO zaW (zaD za1 (pv 1) zag (fun _ _=>rfl)) (zal (zcs rfl) rfl T.z_sum PyProof.Rows.boot_sum (zaa (pv 2) zae))))
 (zad (zek PassesOwn.never rfl (zhZ rfl T.z_enumerate (zaa (zaE G_column_sums (hr.mono (by decide)) rfl T.m_column_sums T.F_column_sums.kp T.b_column_sums .nil za2 (zaa (pv 0) (zaa (pv 2) zae))) zae)) (zgK rfl (zbR (zaH (i:=4) zbx.nd rfl (Or.inl rfl)) (zbR (zaH (i:=5) zbx.nd rfl (Or.inl rfl)) zeU)))
 (zaj (zcf (zaR ziD (zaO zaW (pv 5) (zaD za1 (pv 1) zag (fun _ _=>rfl))) (pv 3) (zaS _)) (zaj (zaG (pv 4))) zaT)))
 (zaj (zaG zdS)))),
  zes B hw bW hl lw bw q1 q2⟩
def zdm (K:PySem.W.Frag):TS :=
 (zcn (zaQ (tOp (rI0 fun i j=>.bl (decide (i<j))) (tOp (rI IntMulOk fun i j=>.int (i*j)) (zac 5) (tOp (zbT K) (zac 1) (tC (.int 1)))) (zac 3))) (zbi (zac 4)) zaV)
theorem zbr (K:PySem.W.Frag) (D:zce) (σ:St) (H:Hp):zdm K D σ H=(zcn (zaQ (tOp (rI0 fun i j=>.bl (decide (i<j))) (tOp (rI IntMulOk fun i j=>.int (i*j)) (zac 5) (tOp (zbT K) (zac 1) (tC (.int 1)))) (zac 3))) (zbi (zac 4)) zaV) D σ H:=rfl
def zcA (K:PySem.W.Frag):TS :=
 (zaN (za9 (tOp (rI IntMulOk fun i j=>.int (i*j)) (tOp (zbT K) (zac 1) (tC (.int 0))) (tCB (zhP K) (zab (zac 2) zan))) (zak 3))
 (zaN (zjd (zj4 K (zab (zaJ zlt [] E0 (zab (zac 0) (zab (zac 2) zan))) zan)) (zli K 2 (zdO (zak 4) (zdO (zak 5) zk6)))
 (zdm K))
 (zbi (tC .non))))
theorem zfi {t wr l:Addr} {rs:List Addr} {rows:List (List Int)} {w:Nat} {W:Rat} {ws:List Int} (B:Tb H t rs rows w) (hw:H wr=some (.tup (fr W))) (bW:Bq 3000 W) (hl:H l=some (.lst (ws.map V.int))) (lw:ws.length=w) (bw:∀ x∈ws,Bd 3000 x)
  (q1:(∀ j,j<rows.length→RB rows w W ws j)→∀ H',zaM H H'→Q .non H') (q2:∀ (j:Nat) (H':Hp),j<rows.length→¬ RB rows w W ws j→(∀ k,k<j→RB rows w W ws k)→zaM H H'→Q (.int j) H') :
  zcA K { nx:=fun _ H'=>Q .non H',rt:=Q } (L2.zbg ["table","worth","columns","bound","i","paid"] [.ref t,.ref wr,.ref l]) H:=by
 unfold zcA
 have w6:=B.w6
 have hw':=SqT.of (K:=K) hw
 simp_all only [zbr,zac]
 refine ⟨_,hw',_,rfl,_,SqL.of hl,_,rfl,zgi 3000 3012 bW.top (zjN bw (by omega)),?_⟩
 refine ⟨t,l,rs,rows,w,ws,rfl,B,hl,lw,bw,fun r H1 s1 hr=>?_⟩
 refine ⟨r,rfl,⟨_,SqL.of hr⟩,?_⟩
 refine zfc (K:=K) (xs:=((List.range rows.length).map fun i=>zmF ws rows w i).map V.int) (fun i σ H'=>zaM H1 H'∧(∀ k,k<i→RB rows w W ws k)∧∃ x z,σ=[some (.ref t),some (.ref wr),some (.ref l),some (.int (W.num*ws.sum)),x,z]) ⟨.refl _,fun k hk=>absurd hk (Nat.not_lt_zero k),_,_,rfl⟩ ?_ ?_ ?_
 ·rintro i σ H' _ ⟨s,_⟩
  exact SqL.of (s _ _ hr)
 ·rintro i x tt σ H2 hx ⟨s2,hk,x4,x5,rfl⟩ ht
  have hi:i<rows.length:=by
   have:=(List.getElem?_eq_some_iff.mp hx).1
   rw [zcb] at this
   exact this
  have:=zf3 hi hx
  subst this
  have s3:=zai ht (.tup [.int i,.int (zmF ws rows w i)])
  simp_all only [zbr,zac]
  refine ⟨_,SqT.of zaf,rfl,_,_,rfl,_,_,rfl,rfl,?_⟩
  simp_all only [zbr,zac]
  refine ⟨_,SqT.of (s3 _ _ (s2 _ _ (s1 _ _ hw))),_,rfl,_,rfl,zgi 3114 3000 (zln B bw hi) bW.bot,zea (fun c=>?_) (fun c=>⟨s2.trans s3,fun k hk'=>?_⟩)⟩
  ·exact q2 i _ hi (fun z=>absurd (show W.num*ws.sum≤zmF ws rows w i*W.den from z) (by omega)) hk (s1.trans (s2.trans s3))
  ·by_cases z:k<i
   ·exact hk k z
   ·rw [show k=i by omega]
    exact Int.not_lt.mp c
 ·rintro σ H2 ⟨s2,hk,x4,x5,rfl⟩
  simp_all only [zbr,zac]
  rw [zcb] at hk
  exact q1 hk _ (s1.trans s2)
theorem zbQ:zaI ["table","worth","columns","bound","i","paid"] ["table","worth","columns"] (zah zcH):=⟨rfl,rfl,rfl,by decide +kernel,rfl,by decide +kernel,by decide +kernel⟩
theorem ze5 (T:Txt K mg base a):zcQ P w K mg base CX0 3 a.f_first_row_below a.d_first_row_below ["table","worth","columns"] zhS:=by
 have G_row_sums:=zjv (P:=P) (w:=w) (base:=base) T
 refine T.F_first_row_below.ok zbQ (fun vs H Q E h=>?_) (fun cdv A outer s H vs Q E hr h=>?_)
 ·obtain ⟨t,wr,l,rs,rows,w,W,ws,rfl,B,hw,bW,hl,lw,bw,q1,q2⟩:=h
  rfl
 obtain ⟨t,wr,l,rs,rows,w,W,ws,rfl,B,hw,bW,hl,lw,bw,q1,q2⟩:=h
 exact ⟨zcA K,(zad (zaK (i:=3) zbQ.nd rfl (Or.inl rfl) (zaO zaW (zaD za1 (pv 1) zag (fun _ _=>rfl)) (zal (zcs rfl) rfl T.z_sum PyProof.Rows.boot_sum (zaa (pv 2) zae))))
 (zad (zek PassesOwn.never rfl (zhZ rfl T.z_enumerate (zaa (zaE G_row_sums (hr.mono (by decide)) rfl T.m_row_sums T.F_row_sums.kp T.b_row_sums .nil za2 (zaa (pv 0) (zaa (pv 2) zae))) zae)) (zgK rfl (zbR (zaH (i:=4) zbQ.nd rfl (Or.inl rfl)) (zbR (zaH (i:=5) zbQ.nd rfl (Or.inl rfl)) zeU)))
 (zaj (zcf (zaR zha (zaO zaW (pv 5) (zaD za1 (pv 1) zag (fun _ _=>rfl))) (pv 3) (zaS _)) (zaj (zaG (pv 4))) zaT)))
 (zaj (zaG zdS)))),
  zfi B hw bW hl lw bw q1 q2⟩
theorem zh2 {ws:List Int} {m:Nat} (h:wts ws m=true):ws.length=m:=by
 unfold wts at h
 rw [Bool.and_eq_true] at h
 exact of_decide_eq_true h.1
inductive Jud (rows:List (List Int)) (w:Nat) (W:Rat) (R C:List Int):Option (List V)→Prop
 | rows:wts R rows.length=false→Jud rows w W R C (some [.str "rows"])
 | cols:wts R rows.length=true→wts C w=false→Jud rows w W R C (some [.str "columns"])
 | col (j:Nat):wts R rows.length=true→wts C w=true→j<w→¬ CB rows W R j→(∀ k,k<j→CB rows W R k)→Jud rows w W R C (some [.str "column",.int j])
 | row (i:Nat):wts R rows.length=true→wts C w=true→(∀ j,j<w→CB rows W R j)→i<rows.length→¬ RB rows w W C i→(∀ k,k<i→RB rows w W C k)→Jud rows w W R C (some [.str "row",.int i])
 | ok:wts R rows.length=true→wts C w=true→(∀ j,j<w→CB rows W R j)→(∀ i,i<rows.length→RB rows w W C i)→Jud rows w W R C none
def zc7:Sp:=fun vs H Q _=>∃ (t wr rl cl:Addr) (rs:List Addr) (rows:List (List Int)) (w:Nat) (W:Rat) (R C:List Int),vs=[.ref t,.ref wr,.ref rl,.ref cl]∧Tb H t rs rows w∧H wr=some (.tup (fr W))∧Bq 3000 W∧H rl=some (.lst (R.map V.int))∧(R.length≤100∧∀ x∈R,Bd 3000 x)∧H cl=some (.lst (C.map V.int))∧(C.length≤100∧∀ x∈C,Bd 3000 x) ∧
 (Jud rows w W R C none→∀ H',zaM H H'→Q .non H')∧∀ (xs:List V) (r:Addr) (H':Hp),Jud rows w W R C (some xs)→zaM H H'→H' r=some (.tup xs)→Q (.ref r) H'
def zcY:TS :=
 (zcn (zaQ (tOp (fun x y H Q=>y=.non∧Q (.bl (!decide (x=.non))) H) (zac 5) (tC .non))) (zbi (ze3 (zab (tC (.str "row")) (zab (zac 5) zan)))) zaV)
theorem zar (D:zce) (σ:St) (H:Hp):zcY D σ H=(zcn (zaQ (tOp (fun x y H Q=>y=.non∧Q (.bl (!decide (x=.non))) H) (zac 5) (tC .non))) (zbi (ze3 (zab (tC (.str "row")) (zab (zac 5) zan)))) zaV) D σ H:=rfl
def zcW:TS :=
 (zaN (za9 (zaJ zhS [] E0 (zab (zac 0) (zab (zac 1) (zab (zac 3) zan)))) (zak 5))
 (zaN (zeN (zcY))
 (zbi (tC .non))))
theorem zas (D:zce) (σ:St) (H:Hp):zcW D σ H=(zaN (za9 (zaJ zhS [] E0 (zab (zac 0) (zab (zac 1) (zab (zac 3) zan)))) (zak 5))
 (zaN (zeN (zcY))
 (zbi (tC .non)))) D σ H:=rfl
def zcT:TS :=
 (zcn (zaQ (tOp (fun x y H Q=>y=.non∧Q (.bl (!decide (x=.non))) H) (zac 4) (tC .non))) (zbi (ze3 (zab (tC (.str "column")) (zab (zac 4) zan)))) zaV)
theorem zau (D:zce) (σ:St) (H:Hp):zcT D σ H=(zcn (zaQ (tOp (fun x y H Q=>y=.non∧Q (.bl (!decide (x=.non))) H) (zac 4) (tC .non))) (zbi (ze3 (zab (tC (.str "column")) (zab (zac 4) zan)))) zaV) D σ H:=rfl
def zeb:TS :=
 (zaN (za9 (zaJ zh7 [] E0 (zab (zac 0) (zab (zac 1) (zab (zac 2) zan)))) (zak 4))
 (zaN (zeN (zcT))
 (zcW)))
theorem zav (D:zce) (σ:St) (H:Hp):zeb D σ H=(zaN (za9 (zaJ zh7 [] E0 (zab (zac 0) (zab (zac 1) (zab (zac 2) zan)))) (zak 4))
 (zaN (zeN (zcT))
 (zcW))) D σ H:=rfl
def zd8 (K:PySem.W.Frag):TS :=
 (zcn (zeG (tB (zaJ zg9 [] E0 (zab (zac 3) (zab (tCB (fun xs H Q=>∃ p ys,xs=[.ref p]∧(SqL K H p ys∨SqT K H p ys)∧Q (.int ys.length) H) (zab (tOp (zba K) (zac 0) (tC (.int 0))) zan)) zan))))) (zbi (ze3 (zab (tC (.str "columns")) zan))) zaV)
theorem zaw (K:PySem.W.Frag) (D:zce) (σ:St) (H:Hp):zd8 K D σ H=(zcn (zeG (tB (zaJ zg9 [] E0 (zab (zac 3) (zab (tCB (fun xs H Q=>∃ p ys,xs=[.ref p]∧(SqL K H p ys∨SqT K H p ys)∧Q (.int ys.length) H) (zab (tOp (zba K) (zac 0) (tC (.int 0))) zan)) zan))))) (zbi (ze3 (zab (tC (.str "columns")) zan))) zaV) D σ H:=rfl
def zd9 (K:PySem.W.Frag):TS :=
 (zcn (zeG (tB (zaJ zg9 [] E0 (zab (zac 2) (zab (tCB (fun xs H Q=>∃ p ys,xs=[.ref p]∧(SqL K H p ys∨SqT K H p ys)∧Q (.int ys.length) H) (zab (zac 0) zan)) zan))))) (zbi (ze3 (zab (tC (.str "rows")) zan))) zaV)
theorem zat (K:PySem.W.Frag) (D:zce) (σ:St) (H:Hp):zd9 K D σ H=(zcn (zeG (tB (zaJ zg9 [] E0 (zab (zac 2) (zab (tCB (fun xs H Q=>∃ p ys,xs=[.ref p]∧(SqL K H p ys∨SqT K H p ys)∧Q (.int ys.length) H) (zab (zac 0) zan)) zan))))) (zbi (ze3 (zab (tC (.str "rows")) zan))) zaV) D σ H:=rfl
def zdD (K:PySem.W.Frag):TS :=
 (zaN (ze7 (zaJ (zgC K) [] E0 (zab (zac 0) zan)))
 (zaN (zeN (zd9 K))
 (zaN (zeN (zd8 K))
 (zeb))))
theorem zgs {t wr rl cl:Addr} {rs:List Addr} {rows:List (List Int)} {w:Nat} {W:Rat} {R C:List Int} (B:Tb H t rs rows w) (hw:H wr=some (.tup (fr W))) (bW:Bq 3000 W) (hR:H rl=some (.lst (R.map V.int))) (bR:R.length≤100∧∀ x∈R,Bd 3000 x) (hC:H cl=some (.lst (C.map V.int))) (bC:C.length≤100∧∀ x∈C,Bd 3000 x)
  (q1:Jud rows w W R C none→∀ H',zaM H H'→Q .non H') (q2:∀ (xs:List V) (r:Addr) (H':Hp),Jud rows w W R C (some xs)→zaM H H'→H' r=some (.tup xs)→Q (.ref r) H') :
  zdD K { nx:=fun _ H'=>Q .non H',rt:=Q } (L2.zbg ["table","worth","rows","columns","j","i"] [.ref t,.ref wr,.ref rl,.ref cl]) H:=by
 unfold zdD
 have lq:=B.len
 have l1:=B.l1
 have hk2:rs[0]?=some (rs[0]'(by omega)):=List.getElem?_eq_getElem _
 obtain ⟨row0,a1,a2,a3⟩:=B.at hk2
 simp_all only [zar,zas,zau,zav,zaw,zat,zac]
 refine ⟨t,rs,rows,w,rfl,B,fun H1 s1=>?_⟩
 refine ⟨fun σ H'=>zaM H H'∧wts R rows.length=true∧σ=[some (.ref t),some (.ref wr),some (.ref rl),some (.ref cl),none,none],?_,?_⟩
 ·simp_all only [zar,zas,zau,zav,zaw,zat,zac]
  refine ⟨_,.inl (SqL.of (s1 _ _ B.ht)),rl,R,rows.length,by rw [List.length_map,lq],s1 _ _ hR,bR.1,fun H2 s2=>?_⟩
  cases c:wts R rows.length with
  | false =>
   simp_all only [zar,zas,zau,zav,zaw,zat,zac]
   exact ⟨by decide,fun p np=>q2 _ p _ (.rows c) (s1.trans (s2.trans (zai np _))) zaf⟩
  | true =>
   simp_all only [zar,zas,zau,zav,zaw,zat,zac]
   exact s1.trans s2
 rintro σ H2 ⟨s2,g1,rfl⟩
 refine ⟨fun σ H'=>zaM H H'∧wts C w=true∧σ=[some (.ref t),some (.ref wr),some (.ref rl),some (.ref cl),none,none],?_,?_⟩
 ·simp_all only [zar,zas,zau,zav,zaw,zat,zac]
  refine ⟨_,SqL.of (s2 _ _ B.ht),_,zbD (j:=0) (by rw [List.getElem?_map,hk2];rfl),_,rfl,_,.inl (SqL.of (s2 _ _ a2)),cl,C,w,by rw [List.length_map,a3],s2 _ _ hC,bC.1,fun H3 s3=>?_⟩
  cases c:wts C w with
  | false =>
   simp_all only [zar,zas,zau,zav,zaw,zat,zac]
   exact ⟨by decide,fun p np=>q2 _ p _ (.cols g1 c) (s2.trans (s3.trans (zai np _))) zaf⟩
  | true =>
   simp_all only [zar,zas,zau,zav,zaw,zat,zac]
   exact s2.trans s3
 rintro σ H3 ⟨s3,g2,rfl⟩
 have p1:=zh2 g1
 have p2:=zh2 g2
 simp_all only [zar,zas,zau,zav,zaw,zat,zac]
 refine ⟨t,wr,rl,rs,rows,w,W,R,rfl,B.same s3,s3 _ _ hw,bW,s3 _ _ hR,p1,bR.2,fun hc H4 s4=>?_,fun j H4 hj h1 h2 s4=>?_⟩
 ·refine ⟨fun σ H'=>H'=H4∧σ=[some (.ref t),some (.ref wr),some (.ref rl),some (.ref cl),some .non,none],?_,?_⟩
  ·simp_all only [zar,zas,zau,zav,zaw,zat,zac]
  rintro σ H5 ⟨rfl,rfl⟩
  have s5:=s3.trans s4
  simp_all only [zar,zas,zau,zav,zaw,zat,zac]
  refine ⟨t,wr,cl,rs,rows,w,W,C,rfl,B.same s5,s5 _ _ hw,bW,s5 _ _ hC,p2,bC.2,fun hr H6 s6=>?_,fun i H6 hi h1 h2 s6=>?_⟩
  ·refine ⟨fun σ H'=>H'=H6∧σ=[some (.ref t),some (.ref wr),some (.ref rl),some (.ref cl),some .non,some .non],?_,?_⟩
   ·simp_all only [zar,zas,zau,zav,zaw,zat,zac]
   rintro σ H7 ⟨rfl,rfl⟩
   simp_all only [zar,zas,zau,zav,zaw,zat,zac]
   exact q1 (.ok g1 g2 hc hr) _ (s5.trans s6)
  ·refine ⟨fun σ H'=>False,?_,fun σ H' z=>z.elim⟩
   simp_all only [zar,zas,zau,zav,zaw,zat,zac]
   exact ⟨by decide,fun p np=>q2 _ p _ (.row i g1 g2 hc hi h1 h2) (s5.trans (s6.trans (zai np _))) zaf⟩
 ·refine ⟨fun σ H'=>False,?_,fun σ H' z=>z.elim⟩
  simp_all only [zar,zas,zau,zav,zaw,zat,zac]
  exact ⟨by decide,fun p np=>q2 _ p _ (.col j g1 g2 hj h1 h2) (s3.trans (s4.trans (zai np _))) zaf⟩
theorem zdn:zaI ["table","worth","rows","columns","j","i"] ["table","worth","rows","columns"] (zah zdF):=⟨rfl,rfl,rfl,by decide +kernel,rfl,by decide +kernel,by decide +kernel⟩
theorem zgI (T:Txt K mg base a):zcQ P w K mg base CX0 6 a.f_table_judged a.d_table_judged ["table","worth","rows","columns"] zc7:=by
 have G_are_weights:=zg0 (P:=P) (w:=w) (base:=base) T
 have G_first_column_above:=zey (P:=P) (w:=w) (base:=base) T
 have G_first_row_below:=ze5 (P:=P) (w:=w) (base:=base) T
 have G_look_table:=zfo (P:=P) (w:=w) (base:=base) T
 refine T.F_table_judged.ok zdn (fun vs H Q E h=>?_) (fun cdv A outer s H vs Q E hr h=>?_)
 ·obtain ⟨t,wr,rl,cl,rs,rows,w,W,R,C,rfl,B,hw,bW,hR,bR,hC,bC,q1,q2⟩:=h
  rfl
 obtain ⟨t,wr,rl,cl,rs,rows,w,W,R,C,rfl,B,hw,bW,hR,bR,hC,bC,q1,q2⟩:=h
 exact ⟨zdD K,(zad (zeX (zaE G_look_table (hr.mono (by decide)) rfl T.m_look_table T.F_look_table.kp T.b_look_table .nil za2 (zaa (pv 0) zae)))
 (zad (zbZ (zcf (zc4 (zc5 (zaE G_are_weights (hr.mono (by decide)) rfl T.m_are_weights T.F_are_weights.kp T.b_are_weights .nil za2 (zaa (pv 2) (zaa (zal zao rfl T.z_len PySem.boot_len (zaa (pv 0) zae)) zae))))) (zaj (zaG (zdr (zaa zf1 zae)))) zaT))
 (zad (zbZ (zcf (zc4 (zc5 (zaE G_are_weights (hr.mono (by decide)) rfl T.m_are_weights T.F_are_weights.kp T.b_are_weights .nil za2 (zaa (pv 3) (zaa (zal zao rfl T.z_len PySem.boot_len (zaa (zaD zap (pv 0) zag (fun _ _=>rfl)) zae)) zae))))) (zaj (zaG (zdr (zaa zf1 zae)))) zaT))
 (zad (zaK (i:=4) zdn.nd rfl (Or.inl rfl) (zaE G_first_column_above (hr.mono (by decide)) rfl T.m_first_column_above T.F_first_column_above.kp T.b_first_column_above .nil za2 (zaa (pv 0) (zaa (pv 1) (zaa (pv 2) zae)))))
 (zad (zbZ (zcf (zaR zfI (pv 4) zdS (zaS _)) (zaj (zaG (zdr (zaa zf1 (zaa (pv 4) zae))))) zaT))
 (zad (zaK (i:=5) zdn.nd rfl (Or.inl rfl) (zaE G_first_row_below (hr.mono (by decide)) rfl T.m_first_row_below T.F_first_row_below.kp T.b_first_row_below .nil za2 (zaa (pv 0) (zaa (pv 1) (zaa (pv 3) zae)))))
 (zad (zbZ (zcf (zaR zfI (pv 5) zdS (zaS _)) (zaj (zaG (zdr (zaa zf1 (zaa (pv 5) zae))))) zaT))
 (zaj (zaG zdS))))))))),
  zgs B hw bW hR bR hC bC q1 q2⟩
def zep (K:PySem.W.Frag):TS :=
 (zbi (zet (tCB (zhd K) (zab (zac 0) (zab (tC (.ty "int")) zan))) (zmB (tCB (zhd K) (zab (zac 0) (zab (tC (.ty "bool")) zan))))))
theorem zhD {x:V} (q:(∃ n:Int,x=.int n)∧Q (.bl true) H∨(∃ b:Bool,x=.bl b)∧Q (.bl false) H):zep K { nx:=fun _ H'=>Q .non H',rt:=Q } (L2.zbg ["_law_thing"] [x]) H:=by
 unfold zep
 simp_all only [zac]
 rcases q with ⟨⟨n,rfl⟩,q⟩ | ⟨⟨b,rfl⟩,q⟩
 ·refine zgv ⟨_,rfl,znt ?_⟩
  exact zf4 ⟨_,rfl,q⟩
 ·refine zjE (.bl b) (zfW K) ⟨_,rfl,znt ?_⟩
  exact zjE (.bl b) zfr ⟨_,rfl,q⟩
theorem zij:zaI ["_law_thing"] ["_law_thing"] (zah zel):=⟨rfl,rfl,rfl,by decide +kernel,rfl,by decide +kernel,by decide +kernel⟩
theorem zfl (T:Txt K mg base a):zcQ P w K mg base CX0 1 a.f__law_whole a.d__law_whole ["_law_thing"] zct:=by
 refine T.F__law_whole.ok zij (fun vs H Q E h=>?_) (fun cdv A outer s H vs Q E hr h=>?_)
 ·obtain ⟨x,rfl,q⟩:=h
  rfl
 obtain ⟨x,rfl,q⟩:=h
 exact ⟨zep K,(zaj (zaG (zeI (zal zbC rfl T.z_isinstance PyProof.Rows.boot_isinstance (zaa (pv 0) (zaa (zdC rfl T.z_int zjS rfl) zae))) (zeK (zmL (zal zbC rfl T.z_isinstance PyProof.Rows.boot_isinstance (zaa (pv 0) (zaa (zdC rfl T.z_bool ziw rfl) zae)))))))),
  zhD q⟩
def zec (K:PySem.W.Frag):TS :=
 (zbi (zet (tOp rEq (tCB (fun xs H Q=>∃ p ys,xs=[.ref p]∧(SqL K H p ys∨SqT K H p ys)∧Q (.int ys.length) H) (zab (zbH (zdG K (zac 0)) (zak 0) (tOr (zeG (tB (zaJ zct [] E0 (zab (zac 0) zan)))) (zaQ (tOp (rI0 fun i j=>.bl (decide (i<j))) (zac 0) (tC (.int 0))))) (zac 0) [none]) zan)) (tC (.int 0))) (tOp (rI0 fun i j=>.bl (decide (j<i))) (tCB (zhP K) (zab (zac 0) zan)) (tC (.int 0)))))
theorem zbo (K:PySem.W.Frag) (D:zce) (σ:St) (H:Hp):zec K D σ H=(zbi (zet (tOp rEq (tCB (fun xs H Q=>∃ p ys,xs=[.ref p]∧(SqL K H p ys∨SqT K H p ys)∧Q (.int ys.length) H) (zab (zbH (zdG K (zac 0)) (zak 0) (tOr (zeG (tB (zaJ zct [] E0 (zab (zac 0) zan)))) (zaQ (tOp (rI0 fun i j=>.bl (decide (i<j))) (zac 0) (tC (.int 0))))) (zac 0) [none]) zan)) (tC (.int 0))) (tOp (rI0 fun i j=>.bl (decide (j<i))) (tCB (zhP K) (zab (zac 0) zan)) (tC (.int 0))))) D σ H:=rfl
def zee (K:PySem.W.Frag):TS :=
 (zcn (tOr (zeG (tB (tCB (zhd K) (zab (zac 0) (zab (tC (.ty "list")) zan))))) (zaQ (tOp rNe (tCB (fun xs H Q=>∃ p ys,xs=[.ref p]∧(SqL K H p ys∨SqT K H p ys)∧Q (.int ys.length) H) (zab (zac 0) zan)) (zac 1)))) (zbi (tC (.bl false))) zaV)
theorem zbp (K:PySem.W.Frag) (D:zce) (σ:St) (H:Hp):zee K D σ H=(zcn (tOr (zeG (tB (tCB (zhd K) (zab (zac 0) (zab (tC (.ty "list")) zan))))) (zaQ (tOp rNe (tCB (fun xs H Q=>∃ p ys,xs=[.ref p]∧(SqL K H p ys∨SqT K H p ys)∧Q (.int ys.length) H) (zab (zac 0) zan)) (zac 1)))) (zbi (tC (.bl false))) zaV) D σ H:=rfl
def zdE (K:PySem.W.Frag):TS :=
 (zaN (zeN (zee K))
 (zec K))
theorem zgB {p:Addr} {ws:List Int} {m:Nat} (hp:H p=some (.lst (ws.map V.int))) (hl:ws.length≤100) (q:∀ H',zaM H H'→Q (.bl (wts ws m)) H') :
  zdE K { nx:=fun _ H'=>Q .non H',rt:=Q } (L2.zbg ["_law_thing","_law_many"] [.ref p,.int m]) H:=by
 unfold zdE
 simp_all only [zbo,zbp,zac]
 refine ⟨fun σ H'=>H'=H∧ws.length=m∧σ=[some (.ref p),some (.int m)],?_,?_⟩
 ·simp_all only [zbo,zbp,zac]
  refine zdU hp ⟨true,rfl,?_⟩
  simp_all only [zbo,zbp,zac]
  refine ⟨_,.inl (SqL.of hp),zea (fun c=>?_) (fun c=>?_)⟩
  ·have:=q H (.refl _)
   rw [List.length_map] at c
   unfold wts at this
   rw [decide_eq_false (by omega),Bool.false_and] at this
   exact this
  ·rw [List.length_map] at c
   omega
 ·rintro σ H1 ⟨rfl,em,rfl⟩
  simp_all only [zbo,zbp,zac]
  refine ⟨⟨_,SqL.of hp⟩,fun D hD=>?_⟩
  refine zcF (K:=K) (xs:=ws.map V.int) (fun i ys σ H'=>zaM H1 H'∧ys=((ws.take i).filter (fun x=>decide (x<0))).map V.int∧∃ x,σ=[x]) ⟨zai hD _,rfl,_,rfl⟩ ?_ ?_ ?_
  ·rintro i ys σ H' _ ⟨s,_⟩
   exact SqL.of (s _ _ hp)
  ·rintro i x ys σ H' hi hD' ⟨s,rfl,y,rfl⟩
   obtain ⟨n,en,rfl⟩:=zbS hi
   have li:=(List.getElem?_eq_some_iff.mp en).1
   have ll:((ws.take i).filter (fun x=>decide (x<0))).length≤100:=Nat.le_trans (List.length_filter_le _ _) (by rw [List.length_take];omega)
   have et:ws.take (i+1)=ws.take i++[n]:=by rw [List.take_add_one,en];rfl
   simp_all only [zbo,zbp,zac]
   refine ⟨_,rfl,.inl ⟨⟨n,rfl⟩,true,rfl,?_⟩⟩
   rw [if_neg Bool.noConfusion]
   refine zea (fun c=>?_) (fun c=>?_)
   ·refine ⟨_,hD',by rw [List.length_map];exact Nat.lt_of_le_of_lt ll (by decide),_,zaf,s.put hD,?_⟩
    rw [et,List.filter_append,List.filter_cons_of_pos (by simpa using c),List.map_append]
    rfl
   ·refine ⟨_,hD',s,?_⟩
    rw [et,List.filter_append,List.filter_cons_of_neg (by simpa using c),List.filter_nil,List.append_nil]
  ·rintro ys σ H' hD' ⟨s,rfl,y,rfl⟩
   rw [List.length_map,List.take_length] at hD'
   have q1:=q H' s
   unfold wts at q1
   rw [decide_eq_true em,Bool.true_and] at q1
   refine ⟨D,rfl,_,.inl (SqL.of hD'),zea (fun c=>?_) (fun c=>?_)⟩
   ·have c':ws.all (fun x=>decide (0≤x))=true:=by
     rw [List.all_eq_true]
     intro x h
     have e:ws.filter (fun x=>decide (x<0))=[]:=List.eq_nil_of_length_eq_zero (by rw [List.length_map] at c;omega)
     have:=List.filter_eq_nil_iff.mp e x h
     rw [decide_eq_true_eq] at this
     exact decide_eq_true (by omega)
    rw [c',Bool.true_and] at q1
    exact ⟨ws,SqL.of (s _ _ hp),q1⟩
   ·have c':ws.all (fun x=>decide (0≤x))=false:=by
     rw [← Bool.not_eq_true,List.all_eq_true]
     intro h
     refine c ?_
     rw [List.filter_eq_nil_iff.mpr fun x hx=>by
      have:=of_decide_eq_true (h x hx)
      rw [decide_eq_true_eq]
      omega]
     rfl
    rw [c',Bool.false_and] at q1
    exact q1
theorem zgz:zaI ["_law_thing","_law_many"] ["_law_thing","_law_many"] (zah zcJ):=⟨rfl,rfl,rfl,by decide +kernel,rfl,by decide +kernel,by decide +kernel⟩
theorem zgr (T:Txt K mg base a):zcQ P w K mg base CX0 2 a.f__law_weights a.d__law_weights ["_law_thing","_law_many"] zg9:=by
 have G__law_whole:=zfl (P:=P) (w:=w) (base:=base) T
 refine T.F__law_weights.ok zgz (fun vs H Q E h=>?_) (fun cdv A outer s H vs Q E hr h=>?_)
 ·obtain ⟨p,ws,m,rfl,hp,hl,q⟩:=h
  rfl
 obtain ⟨p,ws,m,rfl,hp,hl,q⟩:=h
 exact ⟨zdE K,(zad (zbZ (zcf (PW.pt (zeW (zc4 (zc5 (zal zbC rfl T.z_isinstance PyProof.Rows.boot_isinstance (zaa (pv 0) (zaa (zdC rfl T.z_list zcu rfl) zae))))) (zeO (zaR zmJ (zal zao rfl T.z_len PySem.boot_len (zaa (pv 0) zae)) (pv 1) (zaS _))))) (zaj (zaG zgX)) zaT))
 (zaj (zaG (zeI (zdo zjo (zal zao rfl T.z_len PySem.boot_len (zaa (zbP (sc:=zah zcJ) (N:=["_law_thing","_law_many"]) (Nc:=["_law_one"]) (cap:=[none]) rfl rfl rfl (.of (by decide +kernel)) (zco (pv 0)) (fun _ _ _ _=>(zaH (i:=0) (show List.Nodup (["_law_one"]:List Str) from by decide) rfl (Or.inl rfl))) (fun _ _ _ _=>(zkN (PW.pt (zeW (zc4 (zc5 (zaE G__law_whole (hr.mono (by decide)) rfl T.m__law_whole T.F__law_whole.kp T.b__law_whole .nil za2 (zaa (pv 0) zae)))) (zeO (zaR zha (pv 0) zag (zaS _))))))) (fun _ _ _ _=>(pv 0))) zae)) zag (zaS _)) (zeK (zdo ziD (zal (zcs rfl) rfl T.z_sum PyProof.Rows.boot_sum (zaa (pv 0) zae)) zag (zaS _))))))),
  zgB hp hl q⟩
def zbY (K:PySem.W.Frag):TS :=
 (zcn (zaQ (tOp (rI0 fun i j=>.bl (decide (i<j))) (tOp (rI IntMulOk fun i j=>.int (i*j)) (tCB (zhP K) (zab (zbH (zdf (zab (tCB (fun xs H Q=>∃ p ys,xs=[.ref p]∧(SqL K H p ys∨SqT K H p ys)∧Q (.int ys.length) H) (zab (zac 3) zan)) zan)) (zak 0) zaP (tOp (rI IntMulOk fun i j=>.int (i*j)) (tOp (zba K) (zac 1) (zac 0)) (tOp (zba K) (tOp (zba K) (zac 2) (zac 3)) (zac 0))) [none,some 3,some 0,some 5]) zan)) (tOp (zbT K) (zac 1) (tC (.int 1)))) (tOp (rI IntMulOk fun i j=>.int (i*j)) (tOp (zbT K) (zac 1) (tC (.int 0))) (tCB (zhP K) (zab (zac 3) zan))))) (zbi (ze3 (zab (tC (.str "row")) (zab (zac 5) zan)))) zaV)
theorem zax (K:PySem.W.Frag) (D:zce) (σ:St) (H:Hp):zbY K D σ H=(zcn (zaQ (tOp (rI0 fun i j=>.bl (decide (i<j))) (tOp (rI IntMulOk fun i j=>.int (i*j)) (tCB (zhP K) (zab (zbH (zdf (zab (tCB (fun xs H Q=>∃ p ys,xs=[.ref p]∧(SqL K H p ys∨SqT K H p ys)∧Q (.int ys.length) H) (zab (zac 3) zan)) zan)) (zak 0) zaP (tOp (rI IntMulOk fun i j=>.int (i*j)) (tOp (zba K) (zac 1) (zac 0)) (tOp (zba K) (tOp (zba K) (zac 2) (zac 3)) (zac 0))) [none,some 3,some 0,some 5]) zan)) (tOp (zbT K) (zac 1) (tC (.int 1)))) (tOp (rI IntMulOk fun i j=>.int (i*j)) (tOp (zbT K) (zac 1) (tC (.int 0))) (tCB (zhP K) (zab (zac 3) zan))))) (zbi (ze3 (zab (tC (.str "row")) (zab (zac 5) zan)))) zaV) D σ H:=rfl
def zbV (K:PySem.W.Frag):TS :=
 (zcn (zaQ (tOp (rI0 fun i j=>.bl (decide (j<i))) (tOp (rI IntMulOk fun i j=>.int (i*j)) (tCB (zhP K) (zab (zbH (zdf (zab (tCB (fun xs H Q=>∃ p ys,xs=[.ref p]∧(SqL K H p ys∨SqT K H p ys)∧Q (.int ys.length) H) (zab (zac 2) zan)) zan)) (zak 0) zaP (tOp (rI IntMulOk fun i j=>.int (i*j)) (tOp (zba K) (zac 1) (zac 0)) (tOp (zba K) (tOp (zba K) (zac 3) (zac 0)) (zac 2))) [none,some 2,some 4,some 0]) zan)) (tOp (zbT K) (zac 1) (tC (.int 1)))) (tOp (rI IntMulOk fun i j=>.int (i*j)) (tOp (zbT K) (zac 1) (tC (.int 0))) (tCB (zhP K) (zab (zac 2) zan))))) (zbi (ze3 (zab (tC (.str "column")) (zab (zac 4) zan)))) zaV)
theorem zaA (K:PySem.W.Frag) (D:zce) (σ:St) (H:Hp):zbV K D σ H=(zcn (zaQ (tOp (rI0 fun i j=>.bl (decide (j<i))) (tOp (rI IntMulOk fun i j=>.int (i*j)) (tCB (zhP K) (zab (zbH (zdf (zab (tCB (fun xs H Q=>∃ p ys,xs=[.ref p]∧(SqL K H p ys∨SqT K H p ys)∧Q (.int ys.length) H) (zab (zac 2) zan)) zan)) (zak 0) zaP (tOp (rI IntMulOk fun i j=>.int (i*j)) (tOp (zba K) (zac 1) (zac 0)) (tOp (zba K) (tOp (zba K) (zac 3) (zac 0)) (zac 2))) [none,some 2,some 4,some 0]) zan)) (tOp (zbT K) (zac 1) (tC (.int 1)))) (tOp (rI IntMulOk fun i j=>.int (i*j)) (tOp (zbT K) (zac 1) (tC (.int 0))) (tCB (zhP K) (zab (zac 2) zan))))) (zbi (ze3 (zab (tC (.str "column")) (zab (zac 4) zan)))) zaV) D σ H:=rfl
def zdk (K:PySem.W.Frag):TS :=
 (zaN (zjd (zdf (zab (tCB (fun xs H Q=>∃ p ys,xs=[.ref p]∧(SqL K H p ys∨SqT K H p ys)∧Q (.int ys.length) H) (zab (zac 2) zan)) zan)) (zak 5)
 (zbY K))
 (zbi (tC .non)))
theorem zaz (K:PySem.W.Frag) (D:zce) (σ:St) (H:Hp):zdk K D σ H=(zaN (zjd (zdf (zab (tCB (fun xs H Q=>∃ p ys,xs=[.ref p]∧(SqL K H p ys∨SqT K H p ys)∧Q (.int ys.length) H) (zab (zac 2) zan)) zan)) (zak 5)
 (zbY K))
 (zbi (tC .non))) D σ H:=rfl
def zef (K:PySem.W.Frag):TS :=
 (zaN (zjd (zdf (zab (tCB (fun xs H Q=>∃ p ys,xs=[.ref p]∧(SqL K H p ys∨SqT K H p ys)∧Q (.int ys.length) H) (zab (zac 3) zan)) zan)) (zak 4)
 (zbV K))
 (zdk K))
theorem zaC (K:PySem.W.Frag) (D:zce) (σ:St) (H:Hp):zef K D σ H=(zaN (zjd (zdf (zab (tCB (fun xs H Q=>∃ p ys,xs=[.ref p]∧(SqL K H p ys∨SqT K H p ys)∧Q (.int ys.length) H) (zab (zac 3) zan)) zan)) (zak 4)
 (zbV K))
 (zdk K)) D σ H:=rfl
def zer (K:PySem.W.Frag):TS :=
 (zcn (zeG (tB (zaJ zg9 [] E0 (zab (zac 3) (zab (tCB (fun xs H Q=>∃ p ys,xs=[.ref p]∧(SqL K H p ys∨SqT K H p ys)∧Q (.int ys.length) H) (zab (tOp (zba K) (zac 0) (tC (.int 0))) zan)) zan))))) (zbi (ze3 (zab (tC (.str "columns")) zan))) zaV)
theorem zaB (K:PySem.W.Frag) (D:zce) (σ:St) (H:Hp):zer K D σ H=(zcn (zeG (tB (zaJ zg9 [] E0 (zab (zac 3) (zab (tCB (fun xs H Q=>∃ p ys,xs=[.ref p]∧(SqL K H p ys∨SqT K H p ys)∧Q (.int ys.length) H) (zab (tOp (zba K) (zac 0) (tC (.int 0))) zan)) zan))))) (zbi (ze3 (zab (tC (.str "columns")) zan))) zaV) D σ H:=rfl
def zeg (K:PySem.W.Frag):TS :=
 (zcn (zeG (tB (zaJ zg9 [] E0 (zab (zac 2) (zab (tCB (fun xs H Q=>∃ p ys,xs=[.ref p]∧(SqL K H p ys∨SqT K H p ys)∧Q (.int ys.length) H) (zab (zac 0) zan)) zan))))) (zbi (ze3 (zab (tC (.str "rows")) zan))) zaV)
theorem zay (K:PySem.W.Frag) (D:zce) (σ:St) (H:Hp):zeg K D σ H=(zcn (zeG (tB (zaJ zg9 [] E0 (zab (zac 2) (zab (tCB (fun xs H Q=>∃ p ys,xs=[.ref p]∧(SqL K H p ys∨SqT K H p ys)∧Q (.int ys.length) H) (zab (zac 0) zan)) zan))))) (zbi (ze3 (zab (tC (.str "rows")) zan))) zaV) D σ H:=rfl
def zdW (K:PySem.W.Frag):TS :=
 (zaN (zeN (zeg K))
 (zaN (zeN (zer K))
 (zef K)))
theorem zj7 {t wr rl:Addr} {rs:List Addr} {rows:List (List Int)} {w j:Nat} {W:Rat} {R:List Int} {s3 s5:Option V} (B:Tb H t rs rows w) (hj:j<w) (hw:H wr=some (.tup (fr W))) (bW:Bq 3000 W) (hR:H rl=some (.lst (R.map V.int))) (lR:R.length=rows.length) (bR:∀ x∈R,Bd 3000 x) {D:zce}
  (q1:CB rows W R j→∀ H',zaM H H'→D.nx [some (.ref t),some (.ref wr),some (.ref rl),s3,some (.int j),s5] H') (q2:¬ CB rows W R j→∀ (r:Addr) (H':Hp),zaM H H'→H' r=some (.tup [.str "column",.int j])→D.rt (.ref r) H') :
  zbV K D [some (.ref t),some (.ref wr),some (.ref rl),s3,some (.int j),s5] H:=by
 have l6:=B.l6
 have lq:=B.len
 simp_all only [zax,zaA,zaz,zaC,zaB,zay,zac]
 refine ⟨_,.inl (SqL.of hR),by rw [List.length_map];omega,by rw [List.length_map];omega,fun F hF=>?_⟩
 rw [List.length_map,lR,Int.toNat_natCast]
 refine ze0 (vs:=((List.range rows.length).map fun i=>R.getD i 0*ent rows i j).map V.int) (zcb _ _) (by rw [zcb];omega) hF (fun i v H5 Q5 hi hv s5 hQ5=>?_) fun H5 s5 hF5=>?_
 ·have:=zf3 hi hv
  subst this
  have eR:R[i]?=some (R[i]'(by omega)):=List.getElem?_eq_getElem _
  have hk:rs[i]?=some (rs[i]'(by omega)):=List.getElem?_eq_getElem _
  obtain ⟨row,e1,e2,e3⟩:=B.at hk
  have ej:row[j]?=some (row[j]'(by omega)):=List.getElem?_eq_getElem _
  have hQ6:=hQ5 H5 (.refl _)
  rw [ziX e1,List.getD_eq_getElem?_getD,List.getD_eq_getElem?_getD,eR,ej] at hQ6
  simp_all only [zax,zaA,zaz,zaC,zaB,zay,zac]
  rw [Int.zero_add]
  exact ⟨_,SqL.of (s5 _ _ hR),_,zbD (by rw [List.getElem?_map,eR];rfl),_,SqL.of (s5 _ _ B.ht),_,zbD (by rw [List.getElem?_map,hk];rfl),_,rfl,_,SqL.of (s5 _ _ e2),_,zbD (by rw [List.getElem?_map,ej];rfl),_,rfl,_,rfl,zgi 3000 102 (bR _ (zcz eR)) (B.bd _ (zcz e1) _ (zcz ej)),hQ6⟩
 ·refine ⟨F,rfl,_,SqL.of hF5,_,SqT.of (s5 _ _ hw),_,rfl,_,rfl,?_⟩
  rw [← zj8]
  refine ⟨zgi 3114 3000 (zkW B bR hj) bW.bot,_,SqT.of (s5 _ _ hw),_,rfl,_,SqL.of (s5 _ _ hR),_,rfl,zgi 3000 3012 bW.top (zjN bR (by omega)),zea (fun c=>⟨by decide,fun p np=>?_⟩) (fun c=>?_)⟩
  ·exact q2 (fun z=>absurd (show zmk R rows j*W.den≤W.num*R.sum from z) (Int.not_le.mpr c)) p _ (s5.trans (zai np _)) zaf
  ·exact q1 (Int.not_lt.mp c) _ s5
theorem zkb {t wr cl:Addr} {rs:List Addr} {rows:List (List Int)} {w i:Nat} {W:Rat} {C:List Int} {s2 s4:Option V} (B:Tb H t rs rows w) (hi:i<rows.length) (hw:H wr=some (.tup (fr W))) (bW:Bq 3000 W) (hC:H cl=some (.lst (C.map V.int))) (lC:C.length=w) (bC:∀ x∈C,Bd 3000 x) {D:zce}
  (q1:RB rows w W C i→∀ H',zaM H H'→D.nx [some (.ref t),some (.ref wr),s2,some (.ref cl),s4,some (.int i)] H') (q2:¬ RB rows w W C i→∀ (r:Addr) (H':Hp),zaM H H'→H' r=some (.tup [.str "row",.int i])→D.rt (.ref r) H') :
  zbY K D [some (.ref t),some (.ref wr),s2,some (.ref cl),s4,some (.int i)] H:=by
 have w6:=B.w6
 have lq:=B.len
 simp_all only [zax,zaA,zaz,zaC,zaB,zay,zac]
 refine ⟨_,.inl (SqL.of hC),by rw [List.length_map];omega,by rw [List.length_map];omega,fun F hF=>?_⟩
 rw [List.length_map,lC,Int.toNat_natCast]
 refine ze0 (vs:=((List.range w).map fun j=>C.getD j 0*ent rows i j).map V.int) (zcb _ _) (by rw [zcb];omega) hF (fun j v H5 Q5 hj hv s5 hQ5=>?_) fun H5 s5 hF5=>?_
 ·have:=zf3 hj hv
  subst this
  have eC:C[j]?=some (C[j]'(by omega)):=List.getElem?_eq_getElem _
  have hk:rs[i]?=some (rs[i]'(by omega)):=List.getElem?_eq_getElem _
  obtain ⟨row,e1,e2,e3⟩:=B.at hk
  have ej:row[j]?=some (row[j]'(by omega)):=List.getElem?_eq_getElem _
  have hQ6:=hQ5 H5 (.refl _)
  rw [ziX e1,List.getD_eq_getElem?_getD,List.getD_eq_getElem?_getD,eC,ej] at hQ6
  simp_all only [zax,zaA,zaz,zaC,zaB,zay,zac]
  rw [Int.zero_add]
  exact ⟨_,SqL.of (s5 _ _ hC),_,zbD (by rw [List.getElem?_map,eC];rfl),_,SqL.of (s5 _ _ B.ht),_,zbD (by rw [List.getElem?_map,hk];rfl),_,rfl,_,SqL.of (s5 _ _ e2),_,zbD (by rw [List.getElem?_map,ej];rfl),_,rfl,_,rfl,zgi 3000 102 (bC _ (zcz eC)) (B.bd _ (zcz e1) _ (zcz ej)),hQ6⟩
 ·refine ⟨F,rfl,_,SqL.of hF5,_,SqT.of (s5 _ _ hw),_,rfl,_,rfl,?_⟩
  rw [← zj8]
  refine ⟨zgi 3114 3000 (zln B bC hi) bW.bot,_,SqT.of (s5 _ _ hw),_,rfl,_,SqL.of (s5 _ _ hC),_,rfl,zgi 3000 3012 bW.top (zjN bC (by omega)),zea (fun c=>⟨by decide,fun p np=>?_⟩) (fun c=>?_)⟩
  ·exact q2 (fun z=>absurd (show W.num*C.sum≤zmF C rows w i*W.den from z) (Int.not_le.mpr c)) p _ (s5.trans (zai np _)) zaf
  ·exact q1 (Int.not_lt.mp c) _ s5
theorem zg4 {t wr rl cl:Addr} {rs:List Addr} {rows:List (List Int)} {w:Nat} {W:Rat} {R C:List Int} (B:Tb H t rs rows w) (hw:H wr=some (.tup (fr W))) (bW:Bq 3000 W) (hR:H rl=some (.lst (R.map V.int))) (bR:R.length≤100∧∀ x∈R,Bd 3000 x) (hC:H cl=some (.lst (C.map V.int))) (bC:C.length≤100∧∀ x∈C,Bd 3000 x)
  (q1:Jud rows w W R C none→∀ H',zaM H H'→Q .non H') (q2:∀ (xs:List V) (r:Addr) (H':Hp),Jud rows w W R C (some xs)→zaM H H'→H' r=some (.tup xs)→Q (.ref r) H') :
  zdW K { nx:=fun _ H'=>Q .non H',rt:=Q } (L2.zbg ["_law_table_here","_law_worth","_law_rows","_law_columns","_law_j","_law_i"] [.ref t,.ref wr,.ref rl,.ref cl]) H:=by
 unfold zdW
 have lq:=B.len
 have l1:=B.l1
 have hk2:rs[0]?=some (rs[0]'(by omega)):=List.getElem?_eq_getElem _
 obtain ⟨row0,a1,a2,a3⟩:=B.at hk2
 have s1:zaM H H:=.refl _
 simp_all only [zax,zaA,zaz,zaC,zaB,zay,zac]
 refine ⟨fun σ H'=>zaM H H'∧wts R rows.length=true∧σ=[some (.ref t),some (.ref wr),some (.ref rl),some (.ref cl),none,none],?_,?_⟩
 ·simp_all only [zax,zaA,zaz,zaC,zaB,zay,zac]
  refine ⟨_,.inl (SqL.of (s1 _ _ B.ht)),rl,R,rows.length,by rw [List.length_map,lq],s1 _ _ hR,bR.1,fun H2 s2=>?_⟩
  cases c:wts R rows.length with
  | false =>
   simp_all only [zax,zaA,zaz,zaC,zaB,zay,zac]
   exact ⟨by decide,fun p np=>q2 _ p _ (.rows c) (s1.trans (s2.trans (zai np _))) zaf⟩
  | true =>
   simp_all only [zax,zaA,zaz,zaC,zaB,zay,zac]
   exact s1.trans s2
 rintro σ H2 ⟨s2,g1,rfl⟩
 refine ⟨fun σ H'=>zaM H H'∧wts C w=true∧σ=[some (.ref t),some (.ref wr),some (.ref rl),some (.ref cl),none,none],?_,?_⟩
 ·simp_all only [zax,zaA,zaz,zaC,zaB,zay,zac]
  refine ⟨_,SqL.of (s2 _ _ B.ht),_,zbD (j:=0) (by rw [List.getElem?_map,hk2];rfl),_,rfl,_,.inl (SqL.of (s2 _ _ a2)),cl,C,w,by rw [List.length_map,a3],s2 _ _ hC,bC.1,fun H3 s3=>?_⟩
  cases c:wts C w with
  | false =>
   simp_all only [zax,zaA,zaz,zaC,zaB,zay,zac]
   exact ⟨by decide,fun p np=>q2 _ p _ (.cols g1 c) (s2.trans (s3.trans (zai np _))) zaf⟩
  | true =>
   simp_all only [zax,zaA,zaz,zaC,zaB,zay,zac]
   exact s2.trans s3
 rintro σ H3 ⟨s3,g2,rfl⟩
 have p1:=zh2 g1
 have p2:=zh2 g2
 simp_all only [zax,zaA,zaz,zaC,zaB,zay,zac]
 have hb:=bC.1
 have hb2:=bR.1
 refine ⟨_,.inl (SqL.of (s3 _ _ hC)),by rw [List.length_map];omega,by rw [List.length_map];omega,?_⟩
 rw [List.length_map,p2,Int.toNat_natCast]
 refine zeD (fun i σ H'=>zaM H3 H'∧(∀ k,k<i→CB rows W R k)∧∃ x,σ=[some (.ref t),some (.ref wr),some (.ref rl),some (.ref cl),x,none]) ⟨.refl _,fun k hk=>absurd hk (Nat.not_lt_zero k),_,rfl⟩ ?_ ?_
 ·rintro j σ H4 hj ⟨s4,hk,x,rfl⟩
  have s34:=s3.trans s4
  show zbV K _ [some (.ref t),some (.ref wr),some (.ref rl),some (.ref cl),some (.int (0+j)),none] H4
  rw [Int.zero_add]
  refine zj7 (B.same s34) hj (s34 _ _ hw) bW (s34 _ _ hR) p1 bR.2 (fun h H5 s5=>⟨s4.trans s5,fun k hk'=>?_,_,rfl⟩) (fun h r H5 s5 hr=>q2 _ r _ (.col j g1 g2 hj h hk) (s34.trans s5) hr)
  by_cases z:k<j
  ·exact hk k z
  ·rw [show k=j by omega]
   exact h
 rintro σ H4 ⟨s4,hc,x,rfl⟩
 have s34:=s3.trans s4
 simp_all only [zax,zaA,zaz,zaC,zaB,zay,zac]
 refine ⟨_,.inl (SqL.of (s34 _ _ hR)),by rw [List.length_map];omega,by rw [List.length_map];omega,?_⟩
 rw [List.length_map,p1,Int.toNat_natCast]
 refine zeD (fun i σ H'=>zaM H4 H'∧(∀ k,k<i→RB rows w W C k)∧∃ y,σ=[some (.ref t),some (.ref wr),some (.ref rl),some (.ref cl),x,y]) ⟨.refl _,fun k hk=>absurd hk (Nat.not_lt_zero k),_,rfl⟩ ?_ ?_
 ·rintro j σ H5 hj ⟨s5,hk,y,rfl⟩
  have s35:=s34.trans s5
  show zbY K _ [some (.ref t),some (.ref wr),some (.ref rl),some (.ref cl),x,some (.int (0+j))] H5
  rw [Int.zero_add]
  refine zkb (B.same s35) hj (s35 _ _ hw) bW (s35 _ _ hC) p2 bC.2 (fun h H6 s6=>⟨s5.trans s6,fun k hk'=>?_,_,rfl⟩) (fun h r H6 s6 hr=>q2 _ r _ (.row j g1 g2 hc hj h hk) (s35.trans s6) hr)
  by_cases z:k<j
  ·exact hk k z
  ·rw [show k=j by omega]
   exact h
 rintro σ H5 ⟨s5,hr,y,rfl⟩
 simp_all only [zax,zaA,zaz,zaC,zaB,zay,zac]
 exact q1 (.ok g1 g2 hc hr) _ (s34.trans s5)
theorem zdI:zaI ["_law_table_here","_law_worth","_law_rows","_law_columns","_law_j","_law_i"] ["_law_table_here","_law_worth","_law_rows","_law_columns"] (zah zcx):=⟨rfl,rfl,rfl,by decide +kernel,rfl,by decide +kernel,by decide +kernel⟩
theorem zhc (T:Txt K mg base a):zcQ P w K mg base CX0 3 a.f__law_judged a.d__law_judged ["_law_table_here","_law_worth","_law_rows","_law_columns"] zc7:=by
 have G__law_weights:=zgr (P:=P) (w:=w) (base:=base) T
 refine T.F__law_judged.ok zdI (fun vs H Q E h=>?_) (fun cdv A outer s H vs Q E hr h=>?_)
 ·obtain ⟨t,wr,rl,cl,rs,rows,w,W,R,C,rfl,B,hw,bW,hR,bR,hC,bC,q1,q2⟩:=h
  rfl
 obtain ⟨t,wr,rl,cl,rs,rows,w,W,R,C,rfl,B,hw,bW,hR,bR,hC,bC,q1,q2⟩:=h
 exact ⟨zdW K,(zad (zbZ (zcf (zc4 (zc5 (zaE G__law_weights (hr.mono (by decide)) rfl T.m__law_weights T.F__law_weights.kp T.b__law_weights .nil za2 (zaa (pv 2) (zaa (zal zao rfl T.z_len PySem.boot_len (zaa (pv 0) zae)) zae))))) (zaj (zaG (zdr (zaa zf1 zae)))) zaT))
 (zad (zbZ (zcf (zc4 (zc5 (zaE G__law_weights (hr.mono (by decide)) rfl T.m__law_weights T.F__law_weights.kp T.b__law_weights .nil za2 (zaa (pv 3) (zaa (zal zao rfl T.z_len PySem.boot_len (zaa (zaD zap (pv 0) zag (fun _ _=>rfl)) zae)) zae))))) (zaj (zaG (zdr (zaa zf1 zae)))) zaT))
 (zad (zek PassesOwn.never rfl (zbq rfl T.z_range (zaa (zal zao rfl T.z_len PySem.boot_len (zaa (pv 3) zae)) zae)) (zaH (i:=4) zdI.nd rfl (Or.inr rfl))
 (zaj (zcf (zaR ziD (zaO zaW (zal (zcs rfl) rfl T.z_sum PyProof.Rows.boot_sum (zaa (zbP (sc:=zah zcx) (N:=["_law_table_here","_law_worth","_law_rows","_law_columns","_law_j","_law_i"]) (Nc:=["_law_i","_law_rows","_law_j","_law_table_here"]) (cap:=[none,some 2,some 4,some 0]) rfl rfl rfl (.of (by decide +kernel)) (zbq rfl T.z_range (zaa (zal zao rfl T.z_len PySem.boot_len (zaa (pv 2) zae)) zae)) (fun _ _ _ _=>(zaH (i:=0) (show List.Nodup (["_law_i","_law_rows","_law_j","_law_table_here"]:List Str) from by decide) rfl (Or.inl rfl))) (fun _ _ _ _=>zbn) (fun _ _ _ _=>(zaO zaW (zaD zap (pv 1) (pv 0) (fun _ _=>rfl)) (zaD zap (zaD zap (pv 3) (pv 0) (fun _ _=>rfl)) (pv 2) (fun _ _=>rfl))))) zae)) (zaD za1 (pv 1) zag (fun _ _=>rfl))) (zaO zaW (zaD za1 (pv 1) zag (fun _ _=>rfl)) (zal (zcs rfl) rfl T.z_sum PyProof.Rows.boot_sum (zaa (pv 2) zae))) (zaS _)) (zaj (zaG (zdr (zaa zf1 (zaa (pv 4) zae))))) zaT)))
 (zad (zek PassesOwn.never rfl (zbq rfl T.z_range (zaa (zal zao rfl T.z_len PySem.boot_len (zaa (pv 2) zae)) zae)) (zaH (i:=5) zdI.nd rfl (Or.inr rfl))
 (zaj (zcf (zaR zha (zaO zaW (zal (zcs rfl) rfl T.z_sum PyProof.Rows.boot_sum (zaa (zbP (sc:=zah zcx) (N:=["_law_table_here","_law_worth","_law_rows","_law_columns","_law_j","_law_i"]) (Nc:=["_law_j","_law_columns","_law_table_here","_law_i"]) (cap:=[none,some 3,some 0,some 5]) rfl rfl rfl (.of (by decide +kernel)) (zbq rfl T.z_range (zaa (zal zao rfl T.z_len PySem.boot_len (zaa (pv 3) zae)) zae)) (fun _ _ _ _=>(zaH (i:=0) (show List.Nodup (["_law_j","_law_columns","_law_table_here","_law_i"]:List Str) from by decide) rfl (Or.inl rfl))) (fun _ _ _ _=>zbn) (fun _ _ _ _=>(zaO zaW (zaD zap (pv 1) (pv 0) (fun _ _=>rfl)) (zaD zap (zaD zap (pv 2) (pv 3) (fun _ _=>rfl)) (pv 0) (fun _ _=>rfl))))) zae)) (zaD za1 (pv 1) zag (fun _ _=>rfl))) (zaO zaW (zaD za1 (pv 1) zag (fun _ _=>rfl)) (zal (zcs rfl) rfl T.z_sum PyProof.Rows.boot_sum (zaa (pv 3) zae))) (zaS _)) (zaj (zaG (zdr (zaa zf1 (zaa (pv 5) zae))))) zaT)))
 (zaj (zaG zdS)))))),
  zg4 B hw bW hR bR hC bC q1 q2⟩
def zkU (K:PySem.W.Frag):Sp:=fun vs H Q _=>∃ (p:Addr) (W:Rat),vs=[.ref p]∧H p=some (.tup (fr W))∧Bq 2801 W∧∀ H',zaM H H'→Q (.bl true) H'
theorem zlz (t b:Int):Int.gcd b (t.fmod b)=Int.gcd t b:=by
 have e:t.fmod b=t - b*(t.fdiv b):=Int.fmod_def t b
 rw [e,Int.gcd_comm t b]
 have:t - b*t.fdiv b=t+b*(-(t.fdiv b)):=by rw [Int.mul_neg];omega
 rw [this]
 exact Int.gcd_add_mul_left_right b t _
def zcB (K:PySem.W.Frag):TS :=
 (zbi (zet (tOp (rI0 fun i j=>.bl (decide (j<i))) (tOp (zbT K) (zac 0) (tC (.int 1))) (tC (.int 0))) (tOp (rIn K false) (zac 1) (ze3 (zab (tC (.int 1)) (zab (tUn (rU fun i=>.int (-i)) (tC (.int 1))) zan))))))
theorem zbc (K:PySem.W.Frag) (D:zce) (σ:St) (H:Hp):zcB K D σ H=(zbi (zet (tOp (rI0 fun i j=>.bl (decide (j<i))) (tOp (zbT K) (zac 0) (tC (.int 1))) (tC (.int 0))) (tOp (rIn K false) (zac 1) (ze3 (zab (tC (.int 1)) (zab (tUn (rU fun i=>.int (-i)) (tC (.int 1))) zan)))))) D σ H:=rfl
def zdJ (K:PySem.W.Frag):TS :=
 (zaN (za9 (zac 0) (zli K 2 (zdO (zak 1) (zdO (zak 2) zk6))))
 (zaN (zf0 (zaQ (tOp (rI0 fun i j=>.bl (decide (j<i))) (zac 2) (tC (.int 0)))) (tPar 1 2 (zab (zac 2) (zab (tOp (rI (fun _ j=>j≠0) fun i j=>.int (i.fmod j)) (zac 1) (zac 2)) zan))))
 (zcB K)))
theorem zbf (K:PySem.W.Frag) (D:zce) (σ:St) (H:Hp):zdJ K D σ H=(zaN (za9 (zac 0) (zli K 2 (zdO (zak 1) (zdO (zak 2) zk6))))
 (zaN (zf0 (zaQ (tOp (rI0 fun i j=>.bl (decide (j<i))) (zac 2) (tC (.int 0)))) (tPar 1 2 (zab (zac 2) (zab (tOp (rI (fun _ j=>j≠0) fun i j=>.int (i.fmod j)) (zac 1) (zac 2)) zan))))
 (zcB K))) D σ H:=rfl
def zdN (K:PySem.W.Frag):TS :=
 (zcn (tOr (zeG (tB (tCB (zhd K) (zab (zac 0) (zab (tC (.ty "tuple")) zan))))) (tOr (zaQ (tOp rNe (tCB (fun xs H Q=>∃ p ys,xs=[.ref p]∧(SqL K H p ys∨SqT K H p ys)∧Q (.int ys.length) H) (zab (zac 0) zan)) (tC (.int 2)))) (tOr (zeG (tB (zaJ zct [] E0 (zab (tOp (zbT K) (zac 0) (tC (.int 0))) zan)))) (zeG (tB (zaJ zct [] E0 (zab (tOp (zbT K) (zac 0) (tC (.int 1))) zan))))))) (zbi (tC (.bl false))) zaV)
theorem zbe (K:PySem.W.Frag) (D:zce) (σ:St) (H:Hp):zdN K D σ H=(zcn (tOr (zeG (tB (tCB (zhd K) (zab (zac 0) (zab (tC (.ty "tuple")) zan))))) (tOr (zaQ (tOp rNe (tCB (fun xs H Q=>∃ p ys,xs=[.ref p]∧(SqL K H p ys∨SqT K H p ys)∧Q (.int ys.length) H) (zab (zac 0) zan)) (tC (.int 2)))) (tOr (zeG (tB (zaJ zct [] E0 (zab (tOp (zbT K) (zac 0) (tC (.int 0))) zan)))) (zeG (tB (zaJ zct [] E0 (zab (tOp (zbT K) (zac 0) (tC (.int 1))) zan))))))) (zbi (tC (.bl false))) zaV) D σ H:=rfl
def zdi (K:PySem.W.Frag):TS :=
 (zaN (zeN (zdN K))
 (zdJ K))
theorem zf6 {p:Addr} {W:Rat} (hp:H p=some (.tup (fr W))) (bW:Bq 2801 W) (q:∀ H',zaM H H'→Q (.bl true) H') :
  zdi K { nx:=fun _ H'=>Q .non H',rt:=Q } (L2.zbg ["_law_thing","_law_one","_law_other"] [.ref p]) H:=by
 unfold zdi
 have hT:=SqT.of (K:=K) hp
 have dW:=zls W
 simp_all only [zbc,zbf,zbe,zac]
 refine ⟨fun σ H'=>H'=H∧σ=[some (.ref p),none,none],?_,?_⟩
 ·simp_all only [zbc,zbf,zbe,zac]
  refine zgJ hp ⟨true,rfl,?_⟩
  simp_all only [zbc,zbf,zbe,zac]
  refine ⟨_,.inr hT,?_⟩
  refine zea (fun z=>absurd rfl z) fun _=>?_
  exact ⟨_,hT,_,rfl,_,rfl,.inl ⟨⟨_,rfl⟩,true,rfl,zea (fun z=>by cases z) fun _=>⟨_,hT,_,rfl,_,rfl,.inl ⟨⟨_,rfl⟩,true,rfl,zea (fun z=>by cases z) fun _=>rfl⟩⟩⟩⟩
 rintro σ H1 ⟨rfl,rfl⟩
 simp_all only [zbc,zbf,zbe,zac]
 refine ⟨_,hT,rfl,_,_,rfl,_,_,rfl,rfl,?_⟩
 refine zjK (fun σ H'=>H'=H1∧∃ u v,σ=[some (.ref p),some (.int u),some (.int v)]∧0≤v∧Int.gcd u v=1) (fun σ _=>match σ with | [_,_,some (.int v)]=>v.toNat | _=>0) ?_ ?_ ?_
 ·refine ⟨rfl,_,_,rfl,by omega,?_⟩
  have:=W.reduced
  exact this
 ·rintro σ H' ⟨rfl,u,v,rfl,hv,hg⟩
  simp_all only [zbc,zbf,zbe,zac]
  refine zea (fun c=>?_) (fun c=>?_)
  ·have hv':0<v:=by omega
   refine ⟨by omega,Int.fmod_nonneg_of_pos u hv',?_,?_⟩
   ·rw [zlz,hg]
   ·have:=Int.fmod_lt_of_pos u hv'
    omega
  ·have c':v=0:=by omega
   subst c'
   have e:u.natAbs=1:=by
    have:=hg
    rw [Int.gcd,Int.natAbs_zero,Nat.gcd_zero_right] at this
    exact this
   refine ⟨_,hT,_,rfl,_,rfl,zea (fun _=>⟨by decide,fun r nr=>⟨_,.inr (SqT.of zaf),rfl,rfl,?_⟩⟩) fun z=>absurd dW z⟩
   have e2:inV (.int u) [.int 1,.int (-1)]=true:=by
    rcases (show u=1∨u=-1 by omega) with rfl | rfl
    ·rfl
    ·rfl
   rw [e2]
   exact q _ (zai nr _)
 ·rintro σ H1 Q1 Q2 hQ ⟨v,hv,k,hk,h,h1,b,hb,h2⟩
  exact ⟨v,hv,k,hk,h,h1,b,hb,hQ _ _ h2⟩
theorem zcj:zaI ["_law_thing","_law_one","_law_other"] ["_law_thing"] (zah zdp):=⟨rfl,rfl,rfl,by decide +kernel,rfl,by decide +kernel,by decide +kernel⟩
theorem zf8 (T:Txt K mg base a):zcQ P w K mg base CX0 2 a.f__law_fraction a.d__law_fraction ["_law_thing"] (zkU K):=by
 have G__law_whole:=zfl (P:=P) (w:=w) (base:=base) T
 refine T.F__law_fraction.ok zcj (fun vs H Q E h=>?_) (fun cdv A outer s H vs Q E hr h=>?_)
 ·obtain ⟨p,W,rfl,hp,bW,q⟩:=h
  rfl
 obtain ⟨p,W,rfl,hp,bW,q⟩:=h
 exact ⟨zdi K,(zad (zbZ (zcf (PW.pt (zeW (zc4 (zc5 (zal zbC rfl T.z_isinstance PyProof.Rows.boot_isinstance (zaa (pv 0) (zaa (zdC rfl T.z_tuple zhn rfl) zae))))) (zeW (zaR zmJ (zal zao rfl T.z_len PySem.boot_len (zaa (pv 0) zae)) zag (zaS _)) (zeW (zc4 (zc5 (zaE G__law_whole (hr.mono (by decide)) rfl T.m__law_whole T.F__law_whole.kp T.b__law_whole .nil za2 (zaa (zaD za1 (pv 0) zag (fun _ _=>rfl)) zae)))) (zeO (zc4 (zc5 (zaE G__law_whole (hr.mono (by decide)) rfl T.m__law_whole T.F__law_whole.kp T.b__law_whole .nil za2 (zaa (zaD za1 (pv 0) zag (fun _ _=>rfl)) zae))))))))) (zaj (zaG zgX)) zaT))
 (zad (zeM (pv 0) (zgK rfl (zbR (zaH (i:=1) zcj.nd rfl (Or.inl rfl)) (zbR (zaH (i:=2) zcj.nd rfl (Or.inl rfl)) zeU))))
 (zad (zhK PassesOwn.never (zaR ziD (pv 2) zag (zaS _)) (zaj (zpH (i:=1) (j:=2) rfl zcj.nd rfl rfl (by decide) rfl rfl (zaa (pv 2) (zaa (zaO zlm (pv 1) (pv 2)) zae)) rfl)))
 (zaj (zaG (zeI (zdo ziD (zaD za1 (pv 0) zag (fun _ _=>rfl)) zag (zaS _)) (zeK (zdo zkZ (pv 1) (zdr (zaa zag (zaa (zeQ zdg zag) zae))) (by with_unfolding_all rfl))))))))),
  zf6 hp bW q⟩
def zlL (K:PySem.W.Frag) (P:Addr):Sp:=fun vs H Q _=>∃ (p:Addr) (ns:List Int),vs=[.ref p]∧SqL K H p (ns.map V.int)∧ns.length≤63∧(∀ x∈ns,x.natAbs<2 ^ 2 ^ 20)∧LT H P∧∀ H',Q (.bl true) H'
theorem zfP {ms:List Int} {n:Nat} {p:Addr} (h:H p=some (.lst (ms.map V.int))):zdY K H (n+1) (.lst (ms.map Tr.int)) (.ref p):=by
 refine .lst (SqL.of h) (by rw [List.length_map,List.length_map]) fun i x t e1 e2=>?_
 obtain ⟨a,ha,rfl⟩:=zbS e1
 obtain ⟨b,hb,rfl⟩:=zbS e2
 rw [ha] at hb
 cases hb
 exact .int _
theorem zdP {t:Addr} {rs:List Addr} {rows:List (List Int)} {w n:Nat} (B:Tb H t rs rows w):zdY K H (n+1+1) (.lst (rows.map fun row=>.lst (row.map Tr.int))) (.ref t):=by
 refine .lst (SqL.of B.ht) (by rw [List.length_map,List.length_map,B.len]) fun i x u e1 e2=>?_
 obtain ⟨r,er,rfl⟩:=zbS e1
 obtain ⟨row,e,rfl⟩:=zbS e2
 exact zfP (B.hr i r row er e)
theorem znx {rows:List (List Int)} {w:Nat} {W:Rat} {R C:List Int} {o o':Option (List V)} (h:Jud rows w W R C o) (h':Jud rows w W R C o'):o=o':=by
 have tf:∀ {b:Bool},b=true→b=false→False:=fun h1 h2=>by rw [h1] at h2;cases h2
 cases h with
 | rows a=>cases h' with
  | rows b=>rfl
  | cols b _=>exact (tf b a).elim
  | col j b _ _ _ _=>exact (tf b a).elim
  | row i b _ _ _ _ _=>exact (tf b a).elim
  | ok b _ _ _=>exact (tf b a).elim
 | cols a a2=>cases h' with
  | rows b=>exact (tf a b).elim
  | cols b _=>rfl
  | col j b b2 _ _ _=>exact (tf b2 a2).elim
  | row i b b2 _ _ _ _=>exact (tf b2 a2).elim
  | ok b b2 _ _=>exact (tf b2 a2).elim
 | col j a a2 a3 a4 a5=>cases h' with
  | rows b=>exact (tf a b).elim
  | cols b b2=>exact (tf a2 b2).elim
  | col j' b b2 b3 b4 b5 =>
   rcases Nat.lt_trichotomy j j' with z | z | z
   ·exact absurd (b5 j z) a4
   ·rw [z]
   ·exact absurd (a5 j' z) b4
  | row i b b2 b3 _ _ _=>exact absurd (b3 j a3) a4
  | ok b b2 b3 _=>exact absurd (b3 j a3) a4
 | row i a a2 a3 a4 a5 a6=>cases h' with
  | rows b=>exact (tf a b).elim
  | cols b b2=>exact (tf a2 b2).elim
  | col j' b b2 b3 b4 b5=>exact absurd (a3 j' b3) b4
  | row i' b b2 b3 b4 b5 b6 =>
   rcases Nat.lt_trichotomy i i' with z | z | z
   ·exact absurd (b6 i z) a5
   ·rw [z]
   ·exact absurd (a6 i' z) b5
  | ok b b2 b3 b4=>exact absurd (b4 i a4) a5
 | ok a a2 a3 a4=>cases h' with
  | rows b=>exact (tf a b).elim
  | cols b b2=>exact (tf a2 b2).elim
  | col j' b b2 b3 b4 b5=>exact absurd (a3 j' b3) b4
  | row i b b2 b3 b4 b5 b6=>exact absurd (a4 i b4) b5
  | ok b b2 b3 b4=>rfl
theorem S_ge {f:Nat→Int}:∀ n,(∀ i,i<n→0≤f i)→∀ k,k<n→f k≤S n f∧0≤S n f
 | 0,_,k,hk=>absurd hk (Nat.not_lt_zero k)
 | n+1,h,k,hk=>by
  have h0:=h n (by omega)
  have e:S (n+1) f=S n f+f n:=rfl
  rw [e]
  by_cases z:k<n
  ·have:=S_ge n (fun i hi=>h i (by omega)) k z
   omega
  ·have z0:0≤S n f:=by
    cases n with
    | zero=>exact Int.le_refl 0
    | succ m=>exact (S_ge (m+1) (fun i hi=>h i (by omega)) 0 (by omega)).2
   rw [show k=n by omega]
   omega
theorem zpI {ws:List Int} {n:Nat} (l:ws.length=n) (h:∀ i,i<n→0≤ws.getD i 0) (b:Bd 1400 (S n fun i=>ws.getD i 0)):∀ x∈ws,Bd 2801 x:=fun x hx=>by
 obtain ⟨i,hi,rfl⟩:=List.mem_iff_getElem.mp hx
 have e:ws.getD i 0=ws[i]:=by rw [List.getD_eq_getElem?_getD,List.getElem?_eq_getElem hi];rfl
 have h1:=S_ge n h i (by omega)
 have h2:=h i (by omega)
 rw [e] at h1 h2
 exact (b.le (by omega)).mono (by decide)
section
variable {rows:List (List Int)} {w:Nat} {W:Rat} {R C:List Int}
theorem Sol.bdR (h:Sol rows w W R C):∀ x∈R,Bd 2801 x:=zpI h.rl h.r0 h.rb
theorem Sol.bdC (h:Sol rows w W R C):∀ x∈C,Bd 2801 x:=zpI h.cl h.c0 h.cb
theorem zmW {ws:List Int} {n:Nat} (l:ws.length=n) (h:∀ i,i<n→0≤ws.getD i 0) (p:0<S n fun i=>ws.getD i 0):wts ws n=true:=by
 unfold wts
 rw [Bool.and_eq_true,Bool.and_eq_true,List.all_eq_true]
 refine ⟨decide_eq_true l,fun x hx=>decide_eq_true ?_,decide_eq_true ?_⟩
 ·obtain ⟨i,hi,rfl⟩:=List.mem_iff_getElem.mp hx
  have:=h i (by omega)
  rw [List.getD_eq_getElem?_getD,List.getElem?_eq_getElem hi] at this
  exact this
 ·rw [zmr,l]
  exact p
theorem Sol.jud (h:Sol rows w W R C):Jud rows w W R C none:=by
 refine .ok (zmW h.rl h.r0 h.rp) (zmW h.cl h.c0 h.cp) (fun j hj=>?_) fun i hi=>?_
 ·unfold CB
  rw [zmr,h.rl]
  exact zpw.mp (h.col j hj)
 ·unfold RB
  rw [zmr,h.cl]
  exact znk.mp (h.row i hi)
end
theorem zhg {W:Rat} {R C:List Int} {n:Nat} {p x y z:Addr} (h:H p=some (.tup [.ref x,.ref y,.ref z])) (h1:H x=some (.tup (fr W))) (h2:H y=some (.lst (R.map V.int))) (h3:H z=some (.lst (C.map V.int))):zdY K H (n+1+1) (.tup [.tup [.int W.num,.int W.den],.lst (R.map Tr.int),.lst (C.map Tr.int)]) (.ref p):=by
 refine .tup (SqT.of h) rfl fun i v w e1 e2=>?_
 match i,e1,e2 with
 | 0,e1,e2 =>
  cases e1
  cases e2
  refine .tup (SqT.of h1) rfl fun i v w e1 e2=>?_
  match i,e1,e2 with
  | 0,e1,e2 =>
   cases e1
   cases e2
   exact .int _
  | 1,e1,e2 =>
   cases e1
   cases e2
   exact .int _
 | 1,e1,e2 =>
  cases e1
  cases e2
  exact zfP h2
 | 2,e1,e2 =>
  cases e1
  cases e2
  exact zfP h3
structure Td (H:Hp) (r wr rl cl:Addr) (rows:List (List Int)) (w:Nat) (W:Rat) (R C:List Int):Prop where
 hr:H r=some (.tup [.ref wr,.ref rl,.ref cl])
 hw:H wr=some (.tup (fr W))
 hR:H rl=some (.lst (R.map V.int))
 hC:H cl=some (.lst (C.map V.int))
 so:Sol rows w W R C
 bq:Bq 2801 W
theorem Td.same {H':Hp} {r wr rl cl:Addr} {rows:List (List Int)} {w:Nat} {W:Rat} {R C:List Int} (h:Td H r wr rl cl rows w W R C) (s:zaM H H'):Td H' r wr rl cl rows w W R C:=⟨s _ _ h.hr,s _ _ h.hw,s _ _ h.hR,s _ _ h.hC,h.so,h.bq⟩
theorem Td.judged {t r wr rl cl:Addr} {rs:List Addr} {rows:List (List Int)} {w:Nat} {W:Rat} {R C:List Int} {Q:VK} (h:Td H r wr rl cl rows w W R C) (T:Tb H t rs rows w) (q:∀ H',zaM H H'→Q .non H'):zc7 [.ref t,.ref wr,.ref rl,.ref cl] H Q E0:=by
 have l6:=T.l6
 have w6:=T.w6
 have lR:=h.so.rl
 have lC:=h.so.cl
 exact ⟨t,wr,rl,cl,rs,rows,w,W,R,C,rfl,T,h.hw,h.bq.mono (by decide),h.hR,⟨by omega,fun x hx=>(h.so.bdR x hx).mono (by decide)⟩,h.hC,⟨by omega,fun x hx=>(h.so.bdC x hx).mono (by decide)⟩,fun _ H1 s1=>q H1 s1,fun xs r' H1 j=>absurd (znx h.so.jud j) (fun z=>by cases z)⟩
def zie (K:PySem.W.Frag):TS :=
 (zcn (tOr (zaQ (tOp (fun x y H Q=>y=.non∧Q (.bl (!decide (x=.non))) H) (zaJ zc7 [] E0 (zab (zac 7) (zab (tOp (zbT K) (zac 5) (tC (.int 0))) (zab (tOp (zbT K) (zac 5) (tC (.int 1))) (zab (tOp (zbT K) (zac 5) (tC (.int 2))) zan))))) (tC .non))) (zaQ (tOp (zlE K) (zac 4) (zac 7)))) (zbi (tC (.bl false))) zaV)
theorem zbw (K:PySem.W.Frag) (D:zce) (σ:St) (H:Hp):zie K D σ H=(zcn (tOr (zaQ (tOp (fun x y H Q=>y=.non∧Q (.bl (!decide (x=.non))) H) (zaJ zc7 [] E0 (zab (zac 7) (zab (tOp (zbT K) (zac 5) (tC (.int 0))) (zab (tOp (zbT K) (zac 5) (tC (.int 1))) (zab (tOp (zbT K) (zac 5) (tC (.int 2))) zan))))) (tC .non))) (zaQ (tOp (zlE K) (zac 4) (zac 7)))) (zbi (tC (.bl false))) zaV) D σ H:=rfl
def zhO (K:PySem.W.Frag) (a:Ad):TS :=
 (zaN (za9 (tOp (rI0 fun i j=>.int (i+j)) (tOp (zba K) (tOp (zba K) (zac 4) (tC (.int 0))) (tC (.int 0))) (tC (.int 1))) (ziJ (tOp (zba K) (zac 4) (tC (.int 0))) (tC (.int 0)) zei))
 (zaN (za9 (zaJ ziU [] E0 (zab (zac 4) zan)) (zak 7))
 (zaN (za9 (zaJ (zd6 a.p_lam) [] E0 (zab (zac 4) zan)) (zak 5))
 (zaN (zeN (zie K))
 (za9 (zac 3) (zak 1))))))
theorem zbl (K:PySem.W.Frag) (a:Ad) (D:zce) (σ:St) (H:Hp):zhO K a D σ H=(zaN (za9 (tOp (rI0 fun i j=>.int (i+j)) (tOp (zba K) (tOp (zba K) (zac 4) (tC (.int 0))) (tC (.int 0))) (tC (.int 1))) (ziJ (tOp (zba K) (zac 4) (tC (.int 0))) (tC (.int 0)) zei))
 (zaN (za9 (zaJ ziU [] E0 (zab (zac 4) zan)) (zak 7))
 (zaN (za9 (zaJ (zd6 a.p_lam) [] E0 (zab (zac 4) zan)) (zak 5))
 (zaN (zeN (zie K))
 (za9 (zac 3) (zak 1)))))) D σ H:=rfl
def zhy (K:PySem.W.Frag) (a:Ad):TS :=
 (zcn (tOr (zaQ (tOp (zlE K) (zaJ (zd6 a.p_lam) [] E0 (zab (zac 4) zan)) (zac 6))) (tOr (zaQ (tOp (rNeI K) (tOp (zbT K) (zac 5) (tC (.int 1))) (tOp zmQ (tOp (zbT K) (zac 6) (tC (.int 1))) (zgx (zab (tC (.int 7)) zan))))) (zaQ (tOp (rNeE K) (tOp (zbT K) (zac 5) (tC (.int 2))) (zgx zan))))) (zbi (tC (.bl false))) zaV)
theorem zbt (K:PySem.W.Frag) (a:Ad) (D:zce) (σ:St) (H:Hp):zhy K a D σ H=(zcn (tOr (zaQ (tOp (zlE K) (zaJ (zd6 a.p_lam) [] E0 (zab (zac 4) zan)) (zac 6))) (tOr (zaQ (tOp (rNeI K) (tOp (zbT K) (zac 5) (tC (.int 1))) (tOp zmQ (tOp (zbT K) (zac 6) (tC (.int 1))) (zgx (zab (tC (.int 7)) zan))))) (zaQ (tOp (rNeE K) (tOp (zbT K) (zac 5) (tC (.int 2))) (zgx zan))))) (zbi (tC (.bl false))) zaV) D σ H:=rfl
def zhz (K:PySem.W.Frag) (a:Ad):TS :=
 (zaN (za9 (ze3 (zab (tOp (zbT K) (zac 5) (tC (.int 0))) (zab (tCB (fun xs H Q=>∃ p ys,xs=[.ref p]∧(SqL K H p ys∨SqT K H p ys)∧∀ l,H l=none→Q (.ref l) (upd H l (.lst ys))) (zab (tOp (zbT K) (zac 5) (tC (.int 1))) zan)) (zab (tCB (fun xs H Q=>∃ p ys,xs=[.ref p]∧(SqL K H p ys∨SqT K H p ys)∧∀ l,H l=none→Q (.ref l) (upd H l (.lst ys))) (zab (tOp (zbT K) (zac 5) (tC (.int 2))) zan)) zan)))) (zak 6))
 (zaN (ze7 (tBM K "list" zbW (tOp (zbT K) (zac 5) (tC (.int 1))) (zab (tC (.int 7)) zan)))
 (zaN (ze7 (tBM0 K "list" zjM (tOp (zbT K) (zac 5) (tC (.int 2)))))
 (zaN (ze7 (zaJ (zd6 a.p_lam) [] E0 (zab (zac 1) zan)))
 (zaN (zeN (zhy K a))
 (zhO K a))))))
theorem zbk (K:PySem.W.Frag) (a:Ad) (D:zce) (σ:St) (H:Hp):zhz K a D σ H=(zaN (za9 (ze3 (zab (tOp (zbT K) (zac 5) (tC (.int 0))) (zab (tCB (fun xs H Q=>∃ p ys,xs=[.ref p]∧(SqL K H p ys∨SqT K H p ys)∧∀ l,H l=none→Q (.ref l) (upd H l (.lst ys))) (zab (tOp (zbT K) (zac 5) (tC (.int 1))) zan)) (zab (tCB (fun xs H Q=>∃ p ys,xs=[.ref p]∧(SqL K H p ys∨SqT K H p ys)∧∀ l,H l=none→Q (.ref l) (upd H l (.lst ys))) (zab (tOp (zbT K) (zac 5) (tC (.int 2))) zan)) zan)))) (zak 6))
 (zaN (ze7 (tBM K "list" zbW (tOp (zbT K) (zac 5) (tC (.int 1))) (zab (tC (.int 7)) zan)))
 (zaN (ze7 (tBM0 K "list" zjM (tOp (zbT K) (zac 5) (tC (.int 2)))))
 (zaN (ze7 (zaJ (zd6 a.p_lam) [] E0 (zab (zac 1) zan)))
 (zaN (zeN (zhy K a))
 (zhO K a)))))) D σ H:=rfl
def zhB (K:PySem.W.Frag):TS :=
 (zcn (tOr (zaQ (tOp (fun x y H Q=>y=.non∧Q (.bl (!decide (x=.non))) H) (zaJ zc7 [] E0 (zab (zac 4) (zab (tOp (zbT K) (zac 5) (tC (.int 0))) (zab (tOp (zbT K) (zac 5) (tC (.int 1))) (zab (tOp (zbT K) (zac 5) (tC (.int 2))) zan))))) (tC .non))) (zaQ (tOp (zlE K) (zac 4) (zac 3)))) (zbi (tC (.bl false))) zaV)
theorem zbs (K:PySem.W.Frag) (D:zce) (σ:St) (H:Hp):zhB K D σ H=(zcn (tOr (zaQ (tOp (fun x y H Q=>y=.non∧Q (.bl (!decide (x=.non))) H) (zaJ zc7 [] E0 (zab (zac 4) (zab (tOp (zbT K) (zac 5) (tC (.int 0))) (zab (tOp (zbT K) (zac 5) (tC (.int 1))) (zab (tOp (zbT K) (zac 5) (tC (.int 2))) zan))))) (tC .non))) (zaQ (tOp (zlE K) (zac 4) (zac 3)))) (zbi (tC (.bl false))) zaV) D σ H:=rfl
def zhN (K:PySem.W.Frag):TS :=
 (zcn (zaQ (tOp (fun x y H Q=>y=.non∧Q (.bl (!decide (x=.non))) H) (zaJ zc7 [] E0 (zab (zac 3) (zab (tOp (zbT K) (zac 5) (tC (.int 0))) (zab (tOp (zbT K) (zac 5) (tC (.int 1))) (zab (tOp (zbT K) (zac 5) (tC (.int 2))) zan))))) (tC .non))) (zbi (tC (.bl false))) zaV)
theorem zbv (K:PySem.W.Frag) (D:zce) (σ:St) (H:Hp):zhN K D σ H=(zcn (zaQ (tOp (fun x y H Q=>y=.non∧Q (.bl (!decide (x=.non))) H) (zaJ zc7 [] E0 (zab (zac 3) (zab (tOp (zbT K) (zac 5) (tC (.int 0))) (zab (tOp (zbT K) (zac 5) (tC (.int 1))) (zab (tOp (zbT K) (zac 5) (tC (.int 2))) zan))))) (tC .non))) (zbi (tC (.bl false))) zaV) D σ H:=rfl
def zii (K:PySem.W.Frag):TS :=
 (zcn (tOr (zeG (tB (tCB (zhd K) (zab (zac 5) (zab (tC (.ty "tuple")) zan))))) (tOr (zaQ (tOp rNe (tCB (fun xs H Q=>∃ p ys,xs=[.ref p]∧(SqL K H p ys∨SqT K H p ys)∧Q (.int ys.length) H) (zab (zac 5) zan)) (tC (.int 3)))) (tOr (zeG (tB (zaJ (zkU K) [] E0 (zab (tOp (zbT K) (zac 5) (tC (.int 0))) zan)))) (zaQ (tOp (zlE K) (zac 4) (zac 3)))))) (zbi (tC (.bl false))) zaV)
theorem zbu (K:PySem.W.Frag) (D:zce) (σ:St) (H:Hp):zii K D σ H=(zcn (tOr (zeG (tB (tCB (zhd K) (zab (zac 5) (zab (tC (.ty "tuple")) zan))))) (tOr (zaQ (tOp rNe (tCB (fun xs H Q=>∃ p ys,xs=[.ref p]∧(SqL K H p ys∨SqT K H p ys)∧Q (.int ys.length) H) (zab (zac 5) zan)) (tC (.int 3)))) (tOr (zeG (tB (zaJ (zkU K) [] E0 (zab (tOp (zbT K) (zac 5) (tC (.int 0))) zan)))) (zaQ (tOp (zlE K) (zac 4) (zac 3)))))) (zbi (tC (.bl false))) zaV) D σ H:=rfl
def zhW (K:PySem.W.Frag) (a:Ad):TS :=
 (zaN (za9 (zaJ zi9 [] E0 (zab (zaJ (zkz K) [] E0 (zab (zgx (zab (zac 2) zan)) (zab (tC (.int 0)) zan))) zan)) (zak 3))
 (zaN (za9 (zaJ ziU [] E0 (zab (zac 3) zan)) (zak 4))
 (zaN (za9 (zaJ (zd6 a.p_lam) [] E0 (zab (zac 4) zan)) (zak 5))
 (zaN (zeN (zii K))
 (zaN (zeN (zhN K))
 (zaN (zeN (zhB K))
 (zhz K a)))))))
theorem zbm (K:PySem.W.Frag) (a:Ad) (D:zce) (σ:St) (H:Hp):zhW K a D σ H=(zaN (za9 (zaJ zi9 [] E0 (zab (zaJ (zkz K) [] E0 (zab (zgx (zab (zac 2) zan)) (zab (tC (.int 0)) zan))) zan)) (zak 3))
 (zaN (za9 (zaJ ziU [] E0 (zab (zac 3) zan)) (zak 4))
 (zaN (za9 (zaJ (zd6 a.p_lam) [] E0 (zab (zac 4) zan)) (zak 5))
 (zaN (zeN (zii K))
 (zaN (zeN (zhN K))
 (zaN (zeN (zhB K))
 (zhz K a))))))) D σ H:=rfl
def znw (K:PySem.W.Frag) (a:Ad):TS :=
 (zaN (za9 (zgx (zab (zgx (zab (tC (.int 1)) (zab (tC (.int 2)) zan))) (zab (zgx (zab (tC (.int 3)) (zab (tC (.int 0)) zan))) zan))) (zak 1))
 (zaN (zjd (zdG K (tOp zmQ (zgx (zab (tC (.int 0)) zan)) (tSl (zpc K) (zac 0) zgU (zkY (tC (.int 24)))))) (zak 2)
 (zhW K a))
 (zbi (tC (.bl true)))))
section
variable {t t' r wr rl cl:Addr} {rs rs':List Addr} {rows:List (List Int)} {w:Nat} {W:Rat} {R C:List Int} {D:zce}
theorem law_5 {z0 z1 z2 z4 z6 z7:Option V} (T:Tb H t rs rows w) (U:Td H r wr rl cl rows w W R C) (q:∀ H',zaM H H'→D.nx [z0,z1,z2,some (.ref t),z4,some (.ref r),z6,z7] H'):zhN K D [z0,z1,z2,some (.ref t),z4,some (.ref r),z6,z7] H:=by
 have g:=SqT.of (K:=K) U.hr
 simp_all only [zbw,zbl,zbt,zbk,zbs,zbv,zbu,zbm,zac]
 exact ⟨_,g,_,rfl,_,g,_,rfl,_,g,_,rfl,U.judged T fun H1 s1=>q _ s1⟩
theorem law_4 {z0 z1 z2 z6 z7:Option V} (T:Tb H t rs rows w) (T':Tb H t' rs' rows w) (U:Td H r wr rl cl rows w W R C) (q:∀ H',zaM H H'→D.nx [z0,z1,z2,some (.ref t),some (.ref t'),some (.ref r),z6,z7] H'):zhB K D [z0,z1,z2,some (.ref t),some (.ref t'),some (.ref r),z6,z7] H:=by
 have g:=SqT.of (K:=K) U.hr
 simp_all only [zbw,zbl,zbt,zbk,zbs,zbv,zbu,zbm,zac]
 exact ⟨_,g,_,rfl,_,g,_,rfl,_,g,_,rfl,U.judged T' fun H1 s1=>⟨1,by decide,_,.inl ⟨zdP (T'.same s1),zdP (T.same s1)⟩,q _ s1⟩⟩
theorem law_0 {z0 z1 z2 z3 z6:Option V} (T:Tb H t rs rows w) (T':Tb H t' rs' rows w) (U:Td H r wr rl cl rows w W R C) (q:∀ H',zaM H H'→D.nx [z0,z1,z2,z3,some (.ref t'),some (.ref r),z6,some (.ref t)] H'):zie K D [z0,z1,z2,z3,some (.ref t'),some (.ref r),z6,some (.ref t)] H:=by
 have g:=SqT.of (K:=K) U.hr
 simp_all only [zbw,zbl,zbt,zbk,zbs,zbv,zbu,zbm,zac]
 exact ⟨_,g,_,rfl,_,g,_,rfl,_,g,_,rfl,U.judged T fun H1 s1=>⟨1,by decide,_,.inl ⟨zdP (T'.same s1),zdP (T.same s1)⟩,q _ s1⟩⟩
theorem law_6 {z0 z1 z2 z6 z7:Option V} (T:Tb H t rs rows w) (T':Tb H t' rs' rows w) (U:Td H r wr rl cl rows w W R C) (q:∀ H',zaM H H'→D.nx [z0,z1,z2,some (.ref t),some (.ref t'),some (.ref r),z6,z7] H'):zii K D [z0,z1,z2,some (.ref t),some (.ref t'),some (.ref r),z6,z7] H:=by
 have g:=SqT.of (K:=K) U.hr
 simp_all only [zbw,zbl,zbt,zbk,zbs,zbv,zbu,zbm,zac]
 refine zgJ U.hr ⟨true,rfl,?_⟩
 simp_all only [zbw,zbl,zbt,zbk,zbs,zbv,zbu,zbm,zac]
 refine ⟨_,.inr g,zea (fun z=>absurd rfl z) fun _=>⟨_,g,_,rfl,wr,W,rfl,U.hw,U.bq,fun H1 s1=>⟨true,rfl,zea (fun z=>by cases z) fun _=>⟨1,by decide,_,.inl ⟨zdP (T'.same s1),zdP (T.same s1)⟩,q _ s1⟩⟩⟩⟩
theorem law_2 {hh k A B:Addr} {z0 z1 z2 z3 z7:Option V} (T':Tb H hh rs' rows w) (L:LT H a.p_lam) (hk:H k=some (.tup [.ref wr,.ref A,.ref B])) (hw:H wr=some (.tup (fr W))) (hA:H A=some (.lst (R.map V.int))) (hB:H B=some (.lst (C.map V.int))) (hr:H r=some (.tup [.ref wr,.ref rl,.ref cl])) (hR:H rl=some (.lst ((R++[7]).map V.int))) (hC:H cl=some (.lst [])) (d:Tld rows w W R C)
  (q:∀ H',Bar a.p_lam H H'→LT H' a.p_lam→D.nx [z0,z1,z2,z3,some (.ref hh),some (.ref r),some (.ref k),z7] H'):zhy K a D [z0,z1,z2,z3,some (.ref hh),some (.ref r),some (.ref k),z7] H:=by
 have l12:=T'.l6
 simp_all only [zbw,zbl,zbt,zbk,zbs,zbv,zbu,zbm,zac]
 refine ⟨hh,rs',rows,w,rfl,T',L,fun r2 wr2 rl2 cl2 W2 R2 C2 H2 bar L2 g1 g2 g3 g4 nn so bq=>?_⟩
 obtain ⟨e1,e2,e3⟩:=d.det nn.2
 subst e1
 subst e2
 subst e3
 have hk2:=bar _ _ (L.neT hk) hk
 have hw2:=bar _ _ (L.neT hw) hw
 have hA2:=bar _ _ (L.neL hA) hA
 have hB2:=bar _ _ (L.neL hB) hB
 have hr2:=bar _ _ (L.neT hr) hr
 have hR2:=bar _ _ (L.neL hR) hR
 have hC2:=bar _ _ (L.neL hC) hC
 have lR:=so.rl
 refine ⟨1,by decide,_,.inr ⟨zhg g1 g2 g3 g4,zhg hk2 hw2 hA2 hB2⟩,?_⟩
 refine ⟨_,SqT.of hr2,_,rfl,_,SqT.of hk2,_,rfl,by decide,fun p np=>?_⟩
 have s1:=zai np (.lst [.int 7])
 refine ⟨A,rfl,_,s1 _ _ hA2,_,zaf,by rw [List.length_map];simp only [List.length_cons,List.length_nil,sizeLine];omega,fun p1 np1=>?_⟩
 have s2:=zai np1 (.lst (R.map V.int++[.int 7]))
 have s12:=s1.trans s2
 refine ⟨rl,rfl,R++[7],SqL.of (s12 _ _ hR2),R++[7],SqL.of (by rw [List.map_append];exact zaf),zea (fun z=>absurd rfl z) fun _=>?_⟩
 refine ⟨_,SqT.of (s12 _ _ hr2),_,rfl,by decide,fun p2 np2=>?_⟩
 have s3:=zai np2 (.lst [])
 have s13:=s12.trans s3
 refine ⟨cl,rfl,[],SqL.of (s13 _ _ hC2),SqL.of zaf,?_⟩
 exact q _ (za7 bar (zaM.bar s13)) (L2.same s13)
theorem law_1 {H0:Hp} {hh:Addr} {z0 z1 z2 z5 z6 z7:Option V} (T':Tb H hh rs' rows w) (b98:∀ row∈rows,∀ x∈row,Bd 98 x) (nd:rs'.Nodup) (fr0:∀ x∈rs',H0 x=none) (L:LT H a.p_lam) (bar:Bar a.p_lam H0 H)
  (q:∀ (z5 z7:Option V) (H':Hp),Bar a.p_lam H0 H'→LT H' a.p_lam→D.nx [z0,some (.ref t),z2,some (.ref t),some (.ref hh),z5,z6,z7] H'):zhO K a D [z0,z1,z2,some (.ref t),some (.ref hh),z5,z6,z7] H:=by
 have l1:=T'.l1
 have l12:=T'.l6
 have w1:=T'.w1
 have lq:=T'.len
 have hk2:rs'[0]?=some (rs'[0]'(by omega)):=List.getElem?_eq_getElem _
 obtain ⟨row0,e1,e2,e3⟩:=T'.at hk2
 have ex:row0[0]?=some (row0[0]'(by omega)):=List.getElem?_eq_getElem _
 rw [zbl]
 simp_all only [zbw,zbl,zbt,zbk,zbs,zbv,zbu,zbm,zac]
 have a0:atI (rs'.map V.ref) 0=some (.ref (rs'[0]'(by omega))):=zbD (j:=0) (by rw [List.getElem?_map,hk2];rfl)
 have a1:atI (row0.map V.int) 0=some (.int (row0[0]'(by omega))):=zbD (j:=0) (by rw [List.getElem?_map,ex];rfl)
 refine ⟨_,SqL.of T'.ht,_,a0,_,rfl,_,SqL.of e2,_,a1,_,rfl,_,SqL.of T'.ht,_,a0,_,rfl,_,e2,0,zgy (c:=0) (by rw [List.length_map];omega),?_⟩
 have m0:rs'[0]'(by omega)∈rs':=List.getElem_mem _
 generalize hq0:rs'[0]'(by omega)=q0 at hk2 e2 m0
 have nh:hh≠q0:=fun z=>by
  have:=T'.ht
  rw [z,e2] at this
  cases row0 with
  | nil=>rw [List.length_nil] at e3;omega
  | cons u v =>
   cases rs' with
   | nil=>rw [List.length_nil] at lq;omega
   | cons u' v'=>cases this
 have nP:=L.neL e2
 have eset:(row0.map V.int).set 0 (.int (row0[0]'(by omega)+1))=(row0.set 0 (row0[0]'(by omega)+1)).map V.int:=by rw [List.map_set]
 rw [eset]
 have bar1:Bar a.p_lam H0 (upd H q0 (.lst ((row0.set 0 (row0[0]'(by omega)+1)).map V.int))):=fun x o nx e=>by
  have:x≠q0:=fun z=>by rw [z,fr0 q0 m0] at e;cases e
  rw [zam this]
  exact bar x o nx e
 have L1:LT (upd H q0 (.lst ((row0.set 0 (row0[0]'(by omega)+1)).map V.int))) a.p_lam:=L.put fun x o n1 n2 e=>by
  have:x≠q0:=fun z=>by rw [z,e2] at e;cases e;exact n1 _ rfl
  rw [zam this]
  exact e
 have T1:Tb (upd H q0 (.lst ((row0.set 0 (row0[0]'(by omega)+1)).map V.int))) hh rs' (rows.set 0 (row0.set 0 (row0[0]'(by omega)+1))) w:=by
  refine ⟨by rw [zam nh];exact T'.ht,by rw [List.length_set];exact lq,fun k r row k1 k2=>?_,fun row h=>?_,by rw [List.length_set];exact l1,by rw [List.length_set];exact l12,w1,T'.w6,fun row h x hx=>?_⟩
  ·by_cases z:k=0
   ·subst z
    rw [hk2] at k1
    cases k1
    rw [List.getElem?_set_self (by omega)] at k2
    cases k2
    exact zaf
   ·rw [List.getElem?_set_ne (by omega)] at k2
    have:r≠q0:=fun e=>by
     subst e
     obtain ⟨u1,u2⟩:=List.getElem?_eq_some_iff.mp k1
     obtain ⟨v1,v2⟩:=List.getElem?_eq_some_iff.mp hk2
     exact z ((List.getElem_inj nd).mp (u2.trans v2.symm))
    rw [zam this]
    exact T'.hr k r row k1 k2
  ·rcases List.mem_or_eq_of_mem_set h with h | h
   ·exact T'.hw row h
   ·rw [h,List.length_set]
    exact e3
  ·rcases List.mem_or_eq_of_mem_set h with h | h
   ·exact T'.bd row h x hx
   ·rw [h] at hx
    rcases List.mem_or_eq_of_mem_set hx with hx | hx
    ·exact T'.bd row0 (zcz e1) x hx
    ·rw [hx]
     exact ((b98 row0 (zcz e1) _ (zcz ex)).add (y:=1) (Bd.mono (m:=1) (show (1:Int).natAbs<2 ^ 1 by decide) (by decide))).mono (by decide)
 generalize upd H q0 (.lst ((row0.set 0 (row0[0]'(by omega)+1)).map V.int))=H1 at bar1 L1 T1 ⊢
 generalize rows.set 0 (row0.set 0 (row0[0]'(by omega)+1))=rows1 at T1
 refine ⟨hh,rs',rows1,w,rfl,T1,fun ch rc H2 s2 T2 _=>?_⟩
 have T1':=T1.same s2
 have L2':=L1.same s2
 refine ⟨hh,rs',rows1,w,rfl,T1',L2',fun r wr rl cl W R C H3 bar3 L3 g1 g2 g3 g4 nn so bq=>?_⟩
 have U:Td H3 r wr rl cl rows1 w W R C:=⟨g1,g2,g3,g4,so,bq⟩
 refine ⟨fun σ H'=>zaM H3 H'∧σ=[z0,z1,z2,some (.ref t),some (.ref hh),some (.ref r),z6,some (.ref ch)],law_0 (T2.bar L2' bar3) (T1'.bar L2' bar3) U fun H' s=>⟨s,rfl⟩,?_⟩
 rintro σ H4 ⟨s4,rfl⟩
 simp_all only [zbw,zbl,zbt,zbk,zbs,zbv,zbu,zbm,zac]
 exact q _ _ H4 (za7 bar1 (za7 (zaM.bar s2) (za7 bar3 (zaM.bar s4)))) (L3.same s4)
theorem law_3 {H0 H3:Hp} {hh ls:Addr} {rl':List Addr} {rows':List (List Int)} {w':Nat} {z0 z2 z6 z7:Option V} (L0:LT H0 a.p_lam) (Tl:Tb H0 ls rl' rows' w') (bar0:Bar a.p_lam H0 H3) (T3:Tb H3 hh rs' rows w) (L3:LT H3 a.p_lam) (b98:∀ row∈rows,∀ x∈row,Bd 98 x) (nd:rs'.Nodup) (fr0:∀ x∈rs',H0 x=none) (L:LT H a.p_lam) (bar3:Bar a.p_lam H3 H) (U:Td H r wr rl cl rows w W R C) (nR:H3 rl=none) (nC:H3 cl=none) (nn:rl≠cl) (d:Tld rows w W R C)
  (q:∀ (z5 z6 z7:Option V) (H':Hp),Bar a.p_lam H0 H'→LT H' a.p_lam→D.nx [z0,some (.ref t),z2,some (.ref t),some (.ref hh),z5,z6,z7] H'):zhz K a D [z0,some (.ref ls),z2,some (.ref t),some (.ref hh),some (.ref r),z6,z7] H:=by
 have l12:=T3.l6
 have w12:=T3.w6
 have lR:=U.so.rl
 have lC:=U.so.cl
 have g:=SqT.of (K:=K) U.hr
 rw [zbk]
 simp_all only [zbw,zbl,zbt,zbk,zbs,zbv,zbu,zbm,zac]
 refine ⟨_,g,_,rfl,_,g,_,rfl,rl,rfl,_,.inl (SqL.of U.hR),fun A nA=>?_⟩
 have sA:=zai nA (.lst (R.map V.int))
 refine ⟨_,SqT.of (sA _ _ U.hr),_,rfl,cl,rfl,_,.inl (SqL.of (sA _ _ U.hC)),fun B nB=>⟨by decide,fun k nk=>?_⟩⟩
 have sB:=zai nB (.lst (C.map V.int))
 have sk:=zai nk (.tup [.ref wr,.ref A,.ref B])
 have s8:=sA.trans (sB.trans sk)
 have hA8:=sk _ _ (sB _ _ (zaf (H:=H) (a:=A) (o:=.lst (R.map V.int))))
 have hB8:=sk _ _ (zaf (H:=upd H A (.lst (R.map V.int))) (a:=B) (o:=.lst (C.map V.int)))
 have hk8:_=some (HO.tup [V.ref wr,V.ref A,V.ref B]):=zaf (H:=upd (upd H A (.lst (R.map V.int))) B (.lst (C.map V.int))) (a:=k)
 generalize upd (upd (upd H A (.lst (R.map V.int))) B (.lst (C.map V.int))) k (.tup [.ref wr,.ref A,.ref B])=H8 at s8 hA8 hB8 hk8 ⊢
 have nAr:A≠rl:=fun z=>by rw [z,U.hR] at nA;cases nA
 have nAc:A≠cl:=fun z=>by rw [z,U.hC] at nA;cases nA
 have nBr:B≠rl:=fun z=>by rw [z,sA _ _ U.hR] at nB;cases nB
 have nBc:B≠cl:=fun z=>by rw [z,sA _ _ U.hC] at nB;cases nB
 have U8:=U.same s8
 have L8:=L.same s8
 have bar8:Bar a.p_lam H3 H8:=za7 bar3 (zaM.bar s8)
 refine ⟨_,SqT.of U8.hr,_,rfl,.inl ⟨rfl,_,SqL.of U8.hR⟩,rl,rfl,_,U8.hR,by rw [List.length_map];simp only [sizeLine];omega,?_⟩
 have tn:∀ {x:Addr} {xs:List V},H8 x=some (.tup xs)→x≠rl∧x≠cl:=fun {x xs} e=>⟨(fun z=>by rw [z,U8.hR] at e;cases e),(fun z=>by rw [z,U8.hC] at e;cases e)⟩
 have hr9:(upd H8 rl (.lst (R.map V.int++[.int 7]))) r=some (.tup [.ref wr,.ref rl,.ref cl]):=by rw [zam (tn U8.hr).1];exact U8.hr
 have hC9:(upd H8 rl (.lst (R.map V.int++[.int 7]))) cl=some (.lst (C.map V.int)):=by rw [zam nn.symm];exact U8.hC
 refine ⟨_,SqT.of hr9,_,rfl,.inl ⟨rfl,_,SqL.of hC9⟩,cl,rfl,_,hC9,?_⟩
 have keep:∀ x o,x≠rl→x≠cl→H8 x=some o→(upd (upd H8 rl (.lst (R.map V.int++[.int 7]))) cl (.lst [])) x=some o:=fun x o n1 n2 e=>by rw [zam n2,zam n1];exact e
 have hR10:(upd (upd H8 rl (.lst (R.map V.int++[.int 7]))) cl (.lst [])) rl=some (.lst ((R++[7]).map V.int)):=by rw [zam nn,zaf,List.map_append];rfl
 have hC10:(upd (upd H8 rl (.lst (R.map V.int++[.int 7]))) cl (.lst [])) cl=some (.lst []):=zaf
 generalize upd (upd H8 rl (.lst (R.map V.int++[.int 7]))) cl (.lst [])=H10 at keep hR10 hC10 ⊢
 have bar10:Bar a.p_lam H3 H10:=fun x o nx e=>keep x o (fun z=>by rw [z,nR] at e;cases e) (fun z=>by rw [z,nC] at e;cases e) (bar8 x o nx e)
 have L10:LT H10 a.p_lam:=L8.put fun x o n1 n2 e=>keep x o (fun z=>by rw [z,U8.hR] at e;cases e;exact n1 _ rfl) (fun z=>by rw [z,U8.hC] at e;cases e;exact n1 _ rfl) e
 have b010:=za7 bar0 bar10
 refine ⟨ls,rl',rows',w',rfl,Tl.bar L0 b010,L10,fun _ _ _ _ _ _ _ H11 bar11 L11 _ _ _ _ _ _ _=>?_⟩
 have b311:=za7 bar10 bar11
 have tp:∀ {x:Addr} {xs:List V},H8 x=some (.tup xs)→H11 x=some (.tup xs):=fun {x xs} e=>by
  have e10:=keep x _ (tn e).1 (tn e).2 e
  exact bar11 _ _ (L10.neT e10) e10
 have hA10:=keep A _ nAr nAc hA8
 have hB10:=keep B _ nBr nBc hB8
 refine ⟨fun σ H'=>(Bar a.p_lam H11 H'∧LT H' a.p_lam)∧σ=[z0,some (.ref ls),z2,some (.ref t),some (.ref hh),some (.ref r),some (.ref k),z7],law_2 (T3.bar L3 b311) L11 (tp hk8) (tp U8.hw) (bar11 _ _ (L10.neL hA10) hA10) (bar11 _ _ (L10.neL hB10) hB10) (tp U8.hr) (bar11 _ _ (L10.neL hR10) hR10) (bar11 _ _ (L10.neL hC10) hC10) d fun H' b l=>⟨⟨b,l⟩,rfl⟩,?_⟩
 rintro σ H12 ⟨⟨b12,L12⟩,rfl⟩
 have b312:=za7 b311 b12
 exact law_1 (T3.bar L3 b312) b98 nd fr0 L12 (za7 bar0 b312) fun z5 z7 H' b l=>q z5 _ z7 H' b l
theorem law_7 {H0:Hp} {cell:Int} {ls:Addr} {rl':List Addr} {rows':List (List Int)} {w':Nat} {scr y3 y4 y5 y6 y7:Option V} (L:LT H0 a.p_lam) (Tl:Tb H0 ls rl' rows' w') (bx:cell.natAbs<2 ^ 2 ^ 20)
  (q:∀ (t:Addr) (rs:List Addr) (rows:List (List Int)) (w:Nat) (H':Hp) (y3 y4 y5 y6 y7:Option V),Bar a.p_lam H0 H'→LT H' a.p_lam→Tb H' t rs rows w→D.nx [scr,some (.ref t),some (.int cell),y3,y4,y5,y6,y7] H') :
  zhW K a D [scr,some (.ref ls),some (.int cell),y3,y4,y5,y6,y7] H0:=by
 rw [zbm]
 simp_all only [zbw,zbl,zbt,zbk,zbs,zbv,zbu,zbm,zac]
 refine ⟨by decide,fun p1 n1=>⟨p1,cell,rfl,zaf,bx,fun p H1 s1 np P1=>?_⟩⟩
 have s0:=(zai n1 _).trans s1
 have np0:H0 p=none:=by
  cases z:H0 p with
  | none=>rfl
  | some o=>rw [zai n1 _ _ _ z] at np;cases np
 have s01:zaM H0 (Off p p H1):=fun x o e=>by
  have nx:x≠p:=fun z=>by rw [z,np0] at e;cases e
  rw [zfY nx nx]
  exact s0 _ _ e
 refine ⟨p,0,rfl,P1,by omega,fun tt rs rows w c' H2 s2 P2 hc T b98 l6 w6=>?_⟩
 have s02:zaM H0 H2:=(s01.trans s2).trans (zhh _ _ _)
 have T2:=T.same (zhh _ _ _)
 have L2:=L.same s02
 refine ⟨tt,rs,rows,w,rfl,T2,fun hh rs' H3 s3 T3 cp=>?_⟩
 have L3:=L2.same s3
 refine ⟨hh,rs',rows,w,rfl,T3,L3,fun r wr rl cl W R C H4 bar L4 g1 g2 g3 g4 nn so bq=>?_⟩
 have U:Td H4 r wr rl cl rows w W R C:=⟨g1,g2,g3,g4,so,bq⟩
 have T4:=(T2.same s3).bar L3 bar
 have T4':=T3.bar L3 bar
 refine ⟨fun σ H'=>zaM H4 H'∧σ=[scr,some (.ref ls),some (.int cell),some (.ref tt),some (.ref hh),some (.ref r),y6,y7],law_6 T4 T4' U fun H' s=>⟨s,rfl⟩,?_⟩
 rintro σ H5 ⟨s5,rfl⟩
 refine ⟨fun σ H'=>zaM H4 H'∧σ=[scr,some (.ref ls),some (.int cell),some (.ref tt),some (.ref hh),some (.ref r),y6,y7],law_5 (T4.same s5) (U.same s5) fun H' s=>⟨s5.trans s,rfl⟩,?_⟩
 rintro σ H6 ⟨s6,rfl⟩
 refine ⟨fun σ H'=>zaM H4 H'∧σ=[scr,some (.ref ls),some (.int cell),some (.ref tt),some (.ref hh),some (.ref r),y6,y7],law_4 (T4.same s6) (T4'.same s6) (U.same s6) fun H' s=>⟨s6.trans s,rfl⟩,?_⟩
 rintro σ H7 ⟨s7,rfl⟩
 refine law_3 L2 (Tl.same s02) (zaM.bar s3) T3 L3 b98 cp.2.2 cp.2.1 (L4.same s7) (za7 bar (zaM.bar s7)) (U.same s7) nn.1.1 nn.1.2.1 nn.1.2.2 nn.2 fun z5 z6 z7 H' b l=>?_
 exact q tt rs rows w H' _ _ _ _ _ (za7 (zaM.bar s02) b) l (T2.bar L2 b)
end
theorem cut24 (ns:List Int):∃ us:List Int,zkM (ns.map V.int) none (some 24)=us.map V.int∧us.length≤ns.length∧∀ x∈us,x∈ns:=by
 unfold zkM
 rw [← List.map_drop,← List.map_take]
 refine ⟨_,rfl,?_,fun x hx=>List.mem_of_mem_drop (List.mem_of_mem_take hx)⟩
 rw [List.length_take,List.length_drop]
 omega
theorem zoX {p0:Addr} {ns:List Int} (hS:SqL K H p0 (ns.map V.int)) (hl:ns.length≤63) (hb:∀ x∈ns,x.natAbs<2 ^ 2 ^ 20) (L:LT H a.p_lam) (q:∀ H',Q (.bl true) H') :
  znw K a { nx:=fun _ H'=>Q .non H',rt:=Q } (L2.zbg ["_law_script","_law_last","_law_cell","_law_table_here","_law_handed","_law_told","_law_kept","_law_changed"] [.ref p0]) H:=by
 unfold znw
 simp_all only [zbw,zbl,zbt,zbk,zbs,zbv,zbu,zbm,zac]
 obtain ⟨us,eu,lu,mu⟩:=cut24 ns
 refine ⟨by decide,fun A nA=>⟨by decide,fun B nB=>⟨by decide,fun T nT=>?_⟩⟩⟩
 have sA:=zai nA (.lst [.int 1,.int 2])
 have sB:=zai nB (.lst [.int 3,.int 0])
 have sT:=zai nT (.lst [.ref A,.ref B])
 have s3:=sA.trans (sB.trans sT)
 have T3:Tb (upd (upd (upd H A (.lst [.int 1,.int 2])) B (.lst [.int 3,.int 0])) T (.lst [.ref A,.ref B])) T [A,B] [[1,2],[3,0]] 2:=by
  refine ⟨zaf,rfl,fun i r row e1 e2=>?_,by decide,by decide,by decide,by decide,by decide,fun row h x hx=>?_⟩
  ·match i,e1,e2 with
   | 0,e1,e2 =>
    cases e1
    cases e2
    exact sT _ _ (sB _ _ zaf)
   | 1,e1,e2 =>
    cases e1
    cases e2
    exact sT _ _ zaf
  ·have:x.natAbs<2 ^ 2:=by
    revert x
    revert row
    decide
   exact Bd.mono (m:=2) this (by decide)
 generalize upd (upd (upd H A (.lst [.int 1,.int 2])) B (.lst [.int 3,.int 0])) T (.lst [.ref A,.ref B])=HT at s3 T3 ⊢
 refine ⟨by decide,fun e1 g1=>⟨_,(s3.trans (zai g1 _)).seq hS,fun e2 g2=>?_⟩⟩
 rw [eu]
 refine ⟨_,zai g2 _ _ _ zaf,_,zaf,?_,fun e3 g3=>?_⟩
 ·rw [List.length_map,List.length_singleton]
  simp only [sizeLine]
  omega
 have e:[V.int 0]++us.map V.int=(0::us).map V.int:=rfl
 rw [e]
 have hc:∀ x∈0::us,x.natAbs<2 ^ 2 ^ 20:=fun x hx=>by
  rcases List.mem_cons.mp hx with rfl | hx
  ·exact Nat.two_pow_pos _
  ·exact hb x (mu x hx)
 generalize (0::us)=cs at hc ⊢
 have sq:=((zai g1 (.lst [.int 0])).trans (zai g2 (.lst (us.map V.int)))).trans (zai g3 (.lst (cs.map V.int)))
 have h3:(L2.upd (L2.upd (L2.upd HT e1 (.lst [V.int 0])) e2 (.lst (us.map V.int))) e3 (.lst (cs.map V.int))) e3=some (.lst (cs.map V.int)):=zaf
 generalize L2.upd (L2.upd (L2.upd HT e1 (.lst [V.int 0])) e2 (.lst (us.map V.int))) e3 (.lst (cs.map V.int))=H3 at h3 sq ⊢
 have L3:=L.same (s3.trans sq)
 have n3:=L3.neL h3
 refine ⟨⟨_,SqL.of h3⟩,?_⟩
 refine zgY (K:=K) (xs:=cs.map V.int) (fun i σ H'=>(Bar a.p_lam H3 H'∧LT H' a.p_lam)∧∃ (t:Addr) (rs:List Addr) (rows:List (List Int)) (w:Nat) (u2 y3 y4 y5 y6 y7:Option V),Tb H' t rs rows w∧σ=[some (.ref p0),some (.ref t),u2,y3,y4,y5,y6,y7]) ⟨⟨fun x o n e=>e,L3⟩,T,_,_,_,_,_,_,_,_,_,T3.same sq,rfl⟩ ?_ ?_ ?_
 ·rintro i σ H' _ ⟨⟨s,_⟩,_⟩
  exact SqL.of (s _ _ n3 h3)
 ·rintro i x σ H4 hi ⟨⟨s4,L4⟩,t,rs,rows,w,u2,y3,y4,y5,y6,y7,T4,rfl⟩
  obtain ⟨cell,ec,rfl⟩:=zbS hi
  show zhW K a _ [some (.ref p0),some (.ref t),some (.int cell),y3,y4,y5,y6,y7] H4
  exact law_7 L4 T4 (hc cell (zcz ec)) fun t rs rows w H' y3 y4 y5 y6 y7 b l T5=>⟨⟨za7 s4 b,l⟩,t,rs,rows,w,_,_,_,_,_,_,T5,rfl⟩
 ·rintro σ H4 ⟨_,t,rs,rows,w,u2,y3,y4,y5,y6,y7,T4,rfl⟩
  simp_all only [zbw,zbl,zbt,zbk,zbs,zbv,zbu,zbm,zac]
  exact q H4
theorem zeL:zaI ["_law_script","_law_last","_law_cell","_law_table_here","_law_handed","_law_told","_law_kept","_law_changed"] ["_law_script"] (zah zlW):=⟨rfl,rfl,rfl,by decide +kernel,rfl,by decide +kernel,by decide +kernel⟩
theorem zpt (T:Txt K mg base a):zcQ P w K mg base CX0 12 a.f_law a.d_law ["_law_script"] (zlL K a.p_lam):=by
 have G__law_copy:=ziy (P:=P) (w:=w) (base:=base) T
 have G__law_fraction:=zf8 (P:=P) (w:=w) (base:=base) T
 have G__law_judged:=zhc (P:=P) (w:=w) (base:=base) T
 have G__law_left:=zis (P:=P) (w:=w) (base:=base) T
 have G__law_table:=zh4 (P:=P) (w:=w) (base:=base) T
 have G_table_judged:=zgI (P:=P) (w:=w) (base:=base) T
 have G_table_worth:=zg5 (P:=P) (w:=w) (base:=base) T
 refine T.F_law.ok zeL (fun vs H Q E h=>?_) (fun cdv A outer s H vs Q E hr h=>?_)
 ·obtain ⟨p0,ns,rfl,hS,hl,hb,L,q⟩:=h
  rfl
 obtain ⟨p0,ns,rfl,hS,hl,hb,L,q⟩:=h
 exact ⟨znw K a,(zad (zaK (i:=1) zeL.nd rfl (Or.inl rfl) (zc6 (zaa (zc6 (zaa zag (zaa zag zae))) (zaa (zc6 (zaa zag (zaa zag zae))) zae))))
 (zad (zek PassesOwn.never rfl (zco (zaO ziH (zc6 (zaa zag zae)) (zh5 zi4 (pv 0) zju (zi7 zag)))) (zaH (i:=2) zeL.nd rfl (Or.inl rfl))
 (zad (zaK (i:=3) zeL.nd rfl (Or.inl rfl) (zaE G__law_table (hr.mono (by decide)) rfl T.m__law_table T.F__law_table.kp T.b__law_table .nil za2 (zaa (zaE G__law_left (hr.mono (by decide)) rfl T.m__law_left T.F__law_left.kp T.b__law_left .nil za2 (zaa (zc6 (zaa (pv 2) zae)) (zaa zag zae))) zae)))
 (zad (zaK (i:=4) zeL.nd rfl (Or.inl rfl) (zaE G__law_copy (hr.mono (by decide)) rfl T.m__law_copy T.F__law_copy.kp T.b__law_copy .nil za2 (zaa (pv 3) zae)))
 (zad (zaK (i:=5) zeL.nd rfl (Or.inl rfl) (zaE G_table_worth (hr.mono (by decide)) rfl T.m_table_worth T.F_table_worth.kp T.b_table_worth .nil za2 (zaa (pv 4) zae)))
 (zad (zbZ (zcf (PW.pt (zeW (zc4 (zc5 (zal zbC rfl T.z_isinstance PyProof.Rows.boot_isinstance (zaa (pv 5) (zaa (zdC rfl T.z_tuple zhn rfl) zae))))) (zeW (zaR zmJ (zal zao rfl T.z_len PySem.boot_len (zaa (pv 5) zae)) zag (zaS _)) (zeW (zc4 (zc5 (zaE G__law_fraction (hr.mono (by decide)) rfl T.m__law_fraction T.F__law_fraction.kp T.b__law_fraction .nil za2 (zaa (zaD za1 (pv 5) zag (fun _ _=>rfl)) zae)))) (zeO (zaR (zjA hr.units) (pv 4) (pv 3) (zaS _))))))) (zaj (zaG zgX)) zaT))
 (zad (zbZ (zcf (zaR zfI (zaE G__law_judged (hr.mono (by decide)) rfl T.m__law_judged T.F__law_judged.kp T.b__law_judged .nil za2 (zaa (pv 3) (zaa (zaD za1 (pv 5) zag (fun _ _=>rfl)) (zaa (zaD za1 (pv 5) zag (fun _ _=>rfl)) (zaa (zaD za1 (pv 5) zag (fun _ _=>rfl)) zae))))) zdS (zaS _)) (zaj (zaG zgX)) zaT))
 (zad (zbZ (zcf (PW.pt (zeW (zaR zfI (zaE G_table_judged (hr.mono (by decide)) rfl T.m_table_judged T.F_table_judged.kp T.b_table_judged .nil za2 (zaa (pv 4) (zaa (zaD za1 (pv 5) zag (fun _ _=>rfl)) (zaa (zaD za1 (pv 5) zag (fun _ _=>rfl)) (zaa (zaD za1 (pv 5) zag (fun _ _=>rfl)) zae))))) zdS (zaS _)) (zeO (zaR (zjA hr.units) (pv 4) (pv 3) (zaS _))))) (zaj (zaG zgX)) zaT))
 (zad (zaK (i:=6) zeL.nd rfl (Or.inl rfl) (zdr (zaa (zaD za1 (pv 5) zag (fun _ _=>rfl)) (zaa (zez zdt rfl T.z_list zcu (zaa (zaD za1 (pv 5) zag (fun _ _=>rfl)) zae)) (zaa (zez zdt rfl T.z_list zcu (zaa (zaD za1 (pv 5) zag (fun _ _=>rfl)) zae)) zae)))))
 (zad (zeX (zpo PySem.F.plainAttrs_list PySem.F.slot_list_append PySem.F.type_list_append zfe (zaD za1 (pv 5) zag (fun _ _=>rfl)) (zaa zag zae)))
 (zad (zeX (zpN PySem.F.plainAttrs_list PySem.F.slot_list_clear PySem.F.type_list_clear zlY (zaD za1 (pv 5) zag (fun _ _=>rfl))))
 (zad (zeX (zaE G_table_worth (hr.mono (by decide)) rfl T.m_table_worth T.F_table_worth.kp T.b_table_worth .nil za2 (zaa (pv 1) zae)))
 (zad (zbZ (zcf (PW.pt (zeW (zaR (zjA hr.units) (zaE G_table_worth (hr.mono (by decide)) rfl T.m_table_worth T.F_table_worth.kp T.b_table_worth .nil za2 (zaa (pv 4) zae)) (pv 6) (zaS _)) (zeW (zaR (zpB hr.units) (zaD za1 (pv 5) zag (fun _ _=>rfl)) (zaO ziH (zaD za1 (pv 6) zag (fun _ _=>rfl)) (zc6 (zaa zag zae))) (zaS _)) (zeO (zaR (zpk hr.units) (zaD za1 (pv 5) zag (fun _ _=>rfl)) (zc6 zae) (zaS _)))))) (zaj (zaG zgX)) zaT))
 (zad (zeM (zaO zeq (zaD zap (zaD zap (pv 4) zag (fun _ _=>rfl)) zag (fun _ _=>rfl)) zag) (zfb (zaD zap (pv 4) zag (fun _ _=>rfl)) zag zc9))
 (zad (zaK (i:=7) zeL.nd rfl (Or.inl rfl) (zaE G__law_copy (hr.mono (by decide)) rfl T.m__law_copy T.F__law_copy.kp T.b__law_copy .nil za2 (zaa (pv 4) zae)))
 (zad (zaK (i:=5) zeL.nd rfl (Or.inl rfl) (zaE G_table_worth (hr.mono (by decide)) rfl T.m_table_worth T.F_table_worth.kp T.b_table_worth .nil za2 (zaa (pv 4) zae)))
 (zad (zbZ (zcf (PW.pt (zeW (zaR zfI (zaE G__law_judged (hr.mono (by decide)) rfl T.m__law_judged T.F__law_judged.kp T.b__law_judged .nil za2 (zaa (pv 7) (zaa (zaD za1 (pv 5) zag (fun _ _=>rfl)) (zaa (zaD za1 (pv 5) zag (fun _ _=>rfl)) (zaa (zaD za1 (pv 5) zag (fun _ _=>rfl)) zae))))) zdS (zaS _)) (zeO (zaR (zjA hr.units) (pv 4) (pv 7) (zaS _))))) (zaj (zaG zgX)) zaT))
 (zaj (zaK (i:=1) zeL.nd rfl (Or.inl rfl) (pv 3)))))))))))))))))))
 (zaj (zaG zgX)))),
  zoX hS hl hb L q⟩
end
theorem zlD {us:List Value} {n:Nat} (h:us.length=n+1):∃ a t,us=a::t∧t.length=n:=by
 cases us with
 | nil=>cases h
 | cons a t=>exact ⟨a,t,rfl,Nat.succ.inj h⟩
theorem zjy {us:List Value} (h:us.length=1):∃ a0,us=[a0]:=by
 obtain ⟨a0,u0,rfl,h0⟩:=zlD h
 cases List.eq_nil_of_length_eq_zero h0
 exact ⟨a0,rfl⟩
theorem ziQ {us:List Value} (h:us.length=2):∃ a0,∃ a1,us=[a0,a1]:=by
 obtain ⟨a0,u0,rfl,h0⟩:=zlD h
 obtain ⟨a1,u1,rfl,h1⟩:=zlD h0
 cases List.eq_nil_of_length_eq_zero h1
 exact ⟨a0,a1,rfl⟩
theorem lst3 {us:List Value} (h:us.length=3):∃ a0,∃ a1,∃ a2,us=[a0,a1,a2]:=by
 obtain ⟨a0,u0,rfl,h0⟩:=zlD h
 obtain ⟨a1,u1,rfl,h1⟩:=zlD h0
 obtain ⟨a2,u2,rfl,h2⟩:=zlD h1
 cases List.eq_nil_of_length_eq_zero h2
 exact ⟨a0,a1,a2,rfl⟩
theorem lst4 {us:List Value} (h:us.length=4):∃ a0,∃ a1,∃ a2,∃ a3,us=[a0,a1,a2,a3]:=by
 obtain ⟨a0,u0,rfl,h0⟩:=zlD h
 obtain ⟨a1,u1,rfl,h1⟩:=zlD h0
 obtain ⟨a2,u2,rfl,h2⟩:=zlD h1
 obtain ⟨a3,u3,rfl,h3⟩:=zlD h2
 cases List.eq_nil_of_length_eq_zero h3
 exact ⟨a0,a1,a2,a3,rfl⟩
structure Txm (K:PySem.W.Frag) (mg:Str→Option Value) (a:Ad):Prop where
 m:mg "law"=some (.ref a.f_law)
 F:Fun K "law" "law" zlW a.f_law a.d_law
 p:a.p_lam=110
 T:∀ base:Heap,PySem.W.CodeHd base 112 110→base.BuiltinsAt mg 110→Txt (zb8 110 K) mg base a
theorem zo7 {K:PySem.W.Frag} {mg:Str→Option Value} (hP:K.lookup 110=some (PySem.W.tabObj #[]))
  {f0 f1 f2 f3 f4 f5 f6 f7 f8 f9 f10 f11 f12 f13 f14 f15 f16 f17 f18 f19 f20 f21 f22 f23 f24 f25 f26 f27 f28 f29 f30 f31 f32 f33 f34 f35 f36 f37 f38:Addr} {d0 d1 d2 d3 d4 d5 d6 d7 d8 d9 d10 d11 d12 d13 d14 d15 d16 d17 d18 d19 d20 d21 d22 d23 d24 d25 d26 d27 d28 d29 d30 d31 d32 d33 d34 d35 d36 d37 d38:FuncData}
  {c_Board:Addr}
  (F0:Fun K "divisor" "divisor" zgR f0 d0) (m0:mg "divisor"=some (.ref f0))
  (F1:Fun K "ratio" "ratio" zjq f1 d1) (m1:mg "ratio"=some (.ref f1))
  (F2:Fun K "plus" "plus" zkL f2 d2) (m2:mg "plus"=some (.ref f2))
  (F3:Fun K "shared_divisor" "shared_divisor" zc3 f3 d3) (m3:mg "shared_divisor"=some (.ref f3))
  (F4:Fun K "lowest" "lowest" zgg f4 d4) (m4:mg "lowest"=some (.ref f4))
  (F5:Fun K "is_whole" "is_whole" zfO f5 d5) (m5:mg "is_whole"=some (.ref f5))
  (F6:Fun K "is_row" "is_row" zgd f6 d6) (m6:mg "is_row"=some (.ref f6))
  (F7:Fun K "is_table" "is_table" zdM f7 d7) (m7:mg "is_table"=some (.ref f7))
  (F8:Fun K "look_table" "look_table" zen f8 d8) (m8:mg "look_table"=some (.ref f8))
  (F9:Fun K "are_weights" "are_weights" zda f9 d9) (m9:mg "are_weights"=some (.ref f9))
  (F10:Fun K "row_sums" "row_sums" zdL f10 d10) (m10:mg "row_sums"=some (.ref f10))
  (F11:Fun K "column_sums" "column_sums" zcw f11 d11) (m11:mg "column_sums"=some (.ref f11))
  (F12:Fun K "first_column_above" "first_column_above" zb9 f12 d12) (m12:mg "first_column_above"=some (.ref f12))
  (F13:Fun K "first_row_below" "first_row_below" zcH f13 d13) (m13:mg "first_row_below"=some (.ref f13))
  (F14:Fun K "table_judged" "table_judged" zdF f14 d14) (m14:mg "table_judged"=some (.ref f14))
  (F15:Fun K "__init__" "Board.__init__" zci f15 d15)
  (F16:zlC K "entering" "Board.entering" zbO f16 d16 112) (ma16:PySem.W.findIn K (.ref c_Board) "entering"=some (some (.ref f16))) (mf16:PySem.W.isFn K (.ref f16)=true)
  (F17:Fun K "steepest" "Board.steepest" zcU f17 d17) (ma17:PySem.W.findIn K (.ref c_Board) "steepest"=some (some (.ref f17))) (mf17:PySem.W.isFn K (.ref f17)=true)
  (F18:Fun K "steepness" "Board.steepness" zb2 f18 d18) (ma18:PySem.W.findIn K (.ref c_Board) "steepness"=some (some (.ref f18))) (mf18:PySem.W.isFn K (.ref f18)=true)
  (F19:Fun K "leaving" "Board.leaving" zdh f19 d19) (ma19:PySem.W.findIn K (.ref c_Board) "leaving"=some (some (.ref f19))) (mf19:PySem.W.isFn K (.ref f19)=true)
  (F20:Fun K "is_sooner" "Board.is_sooner" zcC f20 d20) (ma20:PySem.W.findIn K (.ref c_Board) "is_sooner"=some (some (.ref f20))) (mf20:PySem.W.isFn K (.ref f20)=true)
  (F21:Fun K "swap" "Board.swap" zdw f21 d21) (ma21:PySem.W.findIn K (.ref c_Board) "swap"=some (some (.ref f21))) (mf21:PySem.W.isFn K (.ref f21)=true)
  (F22:Fun K "swapped_row" "Board.swapped_row" zbL f22 d22) (ma22:PySem.W.findIn K (.ref c_Board) "swapped_row"=some (some (.ref f22))) (mf22:PySem.W.isFn K (.ref f22)=true)
  (F23:Fun K "first_grid" "first_grid" zcp f23 d23) (m23:mg "first_grid"=some (.ref f23))
  (F24:Fun K "row_weights" "row_weights" zc8 f24 d24) (m24:mg "row_weights"=some (.ref f24))
  (F25:Fun K "column_weights" "column_weights" zcl f25 d25) (m25:mg "column_weights"=some (.ref f25))
  (F26:Fun K "solved" "solved" zgb f26 d26) (m26:mg "solved"=some (.ref f26))
  (F27:Fun K "table_worth" "table_worth" zd3 f27 d27) (m27:mg "table_worth"=some (.ref f27))
  (F28:Fun K "_law_mix" "_law_mix" zfR f28 d28) (m28:mg "_law_mix"=some (.ref f28))
  (F29:Fun K "_law_cell_at" "_law_cell_at" zdz f29 d29) (m29:mg "_law_cell_at"=some (.ref f29))
  (F30:Fun K "_law_left" "_law_left" zeY f30 d30) (m30:mg "_law_left"=some (.ref f30))
  (F31:Fun K "_law_draw" "_law_draw" zeR f31 d31) (m31:mg "_law_draw"=some (.ref f31))
  (F32:Fun K "_law_table" "_law_table" zdu f32 d32) (m32:mg "_law_table"=some (.ref f32))
  (F33:Fun K "_law_copy" "_law_copy" zd4 f33 d33) (m33:mg "_law_copy"=some (.ref f33))
  (F34:Fun K "_law_whole" "_law_whole" zel f34 d34) (m34:mg "_law_whole"=some (.ref f34))
  (F35:Fun K "_law_weights" "_law_weights" zcJ f35 d35) (m35:mg "_law_weights"=some (.ref f35))
  (F36:Fun K "_law_fraction" "_law_fraction" zdp f36 d36) (m36:mg "_law_fraction"=some (.ref f36))
  (F37:Fun K "_law_judged" "_law_judged" zcx f37 d37) (m37:mg "_law_judged"=some (.ref f37))
  (F38:Fun K "law" "law" zlW f38 d38) (m38:mg "law"=some (.ref f38))
  (cl_Board:Cls K c_Board) (K_Board:Mk K c_Board f15) (na_Board_grid:PySem.W.findIn K (.ref c_Board) "grid"=some none) (na_Board_scale:PySem.W.findIn K (.ref c_Board) "scale"=some none) (na_Board_idle:PySem.W.findIn K (.ref c_Board) "idle"=some none) (na_Board_busy:PySem.W.findIn K (.ref c_Board) "busy"=some none) (na_Board_stuck:PySem.W.findIn K (.ref c_Board) "stuck"=some none)
  (z_isinstance:mg "isinstance"=none)
  (z_int:mg "int"=none)
  (z_bool:mg "bool"=none)
  (z_list:mg "list"=none)
  (z_len:mg "len"=none)
  (z_all:mg "all"=none)
  (z_sum:mg "sum"=none)
  (z_min:mg "min"=none)
  (z_enumerate:mg "enumerate"=none)
  (z_range:mg "range"=none)
  (z_abs:mg "abs"=none)
  (z_zip:mg "zip"=none)
  (z_tuple:mg "tuple"=none)
  (ac_Board:mg "Board"=some (.ref c_Board))
  {k_MOST:PySem.Tok} (ak_MOST:mg "MOST"=some (.int 12 k_MOST))
  : Txm K mg ⟨f0,d0,f1,d1,f2,d2,f3,d3,f4,d4,f5,d5,f6,d6,f7,d7,f8,d8,f9,d9,f10,d10,f11,d11,f12,d12,f13,d13,f14,d14,f15,d15,f16,d16,f17,d17,f18,d18,f19,d19,f20,d20,f21,d21,f22,d22,f23,d23,f24,d24,f25,d25,f26,d26,f27,d27,f28,d28,f29,d29,f30,d30,f31,d31,f32,d32,f33,d33,f34,d34,f35,d35,f36,d36,f37,d37,f38,d38,c_Board,k_MOST,110,112⟩:=by
 have G0:=zaF hP F0
 have G1:=zaF hP F1
 have G2:=zaF hP F2
 have G3:=zaF hP F3
 have G4:=zaF hP F4
 have G5:=zaF hP F5
 have G6:=zaF hP F6
 have G7:=zaF hP F7
 have G8:=zaF hP F8
 have G9:=zaF hP F9
 have G10:=zaF hP F10
 have G11:=zaF hP F11
 have G12:=zaF hP F12
 have G13:=zaF hP F13
 have G14:=zaF hP F14
 have G15:=zaF hP F15
 have G16:=F16.drop hP
 have G17:=zaF hP F17
 have G18:=zaF hP F18
 have G19:=zaF hP F19
 have G20:=zaF hP F20
 have G21:=zaF hP F21
 have G22:=zaF hP F22
 have G23:=zaF hP F23
 have G24:=zaF hP F24
 have G25:=zaF hP F25
 have G26:=zaF hP F26
 have G27:=zaF hP F27
 have G28:=zaF hP F28
 have G29:=zaF hP F29
 have G30:=zaF hP F30
 have G31:=zaF hP F31
 have G32:=zaF hP F32
 have G33:=zaF hP F33
 have G34:=zaF hP F34
 have G35:=zaF hP F35
 have G36:=zaF hP F36
 have G37:=zaF hP F37
 have G38:=zaF hP F38
 refine ⟨m38,F38,rfl,fun base hC hB=>⟨G0,G0.binds fun _ _ _ _ _ _ us hl=>by obtain ⟨_,_,rfl⟩:=ziQ hl;rfl,m0,G1,G1.binds fun _ _ _ _ _ _ us hl=>by obtain ⟨_,_,rfl⟩:=ziQ hl;rfl,m1,G2,G2.binds fun _ _ _ _ _ _ us hl=>by obtain ⟨_,_,rfl⟩:=ziQ hl;rfl,m2,G3,G3.binds fun _ _ _ _ _ _ us hl=>by obtain ⟨_,rfl⟩:=zjy hl;rfl,m3,G4,G4.binds fun _ _ _ _ _ _ us hl=>by obtain ⟨_,rfl⟩:=zjy hl;rfl,m4,G5,G5.binds fun _ _ _ _ _ _ us hl=>by obtain ⟨_,rfl⟩:=zjy hl;rfl,m5,G6,G6.binds fun _ _ _ _ _ _ us hl=>by obtain ⟨_,rfl⟩:=zjy hl;rfl,m6,G7,G7.binds fun _ _ _ _ _ _ us hl=>by obtain ⟨_,rfl⟩:=zjy hl;rfl,m7,G8,G8.binds fun _ _ _ _ _ _ us hl=>by obtain ⟨_,rfl⟩:=zjy hl;rfl,m8,G9,G9.binds fun _ _ _ _ _ _ us hl=>by obtain ⟨_,_,rfl⟩:=ziQ hl;rfl,m9,G10,G10.binds fun _ _ _ _ _ _ us hl=>by obtain ⟨_,_,rfl⟩:=ziQ hl;rfl,m10,G11,G11.binds fun _ _ _ _ _ _ us hl=>by obtain ⟨_,_,rfl⟩:=ziQ hl;rfl,m11,G12,G12.binds fun _ _ _ _ _ _ us hl=>by obtain ⟨_,_,_,rfl⟩:=lst3 hl;rfl,m12,G13,G13.binds fun _ _ _ _ _ _ us hl=>by obtain ⟨_,_,_,rfl⟩:=lst3 hl;rfl,m13,G14,G14.binds fun _ _ _ _ _ _ us hl=>by obtain ⟨_,_,_,_,rfl⟩:=lst4 hl;rfl,m14,G15,G15.binds fun _ _ _ _ _ _ us hl=>by obtain ⟨_,_,rfl⟩:=ziQ hl;rfl,G16,G16.fun.binds fun _ _ _ _ _ _ us hl=>by obtain ⟨_,rfl⟩:=zjy hl;rfl,(zhj.mk ma16 mf16 F16.kp).drop hP,G17,G17.binds fun _ _ _ _ _ _ us hl=>by obtain ⟨_,_,rfl⟩:=ziQ hl;rfl,(zhj.mk ma17 mf17 F17.kp).drop hP,G18,G18.binds fun _ _ _ _ _ _ us hl=>by obtain ⟨_,_,rfl⟩:=ziQ hl;rfl,(zhj.mk ma18 mf18 F18.kp).drop hP,G19,G19.binds fun _ _ _ _ _ _ us hl=>by obtain ⟨_,_,rfl⟩:=ziQ hl;rfl,(zhj.mk ma19 mf19 F19.kp).drop hP,G20,G20.binds fun _ _ _ _ _ _ us hl=>by obtain ⟨_,_,_,_,rfl⟩:=lst4 hl;rfl,(zhj.mk ma20 mf20 F20.kp).drop hP,G21,G21.binds fun _ _ _ _ _ _ us hl=>by obtain ⟨_,_,_,rfl⟩:=lst3 hl;rfl,(zhj.mk ma21 mf21 F21.kp).drop hP,G22,G22.binds fun _ _ _ _ _ _ us hl=>by obtain ⟨_,_,_,_,rfl⟩:=lst4 hl;rfl,(zhj.mk ma22 mf22 F22.kp).drop hP,G23,G23.binds fun _ _ _ _ _ _ us hl=>by obtain ⟨_,_,rfl⟩:=ziQ hl;rfl,m23,G24,G24.binds fun _ _ _ _ _ _ us hl=>by obtain ⟨_,_,rfl⟩:=ziQ hl;rfl,m24,G25,G25.binds fun _ _ _ _ _ _ us hl=>by obtain ⟨_,_,_,rfl⟩:=lst3 hl;rfl,m25,G26,G26.binds fun _ _ _ _ _ _ us hl=>by obtain ⟨_,rfl⟩:=zjy hl;rfl,m26,G27,G27.binds fun _ _ _ _ _ _ us hl=>by obtain ⟨_,rfl⟩:=zjy hl;rfl,m27,G28,G28.binds fun _ _ _ _ _ _ us hl=>by obtain ⟨_,_,rfl⟩:=ziQ hl;rfl,m28,G29,G29.binds fun _ _ _ _ _ _ us hl=>by obtain ⟨_,_,rfl⟩:=ziQ hl;rfl,m29,G30,G30.binds fun _ _ _ _ _ _ us hl=>by obtain ⟨_,_,rfl⟩:=ziQ hl;rfl,m30,G31,G31.binds fun _ _ _ _ _ _ us hl=>by obtain ⟨_,_,rfl⟩:=ziQ hl;rfl,m31,G32,G32.binds fun _ _ _ _ _ _ us hl=>by obtain ⟨_,rfl⟩:=zjy hl;rfl,m32,G33,G33.binds fun _ _ _ _ _ _ us hl=>by obtain ⟨_,rfl⟩:=zjy hl;rfl,m33,G34,G34.binds fun _ _ _ _ _ _ us hl=>by obtain ⟨_,rfl⟩:=zjy hl;rfl,m34,G35,G35.binds fun _ _ _ _ _ _ us hl=>by obtain ⟨_,_,rfl⟩:=ziQ hl;rfl,m35,G36,G36.binds fun _ _ _ _ _ _ us hl=>by obtain ⟨_,rfl⟩:=zjy hl;rfl,m36,G37,G37.binds fun _ _ _ _ _ _ us hl=>by obtain ⟨_,_,_,_,rfl⟩:=lst4 hl;rfl,m37,G38,G38.binds fun _ _ _ _ _ _ us hl=>by obtain ⟨_,rfl⟩:=zjy hl;rfl,m38,cl_Board.drop hP,K_Board.drop hP,zcv.drop hP na_Board_grid,zcv.drop hP na_Board_scale,zcv.drop hP na_Board_idle,zcv.drop hP na_Board_busy,zcv.drop hP na_Board_stuck,hC,hB,z_isinstance,z_int,z_bool,z_list,z_len,z_all,z_sum,z_min,z_enumerate,z_range,z_abs,z_zip,z_tuple,ac_Board,ak_MOST⟩⟩
theorem zpR {K:PySem.W.Frag} {w:World} {mg:Str→Option Value} {fa:Addr} {P:Program} (hfa:mg "law"=some (.ref fa)) {a:Ad} (M:Txm K mg a) :
  ∃ fd:FuncData,(∀ (s:Shared) (u:Value),BindsTo s fd ⟨[u],[]⟩ [("_law_script",u)])∧∀ base:Heap,(zb8 110 K).In base→base.Ns mainGlobals mg→PySem.W.CodeHd base 112 110→base.BuiltinsAt mg 110→zcQ P w (zb8 110 K) mg base CX0 12 fa fd ["_law_script"] (zlL (zb8 110 K) 110):=by
 have e:=hfa.symm.trans M.m
 cases e
 refine ⟨a.d_law,fun s v=>?_,fun base _ _ hC hB=>?_⟩
 ·obtain ⟨oc,od,kV,doc,pm,an,cdv,ct,osl,e,lk,hcd⟩:=M.F.ex
  rw [e]
  exact .of_eq rfl
 ·have h:=zpt (P:=P) (w:=w) (M.T base hC hB)
  rw [M.p] at h
  exact h
theorem walk {l:PySem.W.OpenLaw} {q:Program} {loose:List Str} {XP:(Str→Option Value)→Heap→Prop} {YP:World→Heap→Prop} {d:DefRec} {K:Params→PySem.W.Frag} (hn:l.most=some 63) (hdf:d.params.defaults=[])
  (hY:∀ (w:World) (h:Heap),YP w h→(K w.params).In h) (hPt:∀ w:World,(K w.params).lookup 110=some (PySem.W.tabObj #[])) (hC:∀ (w:World) (h:Heap),(K w.params).In h→PySem.W.CodeHd h 112 110)
  (F:∀ (w:World) (mg:Str→Option Value) (fa:Addr) (h:Heap),(K w.params).In h→h.Ns mainGlobals mg→mg d.name=some (.ref fa) →
   ∃ fd:FuncData,(∀ (s:Shared) (u:Value),BindsTo s fd ⟨[u],[]⟩ [("_law_script",u)])∧∀ base:Heap,(zb8 110 (K w.params)).In base→base.Ns mainGlobals mg→PySem.W.CodeHd base 112 110→base.BuiltinsAt mg 110→zcQ l.prog w (zb8 110 (K w.params)) mg base CX0 12 fa fd ["_law_script"] (zlL (zb8 110 (K w.params)) 110)) :
  PySem.W.WalkO q loose XP YP l.row.toRowW d [] (fun f vs=>PySem.call f vs) :=
 L2.zmj (n:=63) (k:=12) (x:="_law_script") (sp:=fun w=>zlL (zb8 110 (K w.params)) 110) hn (by decide) hdf ⟨rfl,by decide,by decide⟩ hY hPt hC F fun _ _ a ns hb hl hP hS=>⟨a,ns,rfl,hS,hl,hb,.first hP,fun _=>rfl⟩
end My
open PySem PySem.W in
theorem My.walk_at {K:Params→Frag} {w:World} {h:Heap} {l:OpenLaw} {q:Program} {loose:List Str} {XP:(Str→Option Value)→Heap→Prop} {d:DefRec} {C:Prop} (_:(K w.params).In h)
  (use:WalkO q loose XP (fun w h=>(K w.params).In h) l.row.toRowW d [] (fun f vs=>PySem.call f vs)→C) (W:WalkO q loose XP (fun w h=>(K w.params).In h) l.row.toRowW d [] (fun f vs=>PySem.call f vs)):C:=use W
noncomputable section
namespace Hd
open PySem PySem.W.Fast
structure Q (α : Type) where
  a : α
  b : α
  c : α
  d : α
  e : α
  f : α
  g : α
  h : α
class X where
  s : Q (Q (Q Str))
  t : Q (Q (Q String))
  r : Q (Q (Q Obj))
  p : Program
  P : Params
def sp (p : Program) (n : Nat) : Stmt := (p.main.body.drop n).headD (.Pass ⟨0, 0, 0, 0⟩)
def st [x : X] (n : Nat) : Stmt := sp x.p n
def cb : Stmt → List Stmt
  | .ClassDef _ _ _ b .. => b
  | _ => []
def sm [x : X] (n k : Nat) : Stmt := ((cb (st n)).drop k).headD (.Pass ⟨0, 0, 0, 0⟩)
def fn (s : Stmt) (q : Str) (g : Addr) (c : List (Str × Addr)) (d k o m : Value) (a : Option Addr) (z t : Value) (b : Addr) : FuncData := match s with
  | .FunctionDef n p y _ _ _ u .. => ⟨n, q, p, .stmts y, u, g, c, d, k, o, m, a, z, t, b⟩
  | _ => default
abbrev z := W.BT.nil
def N (o : Obj) (l r : W.BT) : W.BT := .node o l r
def L (o : Obj) : W.BT := .node o .nil .nil
def e [x : X] (s : Str) (n : Nat) (v : Value) : DictEntry := ⟨PyData.keyHash x.P s, .str s n, v⟩
def vR (n : Nat) : Option Value := some (.ref n)
def vr (n : Nat) : Value := .ref n
def vO : Value := .int 0 0
def vI (n : Int) : Value := .int n 0
def vS (s : Str) (n : Tok) : Value := .str s n
def vY (s : String) : Value := .type s
def vB (s : String) : Value := .builtin s
section
variable [x : X]
def i0 := e x.s.a.a.d 165 (vS x.s.a.a.e 187)
def i1 := e x.s.a.a.f 166 .none
def i2 := e x.s.a.a.g 167 .none
def i3 := e x.s.a.a.h 168 (vB x.t.a.a.e)
def i4 := e x.s.a.b.a 169 .none
def i5 := e x.s.a.b.b 170 (vr 6)
def i6 := e x.s.a.b.c 171 (vr 4)
def i7 := e x.s.a.b.d 173 (vS x.s.a.a.b 172)
def i8 := e x.s.a.b.e 174 .none
def i9 := e x.s.a.b.f 206 (vr 24)
def i10 := e x.s.a.b.g 196 (vS x.s.a.a.e 187)
def i11 := e x.s.a.b.h 198 (vS x.s.a.b.f 197)
def i12 := e x.s.a.c.a 200 (.int 2 199)
def i13 := e x.s.a.c.b 201 (vr 22)
def i14 := e x.s.a.c.c 203 (vr 25)
def i15 := e x.s.a.a.f 204 .none
def i16 := e x.s.a.c.d 222 (vr 37)
def i17 := e x.s.a.b.g 214 (vS x.s.a.a.e 187)
def i18 := e x.s.a.b.h 216 (vS x.s.a.c.d 215)
def i19 := e x.s.a.c.a 218 (.int 4 217)
def i20 := e x.s.a.c.b 219 (vr 35)
def i21 := e x.s.a.a.f 220 .none
def i22 := e x.s.a.a.d 165 (vS x.s.a.c.e 282)
def i23 := e x.s.a.c.f 238 (vr 49)
def i24 := e x.s.a.c.g 249 (vr 58)
def i25 := e x.s.a.c.h 258 (vr 65)
def i26 := e x.s.a.d.a 266 (vr 72)
def i27 := e x.s.a.d.b 275 (vr 79)
def i28 := e x.s.a.d.c 281 (vr 84)
def i29 := e x.s.a.b.g 230 (vS x.s.a.a.e 187)
def i30 := e x.s.a.b.h 232 (vS x.s.a.c.f 231)
def i31 := e x.s.a.c.a 234 (.int 6 233)
def i32 := e x.s.a.c.b 235 (vr 47)
def i33 := e x.s.a.a.f 236 .none
def i34 := e x.s.a.a.d 165 (vS x.s.a.e.e 297)
def i35 := e x.s.a.e.f 290 (vr 91)
def i36 := e x.s.a.e.g 296 (vr 96)
def i37 := e x.s.a.f.a 387 (vr 152)
def i38 := e x.s.a.b.g 306 (vS x.s.a.e.e 297)
def i39 := e x.s.a.b.h 308 (vS x.s.a.f.a 307)
def i40 := e x.s.a.c.a 310 (.int 42 309)
def i41 := e x.s.a.f.b 316 (vr 108)
def i42 := e x.s.a.f.c 322 (vr 113)
def i43 := e x.s.a.f.d 334 (vr 120)
def i44 := e x.s.a.f.e 340 (vr 125)
def i45 := e x.s.a.f.f 350 (vr 132)
def i46 := e x.s.a.f.g 362 (vr 139)
def i47 := e x.s.a.f.h 368 (vr 144)
def i48 := e x.s.a.g.a 374 (vr 149)
def i49 := e x.s.a.c.b 380 (vr 150)
def i50 := e x.s.b.a.g 382 (vr 153)
def i51 := e x.s.a.c.c 384 (vr 154)
def i52 := e x.s.a.a.f 385 .none
def i53 := e x.s.a.a.d 165 (vS x.s.b.a.h 490)
def i54 := e x.s.b.b.a 393 (vr 161)
def i55 := e x.s.b.b.b 399 (vr 166)
def i56 := e x.s.b.b.c 405 (vr 171)
def i57 := e x.s.b.b.d 411 (vr 176)
def i58 := e x.s.b.b.e 415 (.int 12 414)
def i59 := e x.s.b.b.f 421 (vr 181)
def i60 := e x.s.b.b.g 427 (vr 186)
def i61 := e x.s.b.b.h 434 (vr 193)
def i62 := e x.s.b.c.a 440 (vr 198)
def i63 := e x.s.b.c.b 446 (vr 203)
def i64 := e x.s.b.c.c 458 (vr 210)
def i65 := e x.s.b.c.d 470 (vr 217)
def i66 := e x.s.b.c.e 482 (vr 224)
def i67 := e x.s.b.c.f 489 (vr 231)
def i68 := e x.s.b.d.g 500 (vr 238)
def i69 := e x.s.b.d.h 508 (vr 245)
def i70 := e x.s.b.e.a 517 (vr 252)
def i71 := e x.s.b.e.b 527 (vr 259)
def i72 := e x.s.b.e.c 533 (vr 264)
def i73 := e x.s.b.e.d 539 (vr 269)
def i74 := e x.s.b.e.e 546 (vr 276)
def i75 := e x.s.b.e.f 552 (vr 281)
def i76 := e x.s.b.e.g 561 (vr 288)
def i77 := e x.s.b.e.h 567 (vr 293)
def i78 := e x.s.b.f.a 581 (vr 300)
def zaq : Obj := ⟨(vY x.t.a.a.a), none, (.seq #[] 0), #[]⟩
def zaL : Obj := ⟨.none, none, (.fields #[]), #[]⟩
def zlI : Obj := ⟨(vY x.t.a.a.b), none, (.fields #[(vS x.s.a.a.a 182), (vS x.s.a.a.a 183), (vS x.s.a.a.b 184), (vI 1), vO, vO, vO, vO, (vr 11), (.bool false), (vI 181), (vr 12), .none, .none, .none, .none, (vI 185), (vI 1), (vS x.s.a.a.b 186)]), #[]⟩
def zlH : Obj := ⟨(vY x.t.a.a.c), none, .plain, #[(vR 13), (vR 3), (vR 3), none, (some (vS x.s.a.a.c 164)), none, (vR 0)]⟩
def b617 : Obj := ⟨(vY x.t.a.a.d), none, (.dict #[i0, i1, i2, i3, i4, i5, i6, i7, i8, i9] 10), #[]⟩
def b618 : Obj := ⟨.none, none, (.fields #[(vI 2), vO, (vr 20)]), #[]⟩
def zm6 : Obj := ⟨(vY x.t.a.a.a), none, (.seq #[(vY x.t.a.a.f)] 0), #[]⟩
def zf5 : Obj := ⟨(vY x.t.a.a.g), none, (.fields #[(vB x.t.a.a.h), (vY x.t.a.b.a)]), #[]⟩
def zm0 : Obj := ⟨(vY x.t.a.a.d), none, (.dict #[i10, i11, i12, i13] 4), #[]⟩
def znb : Obj := ⟨(vY x.t.a.a.b), none, (.fields #[(vS x.s.a.b.f 191), (vS x.s.a.b.f 192), (vS x.s.a.a.b 193), (vI 2), vO, vO, vO, vO, (vr 18), (.bool false), (vI 181), (vr 19), .none, .none, .none, .none, (vI 194), (vI 2), (vS x.s.a.a.b 195)]), #[]⟩
def zmV : Obj := ⟨(vY x.t.a.a.c), none, .plain, #[(vR 20), (vR 3), (vR 17), none, (some (vS x.s.a.a.e 187)), none, (vR 0)]⟩
def znc : Obj := ⟨(vY x.t.a.a.d), none, (.dict #[i10, i12, i13, i14, i15] 3), #[]⟩
def b628 : Obj := ⟨(vY x.t.a.b.a), none, (.cls ⟨x.s.a.b.f, [(vY x.t.a.a.f)], [(vr 24), (vY x.t.a.a.f), (vY x.t.a.b.b), (vY x.t.a.b.c), (vY x.t.a.b.d)], 23, x.s.a.b.f, true, [], [], false, none, false⟩), #[(vR 15), none, (some (vS x.s.a.b.f 189)), (some (vS x.s.a.b.f 197)), (some (vB x.t.a.b.e)), (some (.bool true))]⟩
def znl : Obj := ⟨(vY x.t.a.b.f), none, (.fields #[(vS x.s.a.c.c 202), (vr 24), (vB x.t.a.b.g), .none]), #[]⟩
def zne : Obj := ⟨(vY x.t.a.b.h), none, (.fields #[(vr 24), (vr 24), (vr 24)]), #[]⟩
def zna : Obj := ⟨(vY x.t.a.a.g), none, (.fields #[(vB x.t.a.c.a), (vr 24)]), #[]⟩
def b632 : Obj := ⟨(vY x.t.a.a.d), none, (.dict #[i0, i1, i2, i3, i4, i5, i6, i7, i8, i9, i16] 11), #[]⟩
def b633 : Obj := ⟨.none, none, (.fields #[(vI 2), vO, (vr 20), (vI 4), vO, (vr 33)]), #[]⟩
def b634 : Obj := ⟨(vY x.t.a.b.a), none, (.cls ⟨x.s.a.b.f, [(vY x.t.a.a.f)], [(vr 24), (vY x.t.a.a.f), (vY x.t.a.b.b), (vY x.t.a.b.c), (vY x.t.a.b.d)], 23, x.s.a.b.f, true, [], [(vr 37)], false, none, false⟩), #[(vR 15), none, (some (vS x.s.a.b.f 189)), (some (vS x.s.a.b.f 197)), (some (vB x.t.a.b.e)), (some (.bool true))]⟩
def zj1 : Obj := ⟨(vY x.t.a.a.a), none, (.seq #[(vr 24)] 0), #[]⟩
def znm : Obj := ⟨(vY x.t.a.a.d), none, (.dict #[i17, i18, i19, i20] 4), #[]⟩
def znO : Obj := ⟨(vY x.t.a.a.b), none, (.fields #[(vS x.s.a.c.d 209), (vS x.s.a.c.d 210), (vS x.s.a.a.b 211), (vI 4), vO, vO, vO, vO, (vr 31), (.bool false), (vI 181), (vr 32), .none, .none, .none, .none, (vI 212), (vI 4), (vS x.s.a.a.b 213)]), #[]⟩
def znn : Obj := ⟨(vY x.t.a.a.c), none, .plain, #[(vR 33), (vR 3), (vR 30), none, (some (vS x.s.a.a.e 187)), none, (vR 0)]⟩
def znI : Obj := ⟨(vY x.t.a.a.d), none, (.dict #[i17, i19, i20, i21] 2), #[]⟩
def zn0 : Obj := ⟨(vY x.t.a.b.a), none, (.cls ⟨x.s.a.c.d, [(vr 24)], [(vr 37), (vr 24), (vY x.t.a.a.f), (vY x.t.a.b.b), (vY x.t.a.b.c), (vY x.t.a.b.d)], 36, x.s.a.c.d, true, [], [], false, none, false⟩), #[(vR 28), none, (some (vS x.s.a.c.d 207)), (some (vS x.s.a.c.d 215)), (some (vB x.t.a.b.e)), (some (.bool true))]⟩
def zn4 : Obj := ⟨(vY x.t.a.b.h), none, (.fields #[(vr 37), (vr 37), (vr 37)]), #[]⟩
def znU : Obj := ⟨(vY x.t.a.a.g), none, (.fields #[(vB x.t.a.c.a), (vr 37)]), #[]⟩
def b647 : Obj := ⟨(vY x.t.a.a.d), none, (.dict #[i22, i1, i2, i3, i4, i5, i6, i7, i8, i9, i16, i23, i24, i25, i26, i27, i28] 17), #[]⟩
def b648 : Obj := ⟨.none, none, (.fields #[(vI 2), vO, (vr 20), (vI 4), vO, (vr 33), (vI 6), vO, (vr 45), (vI 9), vO, (vr 57), (vI 17), vO, (vr 64), (vI 24), vO, (vr 71), (vI 26), vO, (vr 78), (vI 31), vO, (vr 83)]), #[]⟩
def zoE : Obj := ⟨(vY x.t.a.b.a), none, (.cls ⟨x.s.a.b.f, [(vY x.t.a.a.f)], [(vr 24), (vY x.t.a.a.f), (vY x.t.a.b.b), (vY x.t.a.b.c), (vY x.t.a.b.d)], 23, x.s.a.b.f, true, [], [(vr 37), (vr 49)], false, none, false⟩), #[(vR 15), none, (some (vS x.s.a.b.f 189)), (some (vS x.s.a.b.f 197)), (some (vB x.t.a.b.e)), (some (.bool true))]⟩
def zoR : Obj := ⟨(vY x.t.a.a.d), none, (.dict #[i29, i30, i31, i32] 4), #[]⟩
def zoM : Obj := ⟨(vY x.t.a.a.b), none, (.fields #[(vS x.s.a.c.f 225), (vS x.s.a.c.f 226), (vS x.s.a.a.b 227), (vI 6), vO, vO, vO, vO, (vr 43), (.bool false), (vI 181), (vr 44), .none, .none, .none, .none, (vI 228), (vI 6), (vS x.s.a.a.b 229)]), #[]⟩
def zoO : Obj := ⟨(vY x.t.a.a.c), none, .plain, #[(vR 45), (vR 3), (vR 42), none, (some (vS x.s.a.a.e 187)), none, (vR 0)]⟩
def zow : Obj := ⟨(vY x.t.a.a.d), none, (.dict #[i29, i31, i32, i33] 2), #[]⟩
def zoC : Obj := ⟨(vY x.t.a.b.a), none, (.cls ⟨x.s.a.c.f, [(vr 24)], [(vr 49), (vr 24), (vY x.t.a.a.f), (vY x.t.a.b.b), (vY x.t.a.b.c), (vY x.t.a.b.d)], 48, x.s.a.c.f, true, [], [], false, none, false⟩), #[(vR 40), none, (some (vS x.s.a.c.f 223)), (some (vS x.s.a.c.f 231)), (some (vB x.t.a.b.e)), (some (.bool true))]⟩
def zoG : Obj := ⟨(vY x.t.a.b.h), none, (.fields #[(vr 49), (vr 49), (vr 49)]), #[]⟩
def zoy : Obj := ⟨(vY x.t.a.a.g), none, (.fields #[(vB x.t.a.c.a), (vr 49)]), #[]⟩
def zot : Obj := ⟨(vY x.t.a.a.a), none, (.seq #[(vS x.s.a.d.d 244), (vS x.s.a.d.e 245), (vS x.s.a.d.f 246)] 0), #[]⟩
def zoF : Obj := ⟨.none, none, (.func (fn (st 5) x.s.a.c.g 0 [] .none .none .none .none none .none .none 0)), #[]⟩
def zov : Obj := ⟨(vY x.t.a.a.b), none, (.fields #[(vS x.s.a.c.g 241), (vS x.s.a.c.g 242), (vS x.s.a.a.b 243), (vI 9), (vI 2), vO, vO, (vI 3), (vr 52), (.bool true), (vI 181), (vr 53), .none, (vr 54), (vr 55), (vr 56), (vI 247), (vI 9), (vS x.s.a.a.b 248)]), #[]⟩
def zoK : Obj := ⟨(vY x.t.a.c.b), none, (.func (fn (st 5) x.s.a.c.g 3 [] .none .none .none (vS x.s.a.d.g 239) none (vr 57) .none 0)), #[]⟩
def zoN : Obj := ⟨(vY x.t.a.a.a), none, (.seq #[(vS x.s.a.d.h 253), (vS x.s.a.e.a 254), (vS x.s.a.e.b 255)] 0), #[]⟩
def zoL : Obj := ⟨.none, none, (.func (fn (st 6) x.s.a.c.h 0 [] .none .none .none .none none .none .none 0)), #[]⟩
def zoA : Obj := ⟨(vY x.t.a.a.b), none, (.fields #[(vS x.s.a.c.h 250), (vS x.s.a.c.h 251), (vS x.s.a.a.b 252), (vI 17), (vI 2), vO, vO, (vI 3), (vr 59), (.bool true), (vI 181), (vr 60), .none, (vr 61), (vr 62), (vr 63), (vI 256), (vI 17), (vS x.s.a.a.b 257)]), #[]⟩
def zoD : Obj := ⟨(vY x.t.a.c.b), none, (.func (fn (st 6) x.s.a.c.h 3 [] .none .none .none (vS x.s.a.d.g 239) none (vr 64) .none 0)), #[]⟩
def zox : Obj := ⟨(vY x.t.a.a.a), none, (.seq #[(vS x.s.a.d.d 262), (vS x.s.a.d.e 263)] 0), #[]⟩
def zoB : Obj := ⟨.none, none, (.func (fn (st 7) x.s.a.d.a 0 [] .none .none .none .none none .none .none 0)), #[]⟩
def zoS : Obj := ⟨(vY x.t.a.a.b), none, (.fields #[(vS x.s.a.d.a 259), (vS x.s.a.d.a 260), (vS x.s.a.a.b 261), (vI 24), (vI 2), vO, vO, (vI 3), (vr 66), (.bool true), (vI 181), (vr 67), .none, (vr 68), (vr 69), (vr 70), (vI 264), (vI 24), (vS x.s.a.a.b 265)]), #[]⟩
def zoH : Obj := ⟨(vY x.t.a.c.b), none, (.func (fn (st 7) x.s.a.d.a 3 [] .none .none .none (vS x.s.a.d.g 239) none (vr 71) .none 0)), #[]⟩
def zou : Obj := ⟨(vY x.t.a.a.a), none, (.seq #[(vS x.s.a.e.c 270), (vS x.s.a.e.b 271), (vS x.s.a.e.d 272)] 0), #[]⟩
def zoQ : Obj := ⟨.none, none, (.func (fn (st 8) x.s.a.d.b 0 [] .none .none .none .none none .none .none 0)), #[]⟩
def zor : Obj := ⟨(vY x.t.a.a.b), none, (.fields #[(vS x.s.a.d.b 267), (vS x.s.a.d.b 268), (vS x.s.a.a.b 269), (vI 26), (vI 1), vO, vO, (vI 3), (vr 73), (.bool true), (vI 181), (vr 74), .none, (vr 75), (vr 76), (vr 77), (vI 273), (vI 26), (vS x.s.a.a.b 274)]), #[]⟩
def zos : Obj := ⟨(vY x.t.a.c.b), none, (.func (fn (st 8) x.s.a.d.b 3 [] .none .none .none (vS x.s.a.d.g 239) none (vr 78) .none 0)), #[]⟩
def zoz : Obj := ⟨.none, none, (.func (fn (st 9) x.s.a.d.c 0 [] .none .none .none .none none .none .none 0)), #[]⟩
def zoJ : Obj := ⟨(vY x.t.a.a.b), none, (.fields #[(vS x.s.a.d.c 276), (vS x.s.a.d.c 277), (vS x.s.a.a.b 278), (vI 31), (vI 1), vO, vO, (vI 3), (vr 80), (.bool true), (vI 181), (vr 81), .none, .none, .none, (vr 82), (vI 279), (vI 31), (vS x.s.a.a.b 280)]), #[]⟩
def zoP : Obj := ⟨(vY x.t.a.c.b), none, (.func (fn (st 9) x.s.a.d.c 3 [] .none .none .none (vS x.s.a.d.g 239) none (vr 83) .none 0)), #[]⟩
def b695 : Obj := ⟨(vY x.t.a.a.d), none, (.dict #[i34, i1, i2, i3, i4, i5, i6, i7, i8, i9, i16, i23, i24, i25, i26, i27, i28, i35, i36] 19), #[]⟩
def b696 : Obj := ⟨.none, none, (.fields #[(vI 2), vO, (vr 20), (vI 4), vO, (vr 33), (vI 6), vO, (vr 45), (vI 9), vO, (vr 57), (vI 17), vO, (vr 64), (vI 24), vO, (vr 71), (vI 26), vO, (vr 78), (vI 31), vO, (vr 83), (vI 35), vO, (vr 90), (vI 37), vO, (vr 95)]), #[]⟩
def zpO : Obj := ⟨(vY x.t.a.a.a), none, (.seq #[(vS x.s.a.e.h 287)] 0), #[]⟩
def zo2 : Obj := ⟨.none, none, (.func (fn (st 11) x.s.a.e.f 0 [] .none .none .none .none none .none .none 0)), #[]⟩
def zo4 : Obj := ⟨(vY x.t.a.a.b), none, (.fields #[(vS x.s.a.e.f 284), (vS x.s.a.e.f 285), (vS x.s.a.a.b 286), (vI 35), (vI 1), vO, vO, (vI 3), (vr 85), (.bool true), (vI 181), (vr 86), .none, (vr 87), (vr 88), (vr 89), (vI 288), (vI 35), (vS x.s.a.a.b 289)]), #[]⟩
def zpb : Obj := ⟨(vY x.t.a.c.b), none, (.func (fn (st 11) x.s.a.e.f 3 [] .none .none .none (vS x.s.a.c.e 282) none (vr 90) .none 0)), #[]⟩
def zpx : Obj := ⟨.none, none, (.func (fn (st 12) x.s.a.e.g 0 [] .none .none .none .none none .none .none 0)), #[]⟩
def zpf : Obj := ⟨(vY x.t.a.a.b), none, (.fields #[(vS x.s.a.e.g 291), (vS x.s.a.e.g 292), (vS x.s.a.a.b 293), (vI 37), (vI 2), vO, vO, (vI 3), (vr 92), (.bool true), (vI 181), (vr 93), .none, .none, .none, (vr 94), (vI 294), (vI 37), (vS x.s.a.a.b 295)]), #[]⟩
def zpE : Obj := ⟨(vY x.t.a.c.b), none, (.func (fn (st 12) x.s.a.e.g 3 [] .none .none .none (vS x.s.a.c.e 282) none (vr 95) .none 0)), #[]⟩
def b709 : Obj := ⟨(vY x.t.a.a.d), none, (.dict #[i34, i1, i2, i3, i4, i5, i6, i7, i8, i9, i16, i23, i24, i25, i26, i27, i28, i35, i36, i37] 20), #[]⟩
def b710 : Obj := ⟨.none, none, (.fields #[(vI 2), vO, (vr 20), (vI 4), vO, (vr 33), (vI 6), vO, (vr 45), (vI 9), vO, (vr 57), (vI 17), vO, (vr 64), (vI 24), vO, (vr 71), (vI 26), vO, (vr 78), (vI 31), vO, (vr 83), (vI 35), vO, (vr 90), (vI 37), vO, (vr 95), (vI 42), vO, (vr 102)]), #[]⟩
def b713 : Obj := ⟨(vY x.t.a.a.d), none, (.dict #[i38, i39, i40, i41, i42, i43, i44, i45, i46, i47, i48, i49] 12), #[]⟩
def b715 : Obj := ⟨.none, none, (.fields #[(vI 44), (vI 4), (vr 107), (vI 51), (vI 4), (vr 112), (vI 59), (vI 4), (vr 119), (vI 69), (vI 4), (vr 124), (vI 73), (vI 4), (vr 131), (vI 80), (vI 4), (vr 138), (vI 85), (vI 4), (vr 143), (vI 94), (vI 4), (vr 148)]), #[]⟩
def b716 : Obj := ⟨(vY x.t.a.a.b), none, (.fields #[(vS x.s.a.f.a 301), (vS x.s.a.f.a 302), (vS x.s.a.a.b 303), (vI 42), vO, vO, vO, vO, (vr 100), (.bool false), (vI 181), (vr 101), .none, .none, .none, .none, (vI 304), (vI 42), (vS x.s.a.a.b 305)]), #[]⟩
def b717 : Obj := ⟨(vY x.t.a.a.c), none, .plain, #[(vR 102), (vR 3), (vR 99), none, (some (vS x.s.a.e.e 297)), none, (vR 0)]⟩
def b720 : Obj := ⟨.none, none, (.func (fn (sm 14 0) x.s.a.g.b 0 [] .none .none .none .none none .none .none 0)), #[]⟩
def b721 : Obj := ⟨(vY x.t.a.a.b), none, (.fields #[(vS x.s.a.f.b 311), (vS x.s.a.g.b 312), (vS x.s.a.a.b 313), (vI 44), (vI 2), vO, vO, (vI 3), (vr 104), (.bool true), (vI 181), (vr 105), .none, .none, .none, (vr 106), (vI 314), (vI 44), (vS x.s.a.a.b 315)]), #[]⟩
def b722 : Obj := ⟨(vY x.t.a.c.b), none, (.func (fn (sm 14 0) x.s.a.g.b 3 [] .none .none .none (vS x.s.a.e.e 297) none (vr 107) .none 0)), #[]⟩
def b725 : Obj := ⟨.none, none, (.func (fn (sm 14 1) x.s.a.g.c 0 [] .none .none .none .none none .none .none 0)), #[]⟩
def b726 : Obj := ⟨(vY x.t.a.a.b), none, (.fields #[(vS x.s.a.f.c 317), (vS x.s.a.g.c 318), (vS x.s.a.a.b 319), (vI 51), (vI 1), vO, vO, (vI 3), (vr 109), (.bool true), (vI 181), (vr 110), .none, .none, .none, (vr 111), (vI 320), (vI 51), (vS x.s.a.a.b 321)]), #[]⟩
def b727 : Obj := ⟨(vY x.t.a.c.b), none, (.func (fn (sm 14 1) x.s.a.g.c 3 [] .none .none .none (vS x.s.a.e.e 297) none (vr 112) .none 0)), #[]⟩
def b730 : Obj := ⟨(vY x.t.a.a.a), none, (.seq #[(vS x.s.a.g.d 326), (vS x.s.a.g.e 327), (vS x.s.a.g.f 328), (vS x.s.a.g.g 329), (vS x.s.a.g.h 330), (vS x.s.a.h.a 331)] 0), #[]⟩
def b732 : Obj := ⟨.none, none, (.func (fn (sm 14 2) x.s.a.h.b 0 [] .none .none .none .none none .none .none 0)), #[]⟩
def b733 : Obj := ⟨(vY x.t.a.a.b), none, (.fields #[(vS x.s.a.f.d 323), (vS x.s.a.h.b 324), (vS x.s.a.a.b 325), (vI 59), (vI 2), vO, vO, (vI 3), (vr 114), (.bool true), (vI 181), (vr 115), .none, (vr 116), (vr 117), (vr 118), (vI 332), (vI 59), (vS x.s.a.a.b 333)]), #[]⟩
def b734 : Obj := ⟨(vY x.t.a.c.b), none, (.func (fn (sm 14 2) x.s.a.h.b 3 [] .none .none .none (vS x.s.a.e.e 297) none (vr 119) .none 0)), #[]⟩
def b737 : Obj := ⟨.none, none, (.func (fn (sm 14 3) x.s.a.h.c 0 [] .none .none .none .none none .none .none 0)), #[]⟩
def b738 : Obj := ⟨(vY x.t.a.a.b), none, (.fields #[(vS x.s.a.f.e 335), (vS x.s.a.h.c 336), (vS x.s.a.a.b 337), (vI 69), (vI 2), vO, vO, (vI 3), (vr 121), (.bool true), (vI 181), (vr 122), .none, .none, .none, (vr 123), (vI 338), (vI 69), (vS x.s.a.a.b 339)]), #[]⟩
def b739 : Obj := ⟨(vY x.t.a.c.b), none, (.func (fn (sm 14 3) x.s.a.h.c 3 [] .none .none .none (vS x.s.a.e.e 297) none (vr 124) .none 0)), #[]⟩
def b742 : Obj := ⟨(vY x.t.a.a.a), none, (.seq #[(vS x.s.a.g.d 344), (vS x.s.a.h.d 345), (vS x.s.a.g.f 346), (vS x.s.a.g.h 347)] 0), #[]⟩
def b744 : Obj := ⟨.none, none, (.func (fn (sm 14 4) x.s.a.h.e 0 [] .none .none .none .none none .none .none 0)), #[]⟩
def b745 : Obj := ⟨(vY x.t.a.a.b), none, (.fields #[(vS x.s.a.f.f 341), (vS x.s.a.h.e 342), (vS x.s.a.a.b 343), (vI 73), (vI 2), vO, vO, (vI 3), (vr 126), (.bool true), (vI 181), (vr 127), .none, (vr 128), (vr 129), (vr 130), (vI 348), (vI 73), (vS x.s.a.a.b 349)]), #[]⟩
def b746 : Obj := ⟨(vY x.t.a.c.b), none, (.func (fn (sm 14 4) x.s.a.h.e 3 [] .none .none .none (vS x.s.a.e.e 297) none (vr 131) .none 0)), #[]⟩
def b749 : Obj := ⟨(vY x.t.a.a.a), none, (.seq #[(vS x.s.a.g.d 354), (vS x.s.a.g.h 355), (vS x.s.a.g.f 356), (vS x.s.a.h.d 357), (vS x.s.a.h.a 358), (vS x.s.a.h.f 359)] 0), #[]⟩
def b751 : Obj := ⟨.none, none, (.func (fn (sm 14 5) x.s.a.h.g 0 [] .none .none .none .none none .none .none 0)), #[]⟩
def b752 : Obj := ⟨(vY x.t.a.a.b), none, (.fields #[(vS x.s.a.f.g 351), (vS x.s.a.h.g 352), (vS x.s.a.a.b 353), (vI 80), (vI 4), vO, vO, (vI 3), (vr 133), (.bool true), (vI 181), (vr 134), .none, (vr 135), (vr 136), (vr 137), (vI 360), (vI 80), (vS x.s.a.a.b 361)]), #[]⟩
def b753 : Obj := ⟨(vY x.t.a.c.b), none, (.func (fn (sm 14 5) x.s.a.h.g 3 [] .none .none .none (vS x.s.a.e.e 297) none (vr 138) .none 0)), #[]⟩
def b756 : Obj := ⟨.none, none, (.func (fn (sm 14 6) x.s.a.h.h 0 [] .none .none .none .none none .none .none 0)), #[]⟩
def b757 : Obj := ⟨(vY x.t.a.a.b), none, (.fields #[(vS x.s.a.f.h 363), (vS x.s.a.h.h 364), (vS x.s.a.a.b 365), (vI 85), (vI 3), vO, vO, (vI 3), (vr 140), (.bool true), (vI 181), (vr 141), .none, .none, .none, (vr 142), (vI 366), (vI 85), (vS x.s.a.a.b 367)]), #[]⟩
def b758 : Obj := ⟨(vY x.t.a.c.b), none, (.func (fn (sm 14 6) x.s.a.h.h 3 [] .none .none .none (vS x.s.a.e.e 297) none (vr 143) .none 0)), #[]⟩
def b761 : Obj := ⟨.none, none, (.func (fn (sm 14 7) x.s.b.a.a 0 [] .none .none .none .none none .none .none 0)), #[]⟩
def b762 : Obj := ⟨(vY x.t.a.a.b), none, (.fields #[(vS x.s.a.g.a 369), (vS x.s.b.a.a 370), (vS x.s.a.a.b 371), (vI 94), (vI 4), vO, vO, (vI 3), (vr 145), (.bool true), (vI 181), (vr 146), .none, .none, .none, (vr 147), (vI 372), (vI 94), (vS x.s.a.a.b 373)]), #[]⟩
def b763 : Obj := ⟨(vY x.t.a.c.b), none, (.func (fn (sm 14 7) x.s.b.a.a 3 [] .none .none .none (vS x.s.a.e.e 297) none (vr 148) .none 0)), #[]⟩
def b764 : Obj := ⟨(vY x.t.a.a.a), none, (.seq #[(vS x.s.b.a.b 375), (vS x.s.b.a.c 376), (vS x.s.b.a.d 377), (vS x.s.b.a.e 378), (vS x.s.b.a.f 379)] 0), #[]⟩
def b765 : Obj := ⟨(vY x.t.a.a.d), none, (.dict #[i38, i40, i41, i42, i43, i44, i45, i46, i47, i48, i49, i50, i51, i52] 4), #[]⟩
def b766 : Obj := ⟨(vY x.t.a.b.a), none, (.cls ⟨x.s.a.f.a, [(vY x.t.a.b.d)], [(vr 152), (vY x.t.a.b.d)], 151, x.s.a.f.a, true, [], [], false, none, false⟩), #[none, none, (some (vS x.s.a.f.a 299)), (some (vS x.s.a.f.a 307)), (some (vB x.t.a.c.c)), (some (.bool true))]⟩
def b767 : Obj := ⟨(vY x.t.a.b.f), none, (.fields #[(vS x.s.b.a.g 381), (vr 152), (vB x.t.a.c.d), (vB x.t.a.c.e)]), #[]⟩
def b768 : Obj := ⟨(vY x.t.a.b.f), none, (.fields #[(vS x.s.a.c.c 383), (vr 152), (vB x.t.a.b.g), .none]), #[]⟩
def b769 : Obj := ⟨(vY x.t.a.b.h), none, (.fields #[(vr 152), (vr 152), (vr 152)]), #[]⟩
def b770 : Obj := ⟨(vY x.t.a.a.g), none, (.fields #[(vB x.t.a.c.a), (vr 152)]), #[]⟩
def b771 : Obj := ⟨(vY x.t.a.a.d), none, (.dict #[i53, i1, i2, i3, i4, i5, i6, i7, i8, i9, i16, i23, i24, i25, i26, i27, i28, i35, i36, i37, i54, i55, i56, i57, i58, i59, i60, i61, i62, i63, i64, i65, i66, i67] 34), #[]⟩
def b772 : Obj := ⟨.none, none, (.fields #[(vI 2), vO, (vr 20), (vI 4), vO, (vr 33), (vI 6), vO, (vr 45), (vI 9), vO, (vr 57), (vI 17), vO, (vr 64), (vI 24), vO, (vr 71), (vI 26), vO, (vr 78), (vI 31), vO, (vr 83), (vI 35), vO, (vr 90), (vI 37), vO, (vr 95), (vI 42), vO, (vr 102), (vI 104), vO, (vr 160), (vI 107), vO, (vr 165), (vI 113), vO, (vr 170), (vI 119), vO, (vr 175), (vI 131), vO, (vr 180), (vI 133), vO, (vr 185), (vI 137), vO, (vr 192), (vI 140), vO, (vr 197), (vI 142), vO, (vr 202), (vI 145), vO, (vr 209), (vI 151), vO, (vr 216), (vI 157), vO, (vr 223), (vI 170), vO, (vr 230)]), #[]⟩
def b775 : Obj := ⟨.none, none, (.func (fn (st 15) x.s.b.b.a 0 [] .none .none .none .none none .none .none 0)), #[]⟩
def b776 : Obj := ⟨(vY x.t.a.a.b), none, (.fields #[(vS x.s.b.b.a 388), (vS x.s.b.b.a 389), (vS x.s.a.a.b 390), (vI 104), (vI 2), vO, vO, (vI 3), (vr 157), (.bool true), (vI 181), (vr 158), .none, .none, .none, (vr 159), (vI 391), (vI 104), (vS x.s.a.a.b 392)]), #[]⟩
def b777 : Obj := ⟨(vY x.t.a.c.b), none, (.func (fn (st 15) x.s.b.b.a 3 [] .none .none .none (vS x.s.a.e.e 297) none (vr 160) .none 0)), #[]⟩
def b780 : Obj := ⟨.none, none, (.func (fn (st 16) x.s.b.b.b 0 [] .none .none .none .none none .none .none 0)), #[]⟩
def b781 : Obj := ⟨(vY x.t.a.a.b), none, (.fields #[(vS x.s.b.b.b 394), (vS x.s.b.b.b 395), (vS x.s.a.a.b 396), (vI 107), (vI 2), vO, vO, (vI 3), (vr 162), (.bool true), (vI 181), (vr 163), .none, .none, .none, (vr 164), (vI 397), (vI 107), (vS x.s.a.a.b 398)]), #[]⟩
def b782 : Obj := ⟨(vY x.t.a.c.b), none, (.func (fn (st 16) x.s.b.b.b 3 [] .none .none .none (vS x.s.a.e.e 297) none (vr 165) .none 0)), #[]⟩
def b785 : Obj := ⟨.none, none, (.func (fn (st 17) x.s.b.b.c 0 [] .none .none .none .none none .none .none 0)), #[]⟩
def b786 : Obj := ⟨(vY x.t.a.a.b), none, (.fields #[(vS x.s.b.b.c 400), (vS x.s.b.b.c 401), (vS x.s.a.a.b 402), (vI 113), (vI 3), vO, vO, (vI 3), (vr 167), (.bool true), (vI 181), (vr 168), .none, .none, .none, (vr 169), (vI 403), (vI 113), (vS x.s.a.a.b 404)]), #[]⟩
def b787 : Obj := ⟨(vY x.t.a.c.b), none, (.func (fn (st 17) x.s.b.b.c 3 [] .none .none .none (vS x.s.a.e.e 297) none (vr 170) .none 0)), #[]⟩
def b790 : Obj := ⟨.none, none, (.func (fn (st 18) x.s.b.b.d 0 [] .none .none .none .none none .none .none 0)), #[]⟩
def b791 : Obj := ⟨(vY x.t.a.a.b), none, (.fields #[(vS x.s.b.b.d 406), (vS x.s.b.b.d 407), (vS x.s.a.a.b 408), (vI 119), (vI 1), vO, vO, (vI 3), (vr 172), (.bool true), (vI 181), (vr 173), .none, .none, .none, (vr 174), (vI 409), (vI 119), (vS x.s.a.a.b 410)]), #[]⟩
def b792 : Obj := ⟨(vY x.t.a.c.b), none, (.func (fn (st 18) x.s.b.b.d 3 [] .none .none .none (vS x.s.a.e.e 297) none (vr 175) .none 0)), #[]⟩
def b795 : Obj := ⟨.none, none, (.func (fn (st 21) x.s.b.b.f 0 [] .none .none .none .none none .none .none 0)), #[]⟩
def b796 : Obj := ⟨(vY x.t.a.a.b), none, (.fields #[(vS x.s.b.b.f 416), (vS x.s.b.b.f 417), (vS x.s.a.a.b 418), (vI 131), (vI 1), vO, vO, (vI 3), (vr 177), (.bool true), (vI 181), (vr 178), .none, .none, .none, (vr 179), (vI 419), (vI 131), (vS x.s.a.a.b 420)]), #[]⟩
def b797 : Obj := ⟨(vY x.t.a.c.b), none, (.func (fn (st 21) x.s.b.b.f 3 [] .none .none .none (vS x.s.b.c.g 412) none (vr 180) .none 0)), #[]⟩
def b800 : Obj := ⟨.none, none, (.func (fn (st 22) x.s.b.b.g 0 [] .none .none .none .none none .none .none 0)), #[]⟩
def b801 : Obj := ⟨(vY x.t.a.a.b), none, (.fields #[(vS x.s.b.b.g 422), (vS x.s.b.b.g 423), (vS x.s.a.a.b 424), (vI 133), (vI 1), vO, vO, (vI 3), (vr 182), (.bool true), (vI 181), (vr 183), .none, .none, .none, (vr 184), (vI 425), (vI 133), (vS x.s.a.a.b 426)]), #[]⟩
def b802 : Obj := ⟨(vY x.t.a.c.b), none, (.func (fn (st 22) x.s.b.b.g 3 [] .none .none .none (vS x.s.b.c.g 412) none (vr 185) .none 0)), #[]⟩
def b805 : Obj := ⟨(vY x.t.a.a.a), none, (.seq #[(vS x.s.b.c.h 431)] 0), #[]⟩
def b807 : Obj := ⟨.none, none, (.func (fn (st 23) x.s.b.b.h 0 [] .none .none .none .none none .none .none 0)), #[]⟩
def b808 : Obj := ⟨(vY x.t.a.a.b), none, (.fields #[(vS x.s.b.b.h 428), (vS x.s.b.b.h 429), (vS x.s.a.a.b 430), (vI 137), (vI 1), vO, vO, (vI 3), (vr 187), (.bool true), (vI 181), (vr 188), .none, (vr 189), (vr 190), (vr 191), (vI 432), (vI 137), (vS x.s.a.a.b 433)]), #[]⟩
def b809 : Obj := ⟨(vY x.t.a.c.b), none, (.func (fn (st 23) x.s.b.b.h 3 [] .none .none .none (vS x.s.b.c.g 412) none (vr 192) .none 0)), #[]⟩
def b812 : Obj := ⟨.none, none, (.func (fn (st 24) x.s.b.c.a 0 [] .none .none .none .none none .none .none 0)), #[]⟩
def b813 : Obj := ⟨(vY x.t.a.a.b), none, (.fields #[(vS x.s.b.c.a 435), (vS x.s.b.c.a 436), (vS x.s.a.a.b 437), (vI 140), (vI 2), vO, vO, (vI 3), (vr 194), (.bool true), (vI 181), (vr 195), .none, .none, .none, (vr 196), (vI 438), (vI 140), (vS x.s.a.a.b 439)]), #[]⟩
def b814 : Obj := ⟨(vY x.t.a.c.b), none, (.func (fn (st 24) x.s.b.c.a 3 [] .none .none .none (vS x.s.b.c.g 412) none (vr 197) .none 0)), #[]⟩
def b817 : Obj := ⟨.none, none, (.func (fn (st 25) x.s.b.c.b 0 [] .none .none .none .none none .none .none 0)), #[]⟩
def b818 : Obj := ⟨(vY x.t.a.a.b), none, (.fields #[(vS x.s.b.c.b 441), (vS x.s.b.c.b 442), (vS x.s.a.a.b 443), (vI 142), (vI 2), vO, vO, (vI 3), (vr 199), (.bool true), (vI 181), (vr 200), .none, .none, .none, (vr 201), (vI 444), (vI 142), (vS x.s.a.a.b 445)]), #[]⟩
def b819 : Obj := ⟨(vY x.t.a.c.b), none, (.func (fn (st 25) x.s.b.c.b 3 [] .none .none .none (vS x.s.b.c.g 412) none (vr 202) .none 0)), #[]⟩
def b822 : Obj := ⟨(vY x.t.a.a.a), none, (.seq #[(vS x.s.b.c.h 450), (vS x.s.b.d.a 451), (vS x.s.b.d.b 452), (vS x.s.b.d.c 453), (vS x.s.b.d.d 454), (vS x.s.b.d.e 455)] 0), #[]⟩
def b824 : Obj := ⟨.none, none, (.func (fn (st 26) x.s.b.c.c 0 [] .none .none .none .none none .none .none 0)), #[]⟩
def b825 : Obj := ⟨(vY x.t.a.a.b), none, (.fields #[(vS x.s.b.c.c 447), (vS x.s.b.c.c 448), (vS x.s.a.a.b 449), (vI 145), (vI 3), vO, vO, (vI 3), (vr 204), (.bool true), (vI 181), (vr 205), .none, (vr 206), (vr 207), (vr 208), (vI 456), (vI 145), (vS x.s.a.a.b 457)]), #[]⟩
def b826 : Obj := ⟨(vY x.t.a.c.b), none, (.func (fn (st 26) x.s.b.c.c 3 [] .none .none .none (vS x.s.b.c.g 412) none (vr 209) .none 0)), #[]⟩
def b829 : Obj := ⟨(vY x.t.a.a.a), none, (.seq #[(vS x.s.b.c.h 462), (vS x.s.b.d.a 463), (vS x.s.a.g.e 464), (vS x.s.b.d.c 465), (vS x.s.b.d.f 466), (vS x.s.b.d.e 467)] 0), #[]⟩
def b831 : Obj := ⟨.none, none, (.func (fn (st 27) x.s.b.c.d 0 [] .none .none .none .none none .none .none 0)), #[]⟩
def b832 : Obj := ⟨(vY x.t.a.a.b), none, (.fields #[(vS x.s.b.c.d 459), (vS x.s.b.c.d 460), (vS x.s.a.a.b 461), (vI 151), (vI 3), vO, vO, (vI 3), (vr 211), (.bool true), (vI 181), (vr 212), .none, (vr 213), (vr 214), (vr 215), (vI 468), (vI 151), (vS x.s.a.a.b 469)]), #[]⟩
def b833 : Obj := ⟨(vY x.t.a.c.b), none, (.func (fn (st 27) x.s.b.c.d 3 [] .none .none .none (vS x.s.b.c.g 412) none (vr 216) .none 0)), #[]⟩
def b836 : Obj := ⟨(vY x.t.a.a.a), none, (.seq #[(vS x.s.b.c.h 474), (vS x.s.b.d.a 475), (vS x.s.b.d.b 476), (vS x.s.a.g.e 477), (vS x.s.b.d.d 478), (vS x.s.b.d.f 479)] 0), #[]⟩
def b838 : Obj := ⟨.none, none, (.func (fn (st 28) x.s.b.c.e 0 [] .none .none .none .none none .none .none 0)), #[]⟩
def b839 : Obj := ⟨(vY x.t.a.a.b), none, (.fields #[(vS x.s.b.c.e 471), (vS x.s.b.c.e 472), (vS x.s.a.a.b 473), (vI 157), (vI 4), vO, vO, (vI 3), (vr 218), (.bool true), (vI 181), (vr 219), .none, (vr 220), (vr 221), (vr 222), (vI 480), (vI 157), (vS x.s.a.a.b 481)]), #[]⟩
def b840 : Obj := ⟨(vY x.t.a.c.b), none, (.func (fn (st 28) x.s.b.c.e 3 [] .none .none .none (vS x.s.b.c.g 412) none (vr 223) .none 0)), #[]⟩
def b843 : Obj := ⟨(vY x.t.a.a.a), none, (.seq #[(vS x.s.b.c.h 486)] 0), #[]⟩
def b845 : Obj := ⟨.none, none, (.func (fn (st 29) x.s.b.c.f 0 [] .none .none .none .none none .none .none 0)), #[]⟩
def b846 : Obj := ⟨(vY x.t.a.a.b), none, (.fields #[(vS x.s.b.c.f 483), (vS x.s.b.c.f 484), (vS x.s.a.a.b 485), (vI 170), (vI 1), vO, vO, (vI 3), (vr 225), (.bool true), (vI 181), (vr 226), .none, (vr 227), (vr 228), (vr 229), (vI 487), (vI 170), (vS x.s.a.a.b 488)]), #[]⟩
def b847 : Obj := ⟨(vY x.t.a.c.b), none, (.func (fn (st 29) x.s.b.c.f 3 [] .none .none .none (vS x.s.b.c.g 412) none (vr 230) .none 0)), #[]⟩
def b848 : Obj := ⟨(vY x.t.a.a.d), none, (.dict #[i53, i1, i2, i3, i4, i5, i6, i7, i8, i9, i16, i23, i24, i25, i26, i27, i28, i35, i36, i37, i54, i55, i56, i57, i58, i59, i60, i61, i62, i63, i64, i65, i66, i67, i68, i69, i70, i71, i72, i73, i74, i75, i76, i77, i78] 45), #[]⟩
def b849 : Obj := ⟨.none, none, (.fields #[(vI 2), vO, (vr 20), (vI 4), vO, (vr 33), (vI 6), vO, (vr 45), (vI 9), vO, (vr 57), (vI 17), vO, (vr 64), (vI 24), vO, (vr 71), (vI 26), vO, (vr 78), (vI 31), vO, (vr 83), (vI 35), vO, (vr 90), (vI 37), vO, (vr 95), (vI 42), vO, (vr 102), (vI 104), vO, (vr 160), (vI 107), vO, (vr 165), (vI 113), vO, (vr 170), (vI 119), vO, (vr 175), (vI 131), vO, (vr 180), (vI 133), vO, (vr 185), (vI 137), vO, (vr 192), (vI 140), vO, (vr 197), (vI 142), vO, (vr 202), (vI 145), vO, (vr 209), (vI 151), vO, (vr 216), (vI 157), vO, (vr 223), (vI 170), vO, (vr 230), (vI 174), vO, (vr 237), (vI 177), vO, (vr 244), (vI 181), vO, (vr 251), (vI 186), vO, (vr 258), (vI 194), vO, (vr 263), (vI 203), vO, (vr 268), (vI 205), vO, (vr 275), (vI 207), vO, (vr 280), (vI 211), vO, (vr 287), (vI 218), vO, (vr 292), (vI 230), vO, (vr 299)]), #[]⟩
def b852 : Obj := ⟨(vY x.t.a.a.a), none, (.seq #[(vS x.s.b.f.b 495), (vS x.s.b.f.c 496), (vS x.s.b.f.d 497)] 0), #[]⟩
def b854 : Obj := ⟨.none, none, (.func (fn (st 31) x.s.b.d.g 0 [] .none .none .none .none none .none .none 0)), #[]⟩
def b855 : Obj := ⟨(vY x.t.a.a.b), none, (.fields #[(vS x.s.b.d.g 492), (vS x.s.b.d.g 493), (vS x.s.a.a.b 494), (vI 174), (vI 2), vO, vO, (vI 3), (vr 232), (.bool true), (vI 181), (vr 233), .none, (vr 234), (vr 235), (vr 236), (vI 498), (vI 174), (vS x.s.a.a.b 499)]), #[]⟩
def b856 : Obj := ⟨(vY x.t.a.c.b), none, (.func (fn (st 31) x.s.b.d.g 3 [] .none .none .none (vS x.s.b.a.h 490) none (vr 237) .none 0)), #[]⟩
def b859 : Obj := ⟨(vY x.t.a.a.a), none, (.seq #[(vS x.s.b.f.e 504), (vS x.s.b.f.c 505)] 0), #[]⟩
def b861 : Obj := ⟨.none, none, (.func (fn (st 32) x.s.b.d.h 0 [] .none .none .none .none none .none .none 0)), #[]⟩
def b862 : Obj := ⟨(vY x.t.a.a.b), none, (.fields #[(vS x.s.b.d.h 501), (vS x.s.b.d.h 502), (vS x.s.a.a.b 503), (vI 177), (vI 2), vO, vO, (vI 3), (vr 239), (.bool true), (vI 181), (vr 240), .none, (vr 241), (vr 242), (vr 243), (vI 506), (vI 177), (vS x.s.a.a.b 507)]), #[]⟩
def b863 : Obj := ⟨(vY x.t.a.c.b), none, (.func (fn (st 32) x.s.b.d.h 3 [] .none .none .none (vS x.s.b.a.h 490) none (vr 244) .none 0)), #[]⟩
def b866 : Obj := ⟨(vY x.t.a.a.a), none, (.seq #[(vS x.s.b.f.e 512), (vS x.s.b.f.c 513), (vS x.s.b.f.f 514)] 0), #[]⟩
def b868 : Obj := ⟨.none, none, (.func (fn (st 33) x.s.b.e.a 0 [] .none .none .none .none none .none .none 0)), #[]⟩
def b869 : Obj := ⟨(vY x.t.a.a.b), none, (.fields #[(vS x.s.b.e.a 509), (vS x.s.b.e.a 510), (vS x.s.a.a.b 511), (vI 181), (vI 2), vO, vO, (vI 3), (vr 246), (.bool true), (vI 181), (vr 247), .none, (vr 248), (vr 249), (vr 250), (vI 515), (vI 181), (vS x.s.a.a.b 516)]), #[]⟩
def b870 : Obj := ⟨(vY x.t.a.c.b), none, (.func (fn (st 33) x.s.b.e.a 3 [] .none .none .none (vS x.s.b.a.h 490) none (vr 251) .none 0)), #[]⟩
def b873 : Obj := ⟨(vY x.t.a.a.a), none, (.seq #[(vS x.s.b.f.g 521), (vS x.s.b.f.h 522), (vS x.s.b.f.d 523), (vS x.s.b.g.a 524)] 0), #[]⟩
def b875 : Obj := ⟨.none, none, (.func (fn (st 34) x.s.b.e.b 0 [] .none .none .none .none none .none .none 0)), #[]⟩
def b876 : Obj := ⟨(vY x.t.a.a.b), none, (.fields #[(vS x.s.b.e.b 518), (vS x.s.b.e.b 519), (vS x.s.a.a.b 520), (vI 186), (vI 2), vO, vO, (vI 3), (vr 253), (.bool true), (vI 181), (vr 254), .none, (vr 255), (vr 256), (vr 257), (vI 525), (vI 186), (vS x.s.a.a.b 526)]), #[]⟩
def b877 : Obj := ⟨(vY x.t.a.c.b), none, (.func (fn (st 34) x.s.b.e.b 3 [] .none .none .none (vS x.s.b.a.h 490) none (vr 258) .none 0)), #[]⟩
def b880 : Obj := ⟨.none, none, (.func (fn (st 35) x.s.b.e.c 0 [] .none .none .none .none none .none .none 0)), #[]⟩
def b881 : Obj := ⟨(vY x.t.a.a.b), none, (.fields #[(vS x.s.b.e.c 528), (vS x.s.b.e.c 529), (vS x.s.a.a.b 530), (vI 194), (vI 1), vO, vO, (vI 3), (vr 260), (.bool true), (vI 181), (vr 261), .none, .none, .none, (vr 262), (vI 531), (vI 194), (vS x.s.a.a.b 532)]), #[]⟩
def b882 : Obj := ⟨(vY x.t.a.c.b), none, (.func (fn (st 35) x.s.b.e.c 3 [] .none .none .none (vS x.s.b.a.h 490) none (vr 263) .none 0)), #[]⟩
def b885 : Obj := ⟨.none, none, (.func (fn (st 36) x.s.b.e.d 0 [] .none .none .none .none none .none .none 0)), #[]⟩
def b886 : Obj := ⟨(vY x.t.a.a.b), none, (.fields #[(vS x.s.b.e.d 534), (vS x.s.b.e.d 535), (vS x.s.a.a.b 536), (vI 203), (vI 1), vO, vO, (vI 3), (vr 265), (.bool true), (vI 181), (vr 266), .none, .none, .none, (vr 267), (vI 537), (vI 203), (vS x.s.a.a.b 538)]), #[]⟩
def b887 : Obj := ⟨(vY x.t.a.c.b), none, (.func (fn (st 36) x.s.b.e.d 3 [] .none .none .none (vS x.s.b.a.h 490) none (vr 268) .none 0)), #[]⟩
def b890 : Obj := ⟨(vY x.t.a.a.a), none, (.seq #[(vS x.s.b.g.b 543)] 0), #[]⟩
def b892 : Obj := ⟨.none, none, (.func (fn (st 37) x.s.b.e.e 0 [] .none .none .none .none none .none .none 0)), #[]⟩
def b893 : Obj := ⟨(vY x.t.a.a.b), none, (.fields #[(vS x.s.b.e.e 540), (vS x.s.b.e.e 541), (vS x.s.a.a.b 542), (vI 205), (vI 1), vO, vO, (vI 3), (vr 270), (.bool true), (vI 181), (vr 271), .none, (vr 272), (vr 273), (vr 274), (vI 544), (vI 205), (vS x.s.a.a.b 545)]), #[]⟩
def b894 : Obj := ⟨(vY x.t.a.c.b), none, (.func (fn (st 37) x.s.b.e.e 3 [] .none .none .none (vS x.s.b.a.h 490) none (vr 275) .none 0)), #[]⟩
def b897 : Obj := ⟨.none, none, (.func (fn (st 38) x.s.b.e.f 0 [] .none .none .none .none none .none .none 0)), #[]⟩
def b898 : Obj := ⟨(vY x.t.a.a.b), none, (.fields #[(vS x.s.b.e.f 547), (vS x.s.b.e.f 548), (vS x.s.a.a.b 549), (vI 207), (vI 2), vO, vO, (vI 3), (vr 277), (.bool true), (vI 181), (vr 278), .none, .none, .none, (vr 279), (vI 550), (vI 207), (vS x.s.a.a.b 551)]), #[]⟩
def b899 : Obj := ⟨(vY x.t.a.c.b), none, (.func (fn (st 38) x.s.b.e.f 3 [] .none .none .none (vS x.s.b.a.h 490) none (vr 280) .none 0)), #[]⟩
def b902 : Obj := ⟨(vY x.t.a.a.a), none, (.seq #[(vS x.s.b.g.b 556), (vS x.s.b.g.c 557), (vS x.s.b.g.d 558)] 0), #[]⟩
def b904 : Obj := ⟨.none, none, (.func (fn (st 39) x.s.b.e.g 0 [] .none .none .none .none none .none .none 0)), #[]⟩
def b905 : Obj := ⟨(vY x.t.a.a.b), none, (.fields #[(vS x.s.b.e.g 553), (vS x.s.b.e.g 554), (vS x.s.a.a.b 555), (vI 211), (vI 1), vO, vO, (vI 3), (vr 282), (.bool true), (vI 181), (vr 283), .none, (vr 284), (vr 285), (vr 286), (vI 559), (vI 211), (vS x.s.a.a.b 560)]), #[]⟩
def b906 : Obj := ⟨(vY x.t.a.c.b), none, (.func (fn (st 39) x.s.b.e.g 3 [] .none .none .none (vS x.s.b.a.h 490) none (vr 287) .none 0)), #[]⟩
def b909 : Obj := ⟨.none, none, (.func (fn (st 40) x.s.b.e.h 0 [] .none .none .none .none none .none .none 0)), #[]⟩
def b910 : Obj := ⟨(vY x.t.a.a.b), none, (.fields #[(vS x.s.b.e.h 562), (vS x.s.b.e.h 563), (vS x.s.a.a.b 564), (vI 218), (vI 4), vO, vO, (vI 3), (vr 289), (.bool true), (vI 181), (vr 290), .none, .none, .none, (vr 291), (vI 565), (vI 218), (vS x.s.a.a.b 566)]), #[]⟩
def b911 : Obj := ⟨(vY x.t.a.c.b), none, (.func (fn (st 40) x.s.b.e.h 3 [] .none .none .none (vS x.s.b.a.h 490) none (vr 292) .none 0)), #[]⟩
def b914 : Obj := ⟨(vY x.t.a.a.a), none, (.seq #[(vS x.s.b.f.e 571), (vS x.s.b.g.e 572), (vS x.s.b.f.f 573), (vS x.s.b.g.f 574), (vS x.s.b.g.g 575), (vS x.s.b.g.h 576), (vS x.s.b.h.a 577), (vS x.s.b.h.b 578)] 0), #[]⟩
def b916 : Obj := ⟨.none, none, (.func (fn (st 41) x.s.b.f.a 0 [] .none .none .none .none none .none .none 0)), #[]⟩
def b917 : Obj := ⟨(vY x.t.a.a.b), none, (.fields #[(vS x.s.b.f.a 568), (vS x.s.b.f.a 569), (vS x.s.a.a.b 570), (vI 230), (vI 1), vO, vO, (vI 3), (vr 294), (.bool true), (vI 181), (vr 295), .none, (vr 296), (vr 297), (vr 298), (vI 579), (vI 230), (vS x.s.a.a.b 580)]), #[]⟩
def b918 : Obj := ⟨(vY x.t.a.c.b), none, (.func (fn (st 41) x.s.b.f.a 3 [] .none .none .none (vS x.s.b.a.h 490) none (vr 299) .none 0)), #[]⟩
def m614 : Heap := ⟨⟨[x.r.a.a.a, x.r.a.a.b, x.r.a.a.c, x.r.a.a.d, x.r.a.a.e, x.r.a.a.f, x.r.a.a.g, x.r.a.a.h, x.r.a.b.a, x.r.a.b.b, x.r.a.b.c, zaq, zaL, zlI, zlH]⟩, ⟨[], [], [], 0, [], [], false, #[], [], 0, false, false, false, 0, [2000, 10, 10], false, 0, true, [], [], 0, false⟩⟩
def m615 : W.BT := (N x.r.a.a.a (N x.r.a.a.b (N x.r.a.a.d (L x.r.a.a.h) (L zaq)) (N x.r.a.a.f (L x.r.a.b.b) (L zlI))) (N x.r.a.a.c (N x.r.a.a.e (L x.r.a.b.a) (L zaL)) (N x.r.a.a.g (L x.r.a.b.c) (L zlH))))
def m631 : W.BT := (N x.r.a.a.a (N x.r.a.a.b (N b617 (N x.r.a.a.h (L zm6) (L znc)) (N zaq (L zaL) (L zna))) (N x.r.a.a.f (N x.r.a.b.b (L zm0) (L znl)) (N zlI (L zmV) z))) (N x.r.a.a.c (N x.r.a.a.e (N x.r.a.b.a (L zf5) (L b628)) (N b618 (L znb) z)) (N x.r.a.a.g (N x.r.a.b.c (L zaq) (L zne)) (N zlH (L zaq) z))))
def m646 : W.BT := (N x.r.a.a.a (N x.r.a.a.b (N b632 (N x.r.a.a.h (N zm6 (L zaq) z) (N znc (L znU) z)) (N zaq (N zaL (L zaq) z) (L zna))) (N x.r.a.a.f (N x.r.a.b.b (N zm0 (L znO) z) (L znl)) (N zlI (N zmV (L zn0) z) (L zf5)))) (N x.r.a.a.c (N x.r.a.a.e (N x.r.a.b.a (N zf5 (L zaL) z) (L b634)) (N b633 (N znb (L znI) z) (L zj1))) (N x.r.a.a.g (N x.r.a.b.c (N zaq (L znn) z) (L zne)) (N zlH (N zaq (L zn4) z) (L znm)))))
def m694 : W.BT := (N x.r.a.a.a (N x.r.a.a.b (N b647 (N x.r.a.a.h (N zm6 (N zaq (L zoL) z) (N zaq (L zos) z)) (N znc (N znU (L zoS) z) (L zaq))) (N zaq (N zaL (N zaq (L zaL) z) (N zoy (L zoJ) z)) (N zna (N zaq (L zou) z) (L zaq)))) (N x.r.a.a.f (N x.r.a.b.b (N zm0 (N znO (L zoD) z) (N zoC (L zaL) z)) (N znl (N zf5 (L zaq) z) (L zov))) (N zlI (N zmV (N zn0 (L zaq) z) (L zaL)) (N zf5 (N zoM (L zoQ) z) (L zoN))))) (N x.r.a.a.c (N x.r.a.a.e (N x.r.a.b.a (N zf5 (N zaL (L zoA) z) (N zow (L zaq) z)) (N zoE (N zj1 (L zoH) z) (L zoF))) (N b648 (N znb (N znI (L zox) z) (N zaq (L zoP) z)) (N zj1 (N zaL (L zaq) z) (L zaL)))) (N x.r.a.a.g (N x.r.a.b.c (N zaq (N znn (L zaq) z) (N zoG (L zoz) z)) (N zne (N zoR (L zaL) z) (L zoK))) (N zlH (N zaq (N zn4 (L zoB) z) (L zot)) (N znm (N zoO (L zor) z) (L zaq))))))
def m708 : W.BT := (N x.r.a.a.a (N x.r.a.a.b (N b695 (N x.r.a.a.h (N zm6 (N zaq (L zoL) (L zpf)) (N zaq (L zos) z)) (N znc (N znU (L zoS) z) (N zaq (L zpO) z))) (N zaq (N zaL (N zaq (L zaL) z) (N zoy (L zoJ) z)) (N zna (N zaq (L zou) z) (N zaq (L zpb) z)))) (N x.r.a.a.f (N x.r.a.b.b (N zm0 (N znO (L zoD) z) (N zoC (L zaL) z)) (N znl (N zf5 (L zaq) z) (N zov (L zo2) z))) (N zlI (N zmV (N zn0 (L zaq) z) (N zaL (L zaq) z)) (N zf5 (N zoM (L zoQ) z) (N zoN (L zaL) z))))) (N x.r.a.a.c (N x.r.a.a.e (N x.r.a.b.a (N zf5 (N zaL (L zoA) (L zpE)) (N zow (L zaq) z)) (N zoE (N zj1 (L zoH) z) (N zoF (L zaq) z))) (N b696 (N znb (N znI (L zox) z) (N zaq (L zoP) z)) (N zj1 (N zaL (L zaq) z) (N zaL (L zaq) z)))) (N x.r.a.a.g (N x.r.a.b.c (N zaq (N znn (L zaq) z) (N zoG (L zoz) z)) (N zne (N zoR (L zaL) z) (N zoK (L zo4) z))) (N zlH (N zaq (N zn4 (L zoB) z) (N zot (L zaL) z)) (N znm (N zoO (L zor) z) (N zaq (L zpx) z))))))
def m770 : W.BT := (N x.r.a.a.a (N x.r.a.a.b (N b709 (N x.r.a.a.h (N zm6 (N zaq (N zoL (L zaL) z) (L zpf)) (N zaq (N zos (L b757) z) (L b725))) (N znc (N znU (N zoS (L b749) z) (L b717)) (N zaq (N zpO (L b765) z) (L b733)))) (N zaq (N zaL (N zaq (N zaL (L b745) z) (L b713)) (N zoy (N zoJ (L b761) z) (L zaL))) (N zna (N zaq (N zou (L b753) z) (L b721)) (N zaq (N zpb (L b769) z) (L b737))))) (N x.r.a.a.f (N x.r.a.b.b (N zm0 (N znO (N zoD (L zaq) z) (L zaq)) (N zoC (N zaL (L zaq) z) (L b727))) (N znl (N zf5 (N zaq (L b751) z) (L zaL)) (N zov (N zo2 (L b767) z) (L zaq)))) (N zlI (N zmV (N zn0 (N zaq (L zaq) z) (L b715)) (N zaL (N zaq (L b763) z) (L zaq))) (N zf5 (N zoM (N zoQ (L zaL) z) (L zaq)) (N zoN (L zaL) (L b739)))))) (N x.r.a.a.c (N x.r.a.a.e (N x.r.a.b.a (N zf5 (N zaL (N zoA (L b742) z) (L zpE)) (N zow (N zaq (L b758) z) (L b726))) (N zoE (N zj1 (N zoH (L zaq) z) (L zaq)) (N zoF (N zaq (L b766) z) (L b734)))) (N b710 (N znb (N znI (N zox (L b746) z) (L zaq)) (N zaq (N zoP (L b762) z) (L b730))) (N zj1 (N zaL (N zaq (L zaq) z) (L b722)) (N zaL (N zaq (L b770) z) (L b738))))) (N x.r.a.a.g (N x.r.a.b.c (N zaq (N znn (N zaq (L b744) z) (L zf5)) (N zoG (N zoz (L zaL) z) (L zaq))) (N zne (N zoR (N zaL (L b752) z) (L b720)) (N zoK (N zo4 (L b768) z) (L zaL)))) (N zlH (N zaq (N zn4 (N zoB (L zaL) z) (L b716)) (N zot (N zaL (L b764) z) (L b732))) (N znm (N zoO (N zor (L b756) z) (L zaL)) (N zaq (L zpx) (L zaq)))))))
def m847 : W.BT := (N x.r.a.a.a (N x.r.a.a.b (N b771 (N x.r.a.a.h (N zm6 (N zaq (N zoL (L zaL) (L b807)) (N zpf (L b775) (L b839))) (N zaq (N zos (L b757) (L zaq)) (N b725 (L b791) z))) (N znc (N znU (N zoS (L b749) (L zaq)) (N b717 (L zaq) (L b847))) (N zaq (N zpO (L b765) (L b831)) (N b733 (L zaL) z)))) (N zaq (N zaL (N zaq (N zaL (L b745) (L zaL)) (N b713 (L zaL) (L b843))) (N zoy (N zoJ (L b761) (L zaq)) (N zaL (L b795) z))) (N zna (N zaq (N zou (L b753) (L b819)) (N b721 (L b787) z)) (N zaq (N zpb (L b769) (L zaL)) (N b737 (L zaq) z))))) (N x.r.a.a.f (N x.r.a.b.b (N zm0 (N znO (N zoD (L zaq) (L b809)) (N zaq (L b777) (L zaq))) (N zoC (N zaL (L zaq) (L b825)) (N b727 (L zaq) z))) (N znl (N zf5 (N zaq (L b751) (L b817)) (N zaL (L b785) z)) (N zov (N zo2 (L b767) (L b833)) (N zaq (L b801) z)))) (N zlI (N zmV (N zn0 (N zaq (L zaq) (L b813)) (N b715 (L b781) (L b845))) (N zaL (N zaq (L b763) (L b829)) (N zaq (L b797) z))) (N zf5 (N zoM (N zoQ (L zaL) (L zaL)) (N zaq (L zaL) z)) (N zoN (N zaL (L zaq) (L zaq)) (N b739 (L b805) z)))))) (N x.r.a.a.c (N x.r.a.a.e (N x.r.a.b.a (N zf5 (N zaL (N zoA (L b742) (L b808)) (N zpE (L b776) (L b840))) (N zow (N zaq (L b758) (L b824)) (N b726 (L b792) z))) (N zoE (N zj1 (N zoH (L zaq) (L zaL)) (N zaq (L zaL) z)) (N zoF (N zaq (L b766) (L b832)) (N b734 (L b800) z)))) (N b772 (N znb (N znI (N zox (L b746) (L b812)) (N zaq (L b780) (L zaq))) (N zaq (N zoP (L b762) (L zaL)) (N b730 (L b796) z))) (N zj1 (N zaL (N zaq (L zaq) (L zaq)) (N b722 (L zaq) z)) (N zaL (N zaq (L b770) (L b836)) (N b738 (L zaL) z))))) (N x.r.a.a.g (N x.r.a.b.c (N zaq (N znn (N zaq (L b744) (L zaq)) (N zf5 (L zaq) (L zaL))) (N zoG (N zoz (L zaL) (L b826)) (N zaq (L zaL) z))) (N zne (N zoR (N zaL (L b752) (L b818)) (N b720 (L b786) z)) (N zoK (N zo4 (L b768) (L zaq)) (N zaL (L b802) z)))) (N zlH (N zaq (N zn4 (N zoB (L zaL) (L b814)) (N b716 (L b782) (L b846))) (N zot (N zaL (L b764) (L zaq)) (N b732 (L zaq) z))) (N znm (N zoO (N zor (L b756) (L b822)) (N zaL (L b790) z)) (N zaq (N zpx (L zaL) (L b838)) (N zaq (L zaq) z)))))))
def m918 : W.BT := (N x.r.a.a.a (N x.r.a.a.b (N b848 (N x.r.a.a.h (N zm6 (N zaq (N zoL (N zaL (L b873) z) (L b807)) (N zpf (N b775 (L b905) z) (L b839))) (N zaq (N zos (N b757 (L zaL) z) (L zaq)) (N b725 (L b791) (L zaq)))) (N znc (N znU (N zoS (N b749 (L b881) z) (L zaq)) (N b717 (N zaq (L zaL) z) (L b847))) (N zaq (N zpO (N b765 (L b897) z) (L b831)) (N b733 (L zaL) (L zaL))))) (N zaq (N zaL (N zaq (N zaL (N b745 (L b877) z) (L zaL)) (N b713 (N zaL (L b909) z) (L b843))) (N zoy (N zoJ (N b761 (L b893) z) (L zaq)) (N zaL (L b795) (L b861)))) (N zna (N zaq (N zou (N b753 (L b885) z) (L b819)) (N b721 (N b787 (L b917) z) (L zaq))) (N zaq (N zpb (N b769 (L zaL) z) (L zaL)) (N b737 (L zaq) (L b869)))))) (N x.r.a.a.f (N x.r.a.b.b (N zm0 (N znO (N zoD (N zaq (L b875) z) (L b809)) (N zaq (N b777 (L zaq) z) (L zaq))) (N zoC (N zaL (N zaq (L zaq) z) (L b825)) (N b727 (L zaq) (L b859)))) (N znl (N zf5 (N zaq (N b751 (L zaq) z) (L b817)) (N zaL (N b785 (L zaq) z) (L zaL))) (N zov (N zo2 (N b767 (L b899) z) (L b833)) (N zaq (L b801) (L zaq))))) (N zlI (N zmV (N zn0 (N zaq (N zaq (L zaL) z) (L b813)) (N b715 (N b781 (L b911) z) (L b845))) (N zaL (N zaq (N b763 (L zaq) z) (L b829)) (N zaq (L b797) (L b863)))) (N zf5 (N zoM (N zoQ (N zaL (L b887) z) (L zaL)) (N zaq (L zaL) (L b855))) (N zoN (N zaL (N zaq (L zaq) z) (L zaq)) (N b739 (L b805) (L zaq))))))) (N x.r.a.a.c (N x.r.a.a.e (N x.r.a.b.a (N zf5 (N zaL (N zoA (N b742 (L zaq) z) (L b808)) (N zpE (N b776 (L b906) z) (L b840))) (N zow (N zaq (N b758 (L b890) z) (L b824)) (N b726 (L b792) (L zaL)))) (N zoE (N zj1 (N zoH (N zaq (L b882) z) (L zaL)) (N zaq (N zaL (L b914) z) (L zaq))) (N zoF (N zaq (N b766 (L b898) z) (L b832)) (N b734 (L b800) (L b866))))) (N b849 (N znb (N znI (N zox (N b746 (L zaq) z) (L b812)) (N zaq (N b780 (L b910) z) (L zaq))) (N zaq (N zoP (N b762 (L b894) z) (L zaL)) (N b730 (L b796) (L b862)))) (N zj1 (N zaL (N zaq (N zaq (L b886) z) (L zaq)) (N b722 (N zaq (L b918) z) (L b854))) (N zaL (N zaq (N b770 (L b902) z) (L b836)) (N b738 (L zaL) (L b870)))))) (N x.r.a.a.g (N x.r.a.b.c (N zaq (N znn (N zaq (N b744 (L b876) z) (L zaq)) (N zf5 (N zaq (L zaL) z) (L zaL))) (N zoG (N zoz (N zaL (L b892) z) (L b826)) (N zaq (L zaL) (L zaq)))) (N zne (N zoR (N zaL (N b752 (L zaL) z) (L b818)) (N b720 (N b786 (L b916) z) (L b852))) (N zoK (N zo4 (N b768 (L zaq) z) (L zaq)) (N zaL (L b802) (L b868))))) (N zlH (N zaq (N zn4 (N zoB (N zaL (L b880) z) (L b814)) (N b716 (N b782 (L zaq) z) (L b846))) (N zot (N zaL (N b764 (L zaL) z) (L zaq)) (N b732 (L zaq) (L zaq)))) (N znm (N zoO (N zor (N b756 (L zaq) z) (L b822)) (N zaL (L b790) (L b856))) (N zaq (N zpx (N zaL (L b904) z) (L b838)) (N zaq (L zaq) (L zaL))))))))
def m919 : Heap := ⟨⟨[x.r.a.a.a, x.r.a.a.b, x.r.a.a.c, b848, x.r.a.a.e, x.r.a.a.f, x.r.a.a.g, x.r.a.a.h, x.r.a.b.a, x.r.a.b.b, x.r.a.b.c, zaq, b849, zlI, zlH, zm6, zf5, zm0, zaq, zaL, znb, zmV, zaq, znc, zoE, znl, zne, zna, zj1, zf5, znm, zaq, zaL, znO, znn, zaq, znI, zn0, zn4, znU, zj1, zf5, zoR, zaq, zaL, zoM, zoO, zaq, zow, zoC, zoG, zoy, zaq, zaL, zot, zaq, zoF, zov, zoK, zaq, zaL, zoN, zaq, zoL, zoA, zoD, zaq, zaL, zox, zaq, zoB, zoS, zoH, zaq, zaL, zou, zaq, zoQ, zor, zos, zaq, zaL, zoz, zoJ, zoP, zaq, zaL, zpO, zaq, zo2, zo4, zpb, zaq, zaL, zpx, zpf, zpE, zaq, zf5, b713, zaq, b715, b716, b717, zaq, zaL, b720, b721, b722, zaq, zaL, b725, b726, b727, zaq, zaL, b730, zaq, b732, b733, b734, zaq, zaL, b737, b738, b739, zaq, zaL, b742, zaq, b744, b745, b746, zaq, zaL, b749, zaq, b751, b752, b753, zaq, zaL, b756, b757, b758, zaq, zaL, b761, b762, b763, b764, b765, b766, b767, b768, b769, b770, zaq, zaL, b775, b776, b777, zaq, zaL, b780, b781, b782, zaq, zaL, b785, b786, b787, zaq, zaL, b790, b791, b792, zaq, zaL, b795, b796, b797, zaq, zaL, b800, b801, b802, zaq, zaL, b805, zaq, b807, b808, b809, zaq, zaL, b812, b813, b814, zaq, zaL, b817, b818, b819, zaq, zaL, b822, zaq, b824, b825, b826, zaq, zaL, b829, zaq, b831, b832, b833, zaq, zaL, b836, zaq, b838, b839, b840, zaq, zaL, b843, zaq, b845, b846, b847, zaq, zaL, b852, zaq, b854, b855, b856, zaq, zaL, b859, zaq, b861, b862, b863, zaq, zaL, b866, zaq, b868, b869, b870, zaq, zaL, b873, zaq, b875, b876, b877, zaq, zaL, b880, b881, b882, zaq, zaL, b885, b886, b887, zaq, zaL, b890, zaq, b892, b893, b894, zaq, zaL, b897, b898, b899, zaq, zaL, b902, zaq, b904, b905, b906, zaq, zaL, b909, b910, b911, zaq, zaL, b914, zaq, b916, b917, b918]⟩, ⟨[], [], [], 0, [], [], false, #[], [], 0, false, false, false, 0, [2000, 10, 10], false, 0, true, [], [], 0, false⟩⟩
end
def m607v (p : Program) : Program := { p with main := { p.main with body := [sp p 1, sp p 2, sp p 3, sp p 5, sp p 6, sp p 7, sp p 8, sp p 9, sp p 11, sp p 12, sp p 14, sp p 15, sp p 16, sp p 17, sp p 18, sp p 20, sp p 21, sp p 22, sp p 23, sp p 24, sp p 25, sp p 26, sp p 27, sp p 28, sp p 29, sp p 31, sp p 32, sp p 33, sp p 34, sp p 35, sp p 36, sp p 37, sp p 38, sp p 39, sp p 40, sp p 41] } }
def m617s (p : Program) : List Stmt := [sp p 0, sp p 1]
def m632s (p : Program) : List Stmt := [sp p 2]
def m647s (p : Program) : List Stmt := [sp p 3, sp p 4, sp p 5, sp p 6, sp p 7, sp p 8, sp p 9, sp p 10]
def m695s (p : Program) : List Stmt := [sp p 11, sp p 12, sp p 13]
def m709s (p : Program) : List Stmt := [sp p 14]
def m771s (p : Program) : List Stmt := [sp p 15, sp p 16, sp p 17, sp p 18, sp p 19, sp p 20, sp p 21, sp p 22, sp p 23, sp p 24, sp p 25, sp p 26, sp p 27, sp p 28, sp p 29, sp p 30]
def m848s (p : Program) : List Stmt := [sp p 31, sp p 32, sp p 33, sp p 34, sp p 35, sp p 36, sp p 37, sp p 38, sp p 39, sp p 40, sp p 41]
def u0 : Q Str := ⟨Str.ofString "<module>", Str.ofString "/claim/cut.py", Str.ofString "__main__", Str.ofString "__name__", Str.ofString "hideworth.errors", Str.ofString "__doc__", Str.ofString "__package__", Str.ofString "__loader__"⟩
def u1 : Q Str := ⟨Str.ofString "__spec__", Str.ofString "__annotations__", Str.ofString "__builtins__", Str.ofString "__file__", Str.ofString "__cached__", Str.ofString "HideError", Str.ofString "__module__", Str.ofString "__qualname__"⟩
def u2 : Q Str := ⟨Str.ofString "__firstlineno__", Str.ofString "__static_attributes__", Str.ofString "__weakref__", Str.ofString "NoNumber", Str.ofString "hideworth.checks", Str.ofString "NoTable", Str.ofString "divisor", Str.ofString "ratio"⟩
def u3 : Q Str := ⟨Str.ofString "plus", Str.ofString "shared_divisor", Str.ofString "lowest", Str.ofString "one", Str.ofString "other", Str.ofString "rest", Str.ofString "hideworth.ratios", Str.ofString "top"⟩
def u4 : Q Str := ⟨Str.ofString "bottom", Str.ofString "shared", Str.ofString "numbers", Str.ofString "number", Str.ofString "hideworth.pivots", Str.ofString "is_whole", Str.ofString "are_weights", Str.ofString "thing"⟩
def u5 : Q Str := ⟨Str.ofString "Board", Str.ofString "__init__", Str.ofString "entering", Str.ofString "steepest", Str.ofString "steepness", Str.ofString "leaving", Str.ofString "is_sooner", Str.ofString "swap"⟩
def u6 : Q Str := ⟨Str.ofString "swapped_row", Str.ofString "Board.__init__", Str.ofString "Board.entering", Str.ofString "self", Str.ofString "columns", Str.ofString "best", Str.ofString "most", Str.ofString "k"⟩
def u7 : Q Str := ⟨Str.ofString "here", Str.ofString "Board.steepest", Str.ofString "Board.steepness", Str.ofString "column", Str.ofString "Board.leaving", Str.ofString "there", Str.ofString "Board.is_sooner", Str.ofString "Board.swap"⟩
def u8 : Q Str := ⟨Str.ofString "Board.swapped_row", Str.ofString "busy", Str.ofString "grid", Str.ofString "idle", Str.ofString "scale", Str.ofString "stuck", Str.ofString "__dict__", Str.ofString "law_hideworth_k11_whole_worths_of_tables"⟩
def u9 : Q Str := ⟨Str.ofString "first_grid", Str.ofString "row_weights", Str.ofString "column_weights", Str.ofString "solved", Str.ofString "MOST", Str.ofString "is_row", Str.ofString "is_table", Str.ofString "look_table"⟩
def u10 : Q Str := ⟨Str.ofString "row_sums", Str.ofString "column_sums", Str.ofString "first_column_above", Str.ofString "first_row_below", Str.ofString "table_judged", Str.ofString "table_worth", Str.ofString "hideworth.tables", Str.ofString "table"⟩
def u11 : Q Str := ⟨Str.ofString "worth", Str.ofString "rows", Str.ofString "bound", Str.ofString "j", Str.ofString "paid", Str.ofString "i", Str.ofString "_law_mix", Str.ofString "_law_cell_at"⟩
def u12 : Q Str := ⟨Str.ofString "_law_left", Str.ofString "_law_draw", Str.ofString "_law_table", Str.ofString "_law_copy", Str.ofString "_law_whole", Str.ofString "_law_weights", Str.ofString "_law_fraction", Str.ofString "_law_judged"⟩
def u13 : Q Str := ⟨Str.ofString "law", Str.ofString "_law_number", Str.ofString "_law_k", Str.ofString "_law_mixed", Str.ofString "_law_script", Str.ofString "_law_cell", Str.ofString "_law_left_here", Str.ofString "_law_base"⟩
def u14 : Q Str := ⟨Str.ofString "_law_digit", Str.ofString "_law_thing", Str.ofString "_law_one", Str.ofString "_law_other", Str.ofString "_law_last", Str.ofString "_law_table_here", Str.ofString "_law_handed", Str.ofString "_law_told"⟩
def u15 : Q Str := ⟨Str.ofString "_law_kept", Str.ofString "_law_changed", Str.ofString "_law_changed", Str.ofString "_law_changed", Str.ofString "_law_changed", Str.ofString "_law_changed", Str.ofString "_law_changed", Str.ofString "_law_changed"⟩
def v0 : Q String := ⟨"tuple", "code", "frame", "dict", "__main__.__loader__#opaque", "ValueError", "builtin_function_or_method", "type.__prepare__"⟩
def v1 : Q String := ⟨"type", "Exception", "BaseException", "object", "ValueError.__new__", "getset_descriptor", "ExceptionGroup.__weakref__", "super"⟩
def v2 : Q String := ⟨"object.__init_subclass__", "function", "object.__new__", "function.__dict__", "function.__dict__#set", "function.__dict__#set", "function.__dict__#set", "function.__dict__#set"⟩
def w0 (P : Params) : Q Obj := ⟨W.boot_o_0 P, W.boot_o_1 P, W.boot_o_2 P, W.boot_o_3 P, W.boot_o_4 P, W.boot_o_5 P, W.boot_o_6 P, W.boot_o_7 P⟩
def w1 (P : Params) : Q Obj := ⟨W.boot_o_8 P, W.boot_o_9 P, W.boot_o_10 P, W.boot_o_10 P, W.boot_o_10 P, W.boot_o_10 P, W.boot_o_10 P, W.boot_o_10 P⟩
lay_quick u0 u1 u2 u3 u4 u5 u6 u7 u8 u9 u10 u11 u12 u13 u14 u15 v0 v1 v2 w0 w1 PySem.Challenge.pw_hideworth_k11_whole_worths_of_tables
def K (a' b' c' d' e' f' g' h' i' j' k' l' m' n' o' p' : Q Str) (q' r' s' : Q String) (t' u' : Params → Q Obj) (v' : Program) (P : Params) : X := ⟨⟨⟨a',b',c',d',e',f',g',h'⟩,⟨i',j',k',l',m',n',o',p'⟩,⟨i',j',k',l',m',n',o',p'⟩,⟨i',j',k',l',m',n',o',p'⟩,⟨i',j',k',l',m',n',o',p'⟩,⟨i',j',k',l',m',n',o',p'⟩,⟨i',j',k',l',m',n',o',p'⟩,⟨i',j',k',l',m',n',o',p'⟩⟩,⟨⟨q',r',s',s',s',s',s',s'⟩,⟨q',r',s',s',s',s',s',s'⟩,⟨q',r',s',s',s',s',s',s'⟩,⟨q',r',s',s',s',s',s',s'⟩,⟨q',r',s',s',s',s',s',s'⟩,⟨q',r',s',s',s',s',s',s'⟩,⟨q',r',s',s',s',s',s',s'⟩,⟨q',r',s',s',s',s',s',s'⟩⟩,⟨⟨t' P,u' P,u' P,u' P,u' P,u' P,u' P,u' P⟩,⟨t' P,u' P,u' P,u' P,u' P,u' P,u' P,u' P⟩,⟨t' P,u' P,u' P,u' P,u' P,u' P,u' P,u' P⟩,⟨t' P,u' P,u' P,u' P,u' P,u' P,u' P,u' P⟩,⟨t' P,u' P,u' P,u' P,u' P,u' P,u' P,u' P⟩,⟨t' P,u' P,u' P,u' P,u' P,u' P,u' P,u' P⟩,⟨t' P,u' P,u' P,u' P,u' P,u' P,u' P,u' P⟩,⟨t' P,u' P,u' P,u' P,u' P,u' P,u' P,u' P⟩⟩,v',P⟩
def k0 := K u0 u1 u2 u3 u4 u5 u6 u7 u8 u9 u10 u11 u12 u13 u14 u15 v0 v1 v2 w0 w1 PySem.Challenge.pw_hideworth_k11_whole_worths_of_tables
def k1 := K tw13894225608423057668 tw17531079430653816501 tw13809737476558091540 tw2367299412457286945 tw1912701158020654693 tw2188347355606102534 tw16368670287772101220 tw14842115654739255404 tw4717311838995323452 tw594758545415977400 tw10895325593200808953 tw10037743213843438893 tw10009084784789568687 tw5084553986333570498 tw16641277437810104112 tw11875653558476324687 tw15633551313878501473 tw10735261366311057212 tw13734974896645664886 tw1278260381020688717 tw13492767390215788210 tw2599292124938443360
theorem ke : k0 = k1 := by
  unfold k0 k1
  rw [te13894225608423057668, te17531079430653816501, te13809737476558091540, te2367299412457286945, te1912701158020654693, te2188347355606102534, te16368670287772101220, te14842115654739255404, te4717311838995323452, te594758545415977400, te10895325593200808953, te10037743213843438893, te10009084784789568687, te5084553986333570498, te16641277437810104112, te11875653558476324687, te15633551313878501473, te10735261366311057212, te13734974896645664886, te1278260381020688717, te13492767390215788210, te2599292124938443360]
theorem kE {β : Type _} (f : X → β) : (fun P => f (k0 P)) = fun P => f (k1 P) := congrArg (fun y P => f (y P)) ke
end Hd
namespace PySem.W.Fast
def tw14944057381082403492 : Program := Hd.m607v tw2599292124938443360
theorem te14944057381082403492 : Hd.m607v PySem.Challenge.pw_hideworth_k11_whole_worths_of_tables = tw14944057381082403492 := congrArg Hd.m607v te2599292124938443360
def tw10843685450252675486 (P : Params) : Heap := @Hd.m614 (Hd.k1 P)
theorem te10843685450252675486 : (fun P => @Hd.m614 (Hd.k0 P)) = tw10843685450252675486 := Hd.kE @Hd.m614
def tw6814238421777400809 (P : Params) : BT := @Hd.m615 (Hd.k1 P)
theorem te6814238421777400809 : (fun P => @Hd.m615 (Hd.k0 P)) = tw6814238421777400809 := Hd.kE @Hd.m615
def tw3823812264022560784 : List Stmt := Hd.m617s tw2599292124938443360
theorem te3823812264022560784 : Hd.m617s PySem.Challenge.pw_hideworth_k11_whole_worths_of_tables = tw3823812264022560784 := congrArg Hd.m617s te2599292124938443360
def tw4701739894540877574 (P : Params) : BT := @Hd.m631 (Hd.k1 P)
theorem te4701739894540877574 : (fun P => @Hd.m631 (Hd.k0 P)) = tw4701739894540877574 := Hd.kE @Hd.m631
def tw11031871399692563063 : List Stmt := Hd.m632s tw2599292124938443360
theorem te11031871399692563063 : Hd.m632s PySem.Challenge.pw_hideworth_k11_whole_worths_of_tables = tw11031871399692563063 := congrArg Hd.m632s te2599292124938443360
def tw11502263629447029325 (P : Params) : BT := @Hd.m646 (Hd.k1 P)
theorem te11502263629447029325 : (fun P => @Hd.m646 (Hd.k0 P)) = tw11502263629447029325 := Hd.kE @Hd.m646
def tw13827352145606712301 : List Stmt := Hd.m647s tw2599292124938443360
theorem te13827352145606712301 : Hd.m647s PySem.Challenge.pw_hideworth_k11_whole_worths_of_tables = tw13827352145606712301 := congrArg Hd.m647s te2599292124938443360
def tw15538647139154482410 (P : Params) : BT := @Hd.m694 (Hd.k1 P)
theorem te15538647139154482410 : (fun P => @Hd.m694 (Hd.k0 P)) = tw15538647139154482410 := Hd.kE @Hd.m694
def tw10889398661490491723 : List Stmt := Hd.m695s tw2599292124938443360
theorem te10889398661490491723 : Hd.m695s PySem.Challenge.pw_hideworth_k11_whole_worths_of_tables = tw10889398661490491723 := congrArg Hd.m695s te2599292124938443360
def tw10997694809770959093 (P : Params) : BT := @Hd.m708 (Hd.k1 P)
theorem te10997694809770959093 : (fun P => @Hd.m708 (Hd.k0 P)) = tw10997694809770959093 := Hd.kE @Hd.m708
def tw7736592251227298315 : List Stmt := Hd.m709s tw2599292124938443360
theorem te7736592251227298315 : Hd.m709s PySem.Challenge.pw_hideworth_k11_whole_worths_of_tables = tw7736592251227298315 := congrArg Hd.m709s te2599292124938443360
def tw12646591822845407676 (P : Params) : BT := @Hd.m770 (Hd.k1 P)
theorem te12646591822845407676 : (fun P => @Hd.m770 (Hd.k0 P)) = tw12646591822845407676 := Hd.kE @Hd.m770
def tw6763074950890443513 : List Stmt := Hd.m771s tw2599292124938443360
theorem te6763074950890443513 : Hd.m771s PySem.Challenge.pw_hideworth_k11_whole_worths_of_tables = tw6763074950890443513 := congrArg Hd.m771s te2599292124938443360
def tw15746544177943510447 (P : Params) : BT := @Hd.m847 (Hd.k1 P)
theorem te15746544177943510447 : (fun P => @Hd.m847 (Hd.k0 P)) = tw15746544177943510447 := Hd.kE @Hd.m847
def tw8110145498838693157 : List Stmt := Hd.m848s tw2599292124938443360
theorem te8110145498838693157 : Hd.m848s PySem.Challenge.pw_hideworth_k11_whole_worths_of_tables = tw8110145498838693157 := congrArg Hd.m848s te2599292124938443360
def tw16331362939324754616 (P : Params) : BT := @Hd.m918 (Hd.k1 P)
theorem te16331362939324754616 : (fun P => @Hd.m918 (Hd.k0 P)) = tw16331362939324754616 := Hd.kE @Hd.m918
def tw8920253128172090501 (P : Params) : Heap := @Hd.m919 (Hd.k1 P)
theorem te8920253128172090501 : (fun P => @Hd.m919 (Hd.k0 P)) = tw8920253128172090501 := Hd.kE @Hd.m919
end PySem.W.Fast
end
open PySem PySem.W PyProof.Rows PySem.W.X PySem.W.ZRun
set_option maxRecDepth 100000 in
set_option maxHeartbeats 0 in
theorem PySem.Challenge.cw_hideworth_k11_whole_worths_of_tables_holds : PySem.Challenge.rw_hideworth_k11_whole_worths_of_tables.Holds := by
 w_on;o_law;z_head;(case hw=>w_witness2)
 k_fill
 intro w s0 s1 m0 m1 G Y fa o pm cd doc dV kV ho hd hc hD hm hg xs vs as L h1 h2 h3 h4 h5
 z_open Y L KX ZH ZN ZT
 refine My.walk_at (l:=PySem.Challenge.rw_hideworth_k11_whole_worths_of_tables) KX (fun W=>W w s0 s1 m0 m1 G KX fa o pm cd doc dV kV ho hd hc hD hm hg xs vs as h1 h2 h3 h4 h5) (My.walk (l:=PySem.Challenge.rw_hideworth_k11_whole_worths_of_tables) rfl rfl (fun _ _ h=>h) ?hPt ?hC ?F)
 case hPt =>
  intro w
  k_is
 case hC =>
  intro w h KX
  refine' L2.zn8 KX ?lc (by decide)
  (case lc=>k_is)
 case F =>
  intro w mg fa h KX G hmg
  refine' My.zpR hmg (My.zo7 ?hP (L2.za3 ?l0 ?c0 ?k0) (mg_of KX G ?a0) (L2.za3 ?l1 ?c1 ?k1) (mg_of KX G ?a1) (L2.za3 ?l2 ?c2 ?k2) (mg_of KX G ?a2) (L2.za3 ?l3 ?c3 ?k3) (mg_of KX G ?a3) (L2.za3 ?l4 ?c4 ?k4) (mg_of KX G ?a4) (L2.za3 ?l5 ?c5 ?k5) (mg_of KX G ?a5) (L2.za3 ?l6 ?c6 ?k6) (mg_of KX G ?a6) (L2.za3 ?l7 ?c7 ?k7) (mg_of KX G ?a7) (L2.za3 ?l8 ?c8 ?k8) (mg_of KX G ?a8) (L2.za3 ?l9 ?c9 ?k9) (mg_of KX G ?a9) (L2.za3 ?l10 ?c10 ?k10) (mg_of KX G ?a10) (L2.za3 ?l11 ?c11 ?k11) (mg_of KX G ?a11) (L2.za3 ?l12 ?c12 ?k12) (mg_of KX G ?a12) (L2.za3 ?l13 ?c13 ?k13) (mg_of KX G ?a13) (L2.za3 ?l14 ?c14 ?k14) (mg_of KX G ?a14) (L2.za3 ?l15 ?c15 ?k15) (L2.zog ?l16 ?c16 ?k16) ?ma16 ?mf16 (L2.za3 ?l17 ?c17 ?k17) ?ma17 ?mf17 (L2.za3 ?l18 ?c18 ?k18) ?ma18 ?mf18 (L2.za3 ?l19 ?c19 ?k19) ?ma19 ?mf19 (L2.za3 ?l20 ?c20 ?k20) ?ma20 ?mf20 (L2.za3 ?l21 ?c21 ?k21) ?ma21 ?mf21 (L2.za3 ?l22 ?c22 ?k22) ?ma22 ?mf22 (L2.za3 ?l23 ?c23 ?k23) (mg_of KX G ?a23) (L2.za3 ?l24 ?c24 ?k24) (mg_of KX G ?a24) (L2.za3 ?l25 ?c25 ?k25) (mg_of KX G ?a25) (L2.za3 ?l26 ?c26 ?k26) (mg_of KX G ?a26) (L2.za3 ?l27 ?c27 ?k27) (mg_of KX G ?a27) (L2.za3 ?l28 ?c28 ?k28) (mg_of KX G ?a28) (L2.za3 ?l29 ?c29 ?k29) (mg_of KX G ?a29) (L2.za3 ?l30 ?c30 ?k30) (mg_of KX G ?a30) (L2.za3 ?l31 ?c31 ?k31) (mg_of KX G ?a31) (L2.za3 ?l32 ?c32 ?k32) (mg_of KX G ?a32) (L2.za3 ?l33 ?c33 ?k33) (mg_of KX G ?a33) (L2.za3 ?l34 ?c34 ?k34) (mg_of KX G ?a34) (L2.za3 ?l35 ?c35 ?k35) (mg_of KX G ?a35) (L2.za3 ?l36 ?c36 ?k36) (mg_of KX G ?a36) (L2.za3 ?l37 ?c37 ?k37) (mg_of KX G ?a37) (L2.za3 ?l38 ?c38 ?k38) (mg_of KX G ?a38) ⟨?cp_Board,?ch_Board,?co_Board,?cs_Board⟩ ⟨?Km_Board,?Ki_Board,?Kf_Board,?Kk_Board⟩ ?na_Board_grid ?na_Board_scale ?na_Board_idle ?na_Board_busy ?na_Board_stuck (mg_none_of KX G ?z_isinstance) (mg_none_of KX G ?z_int) (mg_none_of KX G ?z_bool) (mg_none_of KX G ?z_list) (mg_none_of KX G ?z_len) (mg_none_of KX G ?z_all) (mg_none_of KX G ?z_sum) (mg_none_of KX G ?z_min) (mg_none_of KX G ?z_enumerate) (mg_none_of KX G ?z_range) (mg_none_of KX G ?z_abs) (mg_none_of KX G ?z_zip) (mg_none_of KX G ?z_tuple) (mg_of KX G ?ac_Board) (mg_of KX G ?ak_MOST))
  (case hP=>k_is)
  (case ac_Board=>k_is)
  (case a0=>k_is)
  (case a1=>k_is)
  (case a2=>k_is)
  (case a3=>k_is)
  (case a4=>k_is)
  (case a5=>k_is)
  (case a6=>k_is)
  (case a7=>k_is)
  (case a8=>k_is)
  (case a9=>k_is)
  (case a10=>k_is)
  (case a11=>k_is)
  (case a12=>k_is)
  (case a13=>k_is)
  (case a14=>k_is)
  (case ma16=>k_is)
  (case ma17=>k_is)
  (case ma18=>k_is)
  (case ma19=>k_is)
  (case ma20=>k_is)
  (case ma21=>k_is)
  (case ma22=>k_is)
  (case a23=>k_is)
  (case a24=>k_is)
  (case a25=>k_is)
  (case a26=>k_is)
  (case a27=>k_is)
  (case a28=>k_is)
  (case a29=>k_is)
  (case a30=>k_is)
  (case a31=>k_is)
  (case a32=>k_is)
  (case a33=>k_is)
  (case a34=>k_is)
  (case a35=>k_is)
  (case a36=>k_is)
  (case a37=>k_is)
  (case a38=>k_is)
  (case Ki_Board=>k_is)
  (case l0=>k_is)
  (case c0=>k_is)
  (case k0=>k_is)
  (case l1=>k_is)
  (case c1=>k_is)
  (case k1=>k_is)
  (case l2=>k_is)
  (case c2=>k_is)
  (case k2=>k_is)
  (case l3=>k_is)
  (case c3=>k_is)
  (case k3=>k_is)
  (case l4=>k_is)
  (case c4=>k_is)
  (case k4=>k_is)
  (case l5=>k_is)
  (case c5=>k_is)
  (case k5=>k_is)
  (case l6=>k_is)
  (case c6=>k_is)
  (case k6=>k_is)
  (case l7=>k_is)
  (case c7=>k_is)
  (case k7=>k_is)
  (case l8=>k_is)
  (case c8=>k_is)
  (case k8=>k_is)
  (case l9=>k_is)
  (case c9=>k_is)
  (case k9=>k_is)
  (case l10=>k_is)
  (case c10=>k_is)
  (case k10=>k_is)
  (case l11=>k_is)
  (case c11=>k_is)
  (case k11=>k_is)
  (case l12=>k_is)
  (case c12=>k_is)
  (case k12=>k_is)
  (case l13=>k_is)
  (case c13=>k_is)
  (case k13=>k_is)
  (case l14=>k_is)
  (case c14=>k_is)
  (case k14=>k_is)
  (case l15=>k_is)
  (case c15=>k_is)
  (case k15=>k_is)
  (case mf16=>k_is)
  (case l16=>k_is)
  (case c16=>k_is)
  (case k16=>k_is)
  (case mf17=>k_is)
  (case l17=>k_is)
  (case c17=>k_is)
  (case k17=>k_is)
  (case mf18=>k_is)
  (case l18=>k_is)
  (case c18=>k_is)
  (case k18=>k_is)
  (case mf19=>k_is)
  (case l19=>k_is)
  (case c19=>k_is)
  (case k19=>k_is)
  (case mf20=>k_is)
  (case l20=>k_is)
  (case c20=>k_is)
  (case k20=>k_is)
  (case mf21=>k_is)
  (case l21=>k_is)
  (case c21=>k_is)
  (case k21=>k_is)
  (case mf22=>k_is)
  (case l22=>k_is)
  (case c22=>k_is)
  (case k22=>k_is)
  (case l23=>k_is)
  (case c23=>k_is)
  (case k23=>k_is)
  (case l24=>k_is)
  (case c24=>k_is)
  (case k24=>k_is)
  (case l25=>k_is)
  (case c25=>k_is)
  (case k25=>k_is)
  (case l26=>k_is)
  (case c26=>k_is)
  (case k26=>k_is)
  (case l27=>k_is)
  (case c27=>k_is)
  (case k27=>k_is)
  (case l28=>k_is)
  (case c28=>k_is)
  (case k28=>k_is)
  (case l29=>k_is)
  (case c29=>k_is)
  (case k29=>k_is)
  (case l30=>k_is)
  (case c30=>k_is)
  (case k30=>k_is)
  (case l31=>k_is)
  (case c31=>k_is)
  (case k31=>k_is)
  (case l32=>k_is)
  (case c32=>k_is)
  (case k32=>k_is)
  (case l33=>k_is)
  (case c33=>k_is)
  (case k33=>k_is)
  (case l34=>k_is)
  (case c34=>k_is)
  (case k34=>k_is)
  (case l35=>k_is)
  (case c35=>k_is)
  (case k35=>k_is)
  (case l36=>k_is)
  (case c36=>k_is)
  (case k36=>k_is)
  (case l37=>k_is)
  (case c37=>k_is)
  (case k37=>k_is)
  (case l38=>k_is)
  (case c38=>k_is)
  (case k38=>k_is)
  (case cp_Board=>k_is)
  (case ch_Board=>k_is)
  (case co_Board=>k_is)
  (case cs_Board=>k_is)
  (case Km_Board=>k_is)
  (case Kf_Board=>k_is)
  (case Kk_Board=>k_is)
  (case na_Board_grid=>k_is)
  (case na_Board_scale=>k_is)
  (case na_Board_idle=>k_is)
  (case na_Board_busy=>k_is)
  (case na_Board_stuck=>k_is)
  (case z_isinstance=>k_is)
  (case z_int=>k_is)
  (case z_bool=>k_is)
  (case z_list=>k_is)
  (case z_len=>k_is)
  (case z_all=>k_is)
  (case z_sum=>k_is)
  (case z_min=>k_is)
  (case z_enumerate=>k_is)
  (case z_range=>k_is)
  (case z_abs=>k_is)
  (case z_zip=>k_is)
  (case z_tuple=>k_is)
  (case ak_MOST=>k_is)
