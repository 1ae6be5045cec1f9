import PyProof.Rows.All
import Wide.All
import OpenK.AllK
import Wide.FinOn
import Lean
import PyProof.EqAt
import PyProof.EqKinds
import PyProof.TupleCall
import KE.IntBitsLaws
import PyProof.NeKinds
import KE.KIsAll
import PyProof.ExcAttrAll.ValueError
import KE.RegKIsAll
import OpenK.KOwn
import PyProof.ConsumeWalk
import PyProof.SumWalkG
import PyProof.Rows.SeqCalls
import PyProof.Rows.SeqGen
import PyProof.ZipIter
import PyProof.Rows.ZipGen
import PyProof.Rows.FactsT2
import PyProof.WalksEnum
import PyProof.EnumMake
import KE.KDictSum
import PyProof.Rows.SortWalk
import PyProof.ExcInit
import PyProof.InstStoreFacts
import PyProof.Rows.SortShell
import KE.KRevIter
import PyProof.ListNew
import PyProof.CollectIter
import KE.KLam
import KE.KMinKey
import KE.KEqDict
import PyProof.StrCalls2
import PyProof.Rows.StrNews2
import PyProof.SliceStr2
import KE.KIntText
import KE.IntTextLaws
import PyProof.Rows.StrSplitJoin
import PyProof.FitsReplace
import PyProof.StrWalks
import OpenK.ZGo
import PySem.Challenge.RW_hideworth_k83_papers_read
set_option Elab.async false
set_option linter.all false
set_option maxRecDepth 100000
namespace L2
open PySem PySem.Spec PyProof.Rows
abbrev Key:=Sum Int Str
def zqy:Key→Value→Bool
 | .inl k,v=>Value.isInt k v
 | .inr x,v=>Value.isStrOf x v
def keyH (w:World):Key→Int
 | .inl k=>hashInt k
 | .inr x=>hashStr w x
theorem zbO:∀ {k:Key} {v:Value},zqy k v=true→(∃ i t,k=Sum.inl i∧v=Value.int i t)∨(∃ x t,k=Sum.inr x∧v=Value.str x t)
 | .inl i,v,h=>by
  obtain ⟨t,e⟩:=Value.isInt_shape (k:=i) (v:=v) h
  exact .inl ⟨i,t,rfl,e⟩
 | .inr x,v,h=>by
  obtain ⟨t,e⟩:=Value.isStrOf_shape (x:=x) (v:=v) h
  exact .inr ⟨x,t,rfl,e⟩
theorem zqf (a b:Int):decide ((Sum.inl a:Key)=Sum.inl b)=(a == b):=by
 by_cases e:a=b
 ·subst e;simp
 ·have h:¬ (Sum.inl a:Key)=Sum.inl b:=fun q=>e (Sum.inl.inj q)
  rw [decide_eq_false h]
  exact (beq_eq_false_iff_ne.mpr e).symm
theorem zqh (a b:Str):decide ((Sum.inr a:Key)=Sum.inr b)=decide (a=b):=by
 by_cases e:a=b
 ·subst e;simp
 ·have h:¬ (Sum.inr a:Key)=Sum.inr b:=fun q=>e (Sum.inr.inj q)
  rw [decide_eq_false h,decide_eq_false e]
theorem zqu (a:Int) (b:Str):decide ((Sum.inl a:Key)=Sum.inr b)=false:=decide_eq_false (fun q=>nomatch q)
theorem zp8 (a:Str) (b:Int):decide ((Sum.inr a:Key)=Sum.inl b)=false:=decide_eq_false (fun q=>nomatch q)
def zi2 (prog:Program) (w:World):PySem.KeyKind prog w Key where
 is:=zqy
 hash:=keyH w
 inj:=fun v a b ha hb=>by
  rcases zbO ha with ⟨i,t,rfl,rfl⟩ | ⟨x,t,rfl,rfl⟩
  ·rcases zbO hb with ⟨j,u,rfl,e⟩ | ⟨y,u,rfl,e⟩
   ·injection e with e1 _;rw [e1]
   ·exact nomatch e
  ·rcases zbO hb with ⟨j,u,rfl,e⟩ | ⟨y,u,rfl,e⟩
   ·exact nomatch e
   ·injection e with e1 _;rw [e1]
 byValue:=fun k v h=>by
  rcases zbO h with ⟨i,t,rfl,rfl⟩ | ⟨x,t,rfl,rfl⟩ <;> rfl
 pyHash:=fun hv h=>by
  rcases zbO hv with ⟨i,t,rfl,rfl⟩ | ⟨x,t,rfl,rfl⟩
  ·exact wpAny_pyHash_int h
  ·exact wpAny_pyHash_str h
 eqBool:=fun hu hv h=>by
  rcases zbO hu with ⟨i,t,rfl,rfl⟩ | ⟨x,t,rfl,rfl⟩
  ·rcases zbO hv with ⟨j,u,rfl,rfl⟩ | ⟨y,u,rfl,rfl⟩
   ·rw [zqf] at h;exact wpAny_eqBool_int h
   ·rw [zqu] at h;exact SeqAt.EqAt.int_str i t y u _ _ _ _ h
  ·rcases zbO hv with ⟨j,u,rfl,rfl⟩ | ⟨y,u,rfl,rfl⟩
   ·rw [zp8] at h;exact SeqAt.EqAt.str_int x t j u _ _ _ _ h
   ·rw [zqh] at h;exact wpAny_eqBool_str h
 «strs»:=fun k x t v h=>by
  rcases zbO h with ⟨i,u,rfl,e⟩ | ⟨y,u,rfl,e⟩
  ·exact nomatch e
  ·injection e with e1 _
   subst e1
   cases v <;> rfl
end L2
namespace L2
open PySem PySem.Spec PyProof.Rows
inductive V where
 | non | bl (b:Bool) | int (i:Int) | str (x:Str) | byt (b:Array UInt8) | flt (b:UInt64) | ref (a:Addr) | ty (n:String)
 deriving DecidableEq
def zcF:V→Value→Prop
 | .non,u=>u=Value.none
 | .bl b,u=>u=Value.bool b
 | .int i,u=>∃ t,u=Value.int i t
 | .str x,u=>∃ t,u=Value.str x t
 | .byt b,u=>∃ t,u=Value.bytes b t
 | .flt b,u=>∃ t,u=Value.float b t
 | .ref a,u=>u=Value.ref a
 | .ty n,u=>u=Value.type n
abbrev zb9:List V→List Value→Prop:=Paired zcF
theorem zb9.length {xs:List V} {us:List Value} (r:zb9 xs us):xs.length=us.length:=Paired.length r
theorem zb9.get:∀ {xs:List V} {us:List Value} {i:Nat} {x:V},zb9 xs us→xs[i]?=some x→∃ u,us[i]?=some u∧zcF x u
 | _,_,_,_,.nil,e=>by simp at e
 | _,_,0,_,.cons r _,e=>by simp at e;subst e;exact ⟨_,rfl,r⟩
 | _,_,i+1,x,.cons _ t,e=>by
  obtain ⟨u,h1,h2⟩:=zb9.get (i:=i) (x:=x) t (by simpa using e)
  exact ⟨u,by simpa using h1,h2⟩
theorem zb9.append:∀ {xs ys:List V} {us ws:List Value},zb9 xs us→zb9 ys ws→zb9 (xs++ys) (us++ws)
 | _,_,_,_,.nil,s=>s
 | _,_,_,_,.cons r t,s=>.cons r (zb9.append t s)
theorem zb9.take:∀ {xs:List V} {us:List Value} (n:Nat),zb9 xs us→zb9 (xs.take n) (us.take n)
 | _,_,0,_=>.nil
 | _,_,_+1,.nil=>.nil
 | _,_,n+1,.cons r t=>.cons r (zb9.take n t)
theorem zb9.drop:∀ {xs:List V} {us:List Value} (n:Nat),zb9 xs us→zb9 (xs.drop n) (us.drop n)
 | _,_,0,r=>r
 | _,_,_+1,.nil=>.nil
 | _,_,n+1,.cons _ t=>zb9.drop n t
def znz:Option V→Option Value→Prop
 | some v,some u=>zcF v u
 | none,none=>True
 | _,_=>False
def KV {κ:Type}:List (κ×V)→List (κ×Value)→Prop:=Paired fun (p:κ×V) (q:κ×Value)=>p.1=q.1∧zcF p.2 q.2
def kV:Key→V
 | .inl i=>.int i
 | .inr x=>.str x
inductive HO where
  | lst (xs:List V)
  | tup (xs:List V)
  | dK (kvs:List (Key×V)) | dT (kvs:List (List Key×V))
  | set (S:Int→Bool) (n:Nat)
  | ins (C dx:Addr) (fs:List (Str×V))
  | own (x:Addr)
  | xd (fs:List (Str×V))
  | met (f x:Addr)
  | rng (lo hi:Int)
  | frz (o:Obj) (u:HO)
  | tbl (ps:Array Value)
  | ext (φ:Heap→Prop)
abbrev Hp:=Addr→Option HO
def upd (H:Hp) (a:Addr) (o:HO):Hp:=fun b=>if b=a then some o else H b
theorem zae {H:Hp} {a:Addr} {o:HO}:upd H a o a=some o:=by unfold upd;rw [if_pos rfl]
theorem zap {H:Hp} {a b:Addr} {o:HO} (h:b≠a):upd H a o b=H b:=by unfold upd;rw [if_neg h]
theorem zoA {H:Hp} {a:Addr} {o u:HO}:upd (upd H a o) a u=upd H a u:=by
 funext b;unfold upd;split <;> rfl
theorem zaL {H:Hp} {a b:Addr} {o:HO} (h:H a=some o) (h':H b=none):a≠b:=by
 intro e;subst e;rw [h] at h';cases h'
section
variable (P:Program) (w:World)
def zcg (H:Hp) (h:Heap) (a:Addr):HO→Prop
 | .lst xs=>xs.length≤sizeLine∧∃ (its:List Value) (n:Nat),zb9 xs its∧h.get? a=some { cls:=.type "list",data:=.seq its.toArray n }
 | .tup xs=>xs.length≤sizeLine∧∃ its:List Value,zb9 xs its∧IsTup h a its.toArray
 | .dK kvs=>kvs.length≤sizeLine∧(a == sysModules)=false∧∃ vs,KV kvs vs∧h.DictOf (zi2 P w) a vs
 | .dT kvs=>kvs.length≤sizeLine∧(a == sysModules)=false∧∃ xs:List (List Key×Addr×Value),
   Paired (fun (p:List Key×V) (q:List Key×Addr×Value)=>p.1=q.1∧H q.2.1=some (.tup (p.1.map kV))∧zcF p.2 q.2.2) kvs xs ∧
   ∃ o es ep,h.get? a=some o∧o.ExactDict∧o.data=.dict es ep∧es.toList=xs.map (entryOfKey (tupleKind (zi2 P w)))∧(xs.map (·.1)).Nodup
 | .set S n=>h.SetOf (intKind P w) a S n
 | .ins C dx fs=>H dx=some (.own a)∧fs.length≤1000∧dx≠a∧h.get? a=some (PySem.W.instObj C dx) ∧
   ∃ mA,h.Ns1 dx mA∧(∀ f,znz (fs.lookup f) (mA f))∧PySem.Within mA (fs.map (·.1))
 | .own _=>∃ o,h.get? a=some o
 | .xd fs=>∃ mA,h.Ns1 a mA∧∀ f,znz (fs.lookup f) (mA f)
 | .rng lo hi=>∃ t u v,h.get? a=some { cls:=.type "range",data:=.fields #[.int lo t,.int hi u,.int 1 v] }
 | .frz o u=>h.get? a=some o∧zcg H h a u
 | .tbl ps=>h.get? a=some { cls:=.none,data:=.fields ps }
 | .met f x=>h.get? a=some (PySem.W.methodObj (.ref f) (.ref x))
 | .ext φ=>φ h∧(∃ o,h.get? a=some o)∧∀ h1 h2:Heap,φ h1→(∀ o,h1.get? a=some o→h2.get? a=some o)→φ h2
def HOk (H:Hp) (h:Heap):Prop:=∀ a o,H a=some o→zcg P w H h a o
end
section
variable {P:Program} {w:World} {H H':Hp} {h h':Heap} {a:Addr} {o:HO}
theorem zcg.lt (x:zcg P w H h a o):a<h.objs.size:=by
 cases o with
 | lst xs=>obtain ⟨_,_,_,_,e⟩:=x;exact Heap.lt_size e
 | tup xs=>obtain ⟨_,_,_,p⟩:=x;exact p.lt
 | dK kvs=>obtain ⟨_,_,_,_,o,_,_,e,_⟩:=x;exact Heap.lt_size e
 | dT kvs=>obtain ⟨_,_,_,_,o,_,_,e,_⟩:=x;exact Heap.lt_size e
 | set S n=>obtain ⟨o,_,_,_,e,_⟩:=x;exact Heap.lt_size e
 | ins C dx fs=>obtain ⟨_,_,_,e,_⟩:=x;exact Heap.lt_size e
 | own y=>obtain ⟨_,e⟩:=x;exact Heap.lt_size e
 | xd fs=>obtain ⟨_,⟨_,_,_,e,_⟩,_⟩:=x;exact Heap.lt_size e
 | rng lo hi=>obtain ⟨_,_,_,e⟩:=x;exact Heap.lt_size e
 | frz ob u=>obtain ⟨e,_⟩:=x;exact Heap.lt_size e
 | tbl ps=>exact Heap.lt_size (show h.get? a=some _ from x)
 | met f y=>exact Heap.lt_size (show h.get? a=some _ from x)
 | ext φ=>obtain ⟨_,⟨_,e⟩,_⟩:=x;exact Heap.lt_size e
theorem Paired.mapP {α β:Type} {F G:α→β→Prop}:∀ {l₁:List α} {l₂:List β},Paired F l₁ l₂→(∀ a b,F a b→G a b)→Paired G l₁ l₂
 | _,_,.nil,_=>.nil
 | _,_,.cons r t,f=>.cons (f _ _ r) (Paired.mapP t f)
theorem zcg.stay (x:zcg P w H h a o) (k:∀ b u,(b=a∨H b=some (.own a))→h.get? b=some u→h'.get? b=some u)
  (ho:∀ b,H b=some (.own a)→H' b=some (.own a)) (ht:∀ b xs,H b=some (.tup xs)→H' b=some (.tup xs)):zcg P w H' h' a o:=by
 induction o with
 | lst xs=>obtain ⟨z,its,n,r,e⟩:=x;exact ⟨z,its,n,r,k _ _ (.inl rfl) e⟩
 | tup xs=>obtain ⟨z,its,r,ob,e,c⟩:=x;exact ⟨z,its,r,ob,k _ _ (.inl rfl) e,c⟩
 | dK kvs=>obtain ⟨z,y,vs,r,ob,es,ep,e,c⟩:=x;exact ⟨z,y,vs,r,ob,es,ep,k _ _ (.inl rfl) e,c⟩
 | dT kvs =>
  obtain ⟨z,y,xs,r,ob,es,ep,e,c⟩:=x
  exact ⟨z,y,xs,Paired.mapP r fun p q z=>⟨z.1,ht _ _ z.2.1,z.2.2⟩,ob,es,ep,k _ _ (.inl rfl) e,c⟩
 | set S n=>obtain ⟨ob,es,ep,t,e,c⟩:=x;exact ⟨ob,es,ep,t,k _ _ (.inl rfl) e,c⟩
 | ins C dx fs =>
  obtain ⟨d,z,ne,e,mA,⟨od,es,ep,e2,c⟩,r⟩:=x
  exact ⟨ho _ d,z,ne,k _ _ (.inl rfl) e,mA,⟨od,es,ep,k _ _ (.inr d) e2,c⟩,r⟩
 | own y=>obtain ⟨ob,e⟩:=x;exact ⟨ob,k _ _ (.inl rfl) e⟩
 | xd fs=>obtain ⟨mA,⟨od,es,ep,e,c⟩,r⟩:=x;exact ⟨mA,⟨od,es,ep,k _ _ (.inl rfl) e,c⟩,r⟩
 | rng lo hi=>obtain ⟨t,u,v,e⟩:=x;exact ⟨t,u,v,k _ _ (.inl rfl) e⟩
 | frz ob u ih=>obtain ⟨e,q⟩:=x;exact ⟨k _ _ (.inl rfl) e,ih q⟩
 | tbl ps =>
  have e:h.get? a=some { cls:=.none,data:=.fields ps }:=x
  show h'.get? a=some { cls:=.none,data:=.fields ps }
  exact k a _ (.inl rfl) e
 | met f y =>
  have e:h.get? a=some (PySem.W.methodObj (.ref f) (.ref y)):=x
  show h'.get? a=some (PySem.W.methodObj (.ref f) (.ref y))
  exact k a _ (.inl rfl) e
 | ext φ=>obtain ⟨p,⟨o,e⟩,st⟩:=x;exact ⟨st _ _ p fun o q=>k _ _ (.inl rfl) q,⟨o,k _ _ (.inl rfl) e⟩,st⟩
theorem HOk.lt (x:HOk P w H h) (e:H a=some o):a<h.objs.size:=(x a o e).lt
theorem HOk.fresh (x:HOk P w H h) (e:h.objs.size≤a):H a=none:=by
 cases q:H a with
 | none=>rfl
 | some u=>exact absurd (Nat.lt_of_lt_of_le (x.lt q) e) (Nat.lt_irrefl _)
theorem HOk.kept (x:HOk P w H h) (k:∀ b u,h.get? b=some u→h'.get? b=some u):HOk P w H h':=fun a o e =>
 (x a o e).stay (fun b u _ q=>k b u q) (fun _ q=>q) fun _ _ q=>q
theorem HOk.laid (x:HOk P w H h) (k:∀ b u,h.get? b=some u→h'.get? b=some u) (hp:h.objs.size≤a) (new:zcg P w (upd H a o) h' a o):HOk P w (upd H a o) h':=fun b u e=>by
 have hn:=x.fresh hp
 by_cases hb:b=a
 ·subst hb;rw [zae] at e;cases e;exact new
 ·rw [zap hb] at e
  exact (x b u e).stay (fun c v _ q=>k c v q) (fun c q=>by rw [zap (zaL q hn)];exact q) fun c xs q=>by rw [zap (zaL q hn)];exact q
end
def Rd (H:Hp) (a:Addr) (u:HO):Prop:=H a=some u∨∃ o,H a=some (.frz o u)
theorem Rd.ok {P:Program} {w:World} {H:Hp} {h:Heap} {a:Addr} {u:HO} (r:Rd H a u) (x:HOk P w H h):zcg P w H h a u:=by
 rcases r with r | ⟨o,r⟩
 ·exact x a u r
 ·obtain ⟨_,q⟩:=x a _ r
  exact q
def Mut:Option HO→Prop
 | some (.lst _)=>True
 | some (.dK _)=>True
 | some (.dT _)=>True
 | some (.set _ _)=>True
 | some (.ins _ _ _)=>True
 | some (.ext _)=>True
 | _=>False
section
variable {P:Program} {w:World} {H:Hp} {h h':Heap} {x e:Addr} {o':HO}
theorem HOk.write (ok:HOk P w H h) (mu:Mut (H x)) (he:e=x∨H e=some (.own x)) (k:∀ b u,b≠e→h.get? b=some u→h'.get? b=some u) (heo:∃ u,h'.get? e=some u)
  (new:zcg P w (upd H x o') h' x o'):HOk P w (upd H x o') h':=fun b u q=>by
 have nown:∀ c y,H c=some (.own y)→c≠x:=fun c y r z=>by subst z;rw [r] at mu;exact mu
 have ntup:∀ c xs,H c=some (.tup xs)→c≠x:=fun c xs r z=>by subst z;rw [r] at mu;exact mu
 by_cases hb:b=x
 ·subst hb;rw [zae] at q;cases q;exact new
 ·rw [zap hb] at q
  by_cases hbe:b=e
  ·have q':H b=some (.own x):=by
    rcases he with z | z
    ·exact absurd (hbe.trans z) hb
    ·rw [hbe];exact z
   rw [q] at q';cases q'
   obtain ⟨v,hv⟩:=heo
   exact ⟨v,by rw [hbe];exact hv⟩
  ·refine (ok b u q).stay (fun c v hc r=>k c v ?_ r) (fun c r=>by rw [zap (nown c b r)];exact r) fun c xs r=>by rw [zap (ntup c xs r)];exact r
   rcases hc with rfl | hc
   ·exact hbe
   ·rintro rfl
    rcases he with z | z
    ·exact nown c b hc z
    ·rw [hc] at z;cases z;exact hb rfl
end
structure Un (fs ex:List Addr) (H H':Hp) (h h':Heap):Prop where
 keep:∀ b o,h.get? b=some o→H b=none→b∉fs→b∉ex→h'.get? b=some o
 slot:∀ b o,h.get? b=some o→H b=none→b∈fs→b∉ex→∃ sl,h'.get? b=some { o with slots:=sl }
 free:∀ b o,h.get? b=some o→H b=none→b∉ex→H' b=none
 there:∀ b o,h.get? b=some o→b∉ex→∃ o',h'.get? b=some o'
 tups:∀ b xs,H b=some (.tup xs)→H' b=some (.tup xs)
 frzs:∀ b o u,H b=some (.frz o u)→H' b=some (.frz o u)
 tbls:∀ b ps,H b=some (.tbl ps)→∃ more,H' b=some (.tbl (ps++more))
section
variable {fs fs' ex ex':List Addr} {H H1 H2:Hp} {h h1 h2 h':Heap} {a x e:Addr} {o:HO}
theorem Un.any (u:Un fs ex H H1 h h1) {b:Addr} {ob:Obj} (q:h.get? b=some ob) (n:H b=none) (hx:b∉ex):∃ sl,h1.get? b=some { ob with slots:=sl }:=by
 by_cases hb:b∈fs
 ·exact u.slot b ob q n hb hx
 ·exact ⟨ob.slots,u.keep b ob q n hb hx⟩
theorem Un.kept (k:∀ b u,h.get? b=some u→h'.get? b=some u):Un fs ex H H h h' :=
 ⟨fun b ob q _ _ _=>k b ob q,fun b ob q _ _ _=>⟨ob.slots,k b ob q⟩,fun _ _ _ n _=>n,fun b ob q _=>⟨ob,k b ob q⟩,fun _ _ q=>q,fun _ _ _ q=>q,fun _ ps q=>⟨#[],by rw [q];simp⟩⟩
theorem Un.refl:Un fs ex H H h h:=Un.kept fun _ _ q=>q
theorem Un.laid (k:∀ b u,h.get? b=some u→h'.get? b=some u) (hp:h.objs.size≤a) (hn:H a=none):Un fs ex H (upd H a o) h h' where
 keep:=fun b u q _ _ _=>k b u q
 slot:=fun b u q _ _ _=>⟨u.slots,k b u q⟩
 free:=fun b u q n _=>by rw [zap (Nat.ne_of_lt (Nat.lt_of_lt_of_le (Heap.lt_size q) hp))];exact n
 there:=fun b u q _=>⟨u,k b u q⟩
 tups:=fun b xs q=>by rw [zap (zaL q hn)];exact q
 frzs:=fun b u xs q=>by rw [zap (zaL q hn)];exact q
 tbls:=fun b ps q=>⟨#[],by rw [zap (zaL q hn),q];simp⟩
theorem Un.write (mu:Mut (H x)) (he:e=x∨H e=some (.own x)) (k:∀ b u,b≠e→h.get? b=some u→h'.get? b=some u) (heo:∃ u,h'.get? e=some u):Un fs ex H (upd H x o) h h':=by
 have hx:∀ b,H b=none→b≠x:=fun b n z=>by subst z;rw [n] at mu;exact mu
 have hb:∀ b,H b=none→b≠e:=fun b n z=>by
  subst z
  rcases he with r | r
  ·exact hx b n r
  ·rw [n] at r;cases r
 have hm:∀ b u,H b=some u→¬ Mut (some u)→b≠x:=fun b u q nm z=>by subst z;rw [q] at mu;exact nm mu
 refine ⟨fun b u q n _ _=>k b u (hb b n) q,fun b u q n _ _=>⟨u.slots,k b u (hb b n) q⟩,fun b u q n _=>by rw [zap (hx b n)];exact n,fun b u q _=>?_,
  fun b xs q=>by rw [zap (hm b _ q fun z=>z)];exact q,fun b u xs q=>by rw [zap (hm b _ q fun z=>z)];exact q,fun b ps q=>⟨#[],by rw [zap (hm b _ q fun z=>z),q];simp⟩⟩
 by_cases hbe:b=e
 ·subst hbe;exact heo
 ·exact ⟨u,k b u hbe q⟩
end
def trk (h:Heap) (H:Hp):List Addr:=(List.range h.objs.size).filter fun a=>(H a).isSome
def zkC (h:Heap) (H:Hp):Heap:=PySem.W.hideAll h (trk h H)
theorem zkL (h:Heap) (H:Hp):(zkC h H).objs.size=h.objs.size:=PySem.W.hideAll_size _ _
theorem zlW {h:Heap} {H:Hp} {b:Addr} {o:Obj} (e:h.get? b=some o) (n:H b=none):(zkC h H).get? b=some o :=
 PySem.W.hideAll_get _ e fun hm=>by
  have q:(H b).isSome=true:=(List.mem_filter.mp hm).2
  rw [n] at q;simp at q
theorem zo8 {h:Heap} {H:Hp} {b:Addr} {o:Obj} (e:(zkC h H).get? b=some o):h.get? b=some o∧H b=none:=by
 have e':h.get? b=some o:=PySem.W.of_hideAll (trk h H) e
 refine ⟨e',?_⟩
 cases q:H b with
 | none=>rfl
 | some x =>
  have hm:b∈trk h H:=List.mem_filter.mpr ⟨List.mem_range.mpr (Heap.lt_size e'),by simp [q]⟩
  have z:(zkC h H).get? b=none:=PySem.W.hideAll_none (trk h H) hm
  rw [z] at e;cases e
def zoX (g h:Heap) (L:Addr):List (Addr×Obj):=(List.range h.objs.size).filterMap fun a=>if a=L∨(g.get? a).isSome=true then none else (h.get? a).map fun o=>(a,o)
def zfq (g h:Heap) (L d:Addr):List (Addr×Obj):=(zoX g h L).filter fun p=>decide (p.1≠d)
end L2
namespace L2
open PySem PySem.Spec PyProof.Rows
structure Mod (K:PySem.W.Frag) (mg:Str→Option Value) (base:Heap):Prop where
 kin:K.In base
 glob:base.Ns mainGlobals mg
 blt:∃ mb,base.Ns builtinsNs mb∧∀ x:Str,x≠"__name__"→mb x=bootBuiltins x
 nolimit:base.NoLimit
structure Cx where
 prog:Program
 w:World
 K:PySem.W.Frag
 mg:Str→Option Value
 base:Heap
 A:Around
 N:List Str
 s₀:Shared
 H₀:Hp
 env:Env
 outer:List Env
 stack:List Env
 ex:List Addr
 fn:Str→Bool
 calm:Bool
 pn:List (Addr×Obj)
 xe:Value→Shared→Prop
def frs (l:List Env):List Addr:=l.filterMap (·.frame)
abbrev Cx.fs (X:Cx):List Addr:=frs X.outer
def Vis (sc:Scope) (x:Str):Prop:=sc.names.lookup x=some .local∨sc.names.lookup x=some .cell∨sc.names.lookup x=some .free
def Loc (sc:Scope) (x:Str):Prop:=sc.names.lookup x=some .local∨sc.names.lookup x=some .cell
def Look (env:Env) (h:Heap) (m:Str→Option Value) (x:Str) (u:Value):Prop :=
 (env.kindOf x=some .local∧m x=some u)∨((env.kindOf x=some .cell∨env.kindOf x=some .free)∧∃ c,env.cells.lookup x=some c∧h.IsCell c (some u))
structure Cx.Ok (X:Cx):Prop where
 mod:Mod X.K X.mg X.base
 kind:X.env.scope.kind=.function
 glob:X.env.globals=mainGlobals
 blt:X.env.builtins=builtinsNs
 above:X.s₀.heap.objs.size≤X.env.locals
 inj:∀ x y c,X.env.cells.lookup x=some c→X.env.cells.lookup y=some c→x=y
 has:∀ x,(X.env.kindOf x=some .cell∨X.env.kindOf x=some .free)→∃ c,X.env.cells.lookup x=some c
 cab:∀ x c,X.fn x=true→X.env.cells.lookup x=some c→X.s₀.heap.objs.size≤c
 hd:X.calm=true→X.A.handled=none
 frames:X.A.frames=some X.stack
 stk:X.stack=X.outer∨(X.stack=X.env::X.outer∧X.env.frame=some X.env.locals)
 exf:∀ b∈X.ex,b≠X.env.locals∧∀ x c,X.env.cells.lookup x=some c→c≠b
 bs:∀ b o,X.base.get? b=some o→X.s₀.heap.get? b=some o∧X.H₀ b=none
 bsz:X.base.objs.size≤X.s₀.heap.objs.size
 noex:∀ b o,X.base.get? b=some o→b∉X.ex
 exfs:∀ b∈X.ex,b∉X.fs
 funs:X.s₀.heap.FunFrames X.base X.outer
 frf:∀ b∈X.fs,X.H₀ b=none
structure Inv (X:Cx) (pins:List (Addr×Obj)) (σ:List (Option V)) (H:Hp) (s:Shared):Prop where
 ok:X.Ok
 os:s.os=X.s₀.os
 bare:AllBare s.gens
 base:Un X.fs X.ex X.H₀ H X.s₀.heap s.heap
 loc:∃ m,s.heap.Ns X.env.locals m∧∀ (i:Nat) (x:Str) (v:V),X.N[i]?=some x→σ[i]?=some (some v)→Vis X.env.scope x→∃ u,zcF v u∧Look X.env s.heap m x u
 cell:∀ x c,X.env.cells.lookup x=some c→∃ v,s.heap.IsCell c v
 free:H X.env.locals=none
 freeC:∀ x c,X.env.cells.lookup x=some c→H c=none
 pin:∀ p∈X.pn++pins,s.heap.get? p.1=some p.2∧H p.1=none∧p.1≠X.env.locals∧p.1∉X.fs∧∀ v,p.2.data≠.cell v
 hok:HOk X.prog X.w H s.heap
 len:σ.length=X.N.length
section
variable {X:Cx} {pins:List (Addr×Obj)} {σ:List (Option V)} {H H':Hp} {s:Shared} {h':Heap}
theorem Cx.Ok.nofr (ok:X.Ok) {b:Addr} {o:Obj} (e:X.base.get? b=some o):b∉X.fs:=fun hb=>by
 have:=(ok.funs.mem hb).1
 rw [e] at this;cases this
theorem Inv.bs (I:Inv X pins σ H s):∀ b o,X.base.get? b=some o→s.heap.get? b=some o∧H b=none:=fun b o e =>
 ⟨I.base.keep b o (I.ok.bs b o e).1 (I.ok.bs b o e).2 (I.ok.nofr e) (I.ok.noex b o e),I.base.free b o (I.ok.bs b o e).1 (I.ok.bs b o e).2 (I.ok.noex b o e)⟩
theorem Inv.bk (I:Inv X pins σ H s):∀ b o,X.base.get? b=some o→s.heap.get? b=some o:=fun b o e=>(I.bs b o e).1
theorem Inv.mod (I:Inv X pins σ H s):Mod X.K X.mg X.base:=I.ok.mod
theorem Inv.kIn (I:Inv X pins σ H s):X.K.In s.heap:=I.ok.mod.kin.keeps I.bk
theorem Inv.lt (I:Inv X pins σ H s):X.env.locals<s.heap.objs.size:=let ⟨_,hn,_⟩:=I.loc;hn.lt
theorem Inv.sz (I:Inv X pins σ H s):X.s₀.heap.objs.size≤s.heap.objs.size:=Nat.le_trans I.ok.above (Nat.le_of_lt I.lt)
theorem Inv.nofs (I:Inv X pins σ H s) {a:Addr} (h:s.heap.objs.size≤a):a∉X.fs:=fun hb=>by
 obtain ⟨_,o,ho,_⟩:=I.ok.funs.mem hb
 exact absurd (Nat.lt_of_lt_of_le (Heap.lt_size ho) (Nat.le_trans I.sz h)) (Nat.lt_irrefl _)
theorem Inv.cne (I:Inv X pins σ H s):∀ x c,X.env.cells.lookup x=some c→c≠X.env.locals:=fun x c e z=>by
 obtain ⟨v,o,ho,hd⟩:=I.cell x c e
 obtain ⟨m,⟨o',es,ep,ho',hd',_⟩,_⟩:=I.loc
 rw [z,ho'] at ho;cases ho;rw [hd'] at hd;cases hd
theorem Inv.funs (I:Inv X pins σ H s):s.heap.FunFrames X.base X.outer:=by
 have all:∀ (l:List Env),(∀ b∈frs l,b∈X.fs)→X.s₀.heap.FunFrames X.base l→s.heap.FunFrames X.base l:=by
  intro l
  induction l with
  | nil=>intro _ _;trivial
  | cons env r ih =>
   intro hs hl
   obtain ⟨hk,⟨L,o,hf,hn,ho,hd⟩,hr⟩:=hl
   have hL:L∈X.fs:=hs L (by unfold frs;rw [List.filterMap_cons,hf];exact List.mem_cons_self)
   obtain ⟨sl,e⟩:=I.base.slot L o ho (I.ok.frf L hL) hL fun z=>I.ok.exfs L z hL
   exact ⟨hk,⟨L,_,hf,hn,e,hd⟩,ih (fun b hb=>hs b (by unfold frs;rw [List.filterMap_cons,hf];exact List.mem_cons_of_mem _ hb)) hr⟩
 exact all X.outer (fun _ hb=>hb) I.ok.funs
theorem Inv.stack (I:Inv X pins σ H s):s.heap.FunFrames X.base X.stack:=by
 rcases I.ok.stk with e | ⟨e,hf⟩
 ·rw [e];exact I.funs
 ·rw [e]
  obtain ⟨m,hn,_⟩:=I.loc
  refine .cons (by rw [I.ok.kind];decide) hf hn ?_ I.funs
  exact Heap.get?_none_of_le (Nat.le_trans I.ok.bsz I.ok.above)
theorem Inv.stkSub (I:Inv X pins σ H s):∀ b∈frs X.stack,b∈X.env.locals::X.fs:=fun b hb=>by
 rcases I.ok.stk with e | ⟨e,hf⟩
 ·rw [e] at hb;exact List.mem_cons_of_mem _ hb
 ·rw [e] at hb
  unfold frs at hb
  rw [List.filterMap_cons,hf] at hb
  exact hb
theorem Inv.stkFree (I:Inv X pins σ H s):∀ b∈frs X.stack,H b=none:=fun b hb=>by
 rcases List.mem_cons.mp (I.stkSub b hb) with e | hb
 ·rw [e];exact I.free
 ·obtain ⟨_,o,ho,_⟩:=I.ok.funs.mem hb
  exact I.base.free b o ho (I.ok.frf b hb) fun z=>I.ok.exfs b z hb
theorem Inv.step {g':Array GenState} {t':Nat} {d':Drawn} {ch:List Addr} (I:Inv X pins σ H s)
  (hch:∀ b∈ch,(b∈X.ex∨X.s₀.heap.objs.size≤b)∧b≠X.env.locals∧(∀ x c,X.env.cells.lookup x=some c→c≠b)∧∀ p∈X.pn++pins,p.1≠b)
  (keep:∀ b o,b≠X.env.locals→b∉X.fs→b∉ch→s.heap.get? b=some o→H b=none→h'.get? b=some o)
  (slot:∀ b o,b≠X.env.locals→b∈X.fs→b∉ch→s.heap.get? b=some o→H b=none→∃ sl,h'.get? b=some { o with slots:=sl }) (free:∀ b o,b∉ch→s.heap.get? b=some o→H b=none→H' b=none)
  (there:∀ b o,b∉ch→s.heap.get? b=some o→∃ o',h'.get? b=some o')
  (tups:∀ b xs,H b=some (.tup xs)→H' b=some (.tup xs)) (frzs:∀ b o u,H b=some (.frz o u)→H' b=some (.frz o u)) (tbls:∀ b ps,H b=some (.tbl ps)→∃ more,H' b=some (.tbl (ps++more)))
  (ns:∀ m,s.heap.Ns X.env.locals m→h'.Ns X.env.locals m) (hok:HOk X.prog X.w H' h') (hg:AllBare g') :
  Inv X pins σ H' { s with heap:=h',gens:=g',drawn:=d',toks:=t' }:=by
 have neL:∀ b o,X.s₀.heap.get? b=some o→b≠X.env.locals:=fun b o e=>Nat.ne_of_lt (Nat.lt_of_lt_of_le (Heap.lt_size e) I.ok.above)
 have neC:∀ b o,X.s₀.heap.get? b=some o→b∉X.ex→b∉ch:=fun b o e hx hb=>by
  rcases (hch b hb).1 with z | z
  ·exact hx z
  ·exact absurd (Nat.lt_of_lt_of_le (Heap.lt_size e) z) (Nat.lt_irrefl _)
 have cellK:∀ x c,X.env.cells.lookup x=some c→∀ v,s.heap.IsCell c v→h'.IsCell c v:=fun x c e v ⟨o,ho,hd⟩=>by
  have nch:c∉ch:=fun z=>(hch c z).2.2.1 x c e rfl
  by_cases hc:c∈X.fs
  ·obtain ⟨sl,q⟩:=slot c o (I.cne x c e) hc nch ho (I.freeC x c e)
   exact ⟨_,q,hd⟩
  ·exact ⟨o,keep c o (I.cne x c e) hc nch ho (I.freeC x c e),hd⟩
 refine ⟨I.ok,I.os,hg,⟨fun b o e n hb hx=>?_,fun b o e n hb hx=>?_,fun b o e n hx=>?_,fun b o e hx=>?_,fun b xs e=>tups b xs (I.base.tups b xs e),fun b o xs e=>frzs b o xs (I.base.frzs b o xs e),fun b ps e=>?_⟩,?_,fun x c e=>?_,?_,fun x c e=>?_,fun p hp=>?_,hok,I.len⟩
 ·exact keep b o (neL b o e) hb (neC b o e hx) (I.base.keep b o e n hb hx) (I.base.free b o e n hx)
 ·obtain ⟨sl,e1⟩:=I.base.slot b o e n hb hx
  obtain ⟨sl',e2⟩:=slot b _ (neL b o e) hb (neC b o e hx) e1 (I.base.free b o e n hx)
  exact ⟨sl',e2⟩
 ·obtain ⟨o',e1⟩:=I.base.there b o e hx
  exact free b o' (neC b o e hx) e1 (I.base.free b o e n hx)
 ·obtain ⟨o',e1⟩:=I.base.there b o e hx
  exact there b o' (neC b o e hx) e1
 ·obtain ⟨m1,e1⟩:=I.base.tbls b ps e
  obtain ⟨m2,e2⟩:=tbls b _ e1
  exact ⟨m1++m2,by rw [e2,Array.append_assoc]⟩
 ·obtain ⟨m,hn,hl⟩:=I.loc
  refine ⟨m,ns m hn,fun i x v e1 e2 e3=>?_⟩
  obtain ⟨u,r,l⟩:=hl i x v e1 e2 e3
  refine ⟨u,r,?_⟩
  rcases l with l | ⟨k,c,e,z⟩
  ·exact .inl l
  ·exact .inr ⟨k,c,e,cellK x c e _ z⟩
 ·obtain ⟨v,z⟩:=I.cell x c e
  exact ⟨v,cellK x c e v z⟩
 ·obtain ⟨m,⟨o,_,_,ho,_⟩,_⟩:=I.loc
  exact free _ o (fun z=>(hch _ z).2.1 rfl) ho I.free
 ·obtain ⟨v,o,ho,hd⟩:=I.cell x c e
  exact free c o (fun z=>(hch c z).2.2.1 x c e rfl) ho (I.freeC x c e)
 ·obtain ⟨e,n,ne,nf,d⟩:=I.pin p hp
  have nch:p.1∉ch:=fun z=>(hch p.1 z).2.2.2 p hp rfl
  exact ⟨keep p.1 p.2 ne nf nch e n,free p.1 p.2 nch e n,ne,nf,d⟩
theorem Inv.un {t':Nat} (I:Inv X pins σ H s) (u:Un X.fs [] H H' s.heap h') (hok:HOk X.prog X.w H' h'):Inv X pins σ H' { s with heap:=h',toks:=t' }:=by
 obtain ⟨m,⟨o,es,ep,ho,r⟩,_⟩:=id I.loc
 obtain ⟨sl,hL⟩:=u.any ho I.free (by simp)
 exact I.step (g':=s.gens) (d':=s.drawn) (ch:=[]) (fun _ z=>nomatch z) (fun b o _ hb _ e n=>u.keep b o e n hb (by simp)) (fun b o _ hb _ e n=>u.slot b o e n hb (by simp)) (fun b o _ e n=>u.free b o e n (by simp)) (fun b o _ e=>u.there b o e (by simp)) u.tups u.frzs u.tbls (fun m' hm=>by
  obtain ⟨o',es',ep',ho',r'⟩:=hm
  rw [ho] at ho';cases ho'
  exact ⟨_,es',ep',hL,r'⟩) hok I.bare
theorem Inv.call {g':Array GenState} {t':Nat} {d':Drawn} {ch:List Addr} (I:Inv X pins σ H s) (u:Un (frs X.stack) ch H H' s.heap h') (hok:HOk X.prog X.w H' h') (hg:AllBare g')
  (hch:∀ b∈ch,(b∈X.ex∨X.s₀.heap.objs.size≤b)∧b≠X.env.locals∧(∀ x c,X.env.cells.lookup x=some c→c≠b)∧∀ p∈X.pn++pins,p.1≠b) :
  Inv X pins σ H' { s with heap:=h',gens:=g',drawn:=d',toks:=t' }:=by
 obtain ⟨m,⟨o,es,ep,ho,r⟩,_⟩:=id I.loc
 obtain ⟨sl,hL⟩:=u.any ho I.free fun z=>(hch _ z).2.1 rfl
 exact I.step (ch:=ch) hch (fun b o hL hb hc e n=>u.keep b o e n (fun z=>(List.mem_cons.mp (I.stkSub b z)).elim hL hb) hc) (fun b o _ _ hc e n=>u.any e n hc) (fun b o hc e n=>u.free b o e n hc) (fun b o hc e=>u.there b o e hc) u.tups u.frzs u.tbls (fun m' hm=>by
  obtain ⟨o',es',ep',ho',r'⟩:=hm
  rw [ho] at ho';cases ho'
  exact ⟨_,es',ep',hL,r'⟩) hok hg
theorem Inv.turned {t':Nat} {it:Addr} (I:Inv X pins σ H s) (k:∀ b o,b≠it→s.heap.get? b=some o→h'.get? b=some o) (hn:H it=none) (hL:it≠X.env.locals)
  (h1:it∈X.ex∨X.s₀.heap.objs.size≤it) (h2:∀ x c,X.env.cells.lookup x=some c→c≠it) (h3:∀ p∈X.pn++pins,p.1≠it):Inv X pins σ H { s with heap:=h',toks:=t' }:=by
 have nit:∀ b u,H b=some u→b≠it:=fun b u e z=>by rw [z,hn] at e;cases e
 refine I.step (g':=s.gens) (d':=s.drawn) (ch:=[it]) (fun b hb=>?_) (fun b o _ _ hc e _=>k b o (fun z=>hc (by simp [z])) e) (fun b o _ _ hc e _=>⟨o.slots,k b o (fun z=>hc (by simp [z])) e⟩) (fun _ _ _ _ n=>n)
  (fun b o hc e=>⟨o,k b o (fun z=>hc (by simp [z])) e⟩) (fun _ _ e=>e) (fun _ _ _ e=>e) (fun b ps e=>⟨#[],by rw [e];simp⟩) (fun m hm=>?_) (fun b u e=>?_) I.bare
 ·have e:b=it:=by simpa using hb
  subst e
  exact ⟨h1,hL,h2,h3⟩
 ·obtain ⟨o,es,ep,ho,r⟩:=hm
  exact ⟨o,es,ep,k _ o (Ne.symm hL) ho,r⟩
 ·refine (I.hok b u e).stay (fun c v hc q=>k c v ?_ q) (fun _ q=>q) fun _ _ q=>q
  rcases hc with z | z
  ·rw [z];exact nit b u e
  ·exact nit c _ z
theorem Inv.tok (I:Inv X pins σ H s) (t:Nat):Inv X pins σ H { s with toks:=t }:=I.un (h':=s.heap) (t':=t) Un.refl I.hok
theorem Inv.kept {t':Nat} (I:Inv X pins σ H s) (k:∀ b u,s.heap.get? b=some u→h'.get? b=some u):Inv X pins σ H { s with heap:=h',toks:=t' }:=I.un (Un.kept k) (I.hok.kept k)
theorem Inv.laid {a:Addr} {o:HO} {t':Nat} (I:Inv X pins σ H s) (k:∀ b u,s.heap.get? b=some u→h'.get? b=some u) (hp:s.heap.objs.size≤a) (new:zcg X.prog X.w (upd H a o) h' a o) :
  Inv X pins σ (upd H a o) { s with heap:=h',toks:=t' }:=I.un (Un.laid k hp (I.hok.fresh hp)) (I.hok.laid k hp new)
theorem Inv.write {x e:Addr} {o:HO} {t':Nat} (I:Inv X pins σ H s) (mu:Mut (H x)) (he:e=x∨H e=some (.own x)) (k:∀ b u,b≠e→s.heap.get? b=some u→h'.get? b=some u) (heo:∃ u,h'.get? e=some u)
  (new:zcg X.prog X.w (upd H x o) h' x o):Inv X pins σ (upd H x o) { s with heap:=h',toks:=t' }:=I.un (Un.write mu he k heo) (I.hok.write mu he k heo new)
theorem Inv.pins_of {pins':List (Addr×Obj)} (I:Inv X pins σ H s) (h:∀ p∈pins',s.heap.get? p.1=some p.2∧H p.1=none∧p.1≠X.env.locals∧p.1∉X.fs∧∀ v,p.2.data≠.cell v):Inv X pins' σ H s :=
 ⟨I.ok,I.os,I.bare,I.base,I.loc,I.cell,I.free,I.freeC,fun p hp=>(List.mem_append.mp hp).elim (fun z=>I.pin p (List.mem_append_left _ z)) (h p),I.hok,I.len⟩
theorem zgL {N:List Str} (hN:N.Nodup) {i j:Nat} {x:Str} (a:N[i]?=some x) (b:N[j]?=some x):i=j:=by
 obtain ⟨h1,e1⟩:=List.getElem?_eq_some_iff.mp a
 obtain ⟨h2,e2⟩:=List.getElem?_eq_some_iff.mp b
 exact (List.getElem_inj hN).mp (e1.trans e2.symm)
theorem zib {M:Model} {A:Around} {E:Value→Shared→Prop} {i:Nat} {x:Str} {v:V} {u:Value} {Q:Unit→Shared→Prop} (I:Inv X pins σ H s) (hN:X.N.Nodup) (hi:X.N[i]?=some x) (hx:Loc X.env.scope x) (r:zcF v u)
  (h:∀ s',Inv X pins (σ.set i (some v)) H s'→(∃ a,Heap.SameBut a s.heap s'.heap∧(a=X.env.locals∨X.env.cells.lookup x=some a))→Q () s') (hf:X.fn x=true∨X.env.scope.names.lookup x=some .local:=by first | exact .inl rfl | exact .inr rfl | assumption):wpAny M A (storeName X.env x u) Q E s:=by
 obtain ⟨m,hn,hl⟩:=id I.loc
 have hcls:(X.env.scope.kind == .class || (X.env.scope.kind == .module&&X.env.locals != X.env.globals))=false:=by rw [I.ok.kind];rfl
 have hiσ:i<σ.length:=by rw [I.len];exact (List.getElem?_eq_some_iff.mp hi).1
 have cne:=I.cne
 have tracked:∀ {a:Addr} {h':Heap},(∃ o,s.heap.get? a=some o∧H a=none)→Heap.SameBut a s.heap h'→HOk X.prog X.w H h':=fun {a h'} ha hs b ob e=>by
  obtain ⟨_,_,hfree⟩:=ha
  refine (I.hok b ob e).stay (fun c w' hc q=>(hs.2 c ?_).trans q) (fun _ q=>q) fun _ _ q=>q
  rintro rfl
  rcases hc with rfl | hc
  ·rw [hfree] at e;cases e
  ·rw [hfree] at hc;cases hc
 rcases hx with hk | hk
 ·refine wpAny_storeName_local hk hn (fun h' hn' hs=>?_) hcls
  obtain ⟨oL,_,_,hoL,_⟩:=id hn
  refine h _ ⟨I.ok,I.os,I.bare,⟨fun b o e n hb hx=>?_,fun b o e n hb hx=>?_,I.base.free,fun b o e hx=>?_,I.base.tups,I.base.frzs,I.base.tbls⟩,⟨_,hn',fun j y v' e1 e2 e3=>?_⟩,fun y c e=>?_,I.free,I.freeC,fun p hp=>?_,tracked ⟨oL,hoL,I.free⟩ hs,by simpa using I.len⟩ ⟨_,hs,.inl rfl⟩
  ·exact (hs.2 b (Nat.ne_of_lt (Nat.lt_of_lt_of_le (Heap.lt_size e) I.ok.above))).trans (I.base.keep b o e n hb hx)
  ·obtain ⟨sl,e1⟩:=I.base.slot b o e n hb hx
   exact ⟨sl,(hs.2 b (Nat.ne_of_lt (Nat.lt_of_lt_of_le (Heap.lt_size e) I.ok.above))).trans e1⟩
  ·obtain ⟨o',e1⟩:=I.base.there b o e hx
   exact ⟨o',(hs.2 b (Nat.ne_of_lt (Nat.lt_of_lt_of_le (Heap.lt_size e) I.ok.above))).trans e1⟩
  ·by_cases hj:j=i
   ·subst hj
    rw [hi] at e1;cases e1
    rw [List.getElem?_set_self hiσ] at e2
    cases e2
    exact ⟨u,r,.inl ⟨hk,by simp⟩⟩
   ·rw [List.getElem?_set_ne (Ne.symm hj)] at e2
    obtain ⟨u',r',q⟩:=hl j y v' e1 e2 e3
    refine ⟨u',r',?_⟩
    rcases q with ⟨k,e⟩ | ⟨k,c,e,z⟩
    ·refine .inl ⟨k,?_⟩
     have:y≠x:=fun e=>hj (zgL hN e1 (e ▸ hi))
     simp [this,e]
    ·exact .inr ⟨k,c,e,z.sameBut hs (cne y c e)⟩
  ·obtain ⟨w',z⟩:=I.cell y c e
   exact ⟨w',z.sameBut hs (cne y c e)⟩
  ·obtain ⟨e,n,ne,nf,d⟩:=I.pin p hp
   exact ⟨(hs.2 p.1 ne).trans e,n,ne,nf,d⟩
 ·have hfn:X.fn x=true:=by
   rcases hf with z | z
   ·exact z
   ·rw [z] at hk;cases hk
  obtain ⟨c,hc⟩:=I.ok.has x (.inl hk)
  obtain ⟨w',z⟩:=I.cell x c hc
  refine wpAny_storeName_cell I.ok.kind hk hc z (fun h' hc' hs=>?_)
  obtain ⟨oc,hoc,hocd⟩:=id z
  refine h { s with heap:=h' } ⟨I.ok,I.os,I.bare,⟨fun b o e n hb hx=>?_,fun b o e n hb hx=>?_,I.base.free,fun b o e hx=>?_,I.base.tups,I.base.frzs,I.base.tbls⟩,⟨m,hn.sameBut hs (Ne.symm (cne x c hc)),fun j y v' e1 e2 e3=>?_⟩,fun y c' e=>?_,I.free,I.freeC,fun p hp=>?_,tracked ⟨oc,hoc,I.freeC x c hc⟩ hs,by simpa using I.len⟩ ⟨c,hs,.inr hc⟩
  ·exact (hs.2 b (Nat.ne_of_lt (Nat.lt_of_lt_of_le (Heap.lt_size e) (I.ok.cab x c hfn hc)))).trans (I.base.keep b o e n hb hx)
  ·obtain ⟨sl,e1⟩:=I.base.slot b o e n hb hx
   exact ⟨sl,(hs.2 b (Nat.ne_of_lt (Nat.lt_of_lt_of_le (Heap.lt_size e) (I.ok.cab x c hfn hc)))).trans e1⟩
  ·obtain ⟨o',e1⟩:=I.base.there b o e hx
   exact ⟨o',(hs.2 b (Nat.ne_of_lt (Nat.lt_of_lt_of_le (Heap.lt_size e) (I.ok.cab x c hfn hc)))).trans e1⟩
  ·by_cases hj:j=i
   ·subst hj
    rw [hi] at e1;cases e1
    rw [List.getElem?_set_self hiσ] at e2
    cases e2
    exact ⟨u,r,.inr ⟨.inl hk,c,hc,hc'⟩⟩
   ·rw [List.getElem?_set_ne (Ne.symm hj)] at e2
    obtain ⟨u',r',q⟩:=hl j y v' e1 e2 e3
    refine ⟨u',r',?_⟩
    rcases q with q | ⟨k,c',e,z'⟩
    ·exact .inl q
    ·refine .inr ⟨k,c',e,z'.sameBut hs ?_⟩
     rintro rfl
     exact hj (zgL hN e1 (I.ok.inj _ _ _ e hc ▸ hi))
  ·by_cases hcc:c'=c
   ·subst hcc;exact ⟨_,hc'⟩
   ·obtain ⟨w2,z2⟩:=I.cell y c' e
    exact ⟨w2,z2.sameBut hs hcc⟩
  ·obtain ⟨e,n,ne,nf,d⟩:=I.pin p hp
   refine ⟨(hs.2 p.1 ?_).trans e,n,ne,nf,d⟩
   intro q
   rw [q,hoc] at e
   have q':oc=p.2:=Option.some.inj e
   exact d w' (by rw [← q'];exact hocd)
theorem zhh {M:Model} {A:Around} {E:Value→Shared→Prop} {i:Nat} {x:Str} {v:V} {u:Value} {Q:Unit→Shared→Prop} (I:Inv X pins σ H s) (hN:X.N.Nodup) (hi:X.N[i]?=some x) (hx:Loc X.env.scope x) (r:zcF v u)
  (h:∀ s',Inv X pins (σ.set i (some v)) H s'→Q () s') (hf:X.fn x=true∨X.env.scope.names.lookup x=some .local:=by first | exact .inl rfl | exact .inr rfl | assumption):wpAny M A (storeName X.env x u) Q E s :=
 zib I hN hi hx r (fun s' I' _=>h s' I') hf
theorem Inv.call' {s':Shared} {ch:List Addr} (I:Inv X pins σ H s) (ho:s'.os=s.os) (u:Un (frs X.stack) ch H H' s.heap s'.heap) (hok:HOk X.prog X.w H' s'.heap) (hg:AllBare s'.gens)
  (hch:∀ b∈ch,(b∈X.ex∨X.s₀.heap.objs.size≤b)∧b≠X.env.locals∧(∀ x c,X.env.cells.lookup x=some c→c≠b)∧∀ p∈X.pn++pins,p.1≠b):Inv X pins σ H' s':=by
 obtain ⟨h',g',d',t',o'⟩:=s'
 have e:o'=s.os:=ho
 subst e
 exact I.call (g':=g') (t':=t') (d':=d') u hok hg hch
end
abbrev XK:=Value→Option Addr→Hp→Prop
abbrev St:=List (Option V)
abbrev VK:=V→Hp→Prop
abbrev TE:=St→Hp→VK→Prop
abbrev TT:=St→Hp→(Bool→Hp→Prop)→Prop
abbrev TA:=St→Hp→(List V→Hp→Prop)→Prop
structure zcd where
 nx:St→Hp→Prop
 rt:VK
 bk:St→Hp→Prop:=fun _ _=>False
 ct:St→Hp→Prop:=fun _ _=>False
abbrev TS:=zcd→St→Hp→Prop
def EP (X:Cx) (pins:List (Addr×Obj)) (σ:St) (Q:VK) (u:Value) (s':Shared):Prop:=∃ v H',Inv X pins σ H' s'∧zcF v u∧Q v H'
def TP (X:Cx) (pins:List (Addr×Obj)) (σ:St) (Q:Bool→Hp→Prop) (b:Bool) (s':Shared):Prop:=∃ H',Inv X pins σ H' s'∧Q b H'
def AP (X:Cx) (pins:List (Addr×Obj)) (σ:St) (Q:List V→Hp→Prop) (us:List Value) (s':Shared):Prop:=∃ vs H',Inv X pins σ H' s'∧zb9 vs us∧Q vs H'
def SP (X:Cx) (pins:List (Addr×Obj)) (D:zcd) (f:Flow) (s':Shared):Prop :=
 match f with
 | .next=>∃ σ' H',Inv X pins σ' H' s'∧D.nx σ' H'
 | .brk=>∃ σ' H',Inv X pins σ' H' s'∧D.bk σ' H'
 | .cont=>∃ σ' H',Inv X pins σ' H' s'∧D.ct σ' H'
 | .ret u=>∃ v σ' H',Inv X pins σ' H' s'∧zcF v u∧D.rt v H'
def PE (X:Cx) (e:Expr) (t:TE):Prop :=
 ∀ (pins:List (Addr×Obj)) (s:Shared) (σ:St) (H:Hp) (Q:VK),Inv X pins σ H s→t σ H Q→wpAny (model X.prog X.w) X.A (eval e X.env) (EP X pins σ Q) X.xe s
def PT (X:Cx) (e:Expr) (t:TT):Prop :=
 ∀ (pins:List (Addr×Obj)) (s:Shared) (σ:St) (H:Hp) (Q:Bool→Hp→Prop),Inv X pins σ H s→t σ H Q→wpAny (model X.prog X.w) X.A (isTrue e X.env (eval e X.env)) (TP X pins σ Q) X.xe s
def PW (X:Cx) (e:Expr) (t:TT):Prop :=
 ∀ (whole:Sem Value) (pins:List (Addr×Obj)) (s:Shared) (σ:St) (H:Hp) (Q:Bool→Hp→Prop),Inv X pins σ H s→t σ H Q→wpAny (model X.prog X.w) X.A (isTrue e X.env whole) (TP X pins σ Q) X.xe s
theorem PW.pt {X:Cx} {e:Expr} {t:TT} (h:PW X e t):PT X e t:=h _
def PA (X:Cx) (es:List Expr) (t:TA):Prop :=
 ∀ (pos:Pos) (pins:List (Addr×Obj)) (s:Shared) (σ:St) (H:Hp) (Q:List V→Hp→Prop),Inv X pins σ H s→t σ H Q→wpAny (model X.prog X.w) X.A (spliced (backTo pos (starEach es X.env))) (AP X pins σ Q) X.xe s
def PS (X:Cx) (st:Stmt) (t:TS):Prop :=
 ∀ (pins:List (Addr×Obj)) (s:Shared) (σ:St) (H:Hp) (D:zcd),Inv X pins σ H s→t D σ H→wpAny (model X.prog X.w) X.A (exec st X.env) (SP X pins D) X.xe s
def PSs (X:Cx) (st:List Stmt) (t:TS):Prop :=
 ∀ (pins:List (Addr×Obj)) (s:Shared) (σ:St) (H:Hp) (D:zcd),Inv X pins σ H s→t D σ H→wpAny (model X.prog X.w) X.A (execs st X.env) (SP X pins D) X.xe s
theorem thn {α:Type} {t:Sem α} {Q Q':α→Shared→Prop} {M:Model} {A:Around} {E:Value→Shared→Prop} {s:Shared} (h:wpAny M A t Q E s) (hQ:∀ a s,Q a s→Q' a s):wpAny M A t Q' E s:=wpAny_mono h hQ fun _ _ x=>x
end L2
namespace L2
open PySem PySem.Spec PyProof.Rows
section
variable {X:Cx}
def zac (i:Nat):TE:=fun σ H Q=>∃ v,σ[i]?=some (some v)∧Q v H
def tC (v:V):TE:=fun _ H Q=>Q v H
theorem zm3 {i:Nat} {x:Str} {pos:Pos} (hN:X.N[i]?=some x) (hv:Vis X.env.scope x) (hd:(x == ("__debug__":Str))=false:=by decide) (hcd:(x == ("__classdict__":Str))=false:=by decide):PE X (.Name x pos) (zac i):=by
 intro pins s σ H Q I h
 obtain ⟨v,e,h⟩:=h
 obtain ⟨m,hn,hl⟩:=I.loc
 obtain ⟨u,r,l⟩:=hl i x v hN e hv
 have fin:EP X pins σ Q u s:=⟨v,H,I,r,h⟩
 rcases l with ⟨hk,hm⟩ | ⟨hk,c,hc,hcell⟩
 ·exact wpAny_Name (wpAny_loadName_local I.ok.kind hk hn hm fin) hd
 ·rcases hk with hk | hk
  ·exact wpAny_Name (wpAny_loadName_cell I.ok.kind hk hc hcell fin) hd
  ·exact wpAny_Name (wpAny_loadName_free I.ok.kind hk hc hcell fin hcd) hd
theorem zaz {i j pos}:PE X (.Constant (.int i) j pos) (tC (.int i)):=fun _ _ _ H _ I h=>wpAny_Constant_int ⟨.int i,H,I.tok _,⟨_,rfl⟩,h⟩
theorem zkc {b j pos}:PE X (.Constant (.bool b) j pos) (tC (.bl b)):=fun _ _ _ H _ I h=>Constant_bool ⟨.bl b,H,I,rfl,h⟩
theorem zbC {j pos}:PE X (.Constant .none j pos) (tC .non):=fun _ _ _ H _ I h=>Constant_none ⟨.non,H,I,rfl,h⟩
theorem zaS {x j pos}:PE X (.Constant (.str x) j pos) (tC (.str x)):=fun _ _ _ H _ I h=>Calls.Constant_str ⟨.str x,H,I.tok _,⟨_,rfl⟩,h⟩
def Gl (X:Cx) (x:Str):Prop:=X.env.kindOf x=some .globalImplicit
theorem zeo {E:Value→Shared→Prop} {pins:List (Addr×Obj)} {s:Shared} {σ:St} {H:Hp} {x:Str} {u:Value} {pos:Pos} {Q:Value→Shared→Prop} (I:Inv X pins σ H s) (hg:Gl X x) (hm:X.mg x=some u) (h:Q u s)
  (hd:(x == ("__debug__":Str))=false:=by decide):wpAny (model X.prog X.w) X.A (eval (.Name x pos) X.env) Q E s :=
 Calls.Name_function_global I.ok.kind hg (Calls.loadGlobal_global (by rw [I.ok.glob];exact I.mod.glob.keeps I.bk) hm h) hd
theorem zgz {E:Value→Shared→Prop} {pins:List (Addr×Obj)} {s:Shared} {σ:St} {H:Hp} {x:Str} {u:Value} {pos:Pos} {Q:Value→Shared→Prop} (I:Inv X pins σ H s) (hg:Gl X x) (hm:X.mg x=none) (hv:bootBuiltins x=some u) (h:Q u s)
  (hn:x≠"__name__":=by decide) (hd:(x == ("__debug__":Str))=false:=by decide):wpAny (model X.prog X.w) X.A (eval (.Name x pos) X.env) Q E s:=by
 obtain ⟨mb,h1,h2⟩:=I.mod.blt
 exact Calls.Name_function_global I.ok.kind hg (Calls.loadGlobal_builtin (by rw [I.ok.glob];exact I.mod.glob.keeps I.bk) hm (by rw [I.ok.blt];exact h1.keeps I.bk) ((h2 x hn).trans hv) h) hd
theorem zbB {x:Str} {v:V} {u:Value} {pos:Pos} (hg:Gl X x) (hm:X.mg x=some u) (r:zcF v u) (hd:(x == ("__debug__":Str))=false:=by decide):PE X (.Name x pos) (tC v) :=
 fun _ _ _ H _ I h=>zeo I hg hm ⟨v,H,I,r,h⟩ hd
theorem zb4 {x:Str} {v:V} {u:Value} {pos:Pos} (hg:Gl X x) (hm:X.mg x=none) (hv:bootBuiltins x=some u) (r:zcF v u) (hn:x≠"__name__":=by decide) (hd:(x == ("__debug__":Str))=false:=by decide):PE X (.Name x pos) (tC v) :=
 fun _ _ _ H _ I h=>zgz I hg hm hv ⟨v,H,I,r,h⟩ hn hd
variable {a b:Expr} {ta tb:TE} {pos:Pos}
def tB (t:TE):TT:=fun σ H Q=>t σ H fun x H1=>∃ c,x=.bl c∧Q c H1
theorem zeX {e:Expr} {t:TE} (h:PE X e t) (he:∀ whole,isTrue e X.env whole=(do let v ← whole;standAt e.pos;holding [v] (truthy v)):=by intro _;rfl):PT X e (tB t):=by
 intro pins s σ H Q I hw
 refine isTrue_plain (thn (h pins s σ H _ I hw) fun v s1 hQ'=>?_) (he _)
 obtain ⟨x,H1,I1,r1,q1⟩:=hQ'
 obtain ⟨d,rfl,q⟩:=q1
 cases r1
 exact wpAny_truthy_bool ⟨H1,I1,q⟩
variable {tA tB':TT} {zfq:List Expr}
def zlO (t u:TT):TT:=fun σ H Q=>t σ H fun c H1=>if c=true then u σ H1 Q else Q false H1
def tOr (t u:TT):TT:=fun σ H Q=>t σ H fun c H1=>if c=true then Q true H1 else u σ H1 Q
def zkl (t:TT):TT:=fun σ H Q=>t σ H fun c H1=>Q (!c) H1
theorem zgI (ha:PT X a tA):PW X (.BoolOp .And [a] pos) tA:=by
 intro wh pins s σ H Q I h
 refine isTrue_and (thn (ha pins s σ H Q I h) fun c s1 e=>?_)
 cases c with
 | true=>exact isTrue_and_nil e
 | false=>exact e
theorem zdd (ha:PT X a tA):PW X (.BoolOp .Or [a] pos) tA:=by
 intro wh pins s σ H Q I h
 refine isTrue_or (thn (ha pins s σ H Q I h) fun c s1 e=>?_)
 cases c with
 | false=>exact isTrue_or_nil e
 | true=>exact e
theorem zjr (ha:PT X a tA) (hb:PW X (.BoolOp .And (b::zfq) pos) tB'):PW X (.BoolOp .And (a::b::zfq) pos) (zlO tA tB'):=by
 intro wh pins s σ H Q I h
 refine isTrue_and (thn (ha pins s σ H _ I h) fun c s1 hQ'=>?_)
 obtain ⟨H1,I1,q1⟩:=hQ'
 cases c with
 | true=>exact hb wh pins s1 σ H1 Q I1 q1
 | false=>exact ⟨H1,I1,q1⟩
theorem zd0 (ha:PT X a tA) (hb:PW X (.BoolOp .Or (b::zfq) pos) tB'):PW X (.BoolOp .Or (a::b::zfq) pos) (tOr tA tB'):=by
 intro wh pins s σ H Q I h
 refine isTrue_or (thn (ha pins s σ H _ I h) fun c s1 hQ'=>?_)
 obtain ⟨H1,I1,q1⟩:=hQ'
 cases c with
 | true=>exact ⟨H1,I1,q1⟩
 | false=>exact hb wh pins s1 σ H1 Q I1 q1
theorem zim (ha:PT X a tA):PT X (.UnaryOp .Not a pos) (zkl tA):=by
 intro pins s σ H Q I h
 exact isTrue_not (ha pins s σ H (fun c H1=>Q (!c) H1) I h)
def zdi (ta tb:TE):TE:=fun σ H Q=>ta σ H fun x H1=>∃ c,x=.bl c∧if c=true then tb σ H1 Q else Q (.bl false) H1
def zlj (ta:TE):TE:=fun σ H Q=>ta σ H fun x H1=>∃ c,x=.bl c∧Q (.bl (!c)) H1
theorem zfN {op} {t:TE} (h:PE X a t):PE X (.BoolOp op [a] pos) t:=fun pins s σ H Q I hw=>BoolOp_one (h pins s σ H Q I hw)
theorem ze0 (ha:PE X a ta) (hb:PE X (.BoolOp .And (b::zfq) pos) tb):PE X (.BoolOp .And (a::b::zfq) pos) (zdi ta tb):=by
 intro pins s σ H Q I h
 refine BoolOp_and (thn (ha pins s σ H _ I h) fun v s1 hQ'=>?_)
 obtain ⟨x,H1,I1,r1,q1⟩:=hQ'
 obtain ⟨c,rfl,q1⟩:=q1
 cases r1
 refine wpAny_truthy_bool ?_
 cases c with
 | true=>exact hb pins s1 σ H1 Q I1 q1
 | false=>exact ⟨.bl false,H1,I1,rfl,q1⟩
theorem zne (ha:PE X a ta):PE X (.UnaryOp .Not a pos) (zlj ta):=by
 intro pins s σ H Q I h
 refine UnaryOp_ (thn (ha pins s σ H _ I h) fun v s1 hQ'=>?_)
 obtain ⟨x,H1,I1,r1,q1⟩:=hQ'
 obtain ⟨c,rfl,q1⟩:=q1
 cases r1
 exact not_of (wpAny_truthy_bool ⟨.bl (!c),H1,I1,rfl,q1⟩)
def tIf (t:TT) (ta tb:TE):TE:=fun σ H Q=>t σ H fun c H1=>if c=true then ta σ H1 Q else tb σ H1 Q
theorem zeH {c:Expr} (hc:PT X c tA) (ha:PE X a ta) (hb:PE X b tb):PE X (.IfExp c a b pos) (tIf tA ta tb):=by
 intro pins s σ H Q I h
 refine wpAny_IfExp (thn (hc pins s σ H _ I h) fun d s1 hQ'=>?_)
 obtain ⟨H1,I1,q1⟩:=hQ'
 cases d with
 | true=>exact ha pins s1 σ H1 Q I1 q1
 | false=>exact hb pins s1 σ H1 Q I1 q1
end
end L2
namespace L2
open PySem PySem.Spec PyProof.Rows
def SqL (K:PySem.W.Frag) (H:Hp) (a:Addr) (xs:List V):Prop :=
 Rd H a (.lst xs) ∨
  ∃ (o:Obj) (its:Array Value) (n:Nat),K.lookup a=some o∧o.cls=.type "list"∧o.dict=none∧o.data=.seq its n∧its.size≤sizeLine∧zb9 xs its.toList
def SqT (K:PySem.W.Frag) (H:Hp) (a:Addr) (xs:List V):Prop :=
 Rd H a (.tup xs) ∨
  ∃ (o:Obj) (its:Array Value) (n:Nat),K.lookup a=some o∧o.cls=.type "tuple"∧o.data=.seq its n∧its.size≤sizeLine∧zb9 xs its.toList
def absV:Value→Option V
 | .none=>some .non
 | .bool b=>some (.bl b)
 | .int i _=>some (.int i)
 | .str x _=>some (.str x)
 | .bytes b _=>some (.byt b)
 | .float b _=>some (.flt b)
 | .ref a=>some (.ref a)
 | .type n=>some (.ty n)
 | _=>none
theorem zcF.abs {x:V} {u:Value} (r:zcF x u):absV u=some x:=by
 cases x with
 | non=>cases r;rfl
 | bl _=>cases r;rfl
 | int _=>obtain ⟨t,rfl⟩:=r;rfl
 | str _=>obtain ⟨t,rfl⟩:=r;rfl
 | byt _=>obtain ⟨t,rfl⟩:=r;rfl
 | flt _=>obtain ⟨t,rfl⟩:=r;rfl
 | ref _=>cases r;rfl
 | ty _=>cases r;rfl
theorem zcF.inj {x y:V} {u:Value} (r:zcF x u) (q:zcF y u):x=y:=Option.some.inj (r.abs.symm.trans q.abs)
theorem zb9.inj:∀ {xs ys:List V} {us:List Value},zb9 xs us→zb9 ys us→xs=ys
 | _,_,_,.nil,.nil=>rfl
 | _,_,_,.cons r t,.cons r' t'=>by rw [r.inj r',zb9.inj t t']
section
variable {X:Cx} {pins:List (Addr×Obj)} {σ:St} {H:Hp} {s:Shared} {a:Addr} {xs ys:List V}
theorem SqL.of {K:PySem.W.Frag} (h:H a=some (.lst xs)):SqL K H a xs:=.inl (.inl h)
theorem SqT.of {K:PySem.W.Frag} (h:H a=some (.tup xs)):SqT K H a xs:=.inl (.inl h)
theorem Inv.list (I:Inv X pins σ H s) (h:SqL X.K H a xs):∃ its:List Value,zb9 xs its∧PlainL s.heap a its.toArray∧xs.length≤sizeLine:=by
 rcases h with h | ⟨o,its,n,hk,hc,hd,hs,hz,r⟩
 ·obtain ⟨z,its,n,r,e⟩:=h.ok I.hok
  exact ⟨its,r,⟨_,n,e,rfl,rfl,rfl⟩,z⟩
 ·refine ⟨its.toList,r,⟨o,n,I.kIn a o hk,hc,hd,by simpa using hs⟩,?_⟩
  have e:=r.length
  simp only [Array.length_toList] at e
  (first|lia|omega)
theorem Inv.tuple (I:Inv X pins σ H s) (h:SqT X.K H a xs):∃ its:List Value,zb9 xs its∧IsTup s.heap a its.toArray∧xs.length≤sizeLine:=by
 rcases h with h | ⟨o,its,n,hk,hc,hs,hz,r⟩
 ·obtain ⟨z,its,r,p⟩:=h.ok I.hok
  exact ⟨its,r,p,z⟩
 ·refine ⟨its.toList,r,⟨o,I.kIn a o hk,hc,n,by simpa using hs⟩,?_⟩
  have e:=r.length
  simp only [Array.length_toList] at e
  (first|lia|omega)
theorem Inv.list_inj (I:Inv X pins σ H s) (h:SqL X.K H a xs) (h':SqL X.K H a ys):xs=ys:=by
 obtain ⟨its,r,⟨o,n,e,_,_,d⟩,_⟩:=I.list h
 obtain ⟨its',r',⟨o',n',e',_,_,d'⟩,_⟩:=I.list h'
 rw [e] at e';cases e'
 rw [d] at d'
 injection d' with d1 _
 have:its=its':=by simpa using congrArg Array.toList d1
 subst this
 exact r.inj r'
theorem Inv.tuple_inj (I:Inv X pins σ H s) (h:SqT X.K H a xs) (h':SqT X.K H a ys):xs=ys:=by
 obtain ⟨its,r,⟨o,e,_,n,d⟩,_⟩:=I.tuple h
 obtain ⟨its',r',⟨o',e',_,n',d'⟩,_⟩:=I.tuple h'
 rw [e] at e';cases e'
 rw [d] at d'
 injection d' with d1 _
 have:its=its':=by simpa using congrArg Array.toList d1
 subst this
 exact r.inj r'
end
abbrev Cx.wish (X:Cx) (E:Value→Shared→Prop):Cx:={ X with xe:=E }
abbrev Cx.nox (X:Cx):Cx:=X.wish fun _ _=>False
theorem Cx.Ok.wish {X:Cx} (ok:X.Ok) (E:Value→Shared→Prop):(X.wish E).Ok :=
 ⟨ok.mod,ok.kind,ok.glob,ok.blt,ok.above,ok.inj,ok.has,ok.cab,ok.hd,ok.frames,ok.stk,ok.exf,ok.bs,ok.bsz,ok.noex,ok.exfs,ok.funs,ok.frf⟩
theorem Cx.Ok.unwish {X:Cx} {E:Value→Shared→Prop} (ok:(X.wish E).Ok):X.Ok :=
 ⟨ok.mod,ok.kind,ok.glob,ok.blt,ok.above,ok.inj,ok.has,ok.cab,ok.hd,ok.frames,ok.stk,ok.exf,ok.bs,ok.bsz,ok.noex,ok.exfs,ok.funs,ok.frf⟩
section
variable {X:Cx} {pins:List (Addr×Obj)} {σ:St} {H:Hp} {s:Shared} {E:Value→Shared→Prop}
theorem Inv.wish (I:Inv X pins σ H s) (E:Value→Shared→Prop):Inv (X.wish E) pins σ H s:=⟨I.ok.wish E,I.os,I.bare,I.base,I.loc,I.cell,I.free,I.freeC,I.pin,I.hok,I.len⟩
theorem Inv.unwish (I:Inv (X.wish E) pins σ H s):Inv X pins σ H s:=⟨I.ok.unwish,I.os,I.bare,I.base,I.loc,I.cell,I.free,I.freeC,I.pin,I.hok,I.len⟩
theorem SP.unwish {D:zcd} {f:Flow} {s':Shared} (h:SP (X.wish E) pins D f s'):SP X pins D f s':=by
 cases f with
 | next=>obtain ⟨σ',H',I,q⟩:=h;exact ⟨σ',H',I.unwish,q⟩
 | brk=>obtain ⟨σ',H',I,q⟩:=h;exact ⟨σ',H',I.unwish,q⟩
 | cont=>obtain ⟨σ',H',I,q⟩:=h;exact ⟨σ',H',I.unwish,q⟩
 | ret u=>obtain ⟨v,σ',H',I,r,q⟩:=h;exact ⟨v,σ',H',I.unwish,r,q⟩
theorem PSs.nox {st:List Stmt} {t:TS} (h:PSs X.nox st t):PSs X st t:=fun pins s σ H D I hw =>
 wpAny_mono (h pins s σ H D (I.wish _) hw) (fun _ _ q=>q.unwish) fun _ _ z=>False.elim z
end
section
variable {X:Cx} {st:Stmt} {zfq:List Stmt} {t u:TS} {e:Expr} {te:TE} {pos:Pos}
def za1:TS:=fun D σ H=>D.nx σ H
def zaV (t u:TS):TS:=fun D σ H=>t { D with nx:=u D } σ H
theorem zaW:PSs X [] za1:=fun _ _ σ H _ I h=>wpAny_execs_nil ⟨σ,H,I,h⟩
theorem zaf (h1:PS X st t) (h2:PSs X zfq u):PSs X (st::zfq) (zaV t u):=by
 intro pins s σ H D I h
 refine wpAny_execs_cons (thn (h1 pins s σ H { D with nx:=u D } I h) fun f s1 q=>?_)
 cases f with
 | next =>
  obtain ⟨σ',H',I',q⟩:=q
  exact h2 pins s1 σ' H' D I' q
 | ret v=>exact q
 | brk=>exact q
 | cont=>exact q
theorem zaD (h1:PS X st t):PSs X [st] t:=by
 intro pins s σ H D I h
 refine wpAny_execs_cons (thn (h1 pins s σ H D I h) fun f s1 q=>?_)
 cases f with
 | next=>exact wpAny_execs_nil q
 | ret v=>exact q
 | brk=>exact q
 | cont=>exact q
def zoy:TS:=fun D σ H=>D.ct σ H
theorem ziH:PS X (.Continue pos) zoy:=fun _ _ σ H _ I h=>wpAny_Continue ⟨σ,H,I,h⟩
theorem Inv.quiet {pins:List (Addr×Obj)} {σ:St} {H:Hp} {s:Shared} (I:Inv X pins σ H s):interactive X.env=false:=by simp [interactive,I.ok.kind]
def zdZ (te:TE):TS:=fun D σ H=>te σ H fun _ H1=>D.nx σ H1
theorem zen (he:PE X e te) (hs:swapsWith e none pos.line X.env=pure false:=by rfl):PS X (.Expr e pos) (zdZ te):=by
 intro pins s σ H D I h
 exact wpAny_Expr_any (thn (he pins s σ H _ I h) fun v s1 ⟨x,H1,I1,r1,q1⟩=>⟨σ,H1,I1,q1⟩) I.quiet hs
def zbU (te:TE):TS:=fun D σ H=>te σ H D.rt
theorem zaZ (he:PE X e te):PS X (.Return (some e) pos) (zbU te):=by
 intro pins s σ H D I h
 exact wpAny_Return_some (thn (he pins s σ H _ I h) fun v s1 ⟨x,H1,I1,r1,q1⟩=>⟨x,σ,H1,I1,r1,q1⟩)
def zb2 (c:TT) (t u:TS):TS:=fun D σ H=>c σ H fun b H1=>if b=true then t D σ H1 else u D σ H1
theorem zbW {c:Expr} {a b:List Stmt} {tc:TT} (hc:PT X c tc) (ha:PSs X a t) (hb:PSs X b u):PS X (.If c a b pos) (zb2 tc t u):=by
 intro pins s σ H D I h
 refine wpAny_If (thn (hc pins s σ H _ I h) fun d s1 hQ'=>?_)
 obtain ⟨H1,I1,q1⟩:=hQ'
 cases d with
 | true=>exact ha pins s1 σ H1 D I1 q1
 | false=>exact hb pins s1 σ H1 D I1 q1
end
abbrev TG:=V→St→Hp→(St→Hp→Prop)→Prop
abbrev TGs:=List V→St→Hp→(St→Hp→Prop)→Prop
def PG (X:Cx) (target:Expr) (t:TG):Prop :=
 ∀ (pins:List (Addr×Obj)) (s:Shared) (σ:St) (H:Hp) (v:V) (u:Value) (Q:St→Hp→Prop),Inv X pins σ H s→zcF v u→t v σ H Q →
  wpAny (model X.prog X.w) X.A (assign target X.env u) (fun _ s'=>∃ σ' H',Inv X pins σ' H' s'∧Q σ' H') X.xe s
def PGs (X:Cx) (ts:List Expr) (t:TGs):Prop :=
 ∀ (pins:List (Addr×Obj)) (s:Shared) (σ:St) (H:Hp) (vs:List V) (us:List Value) (Q:St→Hp→Prop),Inv X pins σ H s→zb9 vs us→t vs σ H Q →
  wpAny (model X.prog X.w) X.A (assignInOrder ((assignEach ts X.env).map (·.2)) us) (fun _ s'=>∃ σ' H',Inv X pins σ' H' s'∧Q σ' H') X.xe s
section
variable {X:Cx} {pos:Pos}
def zaC (i:Nat):TG:=fun v σ H Q=>Q (σ.set i (some v)) H
theorem zbm {i:Nat} {x:Str} (hN:X.N.Nodup) (hi:X.N[i]?=some x) (hx:Loc X.env.scope x) (hf:X.fn x=true∨X.env.scope.names.lookup x=some .local:=by first | exact .inl rfl | exact .inr rfl | assumption):PG X (.Name x pos) (zaC i):=by
 intro pins s σ H v u Q I r h
 exact wpAny_assign_Name (zhh I hN hi hx r (fun s' I'=>⟨_,H,I',h⟩) hf)
def zlU:TGs:=fun vs σ H Q=>vs=[]∧Q σ H
def zdw (t:TG) (u:TGs):TGs:=fun vs σ H Q=>∃ v r,vs=v::r∧t v σ H fun σ' H'=>u r σ' H' Q
theorem zfG:PGs X [] zlU:=by
 intro pins s σ H vs us Q I r h
 obtain ⟨e,h⟩:=h
 subst e
 cases r
 exact assignInOrder_nil ⟨σ,H,I,h⟩
theorem zcC {e:Expr} {es:List Expr} {t:TG} {u:TGs} (h1:PG X e t) (h2:PGs X es u)
  (hs:(assignEach (e::es) X.env).map (·.2)=assign e X.env::(assignEach es X.env).map (·.2):=by rfl):PGs X (e::es) (zdw t u):=by
 intro pins s σ H vs us Q I r h
 obtain ⟨v,vr,e1,h⟩:=h
 subst e1
 cases r with
 | cons r rr =>
  rw [hs]
  refine assignInOrder_cons (thn (h1 pins s σ H _ _ _ I r h) fun _ s1 hQ'=>?_)
  obtain ⟨σ1,H1,I1,q1⟩:=hQ'
  exact h2 pins s1 σ1 H1 _ _ Q I1 rr q1
def zlP (K:PySem.W.Frag) (n:Nat) (t:TGs):TG:=fun v σ H Q=>∃ a xs,v=.ref a∧SqT K H a xs∧xs.length=n∧t xs σ H Q
theorem zh4 {es:List Expr} {k:Nat} {t:TGs} {n:Nat} (hc:X.calm=true) (h:PGs X es t)
  (hn:(assignEach es X.env).length=n:=by rfl) (hst:(assignEach es X.env).findIdx? (·.1)=none:=by rfl):PG X (.Tuple es k pos) (zlP X.K n t):=by
 intro pins s σ H v u Q I r hw
 obtain ⟨a,xs,e1,hq,hl,hw⟩:=hw
 subst e1
 cases r
 obtain ⟨its,rv,ht,hz⟩:=I.tuple hq
 refine assign_Tuple_tuple (I.ok.hd hc) ht (by simp [hn,← hl,rv.length]) hst fun h' hx=>?_
 have I1:Inv X pins σ H { s with heap:=h' }:=I.kept (t':=s.toks) fun b o e=>hx b o (Nat.ne_of_lt (Heap.lt_size e)) e
 exact h pins _ σ H xs _ Q I1 (by simpa using rv) hw
def zbi (te:TE) (g:TG):TS:=fun D σ H=>te σ H fun x H1=>g x σ H1 D.nx
theorem zmW {tg e:Expr} {te:TE} {g:TG} (he:PE X e te) (hg:PG X tg g) (hs:swapsWithSole [tg] e pos.line X.env=pure false:=by rfl) (hw:swappedStores [tg] e X.env=pure none:=by rfl)
  (h1:(assignEach [tg] X.env).map (·.2)=[assign tg X.env]:=by rfl):PS X (.Assign [tg] e pos) (zbi te g):=by
 intro pins s σ H D I h
 refine wpAny_Assign_stores (thn (he pins s σ H _ I h) fun v s1 hQ'=>?_) hs hw
 obtain ⟨x,H1,I1,r1,q1⟩:=hQ'
 rw [h1]
 exact thn (hg pins s1 σ H1 x v _ I1 r1 q1) fun _ s2 q=>q
theorem zaR {i:Nat} {x:Str} {e:Expr} {te:TE} {pos':Pos} (hN:X.N.Nodup) (hi:X.N[i]?=some x) (hx:Loc X.env.scope x) (he:PE X e te) (hs:swapsWith e (some (.Name x pos')) pos.line X.env=pure false:=by rfl) (hf:X.fn x=true∨X.env.scope.names.lookup x=some .local:=by first | exact .inl rfl | exact .inr rfl | assumption) :
  PS X (.Assign [.Name x pos'] e pos) (zbi te (zaC i)):=by
 intro pins s σ H D I h
 refine wpAny_Assign_Name (thn (he pins s σ H _ I h) fun v s1 hQ'=>?_) hs
 obtain ⟨y,H1,I1,r1,q1⟩:=hQ'
 exact zhh I1 hN hi hx r1 (fun s2 I2=>⟨_,H1,I2,q1⟩) hf
end
section
variable {X:Cx} {pos:Pos}
end
structure It where
 go:Nat→Hp→Prop
 yld:Nat→Hp→V→Hp→Prop
 stop:Nat→Hp→Prop
def zi8 (X:Cx) (pins:List (Addr×Obj)) (H:Hp) (b:Addr):Prop :=
 H b=none∧b≠X.env.locals∧b∉X.fs∧(b∈X.ex∨X.s₀.heap.objs.size≤b)∧(∀ x c,X.env.cells.lookup x=some c→c≠b)∧∀ p∈X.pn++pins,p.1≠b
theorem Inv.fpOk {X:Cx} {pins:List (Addr×Obj)} {σ:St} {H H':Hp} {s:Shared} {b:Addr} (I:Inv X pins σ H s) (hb:s.heap.objs.size≤b) (hn:H' b=none):zi8 X pins H' b:=by
 refine ⟨hn,Nat.ne_of_gt (Nat.lt_of_lt_of_le I.lt hb),I.nofs hb,.inr (Nat.le_trans I.sz hb),fun x c e z=>?_,fun p hp z=>?_⟩
 ·obtain ⟨v,q⟩:=I.cell x c e
  exact absurd (Nat.lt_of_lt_of_le q.lt (by rw [z];exact hb)) (Nat.lt_irrefl _)
 ·exact absurd (Nat.lt_of_lt_of_le (Heap.lt_size (I.pin p hp).1) (by rw [z];exact hb)) (Nat.lt_irrefl _)
structure znx (P:Program) (w:World) (K:PySem.W.Frag) (tg:Expr) (J:It) (fp:List Addr) (it:Addr) (tn:Nat→Heap→Prop):Prop where
 mem:it∈fp
 obj:∀ i h,tn i h→∀ b∈fp,∃ o,h.get? b=some o∧∀ v,o.data≠.cell v
 keep:∀ i h h',tn i h→(∀ b∈fp,∀ o,h.get? b=some o→h'.get? b=some o)→tn i h'
 item:∀ (X:Cx),X.prog=P→X.w=w→X.K=K→X.calm=true→∀ (i:Nat) (pins:List (Addr×Obj)) (s:Shared) (σ:St) (H:Hp) (E:Value→Shared→Prop),Inv X pins σ H s→(∀ b∈fp,zi8 X pins H b)→tn i s.heap→J.go i H →
  wpAny (model P w) X.A (pyNext (.ref it)) (fun r s1=>∃ u,r=some u ∧
   wpAny (model P w) X.A (letOwnedTupleGo tg (.ref it) u) (fun _ s2=>∃ x H',Inv X pins σ H' s2∧zcF x u∧J.yld i H x H'∧tn (i+1) s2.heap∧∀ b∈fp,H' b=none) E s1) E s
 done:∀ (X:Cx),X.prog=P→X.w=w→X.K=K→X.calm=true→∀ (i:Nat) (pins:List (Addr×Obj)) (s:Shared) (σ:St) (H:Hp) (E:Value→Shared→Prop),Inv X pins σ H s→(∀ b∈fp,zi8 X pins H b)→tn i s.heap→J.stop i H →
  wpAny (model P w) X.A (pyNext (.ref it)) (fun r s1=>r=none∧Inv X pins σ H s1) E s
 self:∀ (A:Around) (i:Nat) (s:Shared) (Q:Value→Shared→Prop) (E:Value→Shared→Prop),tn i s.heap→Q (.ref it) s→wpAny (model P w) A (pyIter (.ref it)) Q E s
abbrev TI:=St→Hp→(It→Hp→Prop)→Prop
def PIE (X:Cx) (pins:List (Addr×Obj)) (σ:St) (tg:Expr) (R:It→Hp→Prop) (itv:Value) (s2:Shared):Prop :=
 ∃ (it:Addr) (fp:List Addr) (tn:Nat→Heap→Prop) (J:It) (H':Hp),itv=.ref it∧Inv X pins σ H' s2∧znx X.prog X.w X.K tg J fp it tn∧tn 0 s2.heap∧(∀ b∈fp,zi8 X pins H' b)∧R J H'
def PI (X:Cx) (tg iter:Expr) (wi:TI):Prop :=
 ∀ (pins:List (Addr×Obj)) (s:Shared) (σ:St) (H:Hp) (R:It→Hp→Prop),Inv X pins σ H s→wi σ H R →
  wpAny (model X.prog X.w) X.A (eval iter X.env) (fun v s1=>wpAny (model X.prog X.w) X.A (pyIter v) (PIE X pins σ tg R) X.xe s1) X.xe s
theorem zoq {M:Model} {A:Around} {E:Value→Shared→Prop} {s:Shared} {tg:Expr} {it:Addr} {u:Value} {o:Obj} {n:String} {vs:Array Value} {Q:Unit→Shared→Prop} (ho:s.heap.get? it=some o) (hc:o.cls=.type n) (hd:o.data=.fields vs)
  (hn:["enumerate","zip","dict_itemiterator","dict_reverseitemiterator","odict_iterator","itertools.zip_longest","itertools.pairwise"].contains n=false) (hQ:Q () s):wpAny M A (letOwnedTupleGo tg (.ref it) u) Q E s:=by
 unfold letOwnedTupleGo
 cases tg <;> first
  | exact wpAny_pure hQ
  | (cases u <;> first
    | exact wpAny_pure hQ
    | (refine wpAny_bind (wpAny_load ho ?_)
       rw [hc,hd]
       show wpAny M A (if (["enumerate","zip","dict_itemiterator","dict_reverseitemiterator","odict_iterator","itertools.zip_longest","itertools.pairwise"].contains n&&vs[0]? == some (rawInt _))=true then _ else _) Q E s
       rw [if_neg (by intro h;rw [hn,Bool.false_and] at h;cases h)]
       exact wpAny_pure hQ))
def Itl (K:PySem.W.Frag) (a:Addr):It :=
 ⟨fun i H=>∃ xs x,SqL K H a xs∧xs[i]?=some x,fun i H x H'=>H'=H∧∀ xs,SqL K H a xs→xs[i]?=some x,fun i H=>∃ xs,SqL K H a xs∧xs.length≤i⟩
def Itr (lo:Int) (n:Nat):It:=⟨fun i _=>i<n,fun i H x H'=>H'=H∧x=.int (lo+i),fun i _=>n≤i⟩
theorem zkE {P:Program} {w:World} {K:PySem.W.Frag} {tg:Expr} (a it:Addr):znx P w K tg (Itl K a) [it] it (fun i h=>h.IsListIter it a i) where
 mem:=by simp
 obj:=fun i h st b hb=>by
  have e:b=it:=by simpa using hb
  subst e
  obtain ⟨o,e,c,d⟩:=st
  exact ⟨o,e,fun v z=>by rw [d] at z;cases z⟩
 keep:=fun i h h' st k=>st.at fun o e=>k it (by simp) o e
 item:=by
  intro X hP hw hK hc i pins s σ H E I hf st hg
  subst hP hw hK
  obtain ⟨xs,x,hq,hx⟩:=hg
  obtain ⟨its,rv,p,hz⟩:=I.list hq
  obtain ⟨u,hu,ru⟩:=rv.get hx
  obtain ⟨f0,f1,f2,f3,f4,f5⟩:=hf it (by simp)
  refine wpAny_pyNext_list_item st p.isList (x:=u) (by simpa using hu) fun h' st' sb=>?_
  have I1:Inv X pins σ H { s with heap:=h' }:=I.turned (t':=s.toks) (fun b o hb e=>(sb.2 b hb).trans e) f0 f1 f3 f4 f5
  obtain ⟨o,e,c,d⟩:=id st'
  exact ⟨u,rfl,zoq (s:={ s with heap:=h' }) e c d (by decide) ⟨x,H,I1,ru,⟨rfl,fun ys hy=>by rw [I.list_inj hy hq];exact hx⟩,st',fun b hb=>(hf b hb).1⟩⟩
 done:=by
  intro X hP hw hK hc i pins s σ H E I hf st hg
  subst hP hw hK
  obtain ⟨xs,hq,hx⟩:=hg
  obtain ⟨its,rv,p,hz⟩:=I.list hq
  obtain ⟨f0,f1,f2,f3,f4,f5⟩:=hf it (by simp)
  have hl:=rv.length
  exact wpAny_pyNext_list_end (I.ok.hd hc) st p.isList (by simp;(first|lia|omega)) fun h' eb=>⟨rfl,I.turned (t':=s.toks) (fun b o hb e=>eb b o hb e) f0 f1 f3 f4 f5⟩
 self:=fun _ _ _ _ _ st h=>wpAny_pyIter_listiter st h
theorem zjO {P:Program} {w:World} {K:PySem.W.Frag} {tg:Expr} (it:Addr) (lo:Int) (n:Nat):znx P w K tg (Itr lo n) [it] it (fun i h=>IsRangeIter h it (lo+(i:Nat)*1) ((n:Int) - (i:Nat)) 1) where
 mem:=by simp
 obj:=fun i h st b hb=>by
  have e:b=it:=by simpa using hb
  subst e
  exact ⟨_,st,fun v z=>by
   have z':Data.fields _=Data.cell v:=z
   cases z'⟩
 keep:=fun i h h' st k=>k it (by simp) _ st
 item:=by
  intro X hP hw hK hc i pins s σ H E I hf st hg
  subst hP hw hK
  obtain ⟨f0,f1,f2,f3,f4,f5⟩:=hf it (by simp)
  have W:=Walks.range (prog:=X.prog) (w:=X.w) (I.ok.hd hc) it lo 1 n
  refine W.item i s _ _ hg st fun v h' tk hv st' kk=>?_
  obtain ⟨t,rfl⟩:=hv
  have I1:Inv X pins σ H { s with heap:=h',toks:=tk }:=I.turned (fun b o hb e=>kk b o (by simpa using hb) e) f0 f1 f3 f4 f5
  refine ⟨_,rfl,zoq (s:={ s with heap:=h',toks:=tk }) (n:="range_iterator") st' rfl rfl (by decide) ⟨.int (lo+i),H,I1,⟨t,?_⟩,⟨rfl,rfl⟩,st',fun b hb=>(hf b hb).1⟩⟩
  rw [Int.mul_one]
 done:=by
  intro X hP hw hK hc i pins s σ H E I hf st hg
  subst hP hw hK
  obtain ⟨f0,f1,f2,f3,f4,f5⟩:=hf it (by simp)
  exact wpAny_pyNext_range_end (I.ok.hd hc) st (by have:n≤i:=hg;(first|lia|omega)) fun h' eb=>⟨rfl,I.turned (t':=s.toks) (fun b o hb e=>eb b o hb e) f0 f1 f3 f4 f5⟩
 self:=fun _ _ _ _ _ st h=>wpAny_pyIter_rangeiter st h
end L2
namespace L2
open PySem PySem.Spec PyProof.Rows
section
variable {X:Cx} {tg:Expr}
def zfK (K:PySem.W.Frag) (tl:TE):TI:=fun σ H R=>tl σ H fun x H1=>∃ a,x=.ref a∧(∃ xs,SqL K H1 a xs)∧R (Itl K a) H1
theorem ze9 {l:Expr} {tl:TE} (hl:PE X l tl):PI X tg l (zfK X.K tl):=by
 intro pins s σ H R I h
 refine thn (hl pins s σ H _ I h) fun v s1 hQ'=>?_
 obtain ⟨x,H1,I1,r1,q1⟩:=hQ'
 obtain ⟨a,e,⟨xs,hq⟩,q⟩:=q1
 subst e
 cases r1
 obtain ⟨its,rv,p,hz⟩:=I1.list hq
 refine wpAny_pyIter_list p.isList ?_
 refine ⟨s1.heap.objs.size,[s1.heap.objs.size],_,_,H1,rfl,I1.kept (t':=s1.toks) fun b o e=>Heap.get?_push_of_some _ e,zkE a _,⟨_,Heap.get?_push_size _ rfl,rfl,rfl⟩,fun b hb=>?_,q⟩
 have e:b=s1.heap.objs.size:=by simpa using hb
 subst e
 exact I1.fpOk (Nat.le_refl _) (I1.hok.fresh (Nat.le_refl _))
theorem zmQ {pins:List (Addr×Obj)} {σ:St} {H:Hp} {s:Shared} {R:It→Hp→Prop} {E:Value→Shared→Prop} {lo hi:Int} {t u v:Tok} {tk:Nat} (I:Inv X pins σ H s) (h1:-(2 ^ 62)≤lo) (h2:lo<2 ^ 62) (h3:-(2 ^ 62)≤hi) (h4:hi<2 ^ 62)
  (q:R (Itr lo (hi - lo).toNat) H):wpAny (model X.prog X.w) X.A (pyIter (.ref s.heap.objs.size)) (PIE X pins σ tg R) E { s with heap:=s.heap.push { cls:=.type "range",data:=.fields #[.int lo t,.int hi u,.int 1 v] },toks:=tk }:=by
 refine wpAny_pyIter_range (IsRange.new ..) (small_one h1 h2 h3 h4) ?_
 have I1:Inv X pins σ H { s with heap:=s.heap.push { cls:=.type "range",data:=.fields #[.int lo t,.int hi u,.int 1 v] },toks:=tk }:=I.kept fun b o e=>Heap.get?_push_of_some _ e
 refine ⟨(s.heap.push { cls:=.type "range",data:=.fields #[.int lo t,.int hi u,.int 1 v] }).objs.size,[(s.heap.push { cls:=.type "range",data:=.fields #[.int lo t,.int hi u,.int 1 v] }).objs.size],_,_,H,rfl,
  I1.kept (t':=tk) fun b o e=>Heap.get?_push_of_some _ e,zjO _ lo (hi - lo).toNat,?_,fun b hb=>?_,q⟩
 ·have e1:lo+((0:Nat):Int)*1=lo:=by simp
  have e2:(((hi - lo).toNat:Nat):Int) - ((0:Nat):Int)=Builtin.Range.rangeSize lo hi 1:=by rw [rangeSize_one];split <;> (first|lia|omega)
  show IsRangeIter _ _ (lo+((0:Nat):Int)*1) ((((hi - lo).toNat:Nat):Int) - ((0:Nat):Int)) 1
  rw [e1,e2]
  exact Heap.get?_push_size _ rfl
 ·have e:b=(s.heap.push { cls:=.type "range",data:=.fields #[.int lo t,.int hi u,.int 1 v] }).objs.size:=by simpa using hb
  subst e
  exact I1.fpOk (Nat.le_refl _) (I1.hok.fresh (Nat.le_refl _))
def ze4 (ta:TA):TI:=fun σ H R=>ta σ H fun vs H1=>∃ j:Int,vs=[.int j]∧-(2 ^ 62)≤j∧j<2 ^ 62∧R (Itr 0 j.toNat) H1
theorem zcS {a:Expr} {ta:TA} {p pos:Pos} (hg:Gl X "range") (hm:X.mg "range"=none) (ha:PA X [a] ta) (hs:starEach [a] X.env=[(false,eval a X.env)]:=by rfl):PI X tg (.Call (.Name "range" p) [a] [] pos) (ze4 ta):=by
 intro pins s σ H R I h
 refine Call_ (zgz I hg hm boot_range (PyProof.Rows.callWith_type1 (thn (ha pos pins s σ H _ I h) fun us s1 hQ'=>?_) hs rfl))
 obtain ⟨vs,H1,I1,r1,q1⟩:=hQ'
 obtain ⟨j,e,q1,q2,q⟩:=q1
 subst e
 cases r1 with
 | cons r rr =>
  cases rr
  obtain ⟨t,rfl⟩:=r
  exact call_range_1 (zmQ I1 (by (first|lia|omega)) (by (first|lia|omega)) q1 q2 (by simpa using q))
def zgP (wi:TI) (g:TG) (tb:TS):TS:=fun D σ H=>wi σ H fun J H1=>∃ W:Nat→Nat→St→Hp→Prop,(∃ m,W 0 m σ H1)∧∀ i m σ H,W i m σ H →
 (J.stop i H∧D.nx σ H)∨(J.go i H∧∃ N:St→Hp→Prop,(∀ σ' H',N σ' H'→∃ m',m'<m∧W (i+1) m' σ' H')∧∀ x H',J.yld i H x H'→g x σ H' fun σ2 H2=>tb { D with nx:=N,ct:=N,bk:=D.nx } σ2 H2)
def zis (fp:List Addr) (h:Heap):List (Addr×Obj):=fp.filterMap fun b=>(h.get? b).map fun o=>(b,o)
theorem zdS {fp:List Addr} {h:Heap} {b:Addr} {o:Obj} (hb:b∈fp) (e:h.get? b=some o):(b,o)∈zis fp h:=List.mem_filterMap.mpr ⟨b,hb,by rw [e];rfl⟩
theorem zkK {fp:List Addr} {h:Heap} {p:Addr×Obj} (hp:p∈zis fp h):p.1∈fp∧h.get? p.1=some p.2:=by
 obtain ⟨b,hb,e⟩:=List.mem_filterMap.mp hp
 cases q:h.get? b with
 | none=>rw [q] at e;cases e
 | some o =>
  rw [q] at e
  have e':(b,o)=p:=Option.some.inj e
  subst e'
  exact ⟨hb,q⟩
theorem Inv.pinned {pins:List (Addr×Obj)} {σ:St} {H:Hp} {s:Shared} {fp:List Addr} (I:Inv X pins σ H s) (hf:∀ b∈fp,zi8 X pins H b) (ho:∀ b∈fp,∃ o,s.heap.get? b=some o∧∀ v,o.data≠.cell v):Inv X (pins++zis fp s.heap) σ H s :=
 I.pins_of fun p hp=>(List.mem_append.mp hp).elim (fun z=>I.pin p (List.mem_append_right _ z)) fun z=>by
  obtain ⟨hb,e⟩:=zkK z
  obtain ⟨f0,f1,f2,_⟩:=hf p.1 hb
  obtain ⟨o,e',d⟩:=ho p.1 hb
  rw [e] at e';cases e'
  exact ⟨e,f0,f1,f2,d⟩
theorem Inv.unpinned {pins pl:List (Addr×Obj)} {σ:St} {H:Hp} {s:Shared} (I:Inv X (pins++pl) σ H s):Inv X pins σ H s:=I.pins_of fun p hp=>I.pin p (List.mem_append_right _ (List.mem_append_left _ hp))
theorem zdJ {iter:Expr} {body:List Stmt} {wi:TI} {g:TG} {tb:TS} {pos:Pos} (hp:PassesOwn (model X.prog X.w) X.A X.env X.xe) (hc:X.calm=true) (hi:PI X tg iter wi) (hg:PG X tg g) (hb:PSs X body tb)
  (hs:∀ x,foldedSetIterable iter X.env x=pure x:=by intro _;rfl):PS X (.For tg iter body [] pos) (zgP wi g tb):=by
 intro pins s σ H D I h
 refine wpAny_For (thn (hi pins s σ H _ I h) fun v s1 h1=>thn h1 fun itv s2 h2=>?_) hs
 obtain ⟨it,fp,tn,J,H2,e,I2,T,st2,f2,W,⟨m0,w0⟩,turn⟩:=h2
 subst e
 have stat:∀ {H':Hp},(∀ b∈fp,H' b=none)→∀ b∈fp,zi8 X pins H' b:=fun hn b hb=>⟨hn b hb,(f2 b hb).2⟩
 refine codeAny_forLoop_any (fun n s'=>∃ i σ' H',Inv X pins σ' H' s'∧tn i s'.heap∧(∀ b∈fp,H' b=none)∧W i n σ' H') ?_ m0 ⟨0,σ,H2,I2,st2,fun b hb=>(f2 b hb).1,w0⟩
 rintro n s3 ⟨i,σ3,H3,I3,st3,fr3,w3⟩
 rcases turn i n σ3 H3 w3 with ⟨stop,qn⟩ | ⟨go,N,hN,step⟩
 ·refine wpAny_passesOwn hp (thn (T.done X rfl rfl rfl hc i pins s3 σ3 H3 X.xe I3 (stat fr3) st3 stop) fun r s4 hQ'=>?_)
  obtain ⟨hr,I4⟩:=hQ'
  subst hr
  exact wpAny_execs_nil ⟨σ3,H3,I4,qn⟩
 ·refine wpAny_passesOwn hp (thn (T.item X rfl rfl rfl hc i pins s3 σ3 H3 X.xe I3 (stat fr3) st3 go) fun r s4 hQ'=>?_)
  obtain ⟨u,hr,h4⟩:=hQ'
  subst hr
  refine wpAny_passesOwn hp (thn h4 fun _ s5 hQ'=>?_)
  obtain ⟨x,H5,I5,r5,y5,st5,fr5⟩:=hQ'
  have I5':=I5.pinned (stat fr5) (T.obj _ _ st5)
  refine wpAny_passesOwn hp (thn (hg _ s5 σ3 H5 x u _ I5' r5 (step x H5 y5)) fun _ s6 hQ'=>?_)
  obtain ⟨σ6,H6,I6,q6⟩:=hQ'
  refine wpAny_passesOwn hp (thn (hb _ s6 σ6 H6 _ I6 q6) fun f s7 q7=>?_)
  have again:∀ {σ7:St} {H7:Hp},Inv X (pins++zis fp s5.heap) σ7 H7 s7→N σ7 H7→∃ m,m<n∧∃ i σ' H',Inv X pins σ' H' s7∧tn i s7.heap∧(∀ b∈fp,H' b=none)∧W i m σ' H':=fun {σ7 H7} I7 n7=>by
   obtain ⟨m',hm,w7⟩:=hN σ7 H7 n7
   refine ⟨m',hm,i+1,σ7,H7,I7.unpinned,T.keep _ _ _ st5 fun b hb o e=>(I7.pin (b,o) (List.mem_append_right _ (List.mem_append_right _ (zdS hb e)))).1,fun b hb=>?_,w7⟩
   obtain ⟨o,e,d⟩:=T.obj _ _ st5 b hb
   exact (I7.pin (b,o) (List.mem_append_right _ (List.mem_append_right _ (zdS hb e)))).2.1
  cases f with
  | next=>obtain ⟨σ7,H7,I7,n7⟩:=q7;exact again I7 n7
  | cont=>obtain ⟨σ7,H7,I7,n7⟩:=q7;exact again I7 n7
  | brk=>obtain ⟨σ7,H7,I7,q7⟩:=q7;exact ⟨σ7,H7,I7.unpinned,q7⟩
  | ret v=>obtain ⟨x7,σ7,H7,I7,r7,q7⟩:=q7;exact ⟨x7,σ7,H7,I7.unpinned,r7,q7⟩
end
theorem zmi {K:PySem.W.Frag} {a:Addr} {xs:List V} {g:TG} {tb:TS} {D:zcd} {σ:St} {H:Hp} (Pv:Nat→St→Hp→Prop) (h0:Pv 0 σ H) (hl:∀ i σ H,i≤xs.length→Pv i σ H→SqL K H a xs)
  (hs:∀ i x σ H,xs[i]?=some x→Pv i σ H→g x σ H fun σ2 H2=>tb { D with nx:=Pv (i+1),ct:=Pv (i+1),bk:=D.nx } σ2 H2) (hd:∀ σ H,Pv xs.length σ H→D.nx σ H) :
  ∃ W:Nat→Nat→St→Hp→Prop,(∃ m,W 0 m σ H)∧∀ i m σ H,W i m σ H →
   ((Itl K a).stop i H∧D.nx σ H)∨((Itl K a).go i H∧∃ N:St→Hp→Prop,(∀ σ' H',N σ' H'→∃ m',m'<m∧W (i+1) m' σ' H')∧∀ x H',(Itl K a).yld i H x H'→g x σ H' fun σ2 H2=>tb { D with nx:=N,ct:=N,bk:=D.nx } σ2 H2):=by
 refine ⟨fun i m σ H=>m=xs.length - i∧i≤xs.length∧Pv i σ H,⟨xs.length,by simp,Nat.zero_le _,h0⟩,?_⟩
 rintro i m σ H ⟨rfl,hi,p⟩
 have q:=hl i σ H hi p
 by_cases hlt:i<xs.length
 ·refine .inr ⟨⟨xs,xs[i],q,by simp [hlt]⟩,Pv (i+1),fun σ' H' p'=>⟨xs.length - (i+1),by (first|lia|omega),rfl,hlt,p'⟩,fun x H' y=>?_⟩
  obtain ⟨e,y⟩:=y
  subst e
  exact hs i x σ _ (y xs q) p
 ·have e:i=xs.length:=by (first|lia|omega)
  subst e
  exact .inl ⟨⟨xs,q,Nat.le_refl _⟩,hd σ H p⟩
theorem zkP {lo:Int} {n:Nat} {g:TG} {tb:TS} {D:zcd} {σ:St} {H:Hp} (Pv:Nat→St→Hp→Prop) (h0:Pv 0 σ H)
  (hs:∀ i σ H,i<n→Pv i σ H→g (.int (lo+i)) σ H fun σ2 H2=>tb { D with nx:=Pv (i+1),ct:=Pv (i+1),bk:=D.nx } σ2 H2) (hd:∀ σ H,Pv n σ H→D.nx σ H) :
  ∃ W:Nat→Nat→St→Hp→Prop,(∃ m,W 0 m σ H)∧∀ i m σ H,W i m σ H →
   ((Itr lo n).stop i H∧D.nx σ H)∨((Itr lo n).go i H∧∃ N:St→Hp→Prop,(∀ σ' H',N σ' H'→∃ m',m'<m∧W (i+1) m' σ' H')∧∀ x H',(Itr lo n).yld i H x H'→g x σ H' fun σ2 H2=>tb { D with nx:=N,ct:=N,bk:=D.nx } σ2 H2):=by
 refine ⟨fun i m σ H=>m=n - i∧i≤n∧Pv i σ H,⟨n,by simp,Nat.zero_le _,h0⟩,?_⟩
 rintro i m σ H ⟨rfl,hi,p⟩
 by_cases hlt:i<n
 ·refine .inr ⟨hlt,Pv (i+1),fun σ' H' p'=>⟨n - (i+1),by (first|lia|omega),rfl,hlt,p'⟩,fun x H' y=>?_⟩
  obtain ⟨e,y⟩:=y
  subst e y
  exact hs i σ _ hlt p
 ·have e:i=n:=by (first|lia|omega)
  subst e
  exact .inl ⟨Nat.le_refl _,hd σ H p⟩
end L2
namespace L2
open PySem PySem.Spec PyProof.Rows
abbrev R2:=V→V→Hp→VK→Prop
def OpR (X:Cx) (f:Value→Value→Sem Value) (r:R2):Prop :=
 ∀ (pins:List (Addr×Obj)) (s:Shared) (σ:St) (H:Hp) (x y:V) (v u:Value) (Q:VK),Inv X pins σ H s→zcF x v→zcF y u→r x y H Q →
  wpAny (model X.prog X.w) X.A (f v u) (EP X pins σ Q) X.xe s
def UnR (X:Cx) (f:Value→Sem Value) (r:V→Hp→VK→Prop):Prop :=
 ∀ (pins:List (Addr×Obj)) (s:Shared) (σ:St) (H:Hp) (x:V) (v:Value) (Q:VK),Inv X pins σ H s→zcF x v→r x H Q →
  wpAny (model X.prog X.w) X.A (f v) (EP X pins σ Q) X.xe s
def zeR (X:Cx) (f:Value) (r:List V→Hp→VK→Prop):Prop :=
 ∀ (pins:List (Addr×Obj)) (s:Shared) (σ:St) (H:Hp) (xs:List V) (us:List Value) (Q:VK),Inv X pins σ H s→zb9 xs us→r xs H Q →
  wpAny (model X.prog X.w) X.A (call f us) (EP X pins σ Q) X.xe s
def TruR (X:Cx) (r:V→Hp→(Bool→Hp→Prop)→Prop):Prop :=
 ∀ (pins:List (Addr×Obj)) (s:Shared) (σ:St) (H:Hp) (x:V) (v:Value) (Q:Bool→Hp→Prop),Inv X pins σ H s→zcF x v→r x H Q →
  wpAny (model X.prog X.w) X.A (truthy v) (TP X pins σ Q) X.xe s
def tOp (r:R2) (ta tb:TE):TE:=fun σ H Q=>ta σ H fun x H1=>tb σ H1 fun y H2=>r x y H2 Q
def tUn (r:V→Hp→VK→Prop) (ta:TE):TE:=fun σ H Q=>ta σ H fun x H1=>r x H1 Q
def rI (C:Int→Int→Prop) (g:Int→Int→V):R2:=fun x y H Q=>∃ i j,x=.int i∧y=.int j∧C i j∧Q (g i j) H
def rI0 (g:Int→Int→V):R2:=fun x y H Q=>∃ i j,x=.int i∧y=.int j∧Q (g i j) H
def rU (g:Int→V):V→Hp→VK→Prop:=fun x H Q=>∃ i,x=.int i∧Q (g i) H
section
variable {X:Cx} {a b c:Expr} {ta tb tc:TE} {pos:Pos}
theorem binT (ha:PE X a ta) (hb:PE X b tb) {pins:List (Addr×Obj)} {s:Shared} {σ:St} {H:Hp} {R:V→V→Hp→Prop} (I:Inv X pins σ H s)
  (h:ta σ H fun x H1=>tb σ H1 fun y H2=>R x y H2) {Q:Value→Shared→Prop} {f:Value→Value→Sem Value}
  (hf:∀ v u s2 x y H2,Inv X pins σ H2 s2→zcF x v→zcF y u→R x y H2→wpAny (model X.prog X.w) X.A (f v u) Q X.xe s2) :
  wpAny (model X.prog X.w) X.A (eval a X.env) (fun v s₁=>wpAny (model X.prog X.w) X.A (eval b X.env) (fun u s₂=>wpAny (model X.prog X.w) X.A (f v u) Q X.xe s₂) X.xe s₁) X.xe s:=by
 refine thn (ha pins s σ H _ I h) fun v s1 hQ'=>?_
 obtain ⟨x,H1,I1,r1,q1⟩:=hQ'
 refine thn (hb pins s1 σ H1 _ I1 q1) fun u s2 hQ'=>?_
 obtain ⟨y,H2,I2,r2,q2⟩:=hQ'
 exact hf v u s2 x y H2 I2 r1 r2 q2
theorem zaK {op:Operator} {r:R2} (ho:OpR X (binaryOp op) r) (ha:PE X a ta) (hb:PE X b tb):PE X (.BinOp a op b pos) (tOp r ta tb):=by
 intro pins s σ H Q I h
 exact wpAny_BinOp (binT ha hb I h fun v u s2 x y H2 I2 rx ry q=>ho pins s2 σ H2 x y v u Q I2 rx ry q)
theorem zmt {op:UnaryOp} {r:V→Hp→VK→Prop} (ho:UnR X (unaryOp op) r) (ha:PE X a ta):PE X (.UnaryOp op a pos) (tUn r ta):=by
 intro pins s σ H Q I h
 exact UnaryOp_ (thn (ha pins s σ H _ I h) fun v s1 ⟨x,H1,I1,r1,q1⟩=>ho pins s1 σ H1 x v Q I1 r1 q1)
theorem opI {f:Value→Value→Sem Value} {C:Int→Int→Prop} {g:Int→Int→Int}
  (rule:∀ (i j:Int) (t u:Tok) (s:Shared) (Q:Value→Shared→Prop) (E:Value→Shared→Prop),C i j→Q (.int (g i j) s.toks) { s with toks:=s.toks+1 }→wpAny (model X.prog X.w) X.A (f (.int i t) (.int j u)) Q E s) :
  OpR X f (rI C fun i j=>.int (g i j)):=by
 intro pins s σ H x y v u Q I rx ry h
 obtain ⟨i,j,rfl,rfl,hc,q⟩:=h
 obtain ⟨t,rfl⟩:=rx
 obtain ⟨t',rfl⟩:=ry
 exact rule i j t t' s _ _ hc ⟨.int (g i j),H,I.tok _,⟨_,rfl⟩,q⟩
theorem opI0 {f:Value→Value→Sem Value} {g:Int→Int→Int}
  (rule:∀ (i j:Int) (t u:Tok) (s:Shared) (Q:Value→Shared→Prop) (E:Value→Shared→Prop),Q (.int (g i j) s.toks) { s with toks:=s.toks+1 }→wpAny (model X.prog X.w) X.A (f (.int i t) (.int j u)) Q E s) :
  OpR X f (rI0 fun i j=>.int (g i j)):=by
 intro pins s σ H x y v u Q I rx ry h
 obtain ⟨i,j,rfl,rfl,q⟩:=h
 obtain ⟨t,rfl⟩:=rx
 obtain ⟨t',rfl⟩:=ry
 exact rule i j t t' s _ _ ⟨.int (g i j),H,I.tok _,⟨_,rfl⟩,q⟩
theorem opB0 {f:Value→Value→Sem Value} {g:Int→Int→Bool}
  (rule:∀ (i j:Int) (t u:Tok) (s:Shared) (Q:Value→Shared→Prop) (E:Value→Shared→Prop),Q (.bool (g i j)) s→wpAny (model X.prog X.w) X.A (f (.int i t) (.int j u)) Q E s) :
  OpR X f (rI0 fun i j=>.bl (g i j)):=by
 intro pins s σ H x y v u Q I rx ry h
 obtain ⟨i,j,rfl,rfl,q⟩:=h
 obtain ⟨t,rfl⟩:=rx
 obtain ⟨t',rfl⟩:=ry
 exact rule i j t t' s _ _ ⟨.bl (g i j),H,I,rfl,q⟩
def zjR (i j:Int):Prop:=0≤j∧j≤1000000∧i.natAbs<2 ^ 64
theorem zb1:OpR X (binaryOp .Add) (rI0 fun i j=>.int (i+j)):=opI0 fun _ _ _ _ _ _ _ q=>add_int q
theorem zk3:OpR X (binaryOp .Sub) (rI0 fun i j=>.int (i - j)):=opI0 fun _ _ _ _ _ _ _ q=>sub_int q
theorem zbZ:OpR X (binaryOp .Mod) (rI (fun _ j=>0<j) fun i j=>.int (i % j)):=opI fun i j _ _ _ _ _ hc q=>by
 have h1:(0:Int)<j:=hc
 exact mod_int' (by (first|lia|omega)) (by rw [Int.fmod_eq_emod_of_nonneg i (by (first|lia|omega))];exact q)
theorem zir:OpR X (binaryOp .Pow) (rI zjR fun i j=>.int (i ^ j.toNat)):=opI fun _ _ _ _ _ _ _ hc q=>pow_int_small hc.1 hc.2.1 hc.2.2 q
theorem unI {f:Value→Sem Value} {g:Int→Int}
  (rule:∀ (i:Int) (t:Tok) (s:Shared) (Q:Value→Shared→Prop) (E:Value→Shared→Prop),Q (.int (g i) s.toks) { s with toks:=s.toks+1 }→wpAny (model X.prog X.w) X.A (f (.int i t)) Q E s) :
  UnR X f (rU fun i=>.int (g i)):=by
 intro pins s σ H x v Q I rx h
 obtain ⟨i,rfl,q⟩:=h
 obtain ⟨t,rfl⟩:=rx
 exact rule i t s _ _ ⟨.int (g i),H,I.tok _,⟨_,rfl⟩,q⟩
theorem zjG:UnR X (unaryOp .USub) (rU fun i=>.int (-i)):=unI fun _ _ _ _ _ q=>neg_int q
end
def zpK:V→V→Bool
 | .non,.non=>true | .non,.int _=>true | .int _,.non=>true | .non,.bl _=>true | .bl _,.non=>true | .non,.str _=>true | .str _,.non=>true
 | .int _,.int _=>true | .bl _,.bl _=>true | .str _,.str _=>true | .byt _,.byt _=>true
 | .int _,.str _=>true | .str _,.int _=>true | .bl _,.str _=>true | .str _,.bl _=>true
 | _,_=>false
def rEq:R2:=fun x y H Q=>zpK x y=true∧Q (.bl (decide (x=y))) H
def rNe:R2:=fun x y H Q=>zpK x y=true∧Q (.bl (!decide (x=y))) H
theorem zkq {i j:Int}:decide (V.int i=V.int j)=(i == j):=by
 rw [Bool.eq_iff_iff]
 simp
theorem znl {i j:Bool}:decide (V.bl i=V.bl j)=(i == j):=by
 rw [Bool.eq_iff_iff]
 simp
theorem zlc {i j:Str}:decide (V.str i=V.str j)=(i == j):=by
 rw [Bool.eq_iff_iff]
 simp
theorem zk0 {i j:Array UInt8}:decide (V.byt i=V.byt j)=(i.toList == j.toList):=by
 rw [Bool.eq_iff_iff]
 cases i
 cases j
 simp
section
variable {X:Cx} {a b c:Expr} {ta tb tc:TE} {pos:Pos}
theorem zbk {pins:List (Addr×Obj)} {σ:St} {H:Hp} {s:Shared} {Q:VK} {k k':Bool} (I:Inv X pins σ H s) (q:Q (.bl k) H) (e:k=k'):EP X pins σ Q (.bool k') s:=by
 subst e
 exact ⟨.bl k,H,I,rfl,q⟩
theorem zcD:OpR X (compareOp .Eq) rEq:=by
 intro pins s σ H x y v u Q I rx ry h
 obtain ⟨hs,q⟩:=h
 cases x with
 | non =>
  cases rx
  cases y with
  | non=>cases ry;exact PySem.EqNone.eq_none_none (zbk I q (by simp))
  | bl j=>cases ry;exact PySem.EqNone.eq_none_bool (zbk I q (by simp))
  | int j=>obtain ⟨t',rfl⟩:=ry;exact PySem.EqNone.eq_none_int (zbk I q (by simp))
  | str j=>obtain ⟨t',rfl⟩:=ry;exact PySem.EqNone.eq_none_str (zbk I q (by simp))
  | _=>exact absurd (show false=true from hs) Bool.false_ne_true
 | bl i =>
  cases rx
  cases y with
  | non=>cases ry;exact PySem.EqNone.eq_bool_none (zbk I q (by simp))
  | bl j=>cases ry;exact eq_bool (zbk I q znl)
  | str j=>obtain ⟨t',rfl⟩:=ry;exact PySem.EqMixed.eq_bool_str (zbk I q (by simp))
  | _=>exact absurd (show false=true from hs) Bool.false_ne_true
 | int i =>
  obtain ⟨t,rfl⟩:=rx
  cases y with
  | non=>cases ry;exact PySem.EqNone.eq_int_none (zbk I q (by simp))
  | int j=>obtain ⟨t',rfl⟩:=ry;exact eq_int (zbk I q zkq)
  | str j=>obtain ⟨t',rfl⟩:=ry;exact PySem.EqMixed.eq_int_str (zbk I q (by simp))
  | _=>exact absurd (show false=true from hs) Bool.false_ne_true
 | str i =>
  obtain ⟨t,rfl⟩:=rx
  cases y with
  | non=>cases ry;exact PySem.EqNone.eq_str_none (zbk I q (by simp))
  | bl j=>cases ry;exact PySem.EqMixed.eq_str_bool (zbk I q (by simp))
  | int j=>obtain ⟨t',rfl⟩:=ry;exact PySem.EqMixed.eq_str_int (zbk I q (by simp))
  | str j=>obtain ⟨t',rfl⟩:=ry;exact eq_str (zbk I q zlc)
  | _=>exact absurd (show false=true from hs) Bool.false_ne_true
 | byt i =>
  obtain ⟨t,rfl⟩:=rx
  cases y with
  | byt j=>obtain ⟨t',rfl⟩:=ry;exact PySem.W.eq_bytes (zbk I q zk0)
  | _=>exact absurd (show false=true from hs) Bool.false_ne_true
 | _=>cases y <;> exact absurd (show false=true from hs) Bool.false_ne_true
theorem zeJ:OpR X (compareOp .NotEq) rNe:=by
 intro pins s σ H x y v u Q I rx ry h
 obtain ⟨hs,q⟩:=h
 cases x with
 | non =>
  cases rx
  cases y with
  | non=>cases ry;exact PySem.EqNone.ne_none_none (zbk I q (by simp))
  | bl j=>cases ry;exact PySem.EqNone.ne_none_bool (zbk I q (by simp))
  | int j=>obtain ⟨t',rfl⟩:=ry;exact PySem.EqNone.ne_none_int (zbk I q (by simp))
  | str j=>obtain ⟨t',rfl⟩:=ry;exact PySem.EqNone.ne_none_str (zbk I q (by simp))
  | _=>exact absurd (show false=true from hs) Bool.false_ne_true
 | bl i =>
  cases rx
  cases y with
  | non=>cases ry;exact PySem.EqNone.ne_bool_none (zbk I q (by simp))
  | bl j=>cases ry;exact ne_bool (zbk I q (congrArg not znl))
  | str j=>obtain ⟨t',rfl⟩:=ry;exact PySem.EqMixed.ne_bool_str (zbk I q (by simp))
  | _=>exact absurd (show false=true from hs) Bool.false_ne_true
 | int i =>
  obtain ⟨t,rfl⟩:=rx
  cases y with
  | non=>cases ry;exact PySem.EqNone.ne_int_none (zbk I q (by simp))
  | int j=>obtain ⟨t',rfl⟩:=ry;exact ne_int (zbk I q (congrArg not zkq))
  | str j=>obtain ⟨t',rfl⟩:=ry;exact PySem.EqMixed.ne_int_str (zbk I q (by simp))
  | _=>exact absurd (show false=true from hs) Bool.false_ne_true
 | str i =>
  obtain ⟨t,rfl⟩:=rx
  cases y with
  | non=>cases ry;exact PySem.EqNone.ne_str_none (zbk I q (by simp))
  | bl j=>cases ry;exact PySem.EqMixed.ne_str_bool (zbk I q (by simp))
  | int j=>obtain ⟨t',rfl⟩:=ry;exact PySem.EqMixed.ne_str_int (zbk I q (by simp))
  | str j=>obtain ⟨t',rfl⟩:=ry;exact ne_str (zbk I q (congrArg not zlc))
  | _=>exact absurd (show false=true from hs) Bool.false_ne_true
 | byt i =>
  obtain ⟨t,rfl⟩:=rx
  cases y with
  | byt j=>obtain ⟨t',rfl⟩:=ry;exact PySem.W.ne_bytes (zbk I q (congrArg not zk0))
  | _=>exact absurd (show false=true from hs) Bool.false_ne_true
 | _=>cases y <;> exact absurd (show false=true from hs) Bool.false_ne_true
theorem zlF:OpR X (compareOp .Lt) (rI0 fun i j=>.bl (decide (i<j))):=opB0 fun _ _ _ _ _ _ _ q=>lt_int q
theorem zqt:OpR X (compareOp .LtE) (rI0 fun i j=>.bl (decide (i≤j))):=opB0 fun _ _ _ _ _ _ _ q=>le_int q
theorem zqT:OpR X (compareOp .Gt) (rI0 fun i j=>.bl (decide (j<i))):=opB0 fun _ _ _ _ _ _ _ q=>gt_int q
theorem op_ge:OpR X (compareOp .GtE) (rI0 fun i j=>.bl (decide (j≤i))):=opB0 fun _ _ _ _ _ _ _ q=>ge_int q
theorem zli:OpR X (compareOp .In) (fun x y H Q=>∃ i j,x=.str i∧y=.str j∧Q (.bl (!(Builtin.Str.occurrences j i 0 j.length 1).isEmpty)) H):=by
 intro pins s σ H x y v u Q I rx ry h
 obtain ⟨i,j,rfl,rfl,q⟩:=h
 obtain ⟨t,rfl⟩:=rx
 obtain ⟨t',rfl⟩:=ry
 exact in_str (zbk I q rfl)
theorem zd4:OpR X (compareOp .Is) (fun x y H Q=>y=.non∧Q (.bl (decide (x=.non))) H):=by
 intro pins s σ H x y v u Q I rx ry h
 obtain ⟨rfl,q⟩:=h
 cases ry
 refine is_none_gen (zbk I q ?_)
 cases x <;> first
  | (cases rx;rfl)
  | (obtain ⟨t,rfl⟩:=rx;rfl)
theorem zh8:OpR X (compareOp .NotIn) (fun x y H Q=>∃ i j,x=.str i∧y=.str j∧Q (.bl (!(!(Builtin.Str.occurrences j i 0 j.length 1).isEmpty))) H):=by
 intro pins s σ H x y v u Q I rx ry h
 obtain ⟨i,j,rfl,rfl,q⟩:=h
 obtain ⟨t,rfl⟩:=rx
 obtain ⟨t',rfl⟩:=ry
 exact notIn_str (zbk I q rfl)
theorem zaQ (b:Expr) {op:CmpOp} (h:op≠.In:=by decide) (h2:op≠.NotIn:=by decide):behindInMarks op b=false:=by
 have e1:(op == CmpOp.In)=false:=by cases op <;> first | rfl | exact absurd rfl h
 have e2:(op == CmpOp.NotIn)=false:=by cases op <;> first | rfl | exact absurd rfl h2
 cases b <;> simp [behindInMarks,e1,e2]
theorem zcu {op:CmpOp} {r:R2} (ho:OpR X (compareOp op) r) (ha:PE X a ta) (hb:PE X b tb) (hm:behindInMarks op b=false):PE X (.Compare a [op] [b] pos) (tOp r ta tb):=by
 intro pins s σ H Q I h
 exact wpAny_Compare1 (binT ha hb I h fun v u s2 x y H2 I2 rx ry q=>ho pins s2 σ H2 x y v u Q I2 rx ry q) hm
def zaM (t:TE):TT:=fun σ H Q=>t σ H fun x H'=>∃ k,x=.bl k∧Q k H'
theorem zaJ {op:CmpOp} {r:R2} (ho:OpR X (compareOp op) r) (ha:PE X a ta) (hb:PE X b tb) (hm:behindInMarks op b=false):PT X (.Compare a [op] [b] pos) (zaM (tOp r ta tb)):=by
 intro pins s σ H Q I h
 refine wpAny_isTrue_Compare1 (thn (ha pins s σ H _ I h) fun v s1 ⟨x,H1,I1,r1,q1⟩=>thn (hb pins s1 σ H1 _ I1 q1) fun u s2 ⟨y,H2,I2,r2,q2⟩ =>
  thn (ho pins s2 σ H2 x y v u _ I2 r1 r2 q2) fun c s3 ⟨z,H3,I3,r3,k,e,q3⟩=>?_) hm
 subst e
 cases r3
 exact wpAny_truthy_bool ⟨H3,I3,q3⟩
def zjz (r r':R2) (ta tb tc:TE):TE:=fun σ H Q=>ta σ H fun x H1=>tb σ H1 fun y H2=>r x y H2 fun z H3=>∃ k,z=.bl k ∧
 (if k=true then tc σ H3 fun w' H4=>r' y w' H4 Q else Q (.bl false) H3)
theorem zmj {op op':CmpOp} {r r':R2} (ho:OpR X (compareOp op) r) (ho':OpR X (compareOp op') r') (ha:PE X a ta) (hb:PE X b tb) (hc:PE X c tc)
  (hm:lastMarks [op,op'] [b,c]=false:=by with_unfolding_all rfl):PT X (.Compare a [op,op'] [b,c] pos) (zaM (zjz r r' ta tb tc)):=by
 intro pins s σ H Q I h
 refine isTrue_chain (thn (ha pins s σ H _ I h) fun v s1 ⟨x,H1,I1,r1,q1⟩=>test_link (thn (hb pins s1 σ H1 _ I1 q1) fun u s2 ⟨y,H2,I2,r2,q2⟩ =>
  thn (ho pins s2 σ H2 x y v u _ I2 r1 r2 q2) fun d s3 ⟨z,H3,I3,r3,k,e,q3⟩=>?_)) hm
 subst e
 cases r3
 refine wpAny_truthy_bool ?_
 cases k with
 | false =>
  obtain ⟨k',e',q'⟩:=q3
  cases e'
  exact ite_ff ⟨H3,I3,q'⟩
 | true =>
  refine ite_tt (test_last (thn (hc pins s3 σ H3 _ I3 q3) fun w' s4 ⟨z',H4,I4,r4,q4⟩=>thn (ho' pins s4 σ H4 y z' u w' _ I4 r2 r4 q4) fun d' s5 hQ'=>?_))
  obtain ⟨z2,H5,I5,r5,k2,e2,q5⟩:=hQ'
  subst e2
  cases r5
  exact wpAny_truthy_bool ⟨H5,I5,q5⟩
def zqj (K:PySem.W.Frag) (x:V) (H:Hp) (k:Bool):Prop :=
 match x with
 | .non=>k=false
 | .bl b=>k=b
 | .int i=>k=(i != 0)
 | .str y=>y.length≤sizeLine∧k=((y.length:Int) != 0)
 | .byt y=>y.size≤sizeLine∧k=((y.size:Int) != 0)
 | .ref p=>(∃ xs,SqL K H p xs∧k=!xs.isEmpty)∨(∃ xs,SqT K H p xs∧k=!xs.isEmpty)∨∃ kvs,H p=some (.dK kvs)∧k=!kvs.isEmpty
 | _=>False
theorem zkb {κ:Type} {kvs:List (κ×V)} {vs:List (κ×Value)} (r:KV kvs vs):(!vs.isEmpty)=!kvs.isEmpty:=by
 cases r <;> rfl
theorem zgs {xs:List V} {its:List Value} (r:zb9 xs its):(!its.toArray.isEmpty)=!xs.isEmpty:=by
 cases r <;> simp
theorem zgy:(sizeLine:Nat)<2 ^ 63:=by rw [sizeLine_eq];decide
theorem zp3:TruR X (fun x H Q=>∃ k,zqj X.K x H k∧Q k H):=by
 intro pins s σ H x v Q I rx h
 obtain ⟨k,e,q⟩:=h
 have hl:=zgy
 have hs:sizeLine=16777216:=sizeLine_eq
 cases x with
 | non =>
  cases rx
  have e':k=false:=e
  subst e'
  exact truthy_none ⟨H,I,q⟩
 | bl b =>
  cases rx
  have e':k=b:=e
  subst e'
  exact wpAny_truthy_bool ⟨H,I,q⟩
 | int i =>
  obtain ⟨t,rfl⟩:=rx
  have e':k=(i != 0):=e
  subst e'
  exact PySem.P.truthy_int ⟨H,I,q⟩
 | str y =>
  obtain ⟨t,rfl⟩:=rx
  obtain ⟨hy,e'⟩:y.length≤sizeLine∧k=((y.length:Int) != 0):=e
  subst e'
  exact PySem.P.truthy_str (by (first|lia|omega)) ⟨H,I.tok _,q⟩
 | byt y =>
  obtain ⟨t,rfl⟩:=rx
  obtain ⟨hy,e'⟩:y.size≤sizeLine∧k=((y.size:Int) != 0):=e
  subst e'
  exact PySem.W.truthy_bytes (by (first|lia|omega)) ⟨H,I.tok _,q⟩
 | ref p =>
  cases rx
  have e':(∃ xs,SqL X.K H p xs∧k=!xs.isEmpty)∨(∃ xs,SqT X.K H p xs∧k=!xs.isEmpty)∨∃ kvs,H p=some (.dK kvs)∧k=!kvs.isEmpty:=e
  rcases e' with ⟨xs,hx,e'⟩ | ⟨xs,hx,e'⟩ | ⟨kvs,hx,e'⟩
  ·subst e'
   obtain ⟨its,r,pl,hz⟩:=I.list hx
   have hlen:=r.length
   exact wpAny_truthy_list pl.isList (by simp only [List.size_toArray];(first|lia|omega)) ⟨H,I.tok _,by rw [zgs r];exact q⟩
  ·subst e'
   obtain ⟨its,r,pl,hz⟩:=I.tuple hx
   have hlen:=r.length
   exact truthy_tuple pl (by simp only [List.size_toArray];(first|lia|omega)) ⟨H,I.tok _,by rw [zgs r];exact q⟩
  ·subst e'
   obtain ⟨hz,hS,vs,r,m⟩:kvs.length≤sizeLine∧(p == sysModules)=false∧∃ vs,KV kvs vs∧s.heap.DictOf (zi2 X.prog X.w) p vs:=I.hok p _ hx
   have hlen:kvs.length=vs.length:=Paired.length r
   exact wpAny_truthy_dict hS m (by (first|lia|omega)) ⟨H,I.tok _,by rw [zkb r];exact q⟩
 | _=>exact (show False from e).elim
theorem zlY (ha:PE X a ta) (he:∀ whole,isTrue a X.env whole=(do let v ← whole;standAt a.pos;holding [v] (truthy v))) :
  PT X a (fun σ H Q=>ta σ H fun x H'=>∃ k,zqj X.K x H' k∧Q k H'):=by
 intro pins s σ H Q I h
 exact isTrue_plain (thn (ha pins s σ H _ I h) fun v s1 ⟨x,H1,I1,r1,q1⟩=>zp3 pins s1 σ H1 x v Q I1 r1 q1) (he _)
theorem zjT:OpR X (binaryOp .Add) (fun x y H Q=>∃ i j,x=.str i∧y=.str j∧i.length+j.length≤sizeLine∧Q (.str (i++j)) H):=by
 intro pins s σ H x y v u Q I rx ry h
 obtain ⟨i,j,rfl,rfl,hz,q⟩:=h
 obtain ⟨t,rfl⟩:=rx
 obtain ⟨t',rfl⟩:=ry
 exact add_str (fun t' tk=>⟨.str (i++j),H,I.tok _,⟨_,rfl⟩,q⟩) hz
theorem zfp {x:V} {us:List Value} (r:zb9 [x] us):∃ u,us=[u]∧zcF x u:=by
 cases r with
 | cons r1 r2=>cases r2;exact ⟨_,rfl,r1⟩
theorem zkF {x y:V} {us:List Value} (r:zb9 [x,y] us):∃ u w',us=[u,w']∧zcF x u∧zcF y w':=by
 cases r with
 | cons r1 r2 =>
  cases r2 with
  | cons r3 r4=>cases r4;exact ⟨_,_,rfl,r1,r3⟩
theorem zkz (hc:X.calm=true):zeR X (.builtin "min") (fun xs H Q=>∃ i j,xs=[.int i,.int j]∧Q (.int (if j<i then j else i)) H):=by
 intro pins s σ H xs us Q I r h
 obtain ⟨i,j,rfl,q⟩:=h
 obtain ⟨u,w',rfl,⟨t,rfl⟩,⟨t',rfl⟩⟩:=zkF r
 refine min_two_ints (I.ok.hd hc) fun h' tk k=>⟨_,H,I.kept k,?_,q⟩
 by_cases hj:j<i
 ·rw [if_pos hj,if_pos hj];exact ⟨_,rfl⟩
 ·rw [if_neg hj,if_neg hj];exact ⟨_,rfl⟩
theorem ze2:zeR X (.type "int") (fun xs H Q=>(∃ i,xs=[.int i]∧Q (.int i) H)∨∃ k,xs=[.bl k]∧Q (.int (if k then 1 else 0)) H):=by
 intro pins s σ H xs us Q I r h
 rcases h with ⟨i,rfl,q⟩ | ⟨k,rfl,q⟩
 ·obtain ⟨u,rfl,t,rfl⟩:=zfp r
  exact call_int_int ⟨.int i,H,I,⟨_,rfl⟩,q⟩
 ·obtain ⟨u,rfl,r1⟩:=zfp r
  cases r1
  exact call_int_bool ⟨.int (if k then 1 else 0),H,I.tok _,⟨_,rfl⟩,q⟩
theorem ziq:zeR X (.type "str") (fun xs H Q=>∃ i,xs=[.int i]∧i.natAbs.log2<1920∧Q (.str (toString i)) H):=by
 intro pins s σ H xs us Q I r h
 obtain ⟨i,rfl,hz,q⟩:=h
 obtain ⟨u,rfl,t,rfl⟩:=zfp r
 exact PySem.P.str_of_int hz ⟨.str _,H,I.tok _,⟨_,rfl⟩,q⟩
def LenV (K:PySem.W.Frag) (x:V) (H:Hp) (n:Nat):Prop :=
 match x with
 | .str y=>y.length≤sizeLine∧n=y.length
 | .byt y=>y.size≤sizeLine∧n=y.size
 | .ref p=>(∃ xs,SqL K H p xs∧n=xs.length)∨∃ xs,SqT K H p xs∧n=xs.length
 | _=>False
theorem zmp:zeR X (.builtin "len") (fun xs H Q=>∃ x n,xs=[x]∧LenV X.K x H n∧Q (.int n) H):=by
 intro pins s σ H xs us Q I r h
 obtain ⟨x,n,rfl,e,q⟩:=h
 obtain ⟨u,rfl,rx⟩:=zfp r
 have hl:=zgy
 have hs:sizeLine=16777216:=sizeLine_eq
 cases x with
 | str y =>
  obtain ⟨t,rfl⟩:=rx
  obtain ⟨hy,e'⟩:y.length≤sizeLine∧n=y.length:=e
  subst e'
  exact len_str (by (first|lia|omega)) ⟨.int _,H,I.tok _,⟨_,rfl⟩,q⟩
 | byt y =>
  obtain ⟨t,rfl⟩:=rx
  obtain ⟨hy,e'⟩:y.size≤sizeLine∧n=y.size:=e
  subst e'
  exact PySem.W.len_bytes (by (first|lia|omega)) ⟨.int _,H,I.tok _,⟨_,rfl⟩,q⟩
 | ref p =>
  cases rx
  have e':(∃ xs,SqL X.K H p xs∧n=xs.length)∨∃ xs,SqT X.K H p xs∧n=xs.length:=e
  rcases e' with ⟨xs,hx,e'⟩ | ⟨xs,hx,e'⟩
  ·subst e'
   obtain ⟨its,r',pl,hz⟩:=I.list hx
   have hlen:=r'.length
   exact Calls.call_len_list pl.isList (by simp only [List.size_toArray];(first|lia|omega)) ⟨.int xs.length,H,I.tok _,⟨_,by simp only [List.size_toArray];rw [hlen]⟩,q⟩
  ·subst e'
   obtain ⟨its,r',pl,hz⟩:=I.tuple hx
   have hlen:=r'.length
   exact len_tuple pl (by simp only [List.size_toArray];(first|lia|omega)) ⟨.int xs.length,H,I.tok _,⟨_,by simp only [List.size_toArray];rw [hlen]⟩,q⟩
 | _=>exact (show False from e).elim
end
end L2
namespace L2
open PySem PySem.Spec PyProof.Rows
structure ObjM (h:Heap) (x dx C:Addr) (mA:Str→Option Value):Prop where
 obj:h.get? x=some (PySem.W.instObj C dx)
 ns:h.Ns1 dx mA
 ne:dx≠x
theorem zhG {h:Heap} {dx:Addr} {mA:Str→Option Value} (n:h.Ns1 dx mA):∃ od,h.get? dx=some od∧∀ name,PySem.W.lookIn name od=some (mA name):=by
 obtain ⟨o,es,ep,ho,hd,hk,_,hm⟩:=n
 refine ⟨o,ho,fun name=>?_⟩
 have e:=hm name
 unfold nsFind findBy at e
 rw [← Array.find?_toList] at e
 unfold PySem.W.lookIn
 rw [hd]
 dsimp only
 split
 ·rename_i y q
  rw [q] at e
  exact congrArg some e
 ·rename_i q
  rw [q] at e
  have a:es.toList.any (·.refKey)=false:=by
   rw [List.any_eq_false]
   intro y hy
   obtain ⟨z,t,hkey⟩:=hk y (Array.mem_toList_iff.mp hy)
   simp [DictEntry.refKey,hkey]
  have a':¬ es.toList.any (·.refKey)=true:=by rw [a];exact Bool.false_ne_true
  rw [if_neg a']
  exact congrArg some e
theorem ObjM.look {h:Heap} {x dx C:Addr} {mA:Str→Option Value} (I:ObjM h x dx C mA):∃ od,PySem.W.InstAt h x (PySem.W.instObj C dx) C (some od)∧∀ name,PySem.W.lookIn name od=some (mA name) :=
 let ⟨od,ho,hl⟩:=zhG I.ns
 ⟨od,⟨I.obj,rfl,rfl,ho⟩,hl⟩
section
variable {prog:Program} {w:World} {A:Around} {E:Value→Shared→Prop} {s:Shared} {K:PySem.W.Frag} {x dx C f:Addr} {mA:Str→Option Value} {name:Str} {v:Value}
end
theorem znz.some_of {v:V} {o:Option Value} (r:znz (some v) o):∃ u,o=some u∧zcF v u:=by
 cases o with
 | none=>exact (show False from r).elim
 | some u=>exact ⟨u,rfl,r⟩
theorem zlf {v:V} {u:Value} (r:zcF v u):PySem.W.handedIn u=true:=by
 cases v with
 | non=>cases (show u=Value.none from r);rfl
 | bl b=>cases (show u=Value.bool b from r);rfl
 | int i=>obtain ⟨t,e⟩:=(show ∃ t,u=Value.int i t from r);cases e;rfl
 | str x=>obtain ⟨t,e⟩:=(show ∃ t,u=Value.str x t from r);cases e;rfl
 | byt b=>obtain ⟨t,e⟩:=(show ∃ t,u=Value.bytes b t from r);cases e;rfl
 | flt b=>obtain ⟨t,e⟩:=(show ∃ t,u=Value.float b t from r);cases e;rfl
 | ref a=>cases (show u=Value.ref a from r);rfl
 | ty n=>cases (show u=Value.type n from r);rfl
section
variable {P:Program} {w:World} {H H':Hp} {h h':Heap} {a C dx:Addr} {fs fs':List (Str×V)}
theorem zoj (hok:HOk P w H h) (e:H a=some (.ins C dx fs)):∃ mA,ObjM h a dx C mA∧(∀ f,znz (fs.lookup f) (mA f))∧PySem.Within mA (fs.map (·.1))∧fs.length≤1000∧H dx=some (.own a):=by
 obtain ⟨d,z,ne,ob,mA,n,r,q⟩:=(show zcg P w H h a (.ins C dx fs) from hok a _ e)
 exact ⟨mA,⟨ob,n,ne⟩,r,q,z,d⟩
end
structure Cls (K:PySem.W.Frag) (C:Addr):Prop where
 pg:PySem.W.plainGet K C Str.empty=true
 hd:PySem.W.hasDictIn K C=true
 po:PySem.W.plainOver K C=true
 sa:PySem.W.findIn K (.ref C) "__setattr__"=some (some (.builtin "object.__setattr__"))
theorem Cls.get {K:PySem.W.Frag} {C:Addr} (c:Cls K C) (f:Str):PySem.W.plainGet K C f=true:=c.pg
section
variable {X:Cx} {pins:List (Addr×Obj)} {σ:St} {H:Hp} {s:Shared} {a C dx:Addr} {fs:List (Str×V)} {f:Str} {v:V} {A:Around} {E:Value→Shared→Prop}
theorem znH {prog:Program} {w:World} {env:Env} {e:Expr} {f:Str} {pos:Pos} {s:Shared} {Q:Value→Shared→Prop} (hb:attributeBase e f env (eval e env)=eval e env)
  (h:wpAny (model prog w) A (eval e env) (fun o s₁=>wpAny (model prog w) A (getAttr o f true) Q E s₁) E s):wpAny (model prog w) A (eval (.Attribute e f pos) env) Q E s :=
 Attribute_any_ h (by rw [arm_eval_Attribute,hb])
end
section
variable {X:Cx} {o e value:Expr} {f:Str} {pos pos' tpos:Pos} {ta tv:TE}
end
section
variable {X:Cx} {pins:List (Addr×Obj)} {σ:St} {H:Hp} {s:Shared} {A:Around} {E:Value→Shared→Prop} {Q:Value→Shared→Prop} {c:Value} {b:Bool}
inductive zju (K:PySem.W.Frag) (H:Hp):V→Value→Prop where
 | non:zju K H .non (.type "NoneType")
 | bl (x:Bool):zju K H (.bl x) (.type "bool")
 | int (i:Int):zju K H (.int i) (.type "int")
 | str (x:Str):zju K H (.str x) (.type "str")
 | flt (x:UInt64):zju K H (.flt x) (.type "float")
 | lst {a:Addr} {xs:List V} (e:H a=some (.lst xs)):zju K H (.ref a) (.type "list")
 | frz {a:Addr} {o:Obj} {xs:List V} (e:H a=some (.frz o (.lst xs))):zju K H (.ref a) (.type "list")
 | tup {a:Addr} {xs:List V} (e:H a=some (.tup xs)):zju K H (.ref a) (.type "tuple")
 | dK {a:Addr} {kvs:List (Key×V)} (e:H a=some (.dK kvs)):zju K H (.ref a) (.type "dict")
 | dT {a:Addr} {kvs:List (List Key×V)} (e:H a=some (.dT kvs)):zju K H (.ref a) (.type "dict")
 | ins {a C dx:Addr} {fs:List (Str×V)} (e:H a=some (.ins C dx fs)) (cl:Cls K C) (ha:PySem.W.findIn K (.ref C) "__class__"=some (some (.builtin "object.__class__")))
   (hn:PySem.W.specialIn K (.builtin "object.__class__") "__get__"=some (some (.builtin "getset_descriptor.__get__"))) (htk:PySem.W.takesIn K (.builtin "object.__class__")=some true)
   (hm:PySem.W.mroIn K C (.type "object")=some true):zju K H (.ref a) (.ref C)
theorem zlb {x:V} {u t:Value} (I:Inv X pins σ H s) (rx:zcF x u) (ty:zju X.K H x t) (e:PySem.W.kitOne X.K t c=some b) (h:∀ tk,Q (.bool b) { s with toks:=tk }) :
  wpAny (model X.prog X.w) A (call (.builtin "isinstance") [u,c]) Q E s:=by
 cases ty with
 | non=>cases (show u=Value.none from rx);exact PySem.W.kia_one PySem.W.kitx_none I.kIn True.intro e (fun z=>nomatch z) h
 | bl y=>cases (show u=Value.bool y from rx);exact PySem.W.kia_one PySem.W.kitx_bool I.kIn True.intro e (fun z=>nomatch z) h
 | int i=>obtain ⟨t,q⟩:=(show ∃ t,u=Value.int i t from rx);cases q;exact PySem.W.kia_one PySem.W.kitx_int I.kIn True.intro e (fun z=>nomatch z) h
 | str y=>obtain ⟨t,q⟩:=(show ∃ t,u=Value.str y t from rx);cases q;exact PySem.W.kia_one PySem.W.kitx_str I.kIn True.intro e (fun z=>nomatch z) h
 | flt y=>obtain ⟨t,q⟩:=(show ∃ t,u=Value.float y t from rx);cases q;exact PySem.W.kia_one PySem.W.kitx_float I.kIn True.intro e (fun z=>nomatch z) h
 | @lst a xs ea =>
  cases (show u=Value.ref a from rx)
  obtain ⟨_,_,n,_,h1⟩:=(show zcg X.prog X.w H s.heap a (.lst xs) from I.hok a _ ea)
  exact PySem.W.kia_one PySem.W.kitx_list I.kIn ⟨_,h1,rfl⟩ e (fun z=>nomatch z) h
 | @frz a ob xs ea =>
  cases (show u=Value.ref a from rx)
  obtain ⟨_,_,_,n,_,h1⟩:=(show zcg X.prog X.w H s.heap a (.frz ob (.lst xs)) from I.hok a _ ea)
  exact PySem.W.kia_one PySem.W.kitx_list I.kIn ⟨_,h1,rfl⟩ e (fun z=>nomatch z) h
 | @tup a xs ea =>
  cases (show u=Value.ref a from rx)
  obtain ⟨_,_,_,p⟩:=(show zcg X.prog X.w H s.heap a (.tup xs) from I.hok a _ ea)
  obtain ⟨o,h1,h2,_⟩:=p
  exact PySem.W.kia_one PySem.W.kitx_tuple I.kIn ⟨o,h1,h2⟩ e (fun z=>nomatch z) h
 | @dK a kvs ea =>
  cases (show u=Value.ref a from rx)
  obtain ⟨_,_,vs,_,p⟩:=(show zcg X.prog X.w H s.heap a (.dK kvs) from I.hok a _ ea)
  obtain ⟨o,es,ep,h1,h2,_⟩:=p
  exact PySem.W.kia_one PySem.W.kitx_dict I.kIn ⟨o,h1,h2.1⟩ e (fun z=>nomatch z) h
 | @dT a kvs ea =>
  cases (show u=Value.ref a from rx)
  obtain ⟨_,_,xs,_,o,es,ep,h1,h2,_⟩:=(show zcg X.prog X.w H s.heap a (.dT kvs) from I.hok a _ ea)
  exact PySem.W.kia_one PySem.W.kitx_dict I.kIn ⟨o,h1,h2.1⟩ e (fun z=>nomatch z) h
 | @ins a C dx fs ea cl ha hn htk hm =>
  cases (show u=Value.ref a from rx)
  obtain ⟨mA,O,_⟩:=zoj I.hok ea
  obtain ⟨od,J,_⟩:=O.look
  exact PySem.W.kia_one (PySem.W.kitx_own (cl.get _) cl.hd ha hn htk hm) I.kIn J e (fun z=>nomatch z) h
end
end L2
namespace L2
open PySem PySem.Spec PyProof.Rows
structure ze3 (k:Nat) (A:Around):Prop where
 hd:A.handled=none
 dp:A.depth+3*k+5<recursionLimit
 un:A.units+16*k+200<cLine
theorem ze3.mono {j k:Nat} {A:Around} (r:ze3 k A) (h:j≤k):ze3 j A:=⟨r.hd,by have:=r.dp;(first|lia|omega),by have:=r.un;(first|lia|omega)⟩
theorem ze3.deeper {k:Nat} {A:Around} (r:ze3 (k+1) A) (env:Env):ze3 k (A.deeper env) :=
 ⟨r.hd,by have:=r.dp;show A.depth+1+3*k+5<_;(first|lia|omega),by have:=r.un;show A.units+3+16*k+200<_;(first|lia|omega)⟩
theorem zka {A:Around} {C:Addr} {us:List Value} {kw:List (Str×Value)}:(A.under (.builtin "type.__call__" ⟨.ref C::us,kw⟩)).depth=A.depth+1:=by
 first | rfl | simp [Around.under,Code.weight,Code.isCreation,Code.isGuard,Code.isCaller,Code.frames,Code.isFrame,guardIds]
theorem zj1 {A:Around} {C:Addr} {us:List Value} {kw:List (Str×Value)}:(A.under (.builtin "type.__call__" ⟨.ref C::us,kw⟩)).units=A.units+1:=by
 first | rfl | simp [Around.under,Code.cUnits,Code.frames,Code.isFrame]
theorem ze3.make {k:Nat} {A:Around} (r:ze3 (k+1) A) (C:Addr) (us:List Value) (kw:List (Str×Value)):ze3 k (A.under (.builtin "type.__call__" ⟨.ref C::us,kw⟩)) :=
 ⟨r.hd,by have:=r.dp;rw [zka];(first|lia|omega),by have:=r.un;rw [zj1];(first|lia|omega)⟩
theorem ze3.depth {k:Nat} {A:Around} (r:ze3 k A):A.depth<recursionLimit:=by have:=r.dp;(first|lia|omega)
theorem ze3.units {k:Nat} {A:Around} (r:ze3 k A):A.units+64<cLine:=by have:=r.un;(first|lia|omega)
def zaE:TA:=fun _ H Q=>Q [] H
def zab (ta:TE) (tr:TA):TA:=fun σ H Q=>ta σ H fun x H1=>tr σ H1 fun xs H2=>Q (x::xs) H2
section
variable {X:Cx} {e:Expr} {es:List Expr} {te:TE} {t:TA} {pos:Pos}
theorem zag:PA X [] zaE:=fun _ _ _ _ H Q I h=>Calls.spliced_nil ⟨[],H,I,.nil,h⟩
theorem zaa (ha:PE X e te) (hr:PA X es t) (hs:starEach (e::es) X.env=(false,eval e X.env)::starEach es X.env:=by rfl):PA X (e::es) (zab te t):=by
 intro pos pins s σ H Q I h
 rw [hs]
 show wpAny _ _ (spliced ((false,eval e X.env)::backTo pos (starEach es X.env))) _ _ s
 refine Calls.spliced_cons (thn (ha pins s σ H _ I h) fun u s1 hQ'=>?_)
 obtain ⟨x,H1,I1,r1,q1⟩:=hQ'
 exact thn (hr pos pins s1 σ H1 _ I1 q1) fun us s2 ⟨xs,H2,I2,r2,q2⟩=>⟨x::xs,H2,I2,.cons r1 r2,q2⟩
def zf3 (t:TA):TE:=fun σ H Q=>t σ H fun xs H1=>xs.length≤sizeLine∧∀ p,H1 p=none→Q (.ref p) (upd H1 p (.tup xs))
def zdu (t:TA):TE:=fun σ H Q=>t σ H fun xs H1=>xs.length≤sizeLine∧∀ p,H1 p=none→Q (.ref p) (upd H1 p (.lst xs))
theorem zdv {x1} (h:PA X es t):PE X (.Tuple es x1 pos) (zf3 t):=by
 intro pins s σ H Q I hq
 refine wpAny_Tuple_spliced (thn (h pos pins s σ H _ I hq) fun us s1 ⟨xs,H1,I1,r,z,q⟩=>⟨by rw [← r.length];exact z,?_⟩)
 have hf:H1 s1.heap.objs.size=none:=I1.hok.fresh (Nat.le_refl _)
 refine ⟨.ref s1.heap.objs.size,upd H1 s1.heap.objs.size (.tup xs),I1.laid (t':=s1.toks) (fun b u e=>Heap.get?_push_of_some _ e) (Nat.le_refl _) ?_,rfl,q _ hf⟩
 exact ⟨z,us,r,⟨_,Heap.get?_push_size _ rfl,rfl,_,rfl⟩⟩
theorem zb3 (h:PA X es t):PE X (.List es pos) (zdu t):=by
 intro pins s σ H Q I hq
 refine wpAny_List_spliced (thn (h pos pins s σ H _ I hq) fun us s1 ⟨xs,H1,I1,r,z,q⟩=>⟨by rw [← r.length];exact z,?_⟩)
 have hf:H1 s1.heap.objs.size=none:=I1.hok.fresh (Nat.le_refl _)
 refine ⟨.ref s1.heap.objs.size,upd H1 s1.heap.objs.size (.lst xs),I1.laid (t':=s1.toks) (fun b u e=>Heap.get?_push_of_some _ e) (Nat.le_refl _) ?_,rfl,q _ hf⟩
 exact ⟨z,us,0,r,Heap.get?_push_size _ rfl⟩
end
abbrev Sp:=List V→Hp→VK→XK→Prop
abbrev CXT:=List Env→Hp→Shared→XK→Value→Shared→Prop
structure zlI (P:Program) (w:World) (K:PySem.W.Frag) (mg:Str→Option Value) (base:Heap) (A:Around) (outer:List Env) (s:Shared) (H:Hp):Prop where
 frames:A.frames=some outer
 mod:Mod K mg base
 bs:∀ b o,base.get? b=some o→s.heap.get? b=some o∧H b=none
 bsz:base.objs.size≤s.heap.objs.size
 funs:s.heap.FunFrames base outer
 frf:∀ b∈frs outer,H b=none
 hok:HOk P w H s.heap
 bare:AllBare s.gens
def CE (outer:List Env) (P:Program) (w:World) (H:Hp) (s:Shared) (Q:VK) (u:Value) (s':Shared):Prop :=
 ∃ v H',s'.os=s.os∧AllBare s'.gens∧Un (frs outer) [] H H' s.heap s'.heap∧HOk P w H' s'.heap∧zcF v u∧Q v H'
def CR (CX:CXT) (outer:List Env) (P:Program) (w:World) (H:Hp) (s:Shared) (Q:VK) (E:XK) (r:Result) (s':Shared):Prop :=
 match r with
 | .ok (.ret u)=>CE outer P w H s Q u s'
 | .ok _=>False
 | .error e=>CX outer H s E e s'
structure zdD (P:Program) (w:World) (K:PySem.W.Frag) (mg:Str→Option Value) (base:Heap) (CX:CXT) (k:Nat) (f:Addr) (fd:FuncData) (ps:List Str) (sp:Sp):Prop where
 len:∀ vs H Q E,sp vs H Q E→vs.length=ps.length
 run:∀ (A:Around) (outer:List Env) (s:Shared) (H:Hp) (args:Args) (us:List Value) (vs:List V) (Q:VK) (E:XK),ze3 k A→zlI P w K mg base A outer s H→BindsTo s fd args (ps.zip us)→zb9 vs us→sp vs H Q E →
  codeAny (model P w) A (.call (.ref f) args) (CR CX outer P w H s Q E) s
theorem zlI.make {P:Program} {w:World} {K:PySem.W.Frag} {mg:Str→Option Value} {base:Heap} {A:Around} {outer:List Env} {s:Shared} {H:Hp} (e:zlI P w K mg base A outer s H) (C:Addr) (us:List Value) (kw:List (Str×Value)) :
  zlI P w K mg base (A.under (.builtin "type.__call__" ⟨.ref C::us,kw⟩)) outer s H:=⟨by first | exact e.frames | (simpa [Around.under,Code.envs,Code.isFrame,pushEnvs] using e.frames),e.mod,e.bs,e.bsz,e.funs,e.frf,e.hok,e.bare⟩
section
variable {X:Cx} {pins:List (Addr×Obj)} {σ:St} {H:Hp} {s s':Shared}
theorem Inv.env0 (I:Inv X pins σ H s):zlI X.prog X.w X.K X.mg X.base X.A X.stack s H :=
 ⟨I.ok.frames,I.ok.mod,I.bs,Nat.le_trans I.ok.bsz I.sz,I.stack,I.stkFree,I.hok,I.bare⟩
theorem Inv.after {Q:VK} {u:Value} (I:Inv X pins σ H s) (h:CE X.stack X.prog X.w H s Q u s'):EP X pins σ Q u s':=by
 obtain ⟨v,H',os,bare,un,hok,r,q⟩:=h
 obtain ⟨hh,g,d,t,os'⟩:=s'
 obtain rfl:os'=s.os:=os
 exact ⟨v,H',I.call (h':=hh) (g':=g) (d':=d) (t':=t) (ch:=[]) un hok bare (fun b z=>absurd z (by simp)),r,q⟩
end
def zbz (sp:Sp) (dvs:List V) (E:XK) (t:TA):TE:=fun σ H Q=>t σ H fun vs H1=>sp (vs++dvs) H1 Q E
def zcq (K:PySem.W.Frag) (fd:FuncData) (ps:List Str) (ds:List Value):Prop :=
 ∀ (s:Shared) (us:List Value),K.In s.heap→(us++ds).length=ps.length→BindsTo s fd ⟨us,[]⟩ (ps.zip (us++ds))
theorem zcq.all {K:PySem.W.Frag} {fd:FuncData} {ps:List Str} (h:∀ us:List Value,us.length=ps.length→bindArgs fd ⟨us,[]⟩=pure (ps.zip us)):zcq K fd ps []:=fun s us _ hl=>by
 rw [List.append_nil] at hl ⊢
 exact .of_eq (h us hl)
def zfO (CX:CXT) (X:Cx) (E:XK):Prop:=∀ (pins:List (Addr×Obj)) (σ:St) (H:Hp) (s:Shared) (e:Value) (s':Shared),Inv X pins σ H s→CX X.stack H s E e s'→X.xe e s'
section
variable {X:Cx} {CX:CXT} {k:Nat} {f C:Addr} {fd:FuncData} {ps:List Str} {sp:Sp} {dvs:List V} {ds:List Value} {E:XK} {x m:Str} {p pos apos:Pos} {e o:Expr} {es:List Expr} {ta:TE} {t:TA}
theorem zqq {pins:List (Addr×Obj)} {σ:St} {H:Hp} {s:Shared} {Q:VK} {us:List Value} {vs:List V} (F:zdD X.prog X.w X.K X.mg X.base CX k f fd ps sp) (hr:ze3 k X.A) (hb:zcq X.K fd ps ds) (hd:zb9 dvs ds) (hx:zfO CX X E)
  (I:Inv X pins σ H s) (r:zb9 vs us) (h:sp (vs++dvs) H Q E):wpAny (model X.prog X.w) X.A (call (.ref f) us) (EP X pins σ Q) X.xe s:=by
 have r2:zb9 (vs++dvs) (us++ds):=r.append hd
 have hl:(us++ds).length=ps.length:=by rw [← r2.length];exact F.len _ _ _ _ h
 refine wpAny_call (codeAny_mono (F.run X.A X.stack s H ⟨us,[]⟩ (us++ds) (vs++dvs) Q E hr I.env0 (hb s us I.kIn hl) r2 h) fun r s' hq=>?_)
 cases r with
 | error e=>exact hx pins σ H s e s' I hq
 | ok fl =>
  cases fl with
  | ret u=>exact I.after hq
  | next=>exact False.elim hq
  | brk=>exact False.elim hq
  | cont=>exact False.elim hq
theorem zbh (F:zdD X.prog X.w X.K X.mg X.base CX k f fd ps sp) (hr:ze3 k X.A) (hg:Gl X x) (hm:X.mg x=some (.ref f)) (hk:PySem.W.keepIn X.K (.ref f)=true) (hb:zcq X.K fd ps ds) (hd:zb9 dvs ds) (hx:zfO CX X E)
  (ha:PA X (e::es) t) (hdb:(x == ("__debug__":Str))=false:=by decide) (he:starEach (e::es) X.env=(false,eval e X.env)::starEach es X.env:=by rfl) (hpl:(backTo pos (starEach es X.env)).any (·.1)=false:=by rfl) :
  PE X (.Call (.Name x p) (e::es) [] pos) (zbz sp dvs E t):=by
 intro pins s σ H Q I h
 refine wpAny_Call_Name_kw (zeo I hg hm ?_ hdb)
 refine PySem.W.callWith_K (h₀:=X.base) I.ok.mod.kin hk (thn (ha pos pins s σ H _ I h) fun us s1 ⟨vs,H1,I1,r,q⟩=>⟨I1.kIn,?_⟩) he hpl
 exact zqq F hr hb hd hx I1 r q
end
section
variable {X:Cx} {CX:CXT} {k:Nat} {f C:Addr} {fd:FuncData} {ps ks:List Str} {sp:Sp} {E:XK} {x m:Str} {p pos apos kpos:Pos} {e o:Expr} {es:List Expr} {kws:List Keyword} {te ta:TE} {t tk:TA} {nm:Option Str}
variable {g:List Value→List Value→List Value} {gV:List V→List V→List V}
end
structure zbo (N P:List Str) (sc:Scope):Prop where
 kind:sc.kind=.function
 co:sc.isCoroutine=false
 gen:sc.isGenerator=false
 nd:N.Nodup
 pre:N.take P.length=P
 par:∀ x∈P,sc.names.lookup x=some .local∨sc.names.lookup x=some .cell
 nofree:∀ y∈sc.names,y.2≠.free
theorem zhJ {kindOf:Str→Option NameKind} {x:Str}:∀ {binds:List (Str×Value)} {m:Str→Option Value},(∀ v,(x,v)∉binds)→bindL kindOf binds m x=m x
 | [],_,_=>rfl
 | (n,v)::r,m,h=>by
  unfold bindL
  rw [zhJ fun w hw=>h w (List.mem_cons_of_mem _ hw)]
  split
  ·have:x≠n:=by rintro rfl;exact h v List.mem_cons_self
   simp [this]
  ·rfl
theorem zhY {kindOf:Str→Option NameKind} {x:Str}:∀ {binds:List (Str×Value)} {m:Str→Option Value},(∀ v,(x,v)∉binds)→bindC kindOf binds m x=m x
 | [],_,_=>rfl
 | (n,v)::r,m,h=>by
  unfold bindC
  rw [zhY fun w hw=>h w (List.mem_cons_of_mem _ hw)]
  split
  ·rfl
  ·have:x≠n:=by rintro rfl;exact h v List.mem_cons_self
   simp [this]
theorem zid {kindOf:Str→Option NameKind} {x:Str} {v:Value}:∀ {P:List Str} {vs:List Value} {i:Nat} {m:Str→Option Value},P.Nodup→P[i]?=some x→vs[i]?=some v→kindOf x=some .local →
  bindL kindOf (P.zip vs) m x=some v
 | [],_,_,_,_,h,_,_=>by simp at h
 | _::_,[],_,_,_,_,h,_=>by simp at h
 | p::P,w::vs,0,m,nd,h1,h2,hk=>by
  simp at h1 h2;subst h1;subst h2
  show bindL kindOf ((p,w)::P.zip vs) m p=_
  unfold bindL
  rw [zhJ fun v hv=>(List.nodup_cons.mp nd).1 (List.of_mem_zip hv).1,if_pos hk]
  simp
 | p::P,w::vs,i+1,m,nd,h1,h2,hk=>by
  show bindL kindOf ((p,w)::P.zip vs) m x=_
  unfold bindL
  exact zid (i:=i) (List.nodup_cons.mp nd).2 (by simpa using h1) (by simpa using h2) hk
theorem zhZ {kindOf:Str→Option NameKind} {x:Str} {v:Value}:∀ {P:List Str} {vs:List Value} {i:Nat} {m:Str→Option Value},P.Nodup→P[i]?=some x→vs[i]?=some v→kindOf x≠some .local →
  bindC kindOf (P.zip vs) m x=some v
 | [],_,_,_,_,h,_,_=>by simp at h
 | _::_,[],_,_,_,_,h,_=>by simp at h
 | p::P,w::vs,0,m,nd,h1,h2,hk=>by
  simp at h1 h2;subst h1;subst h2
  show bindC kindOf ((p,w)::P.zip vs) m p=_
  unfold bindC
  rw [zhY fun v hv=>(List.nodup_cons.mp nd).1 (List.of_mem_zip hv).1,if_neg hk]
  simp
 | p::P,w::vs,i+1,m,nd,h1,h2,hk=>by
  show bindC kindOf ((p,w)::P.zip vs) m x=_
  unfold bindC
  exact zhZ (i:=i) (List.nodup_cons.mp nd).2 (by simpa using h1) (by simpa using h2) hk
def zci (N:List Str) (vs:List V):St:=vs.map some++List.replicate (N.length - vs.length) none
def zlK (CX:CXT) (P:Program) (w:World) (K:PySem.W.Frag) (mg:Str→Option Value) (base:Heap) (N:List Str) (qual:Str) (scope:Scope) (f:Addr) (cd:Value) (A:Around) (outer:List Env) (s:Shared) (H:Hp) (E:XK):Cx where
 prog:=P
 w:=w
 K:=K
 mg:=mg
 base:=base
 A:=A.deeper (envOfC qual scope s.heap.objs.size f cd)
 N:=N
 s₀:=s
 H₀:=H
 env:=envOfC qual scope s.heap.objs.size f cd
 outer:=outer
 stack:=envOfC qual scope s.heap.objs.size f cd::outer
 ex:=[]
 calm:=true
 fn:=fun _=>true
 pn:=[]
 xe:=fun e s'=>wpAny (model P w) (A.deeper (envOfC qual scope s.heap.objs.size f cd)) (leaving (envOfC qual scope s.heap.objs.size f cd) e) (fun _ s''=>CX outer H s E e s'') (fun e' s''=>CX outer H s E e' s'') s'
theorem zjy {sc:Scope} {n:Nat} {x:Str} (h:sc.names.lookup x=some .cell):∃ c,(cellsFrom n sc.names []).lookup x=some c:=by
 have q:=PySem.W.cellsFrom_some sc.names n [] (.inl h)
 exact Option.isSome_iff_exists.mp q
theorem zly {CX:CXT} {P:Program} {w:World} {K:PySem.W.Frag} {mg:Str→Option Value} {base:Heap} {N ps:List Str} {qual:Str} {scope:Scope} {f:Addr} {cd:Value} {A:Around} {outer:List Env} {s s1:Shared} {H:Hp} {E:XK} {us:List Value} {vs:List V}
  (S:zbo N ps scope) (hd:A.handled=none) (e0:zlI P w K mg base A outer s H) (hl:vs.length=ps.length) (r:zb9 vs us)
  (x:InCallC s s.heap.objs.size (bindL (envOfC qual scope s.heap.objs.size f cd).kindOf (ps.zip us) fun _=>none) (cellsFrom (s.heap.objs.size+1) scope.names []) (bindC (envOfC qual scope s.heap.objs.size f cd).kindOf (ps.zip us) fun _=>none) s1) :
  Inv (zlK CX P w K mg base N qual scope f cd A outer s H E) [] (zci N vs) H s1:=by
 have hpl:ps.length≤N.length:=by have:=congrArg List.length S.pre;rw [List.length_take] at this;(first|lia|omega)
 obtain ⟨h1,tk,rfl,hk⟩:=x.done
 have noA:∀ b:Addr,b∉(zlK CX P w K mg base N qual scope f cd A outer s H E).ex:=fun b z=>absurd (show b∈([]:List Addr) from z) (by simp)
 refine ⟨⟨e0.mod,S.kind,rfl,rfl,Nat.le_refl _,fun y z c h1 h2=>?_,fun y hy=>?_,fun y c _ h=>?_,fun _=>hd,Around.frames_deeper e0.frames,.inr ⟨rfl,rfl⟩,fun b z=>absurd z (noA b),e0.bs,e0.bsz,fun b _ _=>noA b,fun b z=>absurd z (noA b),e0.funs,e0.frf⟩,
  rfl,e0.bare,Un.kept hk,⟨_,x.toInCall.ns,fun i y v h1 h2 h3=>?_⟩,fun y c h=>⟨_,x.cell y c h⟩,e0.hok.fresh (Nat.le_refl _),fun y c h=>?_,fun p hp=>absurd (show p∈([]:List (Addr×Obj)) from hp) (by simp),e0.hok.kept hk,?_⟩
 ·exact name_of_addr x.apart (PySem.mem_of_lookup h1) (PySem.mem_of_lookup h2)
 ·have hy:scope.names.lookup y=some .cell∨scope.names.lookup y=some .free:=hy
  rcases hy with hy | hy
  ·exact zjy hy
  ·exact absurd rfl (S.nofree _ (PySem.mem_of_lookup hy))
 ·exact Nat.le_of_lt (x.above y c (PySem.mem_of_lookup h))
 ·have hi:i<vs.length:=by
   unfold zci at h2
   by_cases hi:i<vs.length
   ·exact hi
   ·rw [List.getElem?_append_right (by simpa using hi)] at h2
    rw [List.getElem?_replicate] at h2
    split at h2 <;> cases h2
  have ha:vs[i]?=some v:=by
   unfold zci at h2
   rw [List.getElem?_append_left (by simpa using hi),List.getElem?_map] at h2
   cases e:vs[i]? with
   | none=>rw [e] at h2;cases h2
   | some a=>rw [e] at h2;cases h2;rfl
  obtain ⟨u,hu,rv⟩:=r.get ha
  have hp:ps[i]?=some y:=by
   rw [← S.pre,List.getElem?_take_of_lt (by (first|lia|omega))];exact h1
  have ndP:ps.Nodup:=by rw [← S.pre];exact S.nd.sublist (List.take_sublist _ _)
  refine ⟨u,rv,?_⟩
  rcases S.par y (List.mem_of_getElem? hp) with k | k
  ·exact .inl ⟨k,zid ndP hp hu k⟩
  ·obtain ⟨c,e⟩:=zjy (n:=s.heap.objs.size+1) k
   refine .inr ⟨.inl k,c,e,?_⟩
   have q:=x.cell y c e
   rw [zhZ ndP hp hu (by show scope.names.lookup y≠_;rw [k];decide)] at q
   exact q
 ·exact e0.hok.fresh (Nat.le_of_lt (x.above y c (PySem.mem_of_lookup h)))
 ·unfold zci
  show _=N.length
  rw [List.length_append,List.length_map,List.length_replicate]
  (first|lia|omega)
theorem zou {CX:CXT} {P:Program} {w:World} {K:PySem.W.Frag} {mg:Str→Option Value} {base:Heap} {k:Nat} {f:Addr} {name qual:Str} {params:Arguments} {body:List Stmt} {scope:Scope} {dV kV doc pm cdv ct oc:Value} {an od:Option Addr}
  {osl:Array (Option Value)} {N ps:List Str} {sp:Sp} (lk:K.lookup f=some ⟨oc,od,.func (PySem.W.fnOf name qual params body scope dV kV doc pm an cdv ct),osl⟩) (hcd:PySem.W.codeIn K cdv qual=true) (S:zbo N ps scope)
  (len:∀ vs H Q E,sp vs H Q E→vs.length=ps.length)
  (hbody:∀ (A:Around) (outer:List Env) (s:Shared) (H:Hp) (vs:List V) (Q:VK) (E:XK),ze3 k (A.deeper (envOfC qual scope s.heap.objs.size f cdv))→sp vs H Q E →
   ∃ t,PSs (zlK CX P w K mg base N qual scope f cdv A outer s H E) body t∧t { nx:=fun _ H'=>Q .non H',rt:=Q } (zci N vs) H) :
  zdD P w K mg base CX (k+1) f (PySem.W.fnOf name qual params body scope dV kV doc pm an cdv ct) ps sp:=by
 refine ⟨len,fun A outer s H args us vs Q E hr e0 hb r hsp=>?_⟩
 have hl:=len _ _ _ _ hsp
 have KX:K.In s.heap:=e0.mod.kin.keeps fun b o e=>(e0.bs b o e).1
 have lim:s.heap.NoLimit:=e0.mod.nolimit.keeps fun b o e=>(e0.bs b o e).1
 have hkind:∀ y∈ps.zip us,scope.names.lookup y.1=some .local∨(scope.names.lookup y.1=some .cell∧((cellsFrom (s.heap.objs.size+1) scope.names []).lookup y.1).isSome=true):=fun ⟨n,v⟩ hy=>by
  rcases S.par n (List.of_mem_zip hy).1 with q | q
  ·exact .inl q
  ·exact .inr ⟨q,PySem.W.cellsFrom_some _ _ _ (.inl q)⟩
 refine codeAny_call_function hr.depth (KX _ _ lk) rfl S.co S.gen rfl (PySem.W.codeRec_of KX hcd) (hb _ _ _ _ ?_)
 refine wpAny_newFunctionEnv_cells S.kind hkind fun env he s1 x=>?_
 subst he
 refine ⟨lim.keeps x.toInCall.keep,codeAny_func ?_⟩
 obtain ⟨t,ht,hq⟩:=hbody A outer s H vs Q E (hr.deeper _) hsp
 have I:Inv (zlK CX P w K mg base N qual scope f cdv A outer s H E) [] (zci N vs) H s1:=zly S hr.hd e0 hl r x
 refine wpAny_mono (ht [] s1 (zci N vs) H _ I hq) (fun fl s' hs=>?_) fun e s' hs=>hs
 have fin:∀ {σ':St} {H':Hp} {v:V} {u:Value},Inv (zlK CX P w K mg base N qual scope f cdv A outer s H E) [] σ' H' s'→zcF v u→Q v H'→CE outer P w H s Q u s' :=
  fun {σ' H' v u} J rv q=>⟨v,H',J.os,J.bare,J.base,J.hok,rv,q⟩
 cases fl with
 | ret u =>
  obtain ⟨v,σ',H',J,rv,q⟩:=hs
  exact fin J rv q
 | next =>
  obtain ⟨σ',H',J,q⟩:=hs
  exact fin (v:=V.non) (u:=Value.none) J rfl q
 | brk =>
  obtain ⟨_,_,_,q⟩:=hs
  exact False.elim q
 | cont =>
  obtain ⟨_,_,_,q⟩:=hs
  exact False.elim q
end L2
namespace L2
open PySem PySem.Spec PyProof.Rows
section
variable {X:Cx} {x:Str} {p pos:Pos} {e:Expr} {es:List Expr} {t:TA} {id T:String} {r:List V→Hp→VK→Prop}
def tCB (r:List V→Hp→VK→Prop) (t:TA):TE:=fun σ H Q=>t σ H fun vs H1=>r vs H1 Q
theorem zaF (hc:zeR X (.builtin id) r) (hg:Gl X x) (hm:X.mg x=none) (hv:bootBuiltins x=some (.builtin id)) (ha:PA X (e::es) t) (hn:x≠"__name__":=by decide) (hdb:(x == ("__debug__":Str))=false:=by decide)
  (he:starEach (e::es) X.env=(false,eval e X.env)::starEach es X.env:=by rfl) (hpl:(backTo pos (starEach es X.env)).any (·.1)=false:=by rfl):PE X (.Call (.Name x p) (e::es) [] pos) (tCB r t):=by
 intro pins s σ H Q I h
 refine wpAny_Call_Name_kw (zgz I hg hm hv ?_ hn hdb)
 exact PyProof.Rows.callWith_builtin1 (thn (ha pos pins s σ H _ I h) fun us s1 ⟨vs,H1,I1,r1,q1⟩=>hc pins s1 σ H1 vs us Q I1 r1 q1) he hpl
theorem zbT (hc:zeR X (.type T) r) (hg:Gl X x) (hm:X.mg x=none) (hv:bootBuiltins x=some (.type T)) (ha:PA X (e::es) t) (hn:x≠"__name__":=by decide) (hdb:(x == ("__debug__":Str))=false:=by decide)
  (he:starEach (e::es) X.env=(false,eval e X.env)::starEach es X.env:=by rfl) (hpl:(backTo pos (starEach es X.env)).any (·.1)=false:=by rfl):PE X (.Call (.Name x p) (e::es) [] pos) (tCB r t):=by
 intro pins s σ H Q I h
 refine wpAny_Call_Name_kw (zgz I hg hm hv ?_ hn hdb)
 exact PyProof.Rows.callWith_type1 (thn (ha pos pins s σ H _ I h) fun us s1 ⟨vs,H1,I1,r1,q1⟩=>hc pins s1 σ H1 vs us Q I1 r1 q1) he hpl
end
end L2
namespace HT
open PySem PyProof.Rows
section
open PySem.SeqAt
open PySem.AutoSeq1 (wpAny_loadPart')
open PySem.MeetsSeq PySem.MeetsSeq2 PySem.MeetsSeq3
end
section
variable {prog:Program} {w:World} {A:Around} {E:Value→Shared→Prop} {s:Shared}
def sIx (n d:Nat):Option Int→Nat
 | none=>d
 | some v=>if v<0 then (v+(n:Int)).toNat else min v.toNat n
theorem sIx_none (n d:Nat):sIx n d none=d:=rfl
theorem sIx_nat (n d k:Nat):sIx n d (some (k:Int))=min k n:=by
 show (if (k:Int)<0 then ((k:Int)+(n:Int)).toNat else min (k:Int).toNat n)=min k n
 rw [if_neg (by (first|lia|omega)),Int.toNat_natCast]
theorem sIx_le (n d:Nat) (hd:d≤n) (o:Option Int):sIx n d o≤n:=by
 cases o with
 | none=>exact hd
 | some v =>
  show (if v<0 then (v+(n:Int)).toNat else min v.toNat n)≤n
  by_cases hv:v<0
  ·rw [if_pos hv];(first|lia|omega)
  ·rw [if_neg hv];exact Nat.min_le_right _ _
end
end HT
namespace L2
open PySem PySem.Spec PyProof.Rows
abbrev TO:=St→Hp→(Option Int→Hp→Prop)→Prop
def PO (X:Cx) (e:Option Expr) (t:TO):Prop :=
 ∀ (pins:List (Addr×Obj)) (s:Shared) (σ:St) (H:Hp) (Q:Option Int→Hp→Prop),Inv X pins σ H s→t σ H Q →
  wpAny (model X.prog X.w) X.A (evalPart e X.env) (fun u s'=>∃ o H',Inv X pins σ H' s'∧IsPart u o∧Q o H') X.xe s
def zbs:TO:=fun _ H Q=>Q none H
def zco (t:TE):TO:=fun σ H Q=>t σ H fun x H1=>∃ i,x=.int i∧Q (some i) H1
section
variable {X:Cx} {e:Expr} {te:TE} {lo hi:Option Expr} {tl th:TO} {pos p2:Pos}
theorem zbV:PO X none zbs:=by
 intro pins s σ H Q I h
 rw [evalPart_none]
 exact wpAny_pure ⟨none,H,I,.none,h⟩
theorem zbX (h:PE X e te):PO X (some e) (zco te):=by
 intro pins s σ H Q I hw
 rw [evalPart_some]
 refine thn (h pins s σ H _ I hw) fun u s1 hQ'=>?_
 obtain ⟨x,H1,I1,r1,q1⟩:=hQ'
 obtain ⟨i,rfl,q⟩:=q1
 obtain ⟨t,rfl⟩:=r1
 exact ⟨some i,H1,I1,.int i t,q⟩
def SlR (X:Cx) (r:V→Option Int→Option Int→Hp→VK→Prop):Prop :=
 ∀ (pins:List (Addr×Obj)) (s:Shared) (σ:St) (H:Hp) (x:V) (v vl vu:Value) (lo hi:Option Int) (sl:Addr) (Q:VK),Inv X pins σ H s→zcF x v→s.heap.IsSliceOf sl vl vu .none→IsPart vl lo→IsPart vu hi→r x lo hi H Q →
  ∃ T id,typeLookup (.type T) "__getitem__"=pure (some (.builtin id))∧s.TypeIs v T∧wpAny (model X.prog X.w) X.A (getItem v (.ref sl)) (EP X pins σ Q) X.xe s
def tSl (r:V→Option Int→Option Int→Hp→VK→Prop) (te:TE) (tl th:TO):TE:=fun σ H Q=>te σ H fun x H1=>tl σ H1 fun l H2=>th σ H2 fun u H3=>r x l u H3 Q
theorem zbv {r:V→Option Int→Option Int→Hp→VK→Prop} (hr:SlR X r) (he:PE X e te) (hl:PO X lo tl) (hu:PO X hi th):PE X (.Subscript e (.Slice lo hi none p2) pos) (tSl r te tl th):=by
 intro pins s σ H Q I h
 refine Subscript_ (thn (he pins s σ H _ I h) fun v s1 hQ'=>?_)
 obtain ⟨x,H1,I1,r1,q1⟩:=hQ'
 refine wpAny_Slice (thn (hl pins s1 σ H1 _ I1 q1) fun vl s2 ⟨l,H2,I2,pl,q2⟩=>thn (hu pins s2 σ H2 _ I2 q2) fun vu s3 hQ'=>?_)
 obtain ⟨u,H3,I3,pu,q3⟩:=hQ'
 rw [evalPart_none]
 refine wpAny_pure ?_
 have I4:Inv X pins σ H3 { s3 with heap:=s3.heap.push { cls:=.type "slice",data:=.fields #[vl,vu,.none] } }:=I3.kept (t':=s3.toks) fun b ob q=>Heap.get?_push_of_some _ q
 obtain ⟨T,id,hT,ht,hg⟩:=hr pins { s3 with heap:=s3.heap.push { cls:=.type "slice",data:=.fields #[vl,vu,.none] } } σ H3 x v vl vu l u s3.heap.objs.size Q I4 r1 (Heap.IsSliceOf.new ..) pl pu q3
 show wpAny (model X.prog X.w) X.A (subscriptTail e (.Slice lo hi none p2) v (.ref s3.heap.objs.size)) (EP X pins σ Q) X.xe { s3 with heap:=s3.heap.push { cls:=.type "slice",data:=.fields #[vl,vu,.none] } }
 exact tail_any (ops:=[.ref s3.heap.objs.size,v]) ht hT hg (by with_unfolding_all rfl)
def zko (xs:List V) (lo hi:Option Int):List V:=(xs.drop (HT.sIx xs.length 0 lo)).take (HT.sIx xs.length xs.length hi - HT.sIx xs.length 0 lo)
theorem ziF (xs:List V) (lo hi:Option Int):(zko xs lo hi).length≤xs.length:=by
 unfold zko
 rw [List.length_take,List.length_drop]
 (first|lia|omega)
end
end L2
namespace L2
open PySem PySem.Spec PyProof.Rows
def ixN (n:Nat) (i:Int):Option Nat:=if 0≤i then (if i<n then some i.toNat else none) else if -(n:Int)≤i then some (i+n).toNat else none
def atI {α:Type} (xs:List α) (i:Int):Option α:=(ixN xs.length i).bind fun j=>xs[j]?
theorem zn4 {n:Nat} {i:Int} {j:Nat} (h:ixN n i=some j):seqIndex? i n=some j∧j<n∧-(n:Int)≤i∧i<n:=by
 unfold ixN at h
 by_cases h0:0≤i
 ·rw [if_pos h0] at h
  by_cases h1:i<n
  ·rw [if_pos h1] at h
   have e:i.toNat=j:=Option.some.inj h
   exact ⟨by rw [seqIndex_of h0 h1,e],by (first|lia|omega),by (first|lia|omega),h1⟩
  ·rw [if_neg h1] at h;cases h
 ·rw [if_neg h0] at h
  by_cases h1:-(n:Int)≤i
  ·rw [if_pos h1] at h
   have e:(i+n).toNat=j:=Option.some.inj h
   exact ⟨by rw [seqIndex_neg (by (first|lia|omega)) h1,e],by (first|lia|omega),h1,by (first|lia|omega)⟩
  ·rw [if_neg h1] at h;cases h
theorem ziM {α:Type} {xs:List α} {i:Int} {v:α} (h:atI xs i=some v):∃ j,seqIndex? i xs.length=some j∧xs[j]?=some v∧j<xs.length∧-(xs.length:Int)≤i∧i<xs.length:=by
 unfold atI at h
 cases e:ixN xs.length i with
 | none=>rw [e] at h;cases h
 | some j =>
  rw [e] at h
  obtain ⟨h1,h2,h3,h4⟩:=zn4 e
  exact ⟨j,h1,h,h2,h3,h4⟩
theorem za0 {α:Type} {xs:List α} {j:Nat} {v:α} (h:xs[j]?=some v):atI xs (j:Int)=some v:=by
 have hj:j<xs.length:=(List.getElem?_eq_some_iff.mp h).1
 have e:ixN xs.length (j:Int)=some j:=by
  unfold ixN
  rw [if_pos (by (first|lia|omega)),if_pos (by (first|lia|omega))];simp
 unfold atI;rw [e];exact h
theorem zmP {α:Type} (xs:List α) (v:α):atI (xs++[v]) (-1)=some v:=by
 have hl:(xs++[v]).length=xs.length+1:=by simp
 have e:ixN (xs++[v]).length (-1)=some xs.length:=by
  unfold ixN
  rw [hl,if_neg (by decide),if_pos (by (first|lia|omega))]
  congr 1
  (first|lia|omega)
 unfold atI
 rw [e]
 show (xs++[v])[xs.length]?=some v
 simp
def zpk (b:Expr):Prop:=∀ o i,subscripted b false o i=operate [o,i] (getItem o i)
def IxR (X:Cx) (r:R2):Prop :=
 ∀ (value slice:Expr) (pins:List (Addr×Obj)) (s:Shared) (σ:St) (H:Hp) (x y:V) (v u:Value) (Q:VK),Inv X pins σ H s→zcF x v→zcF y u→r x y H Q →
  subscripted slice false v u=operate [v,u] (getItem v u)→wpAny (model X.prog X.w) X.A (subscriptTail value slice v u) (EP X pins σ Q) X.xe s
def MtR (X:Cx) (id:String) (r:V→List V→Hp→VK→Prop):Prop :=
 ∀ (pins:List (Addr×Obj)) (s:Shared) (σ:St) (H:Hp) (x:V) (xs:List V) (v:Value) (us:List Value) (Q:VK),Inv X pins σ H s→zcF x v→zb9 xs us→r x xs H Q →
  wpAny (model X.prog X.w) X.A (call (.builtin id) (v::us)) (EP X pins σ Q) X.xe s
section
variable {X:Cx} {a b:Expr} {ta tb:TE} {pos:Pos}
theorem zch {r:R2} (hr:IxR X r) (ha:PE X a ta) (hb:PE X b tb) (hs:zpk b):PE X (.Subscript a b pos) (tOp r ta tb):=by
 intro pins s σ H Q I h
 exact Subscript_ (binT ha hb I h fun v u s2 x y H2 I2 rx ry q=>hr a b pins s2 σ H2 x y v u Q I2 rx ry q (hs _ _))
def zcP (K:PySem.W.Frag):R2:=fun x y H Q=>∃ p xs i v,x=.ref p∧y=.int i∧SqL K H p xs∧atI xs i=some v∧Q v H
def zme (K:PySem.W.Frag):R2:=fun x y H Q=>∃ p xs i v,x=.ref p∧y=.int i∧SqT K H p xs∧atI xs i=some v∧Q v H
def zql:R2:=fun x y H Q=>∃ z i c,x=.str z∧y=.int i∧z.length≤sizeLine∧atI z.cps.toList i=some c∧Q (.str ⟨#[c]⟩) H
theorem zbg:IxR X (zcP X.K):=by
 intro value slice pins s σ H x y v u Q I rx ry h hs
 obtain ⟨p,xs,i,z,rfl,rfl,hq,he,q⟩:=h
 cases rx
 obtain ⟨t,rfl⟩:=ry
 obtain ⟨its,r,pl,hz⟩:=I.list hq
 obtain ⟨j,h1,h2,h3,h4,h5⟩:=ziM he
 obtain ⟨w,ew,rw'⟩:=r.get h2
 have hl:=r.length
 have hn:=zgy
 have fin:EP X pins σ Q w s:=⟨z,H,I,rw',q⟩
 by_cases h0:0≤i
 ·have hj:i.toNat=j:=by
   rw [seqIndex_of h0 h5] at h1
   exact Option.some.inj h1
  exact item_listR pl.isList h0 (by (first|lia|omega)) (by rw [hj];simpa using ew) fin hs
 ·have hj:(i+(its.toArray.size:Int)).toNat=j:=by
   rw [seqIndex_neg (by (first|lia|omega)) h4] at h1
   rw [List.size_toArray,← hl]
   exact Option.some.inj h1
  exact subscriptTail_builtinR (x:=w) pl.isList.typeIs slot_list_getitem.lookup
   (wpAny_getItem_list_neg (Q:=fun r s'=>r=w∧EP X pins σ Q r s') pl.isList (by (first|lia|omega)) (by rw [List.size_toArray] <;> (first|lia|omega)) (by (first|lia|omega)) (by rw [hj];simpa using ew) ⟨rfl,fin⟩) hs
theorem zlx:IxR X (zme X.K):=by
 intro value slice pins s σ H x y v u Q I rx ry h hs
 obtain ⟨p,xs,i,z,rfl,rfl,hq,he,q⟩:=h
 cases rx
 obtain ⟨t,rfl⟩:=ry
 obtain ⟨its,r,pl,hz⟩:=I.tuple hq
 obtain ⟨j,h1,h2,h3,h4,h5⟩:=ziM he
 obtain ⟨w,ew,rw'⟩:=r.get h2
 have hl:=r.length
 have hn:=zgy
 have fin:EP X pins σ Q w s:=⟨z,H,I,rw',q⟩
 exact subscriptTail_builtinR (x:=w) pl.typeIs slot_tuple_getitem.lookup
  (getItem_tuple (j:=j) (Q:=fun r s'=>r=w∧EP X pins σ Q r s') pl (by (first|lia|omega)) (by (first|lia|omega)) (by rw [List.size_toArray,← hl];exact h1) (by simpa using ew) ⟨rfl,fin⟩) hs
theorem zno:IxR X zql:=by
 intro value slice pins s σ H x y v u Q I rx ry h hs
 obtain ⟨z,i,c,rfl,rfl,hz,he,q⟩:=h
 obtain ⟨t,rfl⟩:=rx
 obtain ⟨t',rfl⟩:=ry
 obtain ⟨j,h1,h2,h3,h4,h5⟩:=ziM he
 have hl:z.cps.toList.length=z.length:=by simp [Str.length]
 rw [hl] at h1 h4 h5
 have hn:=zgy
 exact tail_any (typeIs_str s z t) slot_str_getitem.lookup (getItem_str (c:=c) (by
  have e1:decide (i< -(2 ^ 63:Int))=false:=decide_eq_false (by (first|lia|omega))
  have e2:decide (i≥2 ^ 63)=false:=decide_eq_false (by (first|lia|omega))
  rw [e1,e2,Bool.or_false]) (by rw [h1];simpa using h2) ⟨.str ⟨#[c]⟩,H,I.tok _,⟨_,rfl⟩,q⟩) hs
theorem zhU (lo hi:Option Int) (n:Nat):(sliceBounds lo hi none n).1=((HT.sIx n 0 lo:Nat):Int)∧(sliceBounds lo hi none n).2.1=((HT.sIx n n hi:Nat):Int)∧(sliceBounds lo hi none n).2.2=1:=by
 refine ⟨?_,?_,rfl⟩
 ·cases lo with
  | none=>simp [sliceBounds,HT.sIx]
  | some i =>
   simp only [sliceBounds,HT.sIx,Option.getD_none,show (1:Int) > 0 by decide,if_true]
   by_cases h:i<0
   ·simp only [h,if_true] <;> (first|lia|omega)
   ·simp only [h,if_false] <;> (first|lia|omega)
 ·cases hi with
  | none=>simp [sliceBounds,HT.sIx]
  | some i =>
   simp only [sliceBounds,HT.sIx,Option.getD_none,show (1:Int) > 0 by decide,if_true]
   by_cases h:i<0
   ·simp only [h,if_true] <;> (first|lia|omega)
   ·simp only [h,if_false] <;> (first|lia|omega)
theorem zgJ (its:List Value) (lo hi:Option Int):slicePick its.toArray lo hi none=((its.drop (HT.sIx its.length 0 lo)).take (HT.sIx its.length its.length hi - HT.sIx its.length 0 lo)).toArray:=by
 obtain ⟨h1,h2,h3⟩:=zhU lo hi its.toArray.size
 unfold slicePick
 rw [h1,h2,h3]
 simp only [sliceRange_one,pick_run,List.size_toArray] <;> rfl
def ziz (K:PySem.W.Frag):V→Option Int→Option Int→Hp→VK→Prop:=fun x lo hi H Q=>∃ a xs,x=.ref a∧SqL K H a xs∧∀ p,H p=none→Q (.ref p) (upd H p (.lst (zko xs lo hi)))
theorem zcW:SlR X (ziz X.K):=by
 intro pins s σ H x v vl vu lo hi sl Q I rx hs pl pu h
 obtain ⟨a,xs,rfl,hx,q⟩:=h
 cases rx
 obtain ⟨its,r,ht,hz⟩:=I.list hx
 have hlen:=r.length
 refine ⟨"list",_,slot_list_getitem.lookup,ht.isList.typeIs,?_⟩
 refine wpAny_getItem_list_slice ht.isList hs pl pu .none (by simp) ?_ (by rw [List.size_toArray] <;> (first|lia|omega))
 rw [zgJ,← hlen]
 refine ⟨.ref s.heap.objs.size,_,I.laid (t':=s.toks) (o:=.lst (zko xs lo hi)) (fun b ob q=>Heap.get?_push_of_some _ q) (Nat.le_refl _) ?_,rfl,q _ (I.hok.fresh (Nat.le_refl _))⟩
 exact ⟨Nat.le_trans (ziF xs lo hi) hz,_,0,(r.drop (HT.sIx xs.length 0 lo)).take (HT.sIx xs.length xs.length hi - HT.sIx xs.length 0 lo),Heap.get?_push_size _ rfl⟩
def zdX:V→Bool
 | .non=>true
 | .bl _=>true
 | .int _=>true
 | .str _=>true
 | _=>false
def eqV:V→V→Bool
 | .non,.non=>true
 | .bl a,.bl b=>a == b
 | .bl a,.int b=>(if a then 1 else 0) == b
 | .int a,.bl b=>a == (if b then 1 else 0)
 | .int a,.int b=>a == b
 | .str a,.str b=>a == b
 | _,_=>false
theorem zqv {A:Around} {s:Shared} {y x:V} {u v:Value} (ry:zcF y u) (rx:zcF x v) (fy:zdX y=true) (fx:zdX x=true):SeqAt.EqAt A s u v (eqV y x):=by
 cases y with
 | non =>
  cases ry
  cases x with
  | non=>cases rx;exact SeqAt.EqAt.same _
  | bl b=>cases rx;exact SeqAt.EqAt.none_bool b
  | int b=>obtain ⟨t,rfl⟩:=rx;exact SeqAt.EqAt.none_int b t
  | str b=>obtain ⟨t,rfl⟩:=rx;exact SeqAt.EqAt.none_str b t
  | _=>exact absurd (show false=true from fx) Bool.false_ne_true
 | bl a =>
  cases ry
  cases x with
  | non=>cases rx;exact SeqAt.EqAt.bool_none a
  | bl b=>cases rx;exact SeqAt.EqAt.bool_bool a b
  | int b=>obtain ⟨t,rfl⟩:=rx;exact SeqAt.EqAt.bool_int a b t
  | str b=>obtain ⟨t,rfl⟩:=rx;exact SeqAt.EqAt.bool_str a b t
  | _=>exact absurd (show false=true from fx) Bool.false_ne_true
 | int a =>
  obtain ⟨t',rfl⟩:=ry
  cases x with
  | non=>cases rx;exact SeqAt.EqAt.int_none a t'
  | bl b=>cases rx;exact SeqAt.EqAt.int_bool a t' b
  | int b=>obtain ⟨t,rfl⟩:=rx;exact SeqAt.EqAt.int_int a t' b t
  | str b=>obtain ⟨t,rfl⟩:=rx;exact SeqAt.EqAt.int_str a t' b t
  | _=>exact absurd (show false=true from fx) Bool.false_ne_true
 | str a =>
  obtain ⟨t',rfl⟩:=ry
  cases x with
  | non=>cases rx;exact SeqAt.EqAt.str_none a t'
  | bl b=>cases rx;exact SeqAt.EqAt.str_bool a t' b
  | int b=>obtain ⟨t,rfl⟩:=rx;exact SeqAt.EqAt.str_int a t' b t
  | str b=>obtain ⟨t,rfl⟩:=rx;exact SeqAt.EqAt.str_str a t' b t
  | _=>exact absurd (show false=true from fx) Bool.false_ne_true
 | _=>exact absurd (show false=true from fy) Bool.false_ne_true
def eqU (x:V) (u:Value):Bool:=match u with
 | .none=>eqV .non x
 | .bool b=>eqV (.bl b) x
 | .int i _=>eqV (.int i) x
 | .str z _=>eqV (.str z) x
 | _=>false
theorem zjA {x y:V} {u:Value} (r:zcF y u) (f:zdX y=true):eqU x u=eqV y x:=by
 cases y with
 | non=>cases r;rfl
 | bl b=>cases r;rfl
 | int i=>obtain ⟨t,rfl⟩:=r;rfl
 | str z=>obtain ⟨t,rfl⟩:=r;rfl
 | _=>exact absurd (show false=true from f) Bool.false_ne_true
theorem zfL {x:V}:∀ {xs:List V} {us:List Value},zb9 xs us→xs.all zdX=true→us.any (eqU x)=xs.any fun y=>eqV y x
 | _,_,.nil,_=>rfl
 | y::xs,u::us,.cons r t,f=>by
  rw [List.all_cons,Bool.and_eq_true] at f
  rw [List.any_cons,List.any_cons,zjA r f.1,zfL t f.2]
theorem zdl {A:Around} {s:Shared} {x:V} {v:Value} (rx:zcF x v) (fx:zdX x=true):∀ {xs:List V} {us:List Value},zb9 xs us→xs.all zdX=true→∀ u∈us,SeqAt.EqAt A s u v (eqU x u)
 | _,_,.nil,_=>fun u hu=>by cases hu
 | y::xs,u::us,.cons r t,f=>fun u' hu=>by
  rw [List.all_cons,Bool.and_eq_true] at f
  rcases List.mem_cons.mp hu with rfl | hu
  ·rw [zjA r f.1];exact zqv r rx f.1 fx
  ·exact zdl rx fx t f.2 u' hu
def inV (x:V) (xs:List V):Bool:=xs.any fun y=>eqV y x
def rIn (K:PySem.W.Frag) (neg:Bool):R2:=fun x y H Q=>∃ p xs,y=.ref p∧(SqL K H p xs∨SqT K H p xs)∧zdX x=true∧xs.all zdX=true∧Q (.bl (if neg then !inV x xs else inV x xs)) H
theorem zif:OpR X (compareOp .In) (rIn X.K false):=by
 intro pins s σ H x y v u Q I rx ry h
 obtain ⟨p,xs,rfl,hq,fx,fs,q⟩:=h
 cases ry
 rcases hq with hq | hq
 ·obtain ⟨its,r,pl,hz⟩:=I.list hq
  refine SeqAt.in_listAt (eqU x) pl.isList (fun w hw=>zdl rx fx r fs w (by simpa using hw)) ⟨.bl _,H,I,rfl,?_⟩
  rw [show its.toArray.any (eqU x)=its.any (eqU x) by simp,zfL r fs]
  exact q
 ·obtain ⟨its,r,pl,hz⟩:=I.tuple hq
  refine SeqAt.in_tupleAt (eqU x) pl (fun w hw=>zdl rx fx r fs w (by simpa using hw)) ⟨.bl _,H,I,rfl,?_⟩
  rw [show its.toArray.any (eqU x)=its.any (eqU x) by simp,zfL r fs]
  exact q
theorem zhS:OpR X (compareOp .NotIn) (rIn X.K true):=by
 intro pins s σ H x y v u Q I rx ry h
 obtain ⟨p,xs,rfl,hq,fx,fs,q⟩:=h
 cases ry
 rcases hq with hq | hq
 ·obtain ⟨its,r,pl,hz⟩:=I.list hq
  refine SeqAt.notIn_listAt (eqU x) pl.isList (fun w hw=>zdl rx fx r fs w (by simpa using hw)) ⟨.bl _,H,I,rfl,?_⟩
  rw [show its.toArray.any (eqU x)=its.any (eqU x) by simp,zfL r fs]
  exact q
 ·obtain ⟨its,r,pl,hz⟩:=I.tuple hq
  refine SeqAt.notIn_tupleAt (eqU x) pl (fun w hw=>zdl rx fx r fs w (by simpa using hw)) ⟨.bl _,H,I,rfl,?_⟩
  rw [show its.toArray.any (eqU x)=its.any (eqU x) by simp,zfL r fs]
  exact q
theorem zaY:zeR X (.builtin "len") (fun xs H Q=>∃ p ys,xs=[.ref p]∧(SqL X.K H p ys∨SqT X.K H p ys)∧Q (.int ys.length) H):=by
 intro pins s σ H xs us Q I r h
 obtain ⟨p,ys,rfl,hq,q⟩:=h
 obtain ⟨u,rfl,rx⟩:=zfp r
 cases rx
 have hn:=zgy
 rcases hq with hq | hq
 ·obtain ⟨its,r',pl,hz⟩:=I.list hq
  have hlen:=r'.length
  exact Calls.call_len_list pl.isList (by simp only [List.size_toArray] <;> (first|lia|omega)) ⟨.int ys.length,H,I.tok _,⟨s.toks+1,by rw [List.size_toArray,hlen]⟩,q⟩
 ·obtain ⟨its,r',pl,hz⟩:=I.tuple hq
  have hlen:=r'.length
  exact len_tuple pl (by simp only [List.size_toArray] <;> (first|lia|omega)) ⟨.int ys.length,H,I.tok _,⟨s.toks+1,by rw [List.size_toArray,hlen]⟩,q⟩
theorem zeQ:zeR X (.type "tuple") (fun xs H Q=>∃ p ys,xs=[.ref p]∧((SqL X.K H p ys∧∀ l,H l=none→Q (.ref l) (upd H l (.tup ys)))∨(SqT X.K H p ys∧Q (.ref p) H))):=by
 intro pins s σ H xs us Q I r h
 obtain ⟨p,ys,rfl,h⟩:=h
 obtain ⟨u,rfl,rx⟩:=zfp r
 cases rx
 rcases h with ⟨hq,q⟩ | ⟨hq,q⟩
 ·obtain ⟨its,r',pl,hz⟩:=I.list hq
  have hlen:=r'.length
  refine call_tuple_list pl.isList (fun h' kp=>?_) (by simp only [List.size_toArray] <;> (first|lia|omega))
  have I1:Inv X pins σ H { s with heap:=h' }:=I.kept (t':=s.toks) kp
  have I2:Inv X pins σ (upd H h'.objs.size (.tup ys)) { s with heap:=h'.push { cls:=.type "tuple",data:=.seq its.toArray } } :=
   I1.laid (t':=s.toks) (fun b o e=>Heap.get?_push_of_some _ e) (Nat.le_refl _) (show zcg X.prog X.w _ _ _ (.tup ys) from ⟨hz,its,r',IsTup.new _ _⟩)
  exact ⟨.ref h'.objs.size,_,I2,rfl,q _ (I1.hok.fresh (Nat.le_refl _))⟩
 ·obtain ⟨its,r',pl,hz⟩:=I.tuple hq
  exact call_tuple_same pl ⟨.ref p,H,I,rfl,q⟩
def tyV (K:PySem.W.Frag) (T:String) (x:V) (H:Hp):Prop:=match x with
 | .str _=>T="str"
 | .int _=>T="int"
 | .ref p=>(T="list"∧∃ xs,SqL K H p xs)∨(T="tuple"∧∃ o,K.lookup p=some o∧o.cls=.type "tuple"∧o.dict=none) ∨
   (T="dict"∧((∃ kvs,H p=some (.dK kvs))∨∃ kvs,H p=some (.dT kvs)))∨(T="set"∧∃ S n,H p=some (.set S n))
 | _=>False
theorem zqW {pins:List (Addr×Obj)} {σ:St} {H:Hp} {s:Shared} {T:String} {x:V} {v:Value} (I:Inv X pins σ H s) (r:zcF x v) (ty:tyV X.K T x H) :
  s.TypeIs v T∧∀ a,v=.ref a→∃ ob,s.heap.get? a=some ob∧ob.dict=none:=by
 cases x with
 | str z =>
  obtain ⟨t,rfl⟩:=r
  cases (show T="str" from ty)
  exact ⟨typeIs_str s z t,fun _ e=>nomatch e⟩
 | int i =>
  obtain ⟨t,rfl⟩:=r
  cases (show T="int" from ty)
  exact ⟨typeIs_int s i t,fun _ e=>nomatch e⟩
 | ref p =>
  cases r
  rcases ty with ⟨rfl,xs,hq⟩ | ⟨rfl,o,hk,hc,hd⟩ | ⟨rfl,hk⟩ | ⟨rfl,S,n,hk⟩
  ·obtain ⟨its,_,pl,_⟩:=I.list hq
   refine ⟨pl.isList.typeIs,fun a e=>?_⟩
   cases e
   obtain ⟨o,n,e,c,hd,_⟩:=pl
   exact ⟨o,e,hd⟩
  ·refine ⟨⟨o,I.kIn p o hk,hc⟩,fun a e=>?_⟩
   cases e
   exact ⟨o,I.kIn _ o hk,hd⟩
  ·have z:∃ o,s.heap.get? p=some o∧o.ExactDict:=by
    rcases hk with ⟨kvs,hk⟩ | ⟨kvs,hk⟩
    ·obtain ⟨_,_,_,_,o,_,_,e,ex,_⟩:=I.hok p _ hk
     exact ⟨o,e,ex⟩
    ·obtain ⟨_,_,_,_,o,_,_,e,ex,_⟩:=I.hok p _ hk
     exact ⟨o,e,ex⟩
   obtain ⟨o,e,ex⟩:=z
   refine ⟨⟨o,e,ex.1⟩,fun a e2=>?_⟩
   cases e2
   exact ⟨o,e,ex.2.1⟩
  ·obtain ⟨o,_,_,_,e,ex,_⟩:=I.hok p _ hk
   refine ⟨⟨o,e,ex.1⟩,fun a e2=>?_⟩
   cases e2
   exact ⟨o,e,ex.2.1⟩
 | _=>exact False.elim ty
def tBM (K:PySem.W.Frag) (T:String) (r:V→List V→Hp→VK→Prop) (to:TE) (t:TA):TE:=fun σ H Q=>to σ H fun x H1=>tyV K T x H1∧t σ H1 fun xs H2=>r x xs H2 Q
variable {o e:Expr} {es:List Expr} {to:TE} {t:TA} {name:Str} {apos cpos:Pos} {T id:String} {r:V→List V→Hp→VK→Prop}
theorem zda (pa:PlainAttrs T) (slot:Slot T name id) (hty:typeOf (.builtin id)=pure (.type "method_descriptor")) (hm:MtR X id r) (ho:PE X o to) (ha:PA X (e::es) t)
  (hbase:attributeBase o name X.env (eval o X.env)=eval o X.env:=by rfl)
  (hfew:((backTo cpos (starEach (e::es) X.env)).all (fun x=>!x.1)&&(backToKw cpos (keywordEach [] X.env)).all (fun x=>x.1.isSome)
   && decide ((e::es).length+([]:List Keyword).length+(if ([]:List Keyword).isEmpty then 0 else 1)<30))=true:=by rfl)
  (hline:(apos.endLine == cpos.line)=true:=by rfl) (hs:starEach (e::es) X.env=(false,eval e X.env)::starEach es X.env:=by rfl) (hplain:(backTo cpos (starEach es X.env)).any (·.1)=false:=by rfl) :
  PE X (.Call (.Attribute o name apos) (e::es) [] cpos) (tBM X.K T r to t):=by
 intro pins s σ H Q I h
 refine wpAny_Call_method_late hbase hfew hline rfl (thn (ho pins s σ H _ I h) fun v s1 hQ'=>?_)
 obtain ⟨x,H1,I1,r1,ty,q1⟩:=hQ'
 obtain ⟨h1,h2⟩:=zqW I1 r1 ty
 refine ⟨T,id,pa,slot,hty,h1,h2,?_⟩
 have hA:=ha cpos pins s1 σ H1 _ I1 q1
 rw [hs] at hA ⊢
 refine Calls.callWith_builtin (by show (false || (backTo cpos (starEach es X.env)).any (·.1))=false;rw [hplain] <;> rfl) (Calls.evalArgs_plain ?_)
 exact thn hA fun us s2 ⟨vs,H2,I2,r2,q2⟩=>hm pins s2 σ H2 x vs v us Q I2 r1 r2 q2
end
end L2
namespace L2
open PySem PySem.Spec PyProof.Rows
def MtM (X:Cx) (id:String) (r:V→List V→Hp→VK→Prop):Prop :=
 ∀ (pins:List (Addr×Obj)) (s:Shared) (σ:St) (H:Hp) (x:V) (xs:List V) (v:Value) (us:List Value) (Q:VK),Inv X pins σ H s→zcF x v→zb9 xs us→r x xs H Q →
  wpAny (model X.prog X.w) X.A (call (.builtin id) (v::us)) (EP X pins σ Q) X.xe s
theorem zb9.one:∀ {x:V} {us:List Value},zb9 [x] us→∃ u,us=[u]∧zcF x u
 | _,_,.cons r .nil=>⟨_,rfl,r⟩
theorem zb9.two:∀ {x y:V} {us:List Value},zb9 [x,y] us→∃ u v,us=[u,v]∧zcF x u∧zcF y v
 | _,_,_,.cons r (.cons q .nil)=>⟨_,_,rfl,r,q⟩
section
variable {X:Cx} {pins:List (Addr×Obj)} {σ:St} {H:Hp} {s:Shared} {l b:Addr} {xs ys zs:List V}
theorem Inv.lset {its its':List Value} {n:Nat} {f:Array Value→Array Value} {t':Nat} (I:Inv X pins σ H s) (hH:H l=some (.lst xs))
  (e:s.heap.get? l=some { cls:=.type "list",data:=.seq its.toArray n }) (hf:f its.toArray=its'.toArray) (hv:zb9 ys its') (hz:ys.length≤sizeLine) :
  Inv X pins σ (upd H l (.lst ys)) { s with heap:=s.heap.update l (Obj.mapSeq f),toks:=t' }:=by
 have q:=PySem.IsL.update e f
 rw [hf] at q
 refine I.write (x:=l) (e:=l) (by rw [hH];exact trivial) (.inl rfl) (fun b' u hb hu=>(Heap.get?_update_other s.heap (Obj.mapSeq f) (Ne.symm hb)).trans hu) ⟨_,q⟩ ?_
 exact ⟨hz,its',_,hv,q⟩
theorem Inv.lnew {its:List Value} {t':Nat} (I:Inv X pins σ H s) (hv:zb9 ys its) (hz:ys.length≤sizeLine) :
  Inv X pins σ (upd H s.heap.objs.size (.lst ys)) { s with heap:=s.heap.push { cls:=.type "list",data:=.seq its.toArray },toks:=t' } :=
 I.laid (fun _ _ q=>Heap.get?_push_of_some _ q) (Nat.le_refl _) ⟨hz,its,0,hv,Heap.get?_push_size _ rfl⟩
theorem Inv.fresh (I:Inv X pins σ H s):H s.heap.objs.size=none:=I.hok.fresh (Nat.le_refl _)
theorem Inv.lstM (I:Inv X pins σ H s) (hH:H l=some (.lst xs)):xs.length≤sizeLine∧∃ (its:List Value) (n:Nat),zb9 xs its∧xs.length=its.length∧s.heap.get? l=some { cls:=.type "list",data:=.seq its.toArray n }:=by
 obtain ⟨z,its,n,r,e⟩:=I.hok l _ hH
 exact ⟨z,its,n,r,r.length,e⟩
end
section
variable {X:Cx}
def zbr:V→List V→Hp→VK→Prop:=fun x vs H Q=>∃ l xs y,x=.ref l∧vs=[y]∧H l=some (.lst xs)∧xs.length<sizeLine∧Q .non (upd H l (.lst (xs++[y])))
theorem zcU:MtM X "list.append" zbr:=by
 intro pins s σ H x vs v us Q I rx rv h
 obtain ⟨l,xs,y,rfl,rfl,hH,hz,q⟩:=h
 cases rx
 obtain ⟨u,rfl,ru⟩:=rv.one
 obtain ⟨z,its,n,r,hl,e⟩:=I.lstM hH
 refine call_meets F.slot_list_append ⟨_,e,rfl⟩ F.entry_list_append (F.args_list_append_2 _ _) (PySem.list_append l its.toArray n u (by rw [List.size_toArray];(first|lia|omega))) ⟨e,?_⟩
 refine ⟨.non,_,I.lset (its':=its++[u]) hH e (by simp) (r.append (.cons ru .nil)) ?_,rfl,q⟩
 rw [List.length_append,List.length_singleton]
 (first|lia|omega)
def zfU:R2:=fun x y H Q=>∃ l b xs zs,x=.ref l∧y=.ref b∧H l=some (.lst xs)∧H b=some (.lst zs)∧xs.length+zs.length≤sizeLine∧∀ p,H p=none→Q (.ref p) (upd H p (.lst (xs++zs)))
theorem zc3:OpR X (binaryOp .Add) zfU:=by
 intro pins s σ H x y v u Q I rx ry h
 obtain ⟨l,b,xs,zs,rfl,rfl,hH,hB,hz,q⟩:=h
 cases rx
 cases ry
 obtain ⟨z,its,n,r,hl,e⟩:=I.lstM hH
 obtain ⟨z2,its2,n2,r2,hl2,e2⟩:=I.lstM hB
 refine PySem.P.add_list e e2 ?_ (by rw [List.size_toArray,List.size_toArray];(first|lia|omega))
 have ea:its.toArray++its2.toArray=(its++its2).toArray:=by simp
 rw [ea]
 exact ⟨.ref _,_,I.lnew (t':=s.toks) (r.append r2) (by rw [List.length_append];(first|lia|omega)),rfl,q _ I.fresh⟩
end
section
variable {prog:Program} {w:World} {A:Around} {E:Value→Shared→Prop} {s:Shared}
end
section
variable {X:Cx}
end
end L2
namespace Att
open PySem PySem.W PySem.Calls PyProof.Rows
theorem zfW {P:Params} {h:Heap}:∀ (ns:List Int) (vs:List Value),WellAll P h vs (ns.map WData.int)→IntsAre vs ns:=by
 intro ns
 induction ns with
 | nil =>
  intro vs w
  rw [List.map_nil] at w
  cases w
  exact .nil
 | cons n ns ih =>
  intro vs w
  rw [List.map_cons] at w
  cases w with
  | cons a b =>
   cases a
   exact .cons _ _ (ih _ b)
theorem zkS {l:OpenLaw} {n:Nat} (hn:l.most=some n) {P:Params} {h:Heap} {args:List WData} {vals:List Value}
  (hpre:l.row.toRowW.claim.pre args=true) (hwl:WellAll P h vals args) :
  ∃ a vs ns,vals=[Value.ref a]∧args=[WData.list (ns.map WData.int)]∧h.get? a=some { cls:=.type "list",data:=.seq vs.toArray }∧IntsAre vs ns∧ns.length≤n:=by
 have hsh:WShape.hasAll [] args [.list .int]=true:=(pre_splitW hpre).1
 have hc:l.pre.holds [] { args:=args }=true:=(pre_splitW hpre).2
 obtain ⟨d,r,rfl,h1,h2⟩:=hasAllW_cons hsh
 obtain rfl:=hasAllW_nil h2
 obtain ⟨xs,rfl,h3⟩:=hasW_list h1
 obtain ⟨ns,rfl⟩:=items_int h3
 have hlen:ns.length≤n:=by
  unfold OpenLaw.pre at hc
  have h4:(WTm.not (.lt (.lit (.int (n:Int))) (.len (.arg 0)))).holds [] { args:=[.list (ns.map .int)] }=true:=by
   have h4:=(holds_andW hc).1
   rw [hn] at h4
   exact h4
  have h5:=condW_of h4 (w_not (w_lt w_lit (w_len_list (w_arg rfl))))
  rw [List.length_map] at h5
  refine Nat.le_of_not_lt fun q=>?_
  have q':(n:Int)<((ns.length:Nat):Int):=by (first|lia|omega)
  first
   | (rw [decide_eq_true q'] at h5;exact absurd h5 (by decide))
   | (simp at h5;(first|lia|omega))
 cases hwl with
 | cons w1 w2 =>
  cases w2
  cases w1 with
  | list ho hall=>exact ⟨_,_,ns,rfl,rfl,ho,zfW ns _ hall,hlen⟩
theorem zkV (l:OpenLaw) (args:List WData):l.row.toRowW.claim.post args (.bool true) args=true :=
 postW_of (r:=l.row.toRowW) (X:=(true == true))
  (show WShape.has [] (.bool true) .bool=true by first | rfl | decide | simp [WShape.has,WShape.arms,WShape.armsAll])
  (show (WTm.eq .res (.lit (.bool true))).value [] { args:=args,res:=some (.bool true),after:=args }=some (.bool (true == true)) from w_eq_bool (w_res rfl) w_lit) rfl
section
variable {prog:Program} {w:World} {A:Around} {E:Value→Shared→Prop} {s:Shared} {K:Frag}
end
end Att
namespace L2
open PySem PySem.Spec PyProof.Rows
theorem zio:∀ {vs:List Value} {ns:List Int},IntsAre vs ns→zb9 (ns.map V.int) vs
 | _,_,.nil=>.nil
 | _,_,.cons n t h=>.cons ⟨t,rfl⟩ (zio h)
end L2
namespace L2
open PySem PySem.Spec PyProof.Rows
end L2
namespace L2
open PySem PySem.Spec PyProof.Rows
def zdo (s:Stmt):Arguments:=match s with
 | .FunctionDef _ a _ _ _ _ _ _ _ _=>a
 | _=>{ posonlyargs:=[],args:=[],vararg:=none,kwonlyargs:=[],kw_defaults:=[],kwarg:=none,defaults:=[] }
def zcx (s:Stmt):List Stmt:=match s with
 | .FunctionDef _ _ b _ _ _ _ _ _ _=>b
 | _=>[]
def zaI (s:Stmt):Scope:=match s with
 | .FunctionDef _ _ _ _ _ _ sc _ _ _=>sc
 | _=>{ kind:=.function,names:=[],isGenerator:=false,isCoroutine:=false }
abbrev CX0:CXT:=fun _ _ _ _ _ _=>False
abbrev E0:XK:=fun _ _ _=>False
theorem zcp {X:Cx}:zfO CX0 X E0:=fun _ _ _ _ _ _ _ h=>h.elim
structure Fun (K:PySem.W.Frag) (x qual:Str) (st:Stmt) (f:Addr) (fd:FuncData):Prop where
 ex:∃ (oc:Value) (od:Option Addr) (kV doc pm:Value) (an:Option Addr) (cdv ct:Value) (osl:Array (Option Value)),
  fd=PySem.W.fnOf x qual (zdo st) (zcx st) (zaI st) .none kV doc pm an cdv ct∧K.lookup f=some ⟨oc,od,.func fd,osl⟩∧PySem.W.codeIn K cdv qual=true
 kp:PySem.W.keepIn K (.ref f)=true
section
variable {P:Program} {w:World} {K:PySem.W.Frag} {mg:Str→Option Value} {base:Heap}
theorem Fun.ok {x qual:Str} {st:Stmt} {f:Addr} {fd:FuncData} {N ps:List Str} {k:Nat} {sp:Sp} (F:Fun K x qual st f fd) (S:zbo N ps (zaI st)) (len:∀ vs H Q E,sp vs H Q E→vs.length=ps.length)
  (hbody:∀ (cdv:Value) (A:Around) (outer:List Env) (s:Shared) (H:Hp) (vs:List V) (Q:VK) (E:XK),ze3 k (A.deeper (envOfC qual (zaI st) s.heap.objs.size f cdv))→sp vs H Q E →
   ∃ t,PSs (zlK CX0 P w K mg base N qual (zaI st) f cdv A outer s H E).nox (zcx st) t∧t { nx:=fun _ H'=>Q .non H',rt:=Q } (zci N vs) H):zdD P w K mg base CX0 (k+1) f fd ps sp:=by
 obtain ⟨oc,od,kV,doc,pm,an,cdv,ct,osl,rfl,lk,hcd⟩:=F.ex
 refine zou lk hcd S len fun A outer s H vs Q E hr hsp=>?_
 obtain ⟨t,h,q⟩:=hbody cdv A outer s H vs Q E hr hsp
 exact ⟨t,h.nox,q⟩
theorem Fun.binds {x qual:Str} {st:Stmt} {f:Addr} {fd:FuncData} {ps:List Str} (F:Fun K x qual st f fd)
  (h:∀ (kV doc pm:Value) (an:Option Addr) (cdv ct:Value) (us:List Value),us.length=ps.length→bindArgs (PySem.W.fnOf x qual (zdo st) (zcx st) (zaI st) .none kV doc pm an cdv ct) ⟨us,[]⟩=pure (ps.zip us)):zcq K fd ps []:=by
 obtain ⟨oc,od,kV,doc,pm,an,cdv,ct,osl,rfl,lk,hcd⟩:=F.ex
 exact .all (h kV doc pm an cdv ct)
theorem zcr {x qual:Str} {st:Stmt} {f:Addr} {oc:Value} {od an:Option Addr} {osl:Array (Option Value)} {kV doc pm cdv ct:Value} (l:K.lookup f=some ⟨oc,od,.func (PySem.W.fnOf x qual (zdo st) (zcx st) (zaI st) .none kV doc pm an cdv ct),osl⟩)
  (c:PySem.W.codeIn K cdv qual=true) (k:PySem.W.keepIn K (.ref f)=true):Fun K x qual st f (PySem.W.fnOf x qual (zdo st) (zcx st) (zaI st) .none kV doc pm an cdv ct):=⟨⟨oc,od,kV,doc,pm,an,cdv,ct,osl,rfl,l,c⟩,k⟩
end
section
variable {X:Cx}
theorem pv (i:Nat) {x:Str} {pos:Pos} (hN:X.N[i]?=some x:=by rfl) (hv:Vis X.env.scope x:=by first | exact Or.inl rfl | exact Or.inr (Or.inl rfl) | exact Or.inr (Or.inr rfl)) (hd:(x == ("__debug__":Str))=false:=by decide)
  (hcd:(x == ("__classdict__":Str))=false:=by decide):PE X (.Name x pos) (zac i):=zm3 hN hv hd hcd
end
theorem zm6 {A B:Prop} (h:B):if false=true then A else B:=by
 rw [if_neg Bool.false_ne_true]
 exact h
theorem zov {A B:Prop} (h:A):if true=true then A else B:=by
 rw [if_pos rfl]
 exact h
theorem ziI {c A B:Prop} [Decidable c] (h1:c→A) (h2:¬ c→B):if c then A else B:=by
 by_cases h:c
 ·rw [if_pos h]
  exact h1 h
 ·rw [if_neg h]
  exact h2 h
def za3 (H H':Hp):Prop:=∀ b o,H b=some o→H' b=some o
theorem za3.refl (H:Hp):za3 H H:=fun _ _ h=>h
theorem za3.trans {H H1 H2:Hp} (a:za3 H H1) (b:za3 H1 H2):za3 H H2:=fun c o h=>b c o (a c o h)
theorem za3.free {H H':Hp} (e:za3 H H') {l:Addr} (h:H' l=Option.none):H l=Option.none:=by
 cases q:H l with
 | none=>rfl
 | some o =>
  rw [e l o q] at h
  cases h
theorem za3.seq {K:PySem.W.Frag} {H H':Hp} {a:Addr} {xs:List V} (e:za3 H H') (h:SqL K H a xs):SqL K H' a xs:=by
 rcases h with (h | ⟨o,h⟩) | h
 ·exact .inl (.inl (e _ _ h))
 ·exact .inl (.inr ⟨o,e _ _ h⟩)
 ·exact .inr h
end L2
namespace L2
open PySem PySem.Spec PyProof.Rows
section
variable {X:Cx}
theorem zcL:OpR X (binaryOp .FloorDiv) (rI (fun _ j=>0<j∧j.natAbs.log2<9000) fun i j=>.int (i / j)):=opI fun i j _ _ _ _ _ hc q=>by
 have h1:(0:Int)<j:=hc.1
 exact floordiv_int (by (first|lia|omega)) (by rw [Int.fdiv_eq_ediv_of_nonneg i (by (first|lia|omega))];exact q) (.inl (PyProof.noPylong_of_log2 hc.2))
theorem zed:OpR X (binaryOp .Mult) (rI IntMulOk fun i j=>.int (i*j)):=opI fun _ _ _ _ _ _ _ hc q=>mul_int q hc
theorem mulR {i j:Int} (h1:-(2 ^ 64)<j) (h2:j<2 ^ 64):IntMulOk i j:=.of_right (intBits_le_64 h1 h2)
theorem zqg {i j:Int} (h1:-(2 ^ 64)<i) (h2:i<2 ^ 64):IntMulOk i j:=.of_left (intBits_le_64 h1 h2)
theorem zcK:bootBuiltins "int"=some (.type "int"):=by decide +kernel
theorem zeV:bootBuiltins "bool"=some (.type "bool"):=by decide +kernel
theorem zdR:bootBuiltins "str"=some (.type "str"):=by decide +kernel
theorem zfR:bootBuiltins "list"=some (.type "list"):=by decide +kernel
theorem zfX:bootBuiltins "ValueError"=some (.type "ValueError"):=by decide +kernel
theorem zdg:bootBuiltins "tuple"=some (.type "tuple"):=by decide +kernel
theorem zfk (K:PySem.W.Frag):PySem.W.kitOne K (.type "int") (.type "bool")=some false:=by first | rfl | kernel_rfl
def zoz (a:Addr) (c:Value) (h:Heap):Prop:=∃ oe vs,h.get? a=some oe∧oe.cls=c∧oe.data=.fields vs
def excO (a:Addr) (c:Value):HO:=.ext (zoz a c)
structure zgr (K:PySem.W.Frag) (c:Value):Prop where
 kit:∀ a:Addr,PySem.W.KitX K (.ref a) c (zoz a c)
inductive TyX (K:PySem.W.Frag) (H:Hp):V→Value→Prop where
 | of {x:V} {t:Value} (h:zju K H x t):TyX K H x t
 | exc {a:Addr} {c:Value} (h:H a=some (excO a c)) (k:zgr K c):TyX K H (.ref a) c
def clsV:V→Option Value
 | .ty n=>some (.type n)
 | .ref c=>some (.ref c)
 | _=>none
def zdT (K:PySem.W.Frag):List V→Hp→VK→Prop:=fun xs H Q=>∃ x c t cv b,xs=[x,c]∧clsV c=some cv∧TyX K H x t∧PySem.W.kitOne K t cv=some b∧Q (.bl b) H
def zku (sp:Sp) (dvs:List V) (E:St→XK) (t:TA):TE:=fun σ H Q=>t σ H fun vs H1=>sp (vs++dvs) H1 Q (E σ)
theorem zet {K:PySem.W.Frag} {H:Hp} {Q:VK} {i:Int} (q:Q (.bl true) H):zdT K [.int i,.ty "int"] H Q:=⟨_,_,_,_,true,rfl,rfl,.of (.int i),rfl,q⟩
theorem zfj {K:PySem.W.Frag} {H:Hp} {Q:VK} {i:Int} (q:Q (.bl false) H):zdT K [.int i,.ty "bool"] H Q:=⟨_,_,_,_,false,rfl,rfl,.of (.int i),zfk K,q⟩
theorem zev {K:PySem.W.Frag} {H:Hp} {Q:VK} {r:Addr} {xs:List V} (h:H r=some (.tup xs)) (q:Q (.bl true) H):zdT K [.ref r,.ty "tuple"] H Q:=⟨_,_,_,_,true,rfl,rfl,.of (.tup h),rfl,q⟩
theorem zjj {c:V} {u cv:Value} (r:zcF c u) (h:clsV c=some cv):u=cv:=by
 cases c with
 | ty n=>cases r;exact Option.some.inj h
 | ref a=>cases r;exact Option.some.inj h
 | _=>cases h
theorem za4:zeR X (.builtin "isinstance") (zdT X.K):=by
 intro pins s σ H xs us Q I r h
 obtain ⟨x,c,t,cv,b,rfl,hc,ty,e,q⟩:=h
 obtain ⟨u,w',rfl,rx,rw'⟩:=zkF r
 obtain rfl:=zjj rw' hc
 cases ty with
 | of ty=>exact zlb I rx ty e fun tk=>⟨.bl b,H,I.tok tk,rfl,q⟩
 | @exc a c h k =>
  cases (show u=Value.ref a from rx)
  obtain ⟨p,_,_⟩:=(show zcg X.prog X.w H s.heap a (excO a t) from I.hok a _ h)
  exact PySem.W.kia_one (k.kit a) I.kIn p e (fun z=>nomatch z) fun tk=>⟨.bl b,H,I.tok tk,rfl,q⟩
def zjD (K:PySem.W.Frag):V→List V→Hp→VK→Prop:=fun x vs H Q=>∃ l xs y,x=.ref l∧vs=[y]∧SqL K H l xs∧zdX y=true∧xs.all zdX=true∧Q (.int ((xs.countP fun z=>eqV z y:Nat):Int)) H
theorem zgq {x:V}:∀ {xs:List V} {us:List Value},zb9 xs us→xs.all zdX=true→us.countP (eqU x)=xs.countP fun y=>eqV y x
 | _,_,.nil,_=>rfl
 | y::xs,u::us,.cons r t,f=>by
  rw [List.all_cons,Bool.and_eq_true] at f
  rw [List.countP_cons,List.countP_cons,zjA r f.1,zgq t f.2]
theorem zmK:MtR X "list.count" (zjD X.K):=by
 intro pins s σ H x vs v us Q I rx rv h
 obtain ⟨l,xs,y,rfl,rfl,hl,fy,fs,q⟩:=h
 cases rx
 obtain ⟨u,rfl,ru⟩:=rv.one
 obtain ⟨its,r,⟨⟨cls,dd,data,sl⟩,n,e,hc,hdn,hd⟩,_⟩:=I.list hl
 simp only at hc hd
 subst hc hd
 refine call_meets F.slot_list_count ⟨_,e,rfl⟩ F.entry_list_count (F.args_list_count_2 _ _) (SeqAt.list_countAt l its.toArray n dd sl u (eqU y)) ⟨e,fun w hw=>zdl ru fy r fs w (by simpa using hw),?_⟩
 refine ⟨.int _,H,I.tok _,⟨_,rfl⟩,?_⟩
 rw [List.toList_toArray,zgq r fs]
 exact q
def zle (K:PySem.W.Frag):V→List V→Hp→VK→Prop:=fun x vs H Q=>∃ l xs y j,x=.ref l∧vs=[y]∧SqL K H l xs∧zdX y=true∧xs.all zdX=true∧xs.findIdx? (fun z=>eqV z y)=some j∧j<1000000∧Q (.int (j:Nat)) H
theorem zfF {x:V}:∀ {xs:List V} {us:List Value},zb9 xs us→xs.all zdX=true→us.findIdx? (eqU x)=xs.findIdx? fun y=>eqV y x
 | _,_,.nil,_=>rfl
 | y::xs,u::us,.cons r t,f=>by
  rw [List.all_cons,Bool.and_eq_true] at f
  rw [List.findIdx?_cons,List.findIdx?_cons,zjA r f.1,zfF t f.2]
theorem zl7:MtR X "list.index" (zle X.K):=by
 intro pins s σ H x vs v us Q I rx rv h
 obtain ⟨l,xs,y,j,rfl,rfl,hl,fy,fs,hj,hs,q⟩:=h
 cases rx
 obtain ⟨u,rfl,ru⟩:=rv.one
 obtain ⟨its,r,⟨⟨cls,dd,data,sl⟩,n,e,hc,hdn,hd⟩,_⟩:=I.list hl
 simp only at hc hd
 subst hc hd
 rw [← zfF r fs] at hj
 obtain ⟨hlt,h1,h2⟩:=List.findIdx?_eq_some_iff_getElem.mp hj
 refine call_meets F.slot_list_index ⟨_,e,rfl⟩ F.entry_list_index (F.args_list_index_2 _ _) (SeqAt.list_indexAt l its.toArray n dd sl u (eqU y) j (by simpa using hlt) (by (first|lia|omega)) (by simpa using h1) (fun m hm hmj=>by simpa using h2 m hmj)) ⟨e,fun w hw=>zdl ru fy r fs w (by simpa using hw),?_⟩
 exact ⟨.int _,H,I.tok _,⟨_,rfl⟩,q⟩
def tTru (K:PySem.W.Frag) (ta:TE):TT:=fun σ H Q=>ta σ H fun x H'=>∃ k,zqj K x H' k∧Q k H'
def zcV (t:TS):TS:=fun D σ H=>∃ R:St→Hp→Prop,t { D with nx:=R } σ H∧∀ σ' H',R σ' H'→D.nx σ' H'
theorem zbj {st:Stmt} {t:TS} (h:PS X st t):PS X st (zcV t):=by
 intro pins s σ H D I hw
 obtain ⟨R,hw,hR⟩:=hw
 refine thn (h pins s σ H _ I hw) fun f s' q=>?_
 cases f with
 | next=>obtain ⟨σ',H',I',q⟩:=q;exact ⟨σ',H',I',hR _ _ q⟩
 | brk=>exact q
 | cont=>exact q
 | ret u=>exact q
end
theorem zaA {H:Hp} {p:Addr} (h:H p=none) (o:HO):za3 H (upd H p o):=fun b u q=>by rw [zap (zaL q h)];exact q
theorem za3.add {H0 H:Hp} {p:Addr} {o:HO} (s:za3 H0 H) (h:H p=none):za3 H0 (upd H p o):=s.trans (zaA h o)
theorem za3.put {H0 H:Hp} {p:Addr} {o:HO} (s:za3 H0 H) (h:H0 p=none):za3 H0 (upd H p o):=fun b u q=>by rw [zap (zaL q h)];exact s _ _ q
theorem zmx {K:PySem.W.Frag} {i:Int} {H:Hp} {k:Bool}:zqj K (.int i) H k=(k=(i != 0)):=rfl
theorem zoS {K:PySem.W.Frag} {i:Bool} {H:Hp} {k:Bool}:zqj K (.bl i) H k=(k=i):=rfl
theorem zl4 (a b:Int):zpK (.int a) (.int b)=true:=rfl
theorem zok (a b:Bool):zpK (.bl a) (.bl b)=true:=rfl
theorem znh {ns:List Int} {k:Int} (h0:0≤k) (h:k<(ns.length:Int)):∃ v:Int,atI (ns.map V.int) k=some (.int v)∧ns[k.toNat]?=some v:=by
 have hk:k.toNat<ns.length:=by (first|lia|omega)
 have ek:k=((k.toNat:Nat):Int):=by (first|lia|omega)
 have q:atI (ns.map V.int) ((k.toNat:Nat):Int)=some (.int ns[k.toNat]):=za0 (by rw [List.getElem?_map,List.getElem?_eq_getElem hk] <;> rfl)
 rw [← ek] at q
 exact ⟨ns[k.toNat],q,List.getElem?_eq_getElem hk⟩
def zjM (J:It) (g:TG) (tb:TS):TS:=fun D σ H=>∃ W:Nat→Nat→St→Hp→Prop,(∃ m,W 0 m σ H)∧∀ i m σ H,W i m σ H →
 (J.stop i H∧D.nx σ H)∨(J.go i H∧∃ N:St→Hp→Prop,(∀ σ' H',N σ' H'→∃ m',m'<m∧W (i+1) m' σ' H')∧∀ x H',J.yld i H x H'→g x σ H' fun σ2 H2=>tb { D with nx:=N,ct:=N,bk:=D.nx } σ2 H2)
theorem znJ {wi:TI} {g:TG} {tb:TS} {D:zcd} {σ:St} {H:Hp}:zgP wi g tb D σ H=wi σ H fun J H1=>zjM J g tb D σ H1:=rfl
theorem zcO {lo:Int} {n:Nat} {g:TG} {tb:TS} {D:zcd} {σ:St} {H:Hp} (Pv:Nat→St→Hp→Prop) (h0:Pv 0 σ H)
  (hs:∀ i σ H,i<n→Pv i σ H→g (.int (lo+i)) σ H fun σ2 H2=>tb { D with nx:=Pv (i+1),ct:=Pv (i+1),bk:=D.nx } σ2 H2) (hd:∀ σ H,Pv n σ H→D.nx σ H):zjM (Itr lo n) g tb D σ H:=zkP Pv h0 hs hd
theorem zfM {K:PySem.W.Frag} {a:Addr} {xs:List V} {g:TG} {tb:TS} {D:zcd} {σ:St} {H:Hp} (Pv:Nat→St→Hp→Prop) (h0:Pv 0 σ H) (hl:∀ i σ H,i≤xs.length→Pv i σ H→SqL K H a xs)
  (hs:∀ i x σ H,xs[i]?=some x→Pv i σ H→g x σ H fun σ2 H2=>tb { D with nx:=Pv (i+1),ct:=Pv (i+1),bk:=D.nx } σ2 H2) (hd:∀ σ H,Pv xs.length σ H→D.nx σ H):zjM (Itl K a) g tb D σ H:=zmi Pv h0 hl hs hd
end L2
namespace L2
open PySem PySem.Spec PyProof.Rows
section
variable {P:Program} {w:World}
structure znL (P:Program) (w:World) (outer:List Env) (H:Hp) (s:Shared) (E:XK) (ea:Addr) (s':Shared) (B:Heap) (cls a0:Value) (H':Hp):Prop where
 os:s'.os=s.os
 bare:AllBare s'.gens
 un:Un (frs outer) [] H H' s.heap s'.heap
 hokB:HOk P w H' B
 fly:Heap.FlyingW B outer ea cls a0 s'.heap
 cov:∀ b o,s.heap.get? b=some o→H b=none→b∉frs outer→B.get? b=some o
 covT:∀ b o,s.heap.get? b=some o→b∉frs outer→∃ o',B.get? b=some o'
 new:s.heap.get? ea=none
 free:H' ea=none
 want:E cls none H'
theorem znL.later {outer:List Env} {H H':Hp} {s s':Shared} {E:XK} {ea:Addr} {B h:Heap} {cls a0:Value} (x:znL P w outer H s E ea s' B cls a0 H') (st:B.StaysIn h) (sm:s'.heap.UpToSlots h)
  (ff:s'.heap.FunFrames B outer):Un (frs outer) [] H H' s.heap h∧HOk P w H' h:=by
 have slot:∀ b o,s'.heap.get? b=some o→b∈frs outer→∃ sl,h.get? b=some { o with slots:=sl }:=fun b o e hb=>by
  obtain ⟨_,o',e',nf⟩:=ff.mem hb
  rw [e] at e'
  cases e'
  exact sm b o e nf
 refine ⟨⟨fun b o e n hb _=>st b o (x.cov b o e n hb),fun b o e n hb hx=>?_,x.un.free,fun b o e hx=>?_,x.un.tups,x.un.frzs,x.un.tbls⟩,x.hokB.kept st⟩
 ·obtain ⟨sl,e1⟩:=x.un.slot b o e n hb hx
  obtain ⟨sl',e2⟩:=slot b _ e1 hb
  exact ⟨sl',e2⟩
 ·by_cases hb:b∈frs outer
  ·obtain ⟨o1,e1⟩:=x.un.there b o e hx
   obtain ⟨sl,e2⟩:=slot b o1 e1 hb
   exact ⟨_,e2⟩
  ·obtain ⟨o',e'⟩:=x.covT b o e hb
   exact ⟨o',st b o' e'⟩
end
section
variable {P:Program} {w:World} {K:PySem.W.Frag} {mg:Str→Option Value} {base:Heap} {N:List Str} {qual:Str} {scope:Scope} {f:Addr} {cd:Value} {A:Around} {outer:List Env} {s₀:Shared} {H₀:Hp} {E:XK}
end
section
variable {P:Program} {w:World} {K:PySem.W.Frag} {mg:Str→Option Value} {base:Heap} {N:List Str} {qual:Str} {scope:Scope} {f:Addr} {cd:Value} {A:Around} {outer:List Env} {s₀:Shared} {H₀:Hp} {E:XK}
end
abbrev zfs:List Value:=[.type "ValueError",.type "Exception",.type "BaseException",.type "object"]
def zmT (h:Heap) (C:Addr):Prop:=∃ bm N nm q bs hdct sn sub ab col dd k0 k1 k2 k3 k5 mN,h.get? C=some (excClassObj nm q C N bs bm hdct sn sub ab col dd k0 k1 k2 k3 k5 "ValueError.__new__")∧h.Ns N mN∧mN "__init__"=none∧OwnTail h zfs bm
theorem zk5 {K:PySem.W.Frag} {h:Heap} {C:Addr} (X:K.In h) (q:PySem.W.excIn K C zfs "ValueError.__new__"=true):zmT h C:=by
 unfold PySem.W.excIn at q
 split at q
 ·rename_i dd cd sl ho
  split at q
  ·rename_i C2 bm k0 k1 k2 k3 n k5 hm hs
   simp only [Bool.and_eq_true,beq_iff_eq,Bool.not_eq_true'] at q
   obtain ⟨⟨⟨⟨⟨r1,r2⟩,r3⟩,r4⟩,r5⟩,r6⟩:=q
   subst r1 r2
   obtain ⟨a1,a2,a3,a4,a5,a6,a7,a8,a9,a10,a11⟩:=cd
   dsimp only at hm r3 r5 r6
   subst hm r3
   have z:sl=#[k0,k1,k2,k3,some (.builtin "ValueError.__new__"),k5]:=by
    obtain ⟨l⟩:=sl
    exact congrArg Array.mk hs
   subst z
   exact ⟨bm,_,_,_,_,_,_,_,_,_,_,k0,k1,k2,k3,k5,_,X _ _ ho,.of_isNs (PySem.W.isNs_of_in X r5),PySem.W.nsMap_none_of_in X r5 r6,PySem.W.tail_of_in X r4⟩
  ·cases q
 ·cases q
section
variable {X:Cx} {CX:CXT} {k:Nat} {f:Addr} {fd:FuncData} {ps:List Str} {sp:Sp} {dvs:List V} {ds:List Value} {E:St→XK} {x:Str} {p pos:Pos} {e:Expr} {es:List Expr} {t:TA}
def zkA (CX:CXT) (X:Cx) (E:St→XK):Prop:=∀ (pins:List (Addr×Obj)) (σ:St) (H:Hp) (s:Shared) (e:Value) (s':Shared),Inv X pins σ H s→CX X.stack H s (E σ) e s'→X.xe e s'
theorem zml (F:zdD X.prog X.w X.K X.mg X.base CX k f fd ps sp) (hr:ze3 k X.A) (hg:Gl X x) (hm:X.mg x=some (.ref f)) (hk:PySem.W.keepIn X.K (.ref f)=true) (hb:zcq X.K fd ps ds) (hd:zb9 dvs ds) (hx:zkA CX X E)
  (ha:PA X (e::es) t) (hdb:(x == ("__debug__":Str))=false:=by decide) (he:starEach (e::es) X.env=(false,eval e X.env)::starEach es X.env:=by rfl) (hpl:(backTo pos (starEach es X.env)).any (·.1)=false:=by rfl) :
  PE X (.Call (.Name x p) (e::es) [] pos) (zku sp dvs E t):=by
 intro pins s σ H Q I h
 refine wpAny_Call_Name_kw (zeo I hg hm ?_ hdb)
 refine PySem.W.callWith_K (h₀:=X.base) I.ok.mod.kin hk (thn (ha pos pins s σ H _ I h) fun us s1 ⟨vs,H1,I1,r,q⟩=>⟨I1.kIn,?_⟩) he hpl
 have r2:zb9 (vs++dvs) (us++ds):=r.append hd
 have hl:(us++ds).length=ps.length:=by rw [← r2.length];exact F.len _ _ _ _ q
 refine wpAny_call (codeAny_mono (F.run X.A X.stack s1 H1 ⟨us,[]⟩ (us++ds) (vs++dvs) Q (E σ) hr I1.env0 (hb s1 us I1.kIn hl) r2 q) fun res s' hq=>?_)
 cases res with
 | error e=>exact hx pins σ H1 s1 e s' I1 hq
 | ok fl =>
  cases fl with
  | ret u=>exact I1.after hq
  | next=>exact False.elim hq
  | brk=>exact False.elim hq
  | cont=>exact False.elim hq
end
theorem Cx.Ok.pinned {X:Cx} (ok:X.Ok) (pn:List (Addr×Obj)) (xe:Value→Shared→Prop):Cx.Ok { X with pn:=pn,xe:=xe } :=
 ⟨ok.mod,ok.kind,ok.glob,ok.blt,ok.above,ok.inj,ok.has,ok.cab,ok.hd,ok.frames,ok.stk,ok.exf,ok.bs,ok.bsz,ok.noex,ok.exfs,ok.funs,ok.frf⟩
theorem Inv.ofTry {X:Cx} {pins pins':List (Addr×Obj)} {xe:Value→Shared→Prop} {σ:St} {H:Hp} {s:Shared} (I:Inv { X with pn:=X.pn++pins,xe:=xe } pins' σ H s) (ok:X.Ok):Inv X pins σ H s :=
 ⟨ok,I.os,I.bare,I.base,I.loc,I.cell,I.free,I.freeC,fun p hp=>I.pin p (List.mem_append_left _ hp),I.hok,I.len⟩
theorem Inv.track {X:Cx} {pins:List (Addr×Obj)} {σ:St} {H:Hp} {s:Shared} {a:Addr} {o:HO} (I:Inv X pins σ H s) (hn:H a=none) (h0:X.s₀.heap.get? a=none) (hL:a≠X.env.locals) (hc:∀ x c,X.env.cells.lookup x=some c→c≠a)
  (hp:∀ p∈X.pn++pins,p.1≠a) (new:zcg X.prog X.w (upd H a o) s.heap a o):Inv X pins σ (upd H a o) s:=by
 refine ⟨I.ok,I.os,I.bare,⟨I.base.keep,I.base.slot,fun b u q n hx=>?_,I.base.there,fun b xs q=>?_,fun b u xs q=>?_,fun b ps q=>?_⟩,I.loc,I.cell,?_,fun x c e=>?_,fun p q=>?_,fun b u e=>?_,I.len⟩
 ·have nb:b≠a:=fun z=>by rw [z,h0] at q;cases q
  rw [zap nb]
  exact I.base.free b u q n hx
 ·have q2:=I.base.tups b xs q
  rw [zap (zaL q2 hn)]
  exact q2
 ·have q2:=I.base.frzs b u xs q
  rw [zap (zaL q2 hn)]
  exact q2
 ·obtain ⟨m,q2⟩:=I.base.tbls b ps q
  exact ⟨m,by rw [zap (zaL q2 hn)];exact q2⟩
 ·rw [zap hL.symm]
  exact I.free
 ·rw [zap (hc x c e)]
  exact I.freeC x c e
 ·obtain ⟨e,n,r⟩:=I.pin p q
  exact ⟨e,by rw [zap (hp p q)];exact n,r⟩
 ·by_cases hb:b=a
  ·subst hb
   rw [zae] at e
   cases e
   exact new
  ·rw [zap hb] at e
   exact (I.hok b u e).stay (fun c v _ q=>q) (fun c q=>by rw [zap (zaL q hn)];exact q) fun c xs q=>by rw [zap (zaL q hn)];exact q
theorem zg6 {X:Cx} {pins:List (Addr×Obj)} {σ:St} {H:Hp} {s:Shared} {M:Model} {A:Around} {E:Value→Shared→Prop} {i:Nat} {n:Str} {pos:Pos} {Q:Unit→Shared→Prop} (I:Inv X pins σ H s) (hN:X.N.Nodup) (hi:X.N[i]?=some n)
  (hk:X.env.scope.names.lookup n=some .local) (h:∀ s',Inv X pins (σ.set i none) H s'→Q () s'):wpAny M A (do bindName X.env n .none;unbindBehindTheSuite X.env n pos) Q E s:=by
 obtain ⟨m,hn,hl⟩:=id I.loc
 have hcls:(X.env.scope.kind == .class || (X.env.scope.kind == .module&&X.env.locals != X.env.globals))=false:=by rw [I.ok.kind];rfl
 have hiσ:i<σ.length:=by rw [I.len];exact (List.getElem?_eq_some_iff.mp hi).1
 obtain ⟨oL,_,_,hoL,_⟩:=id hn
 refine wpAny_nameGoes_keeps hk hn hcls fun h' v hn' hs=>?_
 have below:∀ b o,X.s₀.heap.get? b=some o→b≠X.env.locals:=fun b o e=>Nat.ne_of_lt (Nat.lt_of_lt_of_le (Heap.lt_size e) I.ok.above)
 refine h _ ⟨I.ok,I.os,I.bare,⟨fun b o e n hb hx=>?_,fun b o e n hb hx=>?_,I.base.free,fun b o e hx=>?_,I.base.tups,I.base.frzs,I.base.tbls⟩,⟨_,hn',fun j y v' e1 e2 e3=>?_⟩,fun y c e=>?_,I.free,I.freeC,fun p hp=>?_,fun b ob e=>?_,by simpa using I.len⟩
 ·exact (hs.2 b (below b o e)).trans (I.base.keep b o e n hb hx)
 ·obtain ⟨sl,e1⟩:=I.base.slot b o e n hb hx
  exact ⟨sl,(hs.2 b (below b o e)).trans e1⟩
 ·obtain ⟨o',e1⟩:=I.base.there b o e hx
  exact ⟨o',(hs.2 b (below b o e)).trans e1⟩
 ·have hj:j≠i:=fun z=>by
   rw [z,List.getElem?_set_self hiσ] at e2
   cases e2
  rw [List.getElem?_set_ne (Ne.symm hj)] at e2
  obtain ⟨u',r',q⟩:=hl j y v' e1 e2 e3
  refine ⟨u',r',?_⟩
  rcases q with ⟨k,e⟩ | ⟨k,c,e,z⟩
  ·refine .inl ⟨k,?_⟩
   have:y≠n:=fun e=>hj (zgL hN e1 (e ▸ hi))
   simp [this,e]
  ·exact .inr ⟨k,c,e,z.sameBut hs (I.cne y c e)⟩
 ·obtain ⟨w',z⟩:=I.cell y c e
  exact ⟨w',z.sameBut hs (I.cne y c e)⟩
 ·obtain ⟨e,n,ne,nf,d⟩:=I.pin p hp
  exact ⟨(hs.2 p.1 ne).trans e,n,ne,nf,d⟩
 ·refine (I.hok b ob e).stay (fun c w' hc q=>(hs.2 c ?_).trans q) (fun _ q=>q) fun _ _ q=>q
  rintro rfl
  rcases hc with rfl | hc
  ·rw [I.free] at e;cases e
  ·rw [I.free] at hc;cases hc
theorem zgk {M:Model} {A:Around} {E:Value→Shared→Prop} {h:Heap} {g:Array GenState} {d:Drawn} {t:Nat} {os:OsState} {e D:Addr} {oe:Obj} {cls:Value} {Q:Bool→Shared→Prop} (he:h.get? e=some oe) (hcls:oe.cls=cls)
  (O:zmT h D) (L:PySem.W.Looks M h (isSubtype cls (.ref D)) true) (hq:Q true ⟨h,g,d,t,os⟩):wpAny M A (excMatches (.ref e) (.ref D)) Q E ⟨h,g,d,t,os⟩:=by
 obtain ⟨b1,b2,b3,b4,b5,b6,b7,b8,b9,b10,b11,b12,b13,b14,b15,b16,b17,hD,hN,hni,T⟩:=O
 have hcB:(Value.ref D::b1).contains (.type "BaseException")=true:=by rw [List.contains_cons,T.hasType PySem.F.excBase_ValueError.hasBase,Bool.or_true]
 have f:=tc_notTuple
 unfold excMatches
 repeat (first | (with_reducible refine wpAny_loadPart_at he ?_;rw [hcls]) | with_reducible refine wpAny_loadPart_at hD ?_ | (with_reducible refine wpAny_isSubtype_exc hD ?_;rw [hcB]) | (with_reducible refine L.at ?_) | wp_step)
 exact hq
def Cx.inExc (X:Cx) (ea:Addr):Cx:={ X with A:=X.A.mark (some (.ref ea)),calm:=false }
theorem Inv.toExc {X:Cx} {pins:List (Addr×Obj)} {σ:St} {H:Hp} {s:Shared} {ea:Addr} (I:Inv X pins σ H s) (hf:(X.A.mark (some (.ref ea))).frames=some X.stack):Inv (X.inExc ea) pins σ H s :=
 ⟨⟨I.ok.mod,I.ok.kind,I.ok.glob,I.ok.blt,I.ok.above,I.ok.inj,I.ok.has,I.ok.cab,(by intro z;cases z),hf,I.ok.stk,I.ok.exf,I.ok.bs,I.ok.bsz,I.ok.noex,I.ok.exfs,I.ok.funs,I.ok.frf⟩,I.os,I.bare,I.base,I.loc,I.cell,I.free,I.freeC,I.pin,I.hok,I.len⟩
theorem Inv.ofExc {X:Cx} {pins:List (Addr×Obj)} {σ:St} {H:Hp} {s:Shared} {ea:Addr} (I:Inv (X.inExc ea) pins σ H s) (ok:X.Ok):Inv X pins σ H s :=
 ⟨ok,I.os,I.bare,I.base,I.loc,I.cell,I.free,I.freeC,I.pin,I.hok,I.len⟩
structure zcH (K:PySem.W.Frag) (C:Addr):Prop where
 ga:PySem.W.findIn K (.ref C) "__getattribute__"=some (some (.builtin "BaseException.__getattribute__"))
 gn:PySem.W.findIn K (.ref C) "__getattr__"=some none
 cl:PySem.W.findIn K (.ref C) "__class__"=some (some (.builtin "object.__class__"))
 mb:PySem.W.mroIn K C (.type "BaseException")=some true
 mo:PySem.W.mroIn K C (.type "object")=some true
section
open Builtin Builtin.ObjectAttr Builtin.Getset_descriptor PySem.W
variable {K:PySem.W.Frag} {prog:Program} {w:World} {A:Around} {E:Value→Shared→Prop} {h:Heap} {g:Array GenState} {d:Drawn} {t:Nat} {os:OsState} {a C:Addr} {o:Obj}
theorem zjX:splitId "BaseException.__getattribute__"=some ("BaseException","__getattribute__"):=by decide +kernel
theorem zkf:builtinKind "BaseException.__getattribute__"=some .slot:=by decide +kernel
theorem zj4 {R:Result→Shared→Prop} (X:K.In h) (Z:zcH K C) (hx:h.get? a=some o) (hc:o.cls=.ref C) (hq:R (.ok (.ret (.ref C))) ⟨h,g,d,t,os⟩) :
  codeAny (model prog w) A (.call (.builtin "getset_descriptor.__get__") ⟨[.builtin "object.__class__",.ref a,.ref C],[]⟩) R ⟨h,g,d,t,os⟩:=by
 have LT:PySem.W.Looks (model prog w) h (typeOf (.ref a)) (.ref C):=hc ▸ (PySem.W.Looks.ld hx).andThen .now
 have LM:=PySem.W.looks_mroIn (M:=model prog w) X Z.mo
 refine codeAny_call_builtin PySem.W.KF.slot_gs.plain PySem.W.KF.entry_gs (PySem.W.KF.slot_gs.check _ _ _ _ _ _ _ _ PySem.W.KF.type_class (PySem.W.KF.args_gs _ _ _) ?_)
 unfold Builtin.«getset_descriptor.__get__»
 unfold descrGet
 rw [PySem.W.dga_obj]
 refine wpAny_bind (wpAny_pure ?_)
 unfold descrGetter descrCheckInstance
 unfold descrNameAndClass isInstance
 simp only [PySem.W.KF.owner_class]
 repeat lk
 refine ⟨Code.quiet_builtin _ (by decide +kernel),codeAny_builtin PySem.W.KF.entry_class ?_⟩
 unfold Builtin.«object.__class__»
 unfold shownTypeOf
 repeat lk
 exact hq
theorem zhA {tk:Tok} {Q:Fin→Shared→Prop} (X:K.In h) (Z:zcH K C) (hx:h.get? a=some o) (hc:o.cls=.ref C) (hq:Q (.done (.ret (.ref C))) ⟨h,g,d,t,os⟩) :
  wpAny (model prog w) A (Builtin.«object.__getattribute__» ⟨[.ref a,.str "__class__" tk],[]⟩) Q E ⟨h,g,d,t,os⟩:=by
 have LC:=PySem.W.looks_findIn (M:=model prog w) X Z.cl
 have h5:(⟨h,g,d,t,os⟩:Shared).TypeIs (.builtin "object.__class__") "getset_descriptor":=F.typeOf_object_class
 have f5:=F.typeOf_object_class
 have f6:=F.slot_gs_get.lookup
 have f7:=F.slot_gs_set.lookup
 repeat (any_goals (first | assumption | (with_reducible refine wpAny_loadPart_at hx ?_;rw [hc]) | with_reducible refine LC.at ?_ | wp_step))
 refine zj4 X Z hx hc ?_
 repeat (any_goals (first | assumption | wp_step))
theorem zfm {M:Model} {v:Value} {Q:Unit→Shared→Prop} (X:K.In h) (Z:zcH K C) (hx:h.get? a=some o) (hc:o.cls=.ref C) (hq:Q () ⟨h,g,d,t,os⟩) :
  wpAny M A (checkBuiltinCall "BaseException.__getattribute__" ⟨[.ref a,v],[]⟩) Q E ⟨h,g,d,t,os⟩:=by
 have LM:=PySem.W.looks_mroIn (M:=M) X Z.mb
 have LT:PySem.W.Looks M h (typeOf (.ref a)) (.ref C):=hc ▸ (PySem.W.Looks.ld hx).andThen .now
 have ao:=F.args_bexc_ga (.ref a) v
 simp only [checkBuiltinCall,zkf,zjX]
 refine wpAny_bind ?_
 unfold isInstance
 refine wpAny_bind (LT.at (LM.at ?_))
 repeat (any_goals (first | assumption | wp_step))
theorem zkx {tk:Tok} {Q:Value→Shared→Prop} (X:K.In h) (Z:zcH K C) (FB:ExcAttrBase "ValueError" zfs) (hx:h.get? a=some o) (hc:o.cls=.ref C) (hq:Q (.ref C) ⟨h,g,d,t,os⟩) :
  wpAny (model prog w) A (getAttrBy (.ref a) (.str "__class__" tk) false) Q E ⟨h,g,d,t,os⟩:=by
 have LG:=PySem.W.looks_findIn (M:=model prog w) X Z.ga
 have LN:=PySem.W.looks_findIn (M:=model prog w) X Z.gn
 have f3:=FB.ga.bind (.ref a)
 have n2:(Value.builtin "BaseException.__getattribute__" == Value.builtin "object.__getattribute__")=false:=by decide +kernel
 have n1:(onTheHeap (Value.ref C)&&(Value.builtin "BaseException.__getattribute__" == Value.builtin "object.__getattribute__"))=false:=by rw [n2];rfl
 repeat (any_goals (first | assumption | (with_reducible refine wpAny_loadPart_at hx ?_;rw [hc]) | with_reducible refine LG.at ?_ | with_reducible refine LN.at ?_ | wp_step))
 refine codeAny_call_builtin FB.ga.plain F.entry_bexc_ga (zfm X Z hx hc (zhA X Z hx hc ?_))
 repeat (any_goals (first | assumption | wp_step))
theorem ziG {Q:Option Value→Shared→Prop} (X:K.In h) (Z:zcH K C) (FB:ExcAttrBase "ValueError" zfs) (hx:h.get? a=some o) (hc:o.cls=.ref C) (hq:Q (some (.ref C)) ⟨h,g,d,t+1,os⟩) :
  wpAny (model prog w) A (getAttr? (.ref a) "__class__") Q E ⟨h,g,d,t,os⟩:=by
 unfold getAttr? getAttrBy?
 repeat (any_goals (first | assumption | with_reducible apply zkx X Z FB hx hc | wp_step))
end
end L2
namespace L2
open PySem PySem.Spec PyProof.Rows
theorem zk7 {env:Env} {x:Str} {c:Addr} (h:env.cells.lookup x=some c):cellOf env x=pure c:=by
 unfold cellOf
 rw [h]
theorem zfh {env:Env}:∀ (l:List (Str×NameKind)) (cs:List (Str×Addr)),(∀ y∈l,y.2=.free→∃ c,env.cells.lookup y.1=some c)→(∀ x c,cs.lookup x=some c→env.cells.lookup x=some c) →
  ∃ cl,(forIn l cs fun (y:Str×NameKind) r=>(if (y.2 == .free)=true then do let c ← cellOf env y.1;pure (ForInStep.yield ((y.1,c)::r)) else pure (ForInStep.yield r):Sem (ForInStep (List (Str×Addr)))))=pure cl ∧
   (∀ x c,cl.lookup x=some c→env.cells.lookup x=some c)∧(∀ y∈l,y.2=.free→∃ c,cl.lookup y.1=some c)∧∀ x,(∃ c,cs.lookup x=some c)→∃ c,cl.lookup x=some c
 | [],cs,_,hc=>⟨cs,by simp,hc,by simp,fun _ h=>h⟩
 | y::l,cs,hf,hc=>by
  have hf':∀ z∈l,z.2=.free→∃ c,env.cells.lookup z.1=some c:=fun z hz=>hf z (List.mem_cons_of_mem _ hz)
  by_cases hy:y.2=.free
  ·obtain ⟨c,e⟩:=hf y List.mem_cons_self hy
   have hc':∀ x d,List.lookup x ((y.1,c)::cs)=some d→env.cells.lookup x=some d:=fun x d q=>by
    rw [List.lookup_cons] at q
    split at q
    ·rename_i b
     cases q
     rw [beq_iff_eq.mp b,e]
    ·exact hc x d q
   obtain ⟨cl,e1,e2,e3,e4⟩:=zfh l ((y.1,c)::cs) hf' hc'
   refine ⟨cl,?_,e2,fun z hz q=>?_,fun x ⟨d,q⟩=>e4 x ?_⟩
   ·rw [List.forIn_cons,if_pos (by rw [hy];rfl),zk7 e]
    simpa using e1
   ·rcases List.mem_cons.mp hz with r | r
    ·exact e4 z.1 ⟨c,by rw [r,List.lookup_cons];simp⟩
    ·exact e3 z r q
   ·rw [List.lookup_cons]
    split
    ·exact ⟨_,rfl⟩
    ·exact ⟨d,q⟩
  ·obtain ⟨cl,e1,e2,e3,e4⟩:=zfh l cs hf' hc
   refine ⟨cl,?_,e2,fun z hz q=>?_,e4⟩
   ·rw [List.forIn_cons,if_neg (by simpa using hy)]
    simpa using e1
   ·rcases List.mem_cons.mp hz with r | r
    ·rw [r] at q;exact absurd q hy
    ·exact e3 z r q
theorem zj8 {scope:Scope} {env:Env} (h:∀ y∈scope.names,y.2=.free→∃ c,env.cells.lookup y.1=some c) :
  ∃ cl,closureFor scope env=pure cl∧(∀ x c,cl.lookup x=some c→env.cells.lookup x=some c)∧∀ y∈scope.names,y.2=.free→∃ c,cl.lookup y.1=some c:=by
 obtain ⟨cl,e1,e2,e3,_⟩:=zfh scope.names [] h (by simp)
 refine ⟨cl,?_,e2,e3⟩
 unfold closureFor
 simp only [bind_pure]
 exact e1
theorem zhH {P:Program} {w:World} {A:Around} {R:Result→Shared→Prop} {s:Shared} {elt target iter:Expr} {ifs:List Expr} {scope:Scope} {pos:Pos} {it acc:Value} {env:Env} {Z:Value→Shared→Prop} (J:Nat→Shared→Prop)
  (hZ:Z=notedBy (model P w) A env fun e s'=>R (.error e) s')
  (turn:∀ n s,J n s→wpAny (model P w) A (pyNext it) (fun r s1=>match r with
   | none=>R (.ok .next) s1
   | some v=>wpAny (model P w) A (letOwnedTupleGo target it v) (fun _ s2=>wpAny (model P w) A (assign target env v) (fun _ s3 =>
     wpAny (model P w) A (forIn ifs true fun c r=>if r=true then do let ok ← isTrue c env (eval c env);pure (ForInStep.yield ok) else pure (ForInStep.yield r)) (fun ok s4 =>
      if ok=true then wpAny (model P w) A (eval elt env) (fun x s5=>wpAny (model P w) A (call (.builtin "list.append") [acc,x]) (fun _ s6=>∃ m,m<n∧J m s6) Z s5) Z s4
      else ∃ m,m<n∧J m s4) Z s3) Z s2) Z s1) Z s)
  (n:Nat) (h:J n s):codeAny (model P w) A (.compLoop (.ListComp elt [⟨target,iter,ifs,0⟩] scope pos) 0 it acc env) R s:=by
 subst hZ
 refine codeAny_loop rfl J (fun n s hJ=>?_) n h
 show wpAny _ _ (Sem.onRaise (compTurn (.ListComp elt [⟨target,iter,ifs,0⟩] scope pos) 0 it acc env) fun x=>do noteFrame x env;theTreesLotGoes x) _ _ s
 refine wpAny_noted ?_
 rw [compTurn_list]
 refine wpAny_bind (wpAny_standAt (wpAny_bind (thn (turn n s hJ) fun r s1 h1=>?_)))
 cases r with
 | none=>exact wpAny_pure h1
 | some v =>
  refine wpAny_bind (thn h1 fun _ s2 h2=>wpAny_bind (thn h2 fun _ s3 h3=>wpAny_bind (thn h3 fun ok s4 h4=>?_)))
  cases ok with
  | false=>exact wpAny_pure ⟨rfl,h4⟩
  | true=>exact wpAny_bind (wpAny_bind (thn h4 fun x s5 h5=>wpAny_bind (thn h5 fun _ s6 h6=>wpAny_pure (wpAny_pure ⟨rfl,h6⟩))))
def PTs (X:Cx) (ifs:List Expr) (t:TT):Prop:=∀ (pins:List (Addr×Obj)) (s:Shared) (σ:St) (H:Hp) (Q:Bool→Hp→Prop),Inv X pins σ H s→t σ H Q →
 wpAny (model X.prog X.w) X.A (forIn ifs true fun c r=>if r=true then do let ok ← isTrue c X.env (eval c X.env);pure (ForInStep.yield ok) else pure (ForInStep.yield r)) (TP X pins σ Q) X.xe s
def zcz:TT:=fun _ H Q=>Q true H
theorem zfQ {X:Cx}:PTs X [] zcz:=fun _ _ _ H _ I h=>wpAny_tests_nil ⟨H,I,h⟩
theorem zpb {X:Cx} {c:Expr} {t:TT} (h:PT X c t):PTs X [c] t:=fun pins s σ H Q I q=>wpAny_tests_one (h pins s σ H Q I q)
def zpD (cap:List (Option Nat)) (σ:St):St:=cap.map fun o=>o.bind fun j=>(σ[j]?).join
def zeK (wi:TI) (g:TG) (tt:TT) (te:TE) (cap:List (Option Nat)):TE:=fun σ H Q=>wi σ H fun J H1=>∀ D,H1 D=none→∃ W:Nat→Nat→St→Hp→Prop,(∃ m,W 0 m (zpD cap σ) (upd H1 D (.lst [])))∧∀ i m σc Hc,W i m σc Hc →
 (J.stop i Hc∧Q (.ref D) Hc)∨(J.go i Hc∧∃ N:St→Hp→Prop,(∀ σ' H',N σ' H'→∃ m',m'<m∧W (i+1) m' σ' H')∧∀ x H',J.yld i Hc x H'→g x σc H' fun σ2 H2=>tt σ2 H2 fun b H3=>if b=true then te σ2 H3 fun y H4=>zbr (.ref D) [y] H4 fun _ H5=>N σ2 H5 else N σ2 H3)
def Cx.blk (X:Cx) (Nc:List Str) (scope:Scope) (cl:List (Str×Addr)) (s:Shared) (H:Hp) (fp:List Addr):Cx:={ X with
 N:=Nc,s₀:=s,H₀:=H,env:=compEnvC scope cl s.heap.objs.size X.env,outer:=X.stack,stack:=X.stack,ex:=fp,fn:=fun _=>false,pn:=[],xe:=fun _ _=>False }
structure zj0 (sc:Scope) (N Nc:List Str) (cap:List (Option Nat)) (scope:Scope):Prop where
 kind:scope.kind=.function
 nocell:∀ y∈scope.names,y.2≠.cell
 free:∀ y∈scope.names,y.2=.free→sc.names.lookup y.1=some .cell∨sc.names.lookup y.1=some .free
 once:∀ y∈scope.names,scope.names.lookup y.1=some y.2
 nd:Nc.Nodup
 len:cap.length=Nc.length
 cap:∀ (i:Nat) (y:Str) (j:Nat),Nc[i]?=some y→cap[i]?=some (some j)→N[j]?=some y∧scope.names.lookup y=some .free
def znn (sc:Scope) (N Nc:List Str) (cap:List (Option Nat)) (scope:Scope):Bool :=
 scope.kind == .function&&scope.names.all (fun y=>y.2 != .cell&&scope.names.lookup y.1 == some y.2&&(y.2 != .free || sc.names.lookup y.1 == some .cell || sc.names.lookup y.1 == some .free))&&decide Nc.Nodup&&cap.length == Nc.length
  && (Nc.zip cap).all fun p=>p.2.all fun j=>N[j]? == some p.1&&scope.names.lookup p.1 == some .free
theorem zj0.of {sc:Scope} {N Nc:List Str} {cap:List (Option Nat)} {scope:Scope} (h:znn sc N Nc cap scope=true):zj0 sc N Nc cap scope:=by
 unfold znn at h
 simp only [Bool.and_eq_true,beq_iff_eq,List.all_eq_true,bne_iff_ne,ne_eq,Bool.or_eq_true,decide_eq_true_eq] at h
 obtain ⟨⟨⟨⟨h1,h2⟩,h3⟩,h4⟩,h5⟩:=h
 refine ⟨h1,fun y hy=>(h2 y hy).1.1,fun y hy hf=>?_,fun y hy=>(h2 y hy).1.2,h3,h4,fun i y j e1 e2=>?_⟩
 ·rcases (h2 y hy).2 with (q | q) | q
  ·exact absurd hf q
  ·exact .inl q
  ·exact .inr q
 ·have m:(y,some j)∈Nc.zip cap:=by
   refine List.mem_of_getElem? (i:=i) ?_
   rw [List.getElem?_zip_eq_some]
   exact ⟨e1,e2⟩
  have z:=h5 _ m
  simpa using z
theorem zc6 {env:Env} {x:Str}:∀ {names:List (Str×NameKind)} {k:NameKind},((names.map fun (n,k)=>if (k == NameKind.free&&env.scope.kind == .function&&env.kindOf n == some .cell) then (n,NameKind.cell) else (n,k)).lookup x=some k)→k≠.cell∧names.lookup x=some k∨(k=.cell∧(names.lookup x=some .cell∨names.lookup x=some .free))
 | [],_,h=>by simp at h
 | (n,q)::r,k,h=>by
  have ih:=@zc6 env x r k
  rw [List.map_cons] at h
  dsimp only at h
  by_cases hx:(x == n)=true
  ·by_cases hc:(q == NameKind.free&&env.scope.kind == .function&&env.kindOf n == some .cell)=true
   ·rw [if_pos hc,List.lookup_cons,hx] at h
    cases h
    rw [Bool.and_eq_true,Bool.and_eq_true] at hc
    refine .inr ⟨rfl,.inr ?_⟩
    rw [List.lookup_cons,hx]
    exact congrArg some (beq_iff_eq.mp hc.1.1)
   ·rw [if_neg hc,List.lookup_cons,hx] at h
    cases h
    rw [List.lookup_cons,hx]
    by_cases z:q=.cell
    ·exact .inr ⟨z,.inl (congrArg some z)⟩
    ·exact .inl ⟨z,rfl⟩
  ·have hx':(x == n)=false:=by simpa using hx
   rw [List.lookup_cons,hx']
   refine ih ?_
   by_cases hc:(q == NameKind.free&&env.scope.kind == .function&&env.kindOf n == some .cell)=true
   ·rw [if_pos hc,List.lookup_cons,hx'] at h
    exact h
   ·rw [if_neg hc,List.lookup_cons,hx'] at h
    exact h
section
variable {X:Cx} {pins:List (Addr×Obj)} {σ:St} {H:Hp} {s:Shared}
theorem znS {Nc:List Str} {cap:List (Option Nat)} {scope:Scope} {cl:List (Str×Addr)} {fp:List Addr} {h1:Heap} {tk:Nat} {m1:Str→Option Value} (I:Inv X pins σ H s) (B:zj0 X.env.scope X.N Nc cap scope)
  (hsub:∀ x c,cl.lookup x=some c→X.env.cells.lookup x=some c) (hfr:∀ y∈scope.names,y.2=.free→∃ c,cl.lookup y.1=some c) (hf:∀ b∈fp,zi8 X pins H b) (hin:∀ b∈fp,b<s.heap.objs.size)
  (hk:∀ b o,s.heap.get? b=some o→h1.get? b=some o) (hn:h1.Ns s.heap.objs.size m1):Inv (X.blk Nc scope cl s H fp) [] (zpD cap σ) H { s with heap:=h1,toks:=tk }:=by
 have ok:=I.ok
 have bsz:X.base.objs.size≤s.heap.objs.size:=Nat.le_trans ok.bsz I.sz
 refine ⟨⟨ok.mod,B.kind,ok.glob,ok.blt,Nat.le_refl _,fun x y c h1 h2=>ok.inj x y c (hsub x c h1) (hsub y c h2),fun x hx=>?_,(by intro x c z;cases z),ok.hd,ok.frames,.inl rfl,fun b hb=>⟨Nat.ne_of_lt (hin b hb),fun x c e=>(hf b hb).2.2.2.2.1 x c (hsub x c e)⟩,
  I.bs,bsz,fun b o e hb=>?_,fun b hb z=>?_,I.stack,I.stkFree⟩,rfl,I.bare,Un.kept hk,⟨m1,hn,fun i y v e1 e2 e3=>?_⟩,fun x c e=>?_,I.hok.fresh (Nat.le_refl _),fun x c e=>I.freeC x c (hsub x c e),(by intro p hp;cases hp),I.hok.kept hk,?_⟩
 ·have look:∀ k,(relabel scope X.env).names.lookup x=some k→k=.cell∨k=.free→∃ c,cl.lookup x=some c:=fun k q hk=>by
   rcases zc6 q with ⟨n1,n2⟩ | ⟨_,n2 | n2⟩
   ·rcases hk with r | r
    ·exact absurd r n1
    ·exact hfr (x,k) (PySem.mem_of_lookup n2) r
   ·exact absurd rfl (B.nocell _ (PySem.mem_of_lookup n2))
   ·exact hfr (x,.free) (PySem.mem_of_lookup n2) rfl
  rcases hx with q | q
  ·exact look _ q (.inl rfl)
  ·exact look _ q (.inr rfl)
 ·rcases (hf b hb).2.2.2.1 with q | q
  ·exact ok.noex b o e q
  ·exact absurd (Nat.lt_of_lt_of_le (Heap.lt_size e) (Nat.le_trans ok.bsz q)) (Nat.lt_irrefl _)
 ·rcases List.mem_cons.mp (I.stkSub b z) with q | q
  ·exact (hf b hb).2.1 q
  ·exact (hf b hb).2.2.1 q
 ·have e2':(cap[i]?).map (fun o=>o.bind fun j=>(σ[j]?).join)=some (some v):=by rw [← List.getElem?_map];exact e2
  obtain ⟨o,ho,eo⟩:=Option.map_eq_some_iff.mp e2'
  obtain ⟨j,rfl,ej⟩:=Option.bind_eq_some_iff.mp eo
  have ej':σ[j]?=some (some v):=by
   cases q:σ[j]? with
   | none=>rw [q] at ej;cases ej
   | some z=>rw [q] at ej;cases ej;rfl
  obtain ⟨c1,c2⟩:=B.cap i y j e1 ho
  have vis:=B.free (y,.free) (PySem.mem_of_lookup c2) rfl
  obtain ⟨m,_,hl⟩:=I.loc
  obtain ⟨u,r,lk⟩:=hl j y v c1 ej' (.inr vis)
  obtain ⟨c',ec⟩:=hfr (y,.free) (PySem.mem_of_lookup c2) rfl
  have ec2:=hsub _ _ ec
  rcases lk with ⟨kl,_⟩ | ⟨_,c,e,z⟩
  ·have kl':X.env.scope.names.lookup y=some .local:=kl
   rcases vis with q | q
   ·have q':X.env.scope.names.lookup y=some .cell:=q
    rw [kl'] at q';cases q'
   ·have q':X.env.scope.names.lookup y=some .free:=q
    rw [kl'] at q';cases q'
  ·have ecc:X.env.cells.lookup y=some c':=ec2
   rw [e] at ecc
   cases ecc
   refine ⟨u,r,.inr ⟨?_,_,ec,?_⟩⟩
   ·rcases e3 with q | q | q
    ·rcases zc6 q with ⟨_,n2⟩ | ⟨n1,_⟩
     ·rw [c2] at n2;cases n2
     ·cases n1
    ·exact .inl q
    ·exact .inr q
   ·obtain ⟨o,ho,hd⟩:=z
    exact ⟨o,hk _ _ ho,hd⟩
 ·obtain ⟨v,o,ho,hd⟩:=I.cell x c (hsub x c e)
  exact ⟨v,o,hk _ _ ho,hd⟩
 ·show (zpD cap σ).length=Nc.length
  rw [zpD,List.length_map,B.len]
theorem zlE {Nc:List Str} {scope:Scope} {cl:List (Str×Addr)} {fp:List Addr} {σc:St} {Hc:Hp} {s':Shared} {h':Heap} (I:Inv X pins σ H s) (hf:∀ b∈fp,zi8 X pins H b) (J:Inv (X.blk Nc scope cl s H fp) [] σc Hc s')
  (hs:Heap.SameBut s.heap.objs.size s'.heap h'):Inv X pins σ Hc { s' with heap:=h' }:=by
 have ne:∀ b o,s.heap.get? b=some o→b≠s.heap.objs.size:=fun b o e=>Nat.ne_of_lt (Heap.lt_size e)
 have u:=J.base
 refine I.call' (ch:=fp) J.os ⟨fun b o e n hb hx=>(hs.2 b (ne b o e)).trans (u.keep b o e n hb hx),fun b o e n hb hx=>?_,u.free,fun b o e hx=>?_,u.tups,u.frzs,u.tbls⟩ (fun b ob e=>?_) J.bare fun b hb=>⟨(hf b hb).2.2.2.1,(hf b hb).2.1,(hf b hb).2.2.2.2.1,(hf b hb).2.2.2.2.2⟩
 ·obtain ⟨sl,q⟩:=u.slot b o e n hb hx
  exact ⟨sl,(hs.2 b (ne b o e)).trans q⟩
 ·obtain ⟨o',q⟩:=u.there b o e hx
  exact ⟨o',(hs.2 b (ne b o e)).trans q⟩
 ·have hC:Hc s.heap.objs.size=none:=J.free
  refine (J.hok b ob e).stay (fun c w' hc q=>(hs.2 c ?_).trans q) (fun _ q=>q) fun _ _ q=>q
  rintro rfl
  rcases hc with z | hc
  ·rw [← z,hC] at e;cases e
  ·rw [hC] at hc;cases hc
end
theorem Inv.turns {X:Cx} {pins:List (Addr×Obj)} {σ:St} {H:Hp} {s:Shared} {h':Heap} {t':Nat} {ch:List Addr} (I:Inv X pins σ H s) (k:∀ b o,b∉ch→s.heap.get? b=some o→h'.get? b=some o) (hf:∀ b∈ch,zi8 X pins H b):Inv X pins σ H { s with heap:=h',toks:=t' }:=by
 refine I.call (g':=s.gens) (d':=s.drawn) (ch:=ch) ⟨fun b o e _ _ hx=>k b o hx e,fun b o e _ _ hx=>⟨o.slots,k b o hx e⟩,fun _ _ _ n _=>n,fun b o e hx=>⟨o,k b o hx e⟩,fun _ _ q=>q,fun _ _ _ q=>q,fun _ ps q=>⟨#[],by rw [q];simp⟩⟩ (fun b u e=>?_) I.bare
  fun b hb=>⟨(hf b hb).2.2.2.1,(hf b hb).2.1,(hf b hb).2.2.2.2.1,(hf b hb).2.2.2.2.2⟩
 refine (I.hok b u e).stay (fun c v hc q=>k c v (fun z=>?_) q) (fun _ q=>q) fun _ _ q=>q
 have n:=(hf c z).1
 rcases hc with r | r
 ·rw [r,e] at n;cases n
 ·rw [r] at n;cases n
theorem zia {X:Cx} {pins:List (Addr×Obj)} {s:Shared} {σ:St} {H:Hp} {Q:VK} {sc:Scope} {N Nc:List Str} {cap:List (Option Nat)} {elt tg iter:Expr} {ifs:List Expr} {scope:Scope} {pos pos':Pos} {wi:TI} {g:TG} {tt:TT} {te:TE} {use:Option (Value→Sem Unit)} {QQ:Value→Shared→Prop}
  (hc:X.calm=true) (hsc:X.env.scope=sc) (hN:X.N=N) (B:zj0 sc N Nc cap scope) (hi:PI X tg iter wi)
  (hg:∀ cl s H fp,PG (X.blk Nc scope cl s H fp) tg g) (ht:∀ cl s H fp,PTs (X.blk Nc scope cl s H fp) ifs tt) (he:∀ cl s H fp,PE (X.blk Nc scope cl s H fp) elt te)
  (hs:∀ x,foldedSetIterable iter X.env x=pure x) (I:Inv X pins σ H s) (h:zeK wi g tt te cap σ H Q)
  (fin:∀ (s3:Shared) (H3:Hp) (cl:List (Str×Addr)) (fp:List Addr) (D:Addr) (σc:St) (Hc:Hp) (s6:Shared),Inv X pins σ H3 s3→(∀ b∈fp,zi8 X pins H3 b)→Inv (X.blk Nc scope cl s3 H3 fp) [] σc Hc s6→Q (.ref D) Hc→compPost (model X.prog X.w) X.A X.xe use QQ (.ref D) s3.heap.objs.size (.ok .next) s6) :
  wpAny (model X.prog X.w) X.A (comprehension (.ListComp elt [⟨tg,iter,ifs,0⟩] scope pos) scope X.env pos' (newList []) false (eval iter X.env) use) QQ X.xe s:=by
 subst hsc hN
 obtain ⟨cl,hclos,hsub,hfr⟩:=zj8 (scope:=scope) (env:=X.env) fun y hy hf=>I.ok.has y.1 (B.free y hy hf)
 refine wpAny_comprehension_free (use:=use) rfl hs hclos B.kind (fun y hy hl=>by rw [B.once y hy,hl]) (thn (hi pins s σ H _ I h) fun v s1 h1=>thn h1 fun itv s2 h2=>?_)
 obtain ⟨it,fp,tn,J,H2,rfl,I2,T,st2,f2,hw⟩:=h2
 refine wpAny_newObj_type ?_
 have hfree:H2 s2.heap.objs.size=none:=I2.hok.fresh (Nat.le_refl _)
 have I3:=I2.laid (t':=s2.toks) (o:=.lst []) (fun b u e=>Heap.get?_push_of_some { cls:=.type "list",dict:=none,data:=.seq ([]:List Value).toArray } e) (Nat.le_refl _) ⟨by decide,[],0,.nil,Heap.get?_push_size _ rfl⟩
 obtain ⟨W,⟨m0,w0⟩,turn⟩:=hw _ hfree
 have keep23:∀ b o,s2.heap.get? b=some o→(s2.heap.push { cls:=.type "list",dict:=none,data:=.seq ([]:List Value).toArray }).get? b=some o:=fun b o e=>Heap.get?_push_of_some _ e
 have hin:∀ b∈fp,b<s2.heap.objs.size:=fun b hb=>let ⟨o,e,_⟩:=T.obj 0 _ st2 b hb;Heap.lt_size e
 have f3:∀ b∈fp,zi8 X pins (upd H2 s2.heap.objs.size (.lst [])) b:=fun b hb=>⟨by rw [zap (Nat.ne_of_lt (hin b hb))];exact (f2 b hb).1,(f2 b hb).2⟩
 have st3:=T.keep 0 _ _ st2 fun b _ o e=>keep23 b o e
 have hin3:∀ b∈fp,b<(s2.heap.push { cls:=.type "list",dict:=none,data:=.seq ([]:List Value).toArray }).objs.size:=fun b hb=>let ⟨o,e,_⟩:=T.obj 0 _ st3 b hb;Heap.lt_size e
 clear keep23 hin
 generalize s2.heap.push { cls:=.type "list",dict:=none,data:=.seq ([]:List Value).toArray }=h3 at I3 st3 hin3 ⊢
 generalize upd H2 s2.heap.objs.size (.lst [])=H3 at I3 f3 w0
 generalize s2.heap.objs.size=D at hfree w0 turn ⊢
 refine wpAny_newFunctionEnv B.nocell (by intro y hy;cases hy) (fun h1 hns hsb=>?_) B.kind
 have keep:∀ b o,h3.get? b=some o→h1.get? b=some o:=fun b o e=>(hsb.2 b (Nat.ne_of_lt (Heap.lt_size e))).trans (Heap.get?_push_of_some _ e)
 have I4:=znS (tk:=s2.toks+([]:List (Str×Value)).length) I3 B hsub hfr f3 hin3 keep hns
 have st4:=T.keep 0 _ _ st3 fun b _ o e=>keep b o e
 have stat:∀ {H':Hp},(∀ b∈fp,H' b=none)→∀ b∈fp,zi8 (X.blk Nc scope cl { s2 with heap:=h3,toks:=s2.toks } H3 fp) [] H' b:=fun hn b hb =>
  ⟨hn b hb,Nat.ne_of_lt (hin3 b hb),fun z=>by
   rcases List.mem_cons.mp (I3.stkSub b z) with q | q
   ·exact (f3 b hb).2.1 q
   ·exact (f3 b hb).2.2.1 q,.inl hb,fun x c e=>(f3 b hb).2.2.2.2.1 x c (hsub x c e),by intro p hp;cases hp⟩
 have hcb:(X.blk Nc scope cl { s2 with heap:=h3,toks:=s2.toks } H3 fp).calm=true:=hc
 have loop:codeAny (model X.prog X.w) X.A (.compLoop (.ListComp elt [⟨tg,iter,ifs,0⟩] scope pos) 0 (.ref it) (.ref D) (compEnvC scope cl h3.objs.size X.env)) (compPost (model X.prog X.w) X.A X.xe use QQ (.ref D) h3.objs.size) { s2 with heap:=h1,toks:=s2.toks+([]:List (Str×Value)).length }:=by
  refine zhH (fun n s'=>∃ i σ' H',Inv (X.blk Nc scope cl { s2 with heap:=h3,toks:=s2.toks } H3 fp) [] σ' H' s'∧tn i s'.heap∧(∀ b∈fp,H' b=none)∧W i n σ' H') rfl ?_ m0 ⟨0,_,H3,I4,st4,fun b hb=>(f3 b hb).1,w0⟩
  rintro n s5 ⟨i,σ5,H5,I5,st5,fr5,w5⟩
  rcases turn i n σ5 H5 w5 with ⟨stop,qn⟩ | ⟨go,N',hN',step⟩
  ·refine thn (T.done (X.blk Nc scope cl { s2 with heap:=h3,toks:=s2.toks } H3 fp) rfl rfl rfl hcb i [] s5 σ5 H5 _ I5 (stat fr5) st5 stop) fun r s6 hQ'=>?_
   obtain ⟨hr,I6⟩:=hQ'
   subst hr
   exact fin { s2 with heap:=h3,toks:=s2.toks } H3 cl fp D σ5 H5 s6 I3 f3 I6 qn
  ·refine thn (T.item (X.blk Nc scope cl { s2 with heap:=h3,toks:=s2.toks } H3 fp) rfl rfl rfl hcb i [] s5 σ5 H5 _ I5 (stat fr5) st5 go) fun r s6 hQ'=>?_
   obtain ⟨u,hr,h6⟩:=hQ'
   subst hr
   refine thn h6 fun _ s7 hQ'=>?_
   obtain ⟨x,H7,I7,r7,y7,st7,fr7⟩:=hQ'
   have I7':=I7.pinned (stat fr7) (T.obj _ _ st7)
   refine wpAny_mono (hg cl _ H3 fp _ s7 σ5 H7 x u _ I7' r7 (step x H7 y7)) (fun _ s8 hQ'=>?_) fun _ _ z=>z.elim
   obtain ⟨σ8,H8,I8,q8⟩:=hQ'
   have again:∀ {H9:Hp} {s9:Shared} {m:Nat},Inv (X.blk Nc scope cl { s2 with heap:=h3,toks:=s2.toks } H3 fp) ([]++zis fp s7.heap) σ8 H9 s9→m<n→W (i+1) m σ8 H9→∃ m,m<n∧∃ i σ' H',Inv (X.blk Nc scope cl { s2 with heap:=h3,toks:=s2.toks } H3 fp) [] σ' H' s9∧tn i s9.heap∧(∀ b∈fp,H' b=none)∧W i m σ' H':=fun {H9 s9 m} I9 hm w9=>by
    refine ⟨m,hm,i+1,σ8,H9,I9.unpinned,T.keep _ _ _ st7 fun b hb o e=>(I9.pin (b,o) (List.mem_append_right _ (List.mem_append_right _ (zdS hb e)))).1,fun b hb=>?_,w9⟩
    obtain ⟨o,e,d⟩:=T.obj _ _ st7 b hb
    exact (I9.pin (b,o) (List.mem_append_right _ (List.mem_append_right _ (zdS hb e)))).2.1
   refine wpAny_mono (ht cl _ H3 fp _ s8 σ8 H8 _ I8 q8) (fun b s9 hQ'=>?_) fun _ _ z=>z.elim
   obtain ⟨H9,I9,q9⟩:=hQ'
   cases b with
   | false =>
    rw [if_neg (by decide)] at q9
    obtain ⟨m',hm,w9⟩:=hN' _ _ q9
    exact again I9 hm w9
   | true =>
    rw [if_pos rfl] at q9
    refine wpAny_mono (he cl _ H3 fp _ s9 σ8 H9 _ I9 q9) (fun u s10 hQ'=>?_) fun _ _ z=>z.elim
    obtain ⟨y,H10,I10,r10,q10⟩:=hQ'
    refine wpAny_mono (zcU (X:=X.blk Nc scope cl { s2 with heap:=h3,toks:=s2.toks } H3 fp) _ s10 σ8 H10 (.ref D) [y] (.ref D) [u] _ I10 rfl (.cons r10 .nil) q10) (fun _ s11 hQ'=>?_) fun _ _ z=>z.elim
    obtain ⟨_,H11,I11,_,q11⟩:=hQ'
    obtain ⟨m',hm,w11⟩:=hN' _ _ q11
    exact again I11 hm w11
 exact codeAny_compStart_list loop (T.self _ 0 _ _ _ st4 loop)
theorem ziR {X:Cx} {sc:Scope} {N Nc:List Str} {cap:List (Option Nat)} {elt tg iter:Expr} {ifs:List Expr} {scope:Scope} {pos:Pos} {wi:TI} {g:TG} {tt:TT} {te:TE} (hc:X.calm=true) (hsc:X.env.scope=sc) (hN:X.N=N) (B:zj0 sc N Nc cap scope) (hi:PI X tg iter wi)
  (hg:∀ cl s H fp,PG (X.blk Nc scope cl s H fp) tg g) (ht:∀ cl s H fp,PTs (X.blk Nc scope cl s H fp) ifs tt) (he:∀ cl s H fp,PE (X.blk Nc scope cl s H fp) elt te)
  (hs:∀ x,foldedSetIterable iter X.env x=pure x:=by intro _;rfl):PE X (.ListComp elt [⟨tg,iter,ifs,0⟩] scope pos) (zeK wi g tt te cap):=by
 intro pins s σ H Q I h
 rw [eval_ListComp]
 refine zia hc hsc hN B hi hg ht he hs I h fun s3 H3 cl fp D σc Hc s6 I3 f3 I6 q=>?_
 obtain ⟨m,hn,_⟩:=id I6.loc
 exact ⟨m,hn,fun h' hs'=>⟨.ref D,Hc,zlE I3 f3 I6 hs',rfl,q⟩⟩
theorem zff {X:Cx} {i:Nat} {y:Str} {py spos:Pos} {sc:Scope} {N Nc:List Str} {cap:List (Option Nat)} {elt tg iter:Expr} {ifs:List Expr} {scope:Scope} {pos:Pos} {wi:TI} {g:TG} {tt:TT} {te:TE} (hnd:X.N.Nodup) (hix:X.N[i]?=some y) (hl:X.env.scope.names.lookup y=some .local)
  (hc:X.calm=true) (hsc:X.env.scope=sc) (hN:X.N=N) (B:zj0 sc N Nc cap scope) (hi:PI X tg iter wi)
  (hg:∀ cl s H fp,PG (X.blk Nc scope cl s H fp) tg g) (ht:∀ cl s H fp,PTs (X.blk Nc scope cl s H fp) ifs tt) (he:∀ cl s H fp,PE (X.blk Nc scope cl s H fp) elt te)
  (hsw:swapsWith (.ListComp elt [⟨tg,iter,ifs,0⟩] scope pos) (some (.Name y py)) spos.line X.env=pure true:=by rfl)
  (hs:∀ x,foldedSetIterable iter X.env x=pure x:=by intro _;rfl):PS X (.Assign [.Name y py] (.ListComp elt [⟨tg,iter,ifs,0⟩] scope pos) spos) (zbi (zeK wi g tt te cap) (zaC i)):=by
 intro pins s σ H D0 I h
 rw [exec_Assign_Name_used _ _ _ _ hsw]
 refine wpAny_bind (wpAny_standAt (wpAny_bind (wpAny_bind (thn (zia (use:=some (assign (.Name y py) X.env)) (QQ:=fun _ s'=>SP X pins D0 .next s') hc hsc hN B hi hg ht he hs I h fun s3 H3 cl fp D σc Hc s6 I3 f3 I6 q=>?_) fun _ s' hq=>wpAny_pure (wpAny_pure hq)))))
 have I6x:Inv X pins σ Hc s6:=zlE I3 f3 I6 (Heap.SameBut.refl ..)
 obtain ⟨m,hn,_⟩:=id I6.loc
 have hC:Hc s3.heap.objs.size=none:=I6.free
 have fpC:=I3.fpOk (b:=s3.heap.objs.size) (Nat.le_refl _) hC
 refine wpAny_assign_Name (zib I6x hnd hix (.inl hl) (v:=.ref D) rfl (fun s7 I7 ch=>?_) (.inr hl))
 obtain ⟨a,same,ha⟩:=ch
 have nC:s3.heap.objs.size≠a:=by
  rcases ha with r | r
  ·rw [r];exact fpC.2.1
  ·exact (fpC.2.2.2.2.1 _ _ r).symm
 refine ⟨m,hn.sameBut same nC,fun h' hs'=>⟨_,_,I7.turns (t':=s7.toks) (ch:=[s3.heap.objs.size]) (fun b o hb e=>(hs'.2 b (by simpa using hb)).trans e) fun b hb=>?_,q⟩⟩
 have e:b=s3.heap.objs.size:=by simpa using hb
 rw [e]
 exact fpC
theorem zlD {K:PySem.W.Frag} {a:Addr} {xs:List V} {g:TG} {tt:TT} {te:TE} {σ:St} {H:Hp} {D:Addr} {Q:VK} (Pv:Nat→List V→St→Hp→Prop) (h0:Pv 0 [] σ (upd H D (.lst []))) (hl:∀ i ys σ H,i≤xs.length→Pv i ys σ H→SqL K H a xs)
  (hs:∀ i x ys σ H,xs[i]?=some x→H D=some (.lst ys)→Pv i ys σ H→g x σ H fun σ2 H2=>tt σ2 H2 fun b H3=>if b=true then te σ2 H3 fun y H4=>zbr (.ref D) [y] H4 fun _ H5=>∃ ys,H5 D=some (.lst ys)∧Pv (i+1) ys σ2 H5 else ∃ ys,H3 D=some (.lst ys)∧Pv (i+1) ys σ2 H3)
  (hd:∀ ys σ H,H D=some (.lst ys)→Pv xs.length ys σ H→Q (.ref D) H) :
  ∃ W:Nat→Nat→St→Hp→Prop,(∃ m,W 0 m σ (upd H D (.lst [])))∧∀ i m σc Hc,W i m σc Hc →
   ((Itl K a).stop i Hc∧Q (.ref D) Hc)∨((Itl K a).go i Hc∧∃ N:St→Hp→Prop,(∀ σ' H',N σ' H'→∃ m',m'<m∧W (i+1) m' σ' H')∧∀ x H',(Itl K a).yld i Hc x H'→g x σc H' fun σ2 H2=>tt σ2 H2 fun b H3=>if b=true then te σ2 H3 fun y H4=>zbr (.ref D) [y] H4 fun _ H5=>N σ2 H5 else N σ2 H3):=by
 refine ⟨fun i m σ H=>m=xs.length - i∧i≤xs.length∧∃ ys,H D=some (.lst ys)∧Pv i ys σ H,⟨_,rfl,Nat.zero_le _,[],zae,h0⟩,?_⟩
 rintro i m σ H ⟨rfl,hi,ys,hD,pv⟩
 have q:=hl i ys σ H hi pv
 by_cases hlt:i<xs.length
 ·refine .inr ⟨⟨xs,xs[i],q,by simp [hlt]⟩,fun σ H=>∃ ys,H D=some (.lst ys)∧Pv (i+1) ys σ H,fun σ' H' p'=>⟨_,by (first|lia|omega),rfl,hlt,p'⟩,fun x H' yl=>?_⟩
  obtain ⟨e,yl⟩:=yl
  subst e
  exact hs i x ys σ _ (yl xs q) hD pv
 ·have e:i=xs.length:=by (first|lia|omega)
  subst e
  exact .inl ⟨⟨xs,q,Nat.le_refl _⟩,hd ys σ H hD pv⟩
theorem zj7 {lo:Int} {n:Nat} {g:TG} {tt:TT} {te:TE} {σ:St} {H:Hp} {D:Addr} {Q:VK} (Pv:Nat→List V→St→Hp→Prop) (h0:Pv 0 [] σ (upd H D (.lst [])))
  (hs:∀ i ys σ H,i<n→H D=some (.lst ys)→Pv i ys σ H→g (.int (lo+i)) σ H fun σ2 H2=>tt σ2 H2 fun b H3=>if b=true then te σ2 H3 fun y H4=>zbr (.ref D) [y] H4 fun _ H5=>∃ ys,H5 D=some (.lst ys)∧Pv (i+1) ys σ2 H5 else ∃ ys,H3 D=some (.lst ys)∧Pv (i+1) ys σ2 H3)
  (hd:∀ ys σ H,H D=some (.lst ys)→Pv n ys σ H→Q (.ref D) H) :
  ∃ W:Nat→Nat→St→Hp→Prop,(∃ m,W 0 m σ (upd H D (.lst [])))∧∀ i m σc Hc,W i m σc Hc →
   ((Itr lo n).stop i Hc∧Q (.ref D) Hc)∨((Itr lo n).go i Hc∧∃ N:St→Hp→Prop,(∀ σ' H',N σ' H'→∃ m',m'<m∧W (i+1) m' σ' H')∧∀ x H',(Itr lo n).yld i Hc x H'→g x σc H' fun σ2 H2=>tt σ2 H2 fun b H3=>if b=true then te σ2 H3 fun y H4=>zbr (.ref D) [y] H4 fun _ H5=>N σ2 H5 else N σ2 H3):=by
 refine ⟨fun i m σ H=>m=n - i∧i≤n∧∃ ys,H D=some (.lst ys)∧Pv i ys σ H,⟨_,rfl,Nat.zero_le _,[],zae,h0⟩,?_⟩
 rintro i m σ H ⟨rfl,hi,ys,hD,pv⟩
 by_cases hlt:i<n
 ·refine .inr ⟨hlt,fun σ H=>∃ ys,H D=some (.lst ys)∧Pv (i+1) ys σ H,fun σ' H' p'=>⟨_,by (first|lia|omega),rfl,hlt,p'⟩,fun x H' yl=>?_⟩
  obtain ⟨e,yl⟩:=yl
  subst e yl
  exact hs i ys σ _ hlt hD pv
 ·have e:i=n:=by (first|lia|omega)
  subst e
  exact .inl ⟨Nat.le_refl _,hd ys σ H hD pv⟩
end L2
namespace L2
open PySem PySem.Spec PyProof.Rows
theorem zkN (bs:List Bool):(List.range bs.length).all (fun i=>bs.getD i false)=bs.all id:=by
 rw [Bool.eq_iff_iff,List.all_eq_true,List.all_eq_true]
 constructor
 ·intro h x hx
  obtain ⟨i,hi,e⟩:=List.getElem_of_mem hx
  have:=h i (List.mem_range.mpr hi)
  rw [List.getD_eq_getElem?_getD,List.getElem?_eq_getElem hi] at this
  rw [← e]
  exact this
 ·intro h i hi
  have hi:=List.mem_range.mp hi
  rw [List.getD_eq_getElem?_getD,List.getElem?_eq_getElem hi]
  exact h _ (List.getElem_mem hi)
def rAll (K:PySem.W.Frag):List V→Hp→VK→Prop:=fun xs H Q=>∃ (p:Addr) (bs:List Bool),xs=[.ref p]∧SqL K H p (bs.map V.bl)∧Q (.bl (bs.all id)) H
theorem zqN {bs:List Bool} {its:List Value} {i:Nat} {v:Value} (r:zb9 (bs.map V.bl) its) (e:its.toArray[i]?=some v):v=.bool (bs.getD i false):=by
 have l:=r.length
 rw [List.length_map] at l
 have e':its[i]?=some v:=by simpa using e
 have hi:i<bs.length:=by rw [l];exact (List.getElem?_eq_some_iff.mp e').1
 obtain ⟨u,hu,ru⟩:=r.get (i:=i) (x:=.bl bs[i]) (by rw [List.getElem?_map,List.getElem?_eq_getElem hi];rfl)
 rw [e'] at hu
 cases hu
 cases ru
 rw [List.getD_eq_getElem?_getD,List.getElem?_eq_getElem hi]
 rfl
theorem zmy {P:Program} {w:World} {A:Around} {bs:List Bool} {its:List Value} (r:zb9 (bs.map V.bl) its):TruthOf P w A (fun i v=>its.toArray[i]?=some v) fun i=>bs.getD i false:=fun i v s Q E hP hQ=>by
 rw [zqN r hP]
 exact wpAny_pure hQ
section
variable {X:Cx}
theorem zmF (hc:X.calm=true):zeR X (.builtin "all") (rAll X.K):=by
 intro pins s σ H xs us Q I r h
 obtain ⟨p,bs,rfl,hl,q⟩:=h
 obtain ⟨u,rfl,ru⟩:=r.one
 cases ru
 obtain ⟨its,rv,pl,_⟩:=I.list hl
 have l:=rv.length
 rw [List.length_map] at l
 obtain ⟨o,n,e,_⟩:=id pl
 have hne:p≠s.heap.objs.size:=Nat.ne_of_lt (Heap.lt_size e)
 refine call_all_walk (wpAny_pyIter_list pl.isList ?_)
 refine ⟨s.heap.objs.size,_,_,_,_,_,fun i=>bs.getD i false,rfl,Walks.list (A:=X.A.in1) (I.ok.hd hc) _ p hne its.toArray,⟨⟨_,Heap.get?_push_size _ rfl,rfl,rfl⟩,?_⟩,zmy rv,fun h' tk hk=>⟨.bl _,H,I.kept fun b u eb=>?_,rfl,?_⟩⟩
 ·exact pl.isList.at fun o e=>Heap.get?_push_of_some _ e
 ·exact hk b u (fun z=>Nat.ne_of_lt (Heap.lt_size eb) (by simpa using z)) (Heap.get?_push_of_some _ eb)
 ·rw [List.size_toArray,← l,zkN]
  exact q
end
end L2
namespace L2
open PySem PySem.Spec PyProof.Rows
def Itz (K:PySem.W.Frag) (p q:Addr):It where
 go:=fun i H=>∃ xs ys a b,SqL K H p xs∧SqL K H q ys∧xs[i]?=some a∧ys[i]?=some b
 yld:=fun i H x H'=>∃ t a b,x=.ref t∧H t=none∧H'=upd H t (.tup [a,b])∧(∀ xs,SqL K H p xs→xs[i]?=some a)∧∀ ys,SqL K H q ys→ys[i]?=some b
 stop:=fun i H=>∃ xs ys,SqL K H p xs∧SqL K H q ys∧i=min xs.length ys.length
def tnZ (z TI TO i1 i2 p q:Addr) (i:Nat) (h:Heap):Prop:=IsZip h z TI TO .none∧IsPair h TI (.ref i1) (.ref i2)∧(∃ a b,IsPair h TO a b)∧h.IsListIter i1 p i∧h.IsListIter i2 q i
theorem zl2 {z TI TO i1 i2 p q:Addr} {i:Nat} {h h':Heap} (st:tnZ z TI TO i1 i2 p q i h) (k:∀ b∈[z,TI,TO,i1,i2],∀ o,h.get? b=some o→h'.get? b=some o):tnZ z TI TO i1 i2 p q i h':=by
 obtain ⟨a1,a2,⟨x,y,a3⟩,a4,a5⟩:=st
 exact ⟨k z (by simp) _ a1,k TI (by simp) _ a2,⟨x,y,k TO (by simp) _ a3⟩,a4.at fun o e=>k i1 (by simp) o e,a5.at fun o e=>k i2 (by simp) o e⟩
theorem zbA {o:Obj} {vs:Array Value} (h:o.data=.fields vs):∀ v,o.data≠.cell v:=fun v z=>by rw [h] at z;cases z
theorem zl0 {P:Program} {w:World} {K:PySem.W.Frag} {elts:List Expr} {k:Nat} {pos:Pos} {z TI TO i1 i2 p q:Addr} (D:ZipApart z TI TO i1 i2 p q):znx P w K (.Tuple elts k pos) (Itz K p q) [z,TI,TO,i1,i2] z (tnZ z TI TO i1 i2 p q) where
 mem:=by simp
 obj:=fun i h st b hb=>by
  obtain ⟨a1,a2,⟨x,y,a3⟩,⟨o4,a4,_,d4⟩,⟨o5,a5,_,d5⟩⟩:=st
  simp only [List.mem_cons,List.not_mem_nil,or_false] at hb
  rcases hb with rfl | rfl | rfl | rfl | rfl
  ·exact ⟨_,a1,zbA rfl⟩
  ·exact ⟨_,a2,fun v z=>nomatch (show Data.seq _ _=Data.cell v from z)⟩
  ·exact ⟨_,a3,fun v z=>nomatch (show Data.seq _ _=Data.cell v from z)⟩
  ·exact ⟨_,a4,zbA d4⟩
  ·exact ⟨_,a5,zbA d5⟩
 keep:=fun i h h' st kk=>zl2 st kk
 item:=by
  intro X hP hw hK hc i pins s σ H E I hf st hg
  subst hP hw hK
  obtain ⟨xs,ys,a,b,hx,hy,ea,eb⟩:=hg
  obtain ⟨its1,r1,pl1,z1⟩:=I.list hx
  obtain ⟨its2,r2,pl2,z2⟩:=I.list hy
  obtain ⟨ua,eua,rua⟩:=r1.get ea
  obtain ⟨ub,eub,rub⟩:=r2.get eb
  obtain ⟨s1,s2,s3,s4,s5⟩:=st
  have W:=WalksT.zip2 (prog:=X.prog) (w:=X.w) (A:=X.A) (I.ok.hd hc) z TI TO i1 i2 p q D its1.toArray its2.toArray
  have hi:i<min its1.toArray.size its2.toArray.size:=by
   have h1:=(List.getElem?_eq_some_iff.mp eua).1
   have h2:=(List.getElem?_eq_some_iff.mp eub).1
   simp only [List.size_toArray]
   (first|lia|omega)
  refine W.item i s _ _ hi ⟨s1,s2,s3,s4,s5,pl1.isList,pl2.isList⟩ fun T vals h' tk hp hT hTup mid kk=>⟨_,rfl,?_⟩
  obtain ⟨u,v,e1,e2,rfl⟩:=hp
  have e1':u=ua:=by
   have:its1[i]?=some u:=by simpa using e1
   rw [eua] at this;cases this;rfl
  have e2':v=ub:=by
   have:its2[i]?=some v:=by simpa using e2
   rw [eub] at this;cases this;rfl
  subst e1' e2'
  refine W.go elts k pos i T { s with heap:=h',toks:=tk } _ _ mid fun h2 st2 kk2=>?_
  obtain ⟨t1,t2,t3,t4,t5,_,_⟩:=st2
  have sub:∀ b∈[z,TO,i1,i2],b∈[z,TI,TO,i1,i2]:=fun b hb=>by
   simp only [List.mem_cons,List.not_mem_nil,or_false] at hb ⊢
   rcases hb with h | h | h | h <;> simp [h]
  have I1:Inv X pins σ H { s with heap:=h2,toks:=tk }:=I.turns (ch:=[z,TO,i1,i2]) (fun b o hb e=>kk2 b o hb (kk b o hb e)) fun b hb=>hf b (sub b hb)
  have nT:H T=none:=I.hok.fresh hT
  have I2:=I1.track (a:=T) (o:=.tup [a,b]) nT (Heap.get?_none_of_le (Nat.le_trans I.sz hT)) (Nat.ne_of_gt (Nat.lt_of_lt_of_le I.lt hT)) (fun x c e=>by
   obtain ⟨v,q⟩:=I.cell x c e
   exact Nat.ne_of_lt (Nat.lt_of_lt_of_le q.lt hT)) (fun p hp=>Nat.ne_of_lt (Nat.lt_of_lt_of_le (Heap.lt_size (I.pin p hp).1) hT)) (by
   refine ⟨by show 2≤sizeLine;decide,[u,v],.cons rua (.cons rub .nil),?_⟩
   obtain ⟨o,ho,hcl,hd⟩:=hTup
   exact ⟨o,kk2 T o (W.apart i T h' mid) ho,hcl,hd⟩)
  refine ⟨.ref T,_,I2,rfl,⟨T,a,b,rfl,nT,rfl,fun xs' h'=>?_,fun ys' h'=>?_⟩,⟨t1,t2,t3,t4,t5⟩,fun b hb=>?_⟩
  ·rw [I.list_inj h' hx];exact ea
  ·rw [I.list_inj h' hy];exact eb
  ·have hb2:∃ o,s.heap.get? b=some o:=by
    obtain ⟨x3,y3,s3⟩:=s3
    obtain ⟨o4,s4,_⟩:=s4
    obtain ⟨o5,s5,_⟩:=s5
    simp only [List.mem_cons,List.not_mem_nil,or_false] at hb
    rcases hb with h | h | h | h | h <;> rw [h] <;> first | exact ⟨_,s1⟩ | exact ⟨_,s2⟩ | exact ⟨_,s3⟩ | exact ⟨_,s4⟩ | exact ⟨_,s5⟩
   obtain ⟨o,e⟩:=hb2
   rw [zap (Nat.ne_of_lt (Nat.lt_of_lt_of_le (Heap.lt_size e) hT))]
   exact (hf b hb).1
 done:=by
  intro X hP hw hK hc i pins s σ H E I hf st hg
  subst hP hw hK
  obtain ⟨xs,ys,hx,hy,rfl⟩:=hg
  obtain ⟨its1,r1,pl1,z1⟩:=I.list hx
  obtain ⟨its2,r2,pl2,z2⟩:=I.list hy
  obtain ⟨s1,s2,s3,s4,s5⟩:=st
  have W:=WalksT.zip2 (prog:=X.prog) (w:=X.w) (A:=X.A) (I.ok.hd hc) z TI TO i1 i2 p q D its1.toArray its2.toArray
  have sub:∀ b∈[z,TO,i1,i2],b∈[z,TI,TO,i1,i2]:=fun b hb=>by
   simp only [List.mem_cons,List.not_mem_nil,or_false] at hb ⊢
   rcases hb with h | h | h | h <;> simp [h]
  refine W.done s _ _ ?_ fun h' tk kk=>⟨rfl,I.turns (ch:=[z,TO,i1,i2]) (fun b o hb e=>kk b o hb e) fun b hb=>hf b (sub b hb)⟩
  rw [List.size_toArray,List.size_toArray,← r1.length,← r2.length]
  exact ⟨s1,s2,s3,s4,s5,pl1.isList,pl2.isList⟩
 self:=fun A i s Q E st h=>wpAny_pyIter_zip st.1 h
theorem zpd {K:PySem.W.Frag} {p q:Addr} {xs ys:List V} {g:TG} {tb:TS} {D:zcd} {σ:St} {H:Hp} (Pv:Nat→St→Hp→Prop) (h0:Pv 0 σ H) (hl:∀ i σ H,i≤min xs.length ys.length→Pv i σ H→SqL K H p xs∧SqL K H q ys)
  (hs:∀ i x y t σ H,xs[i]?=some x→ys[i]?=some y→Pv i σ H→H t=none→g (.ref t) σ (upd H t (.tup [x,y])) fun σ2 H2=>tb { D with nx:=Pv (i+1),ct:=Pv (i+1),bk:=D.nx } σ2 H2) (hd:∀ σ H,Pv (min xs.length ys.length) σ H→D.nx σ H) :
  ∃ W:Nat→Nat→St→Hp→Prop,(∃ m,W 0 m σ H)∧∀ i m σ H,W i m σ H →
   ((Itz K p q).stop i H∧D.nx σ H)∨((Itz K p q).go i H∧∃ N:St→Hp→Prop,(∀ σ' H',N σ' H'→∃ m',m'<m∧W (i+1) m' σ' H')∧∀ x H',(Itz K p q).yld i H x H'→g x σ H' fun σ2 H2=>tb { D with nx:=N,ct:=N,bk:=D.nx } σ2 H2):=by
 refine ⟨fun i m σ H=>m=min xs.length ys.length - i∧i≤min xs.length ys.length∧Pv i σ H,⟨_,rfl,Nat.zero_le _,h0⟩,?_⟩
 rintro i m σ H ⟨rfl,hi,pv⟩
 obtain ⟨hx,hy⟩:=hl i σ H hi pv
 by_cases hlt:i<min xs.length ys.length
 ·have l1:i<xs.length:=by (first|lia|omega)
  have l2:i<ys.length:=by (first|lia|omega)
  refine .inr ⟨⟨xs,ys,xs[i],ys[i],hx,hy,by simp [l1],by simp [l2]⟩,Pv (i+1),fun σ' H' p'=>⟨_,by (first|lia|omega),rfl,hlt,p'⟩,fun x H' yl=>?_⟩
  obtain ⟨t,a,b,rfl,ht,rfl,e1,e2⟩:=yl
  exact hs i a b t σ H (e1 xs hx) (e2 ys hy) pv ht
 ·have e:i=min xs.length ys.length:=by (first|lia|omega)
  subst e
  exact .inl ⟨⟨xs,ys,hx,hy,rfl⟩,hd σ H pv⟩
end L2
namespace L2
open PySem PySem.Spec PyProof.Rows
inductive Tr where
 | int (i:Int)
 | bl (b:Bool)
 | str (x:Str)
 | non
 | lst (l:List Tr)
 | tup (l:List Tr)
section
variable {X:Cx} {pins:List (Addr×Obj)} {σ:St} {H:Hp} {s:Shared}
end
end L2
namespace L2
open PySem PySem.Spec PyProof.Rows
section
variable {X:Cx}
end
def zfl (J:It) (g:TG) (tt:TT) (te:TE) (D:Addr) (Q:VK) (σ:St) (H:Hp):Prop:=∃ W:Nat→Nat→St→Hp→Prop,(∃ m,W 0 m σ H)∧∀ i m σc Hc,W i m σc Hc →
 (J.stop i Hc∧Q (.ref D) Hc)∨(J.go i Hc∧∃ N:St→Hp→Prop,(∀ σ' H',N σ' H'→∃ m',m'<m∧W (i+1) m' σ' H')∧∀ x H',J.yld i Hc x H'→g x σc H' fun σ2 H2=>tt σ2 H2 fun b H3=>if b=true then te σ2 H3 fun y H4=>zbr (.ref D) [y] H4 fun _ H5=>N σ2 H5 else N σ2 H3)
theorem zmn {wi:TI} {g:TG} {tt:TT} {te:TE} {cap:List (Option Nat)} {σ:St} {H:Hp} {Q:VK}:zeK wi g tt te cap σ H Q=wi σ H fun J H1=>∀ D,H1 D=none→zfl J g tt te D Q (zpD cap σ) (upd H1 D (.lst [])):=rfl
theorem zjL {K:PySem.W.Frag} {a:Addr} {xs:List V} {g:TG} {tt:TT} {te:TE} {σ:St} {H:Hp} {D:Addr} {Q:VK} (Pv:Nat→List V→St→Hp→Prop) (h0:Pv 0 [] σ (upd H D (.lst []))) (hl:∀ i ys σ H,i≤xs.length→Pv i ys σ H→SqL K H a xs)
  (hs:∀ i x ys σ H,xs[i]?=some x→H D=some (.lst ys)→Pv i ys σ H→g x σ H fun σ2 H2=>tt σ2 H2 fun b H3=>if b=true then te σ2 H3 fun y H4=>zbr (.ref D) [y] H4 fun _ H5=>∃ ys,H5 D=some (.lst ys)∧Pv (i+1) ys σ2 H5 else ∃ ys,H3 D=some (.lst ys)∧Pv (i+1) ys σ2 H3)
  (hd:∀ ys σ H,H D=some (.lst ys)→Pv xs.length ys σ H→Q (.ref D) H):zfl (Itl K a) g tt te D Q σ (upd H D (.lst [])):=zlD Pv h0 hl hs hd
theorem ziZ {lo:Int} {n:Nat} {g:TG} {tt:TT} {te:TE} {σ:St} {H:Hp} {D:Addr} {Q:VK} (Pv:Nat→List V→St→Hp→Prop) (h0:Pv 0 [] σ (upd H D (.lst [])))
  (hs:∀ i ys σ H,i<n→H D=some (.lst ys)→Pv i ys σ H→g (.int (lo+i)) σ H fun σ2 H2=>tt σ2 H2 fun b H3=>if b=true then te σ2 H3 fun y H4=>zbr (.ref D) [y] H4 fun _ H5=>∃ ys,H5 D=some (.lst ys)∧Pv (i+1) ys σ2 H5 else ∃ ys,H3 D=some (.lst ys)∧Pv (i+1) ys σ2 H3)
  (hd:∀ ys σ H,H D=some (.lst ys)→Pv n ys σ H→Q (.ref D) H):zfl (Itr lo n) g tt te D Q σ (upd H D (.lst [])):=zj7 Pv h0 hs hd
theorem zmM {K:PySem.W.Frag} {p q:Addr} {xs ys:List V} {g:TG} {tb:TS} {D:zcd} {σ:St} {H:Hp} (Pv:Nat→St→Hp→Prop) (h0:Pv 0 σ H) (hl:∀ i σ H,i≤min xs.length ys.length→Pv i σ H→SqL K H p xs∧SqL K H q ys)
  (hs:∀ i x y t σ H,xs[i]?=some x→ys[i]?=some y→Pv i σ H→H t=none→g (.ref t) σ (upd H t (.tup [x,y])) fun σ2 H2=>tb { D with nx:=Pv (i+1),ct:=Pv (i+1),bk:=D.nx } σ2 H2) (hd:∀ σ H,Pv (min xs.length ys.length) σ H→D.nx σ H):zjM (Itz K p q) g tb D σ H:=zpd Pv h0 hl hs hd
end L2
namespace L2
open PySem PySem.Spec PyProof.Rows
theorem zmO:bootBuiltins "enumerate"=some (.type "enumerate"):=by decide +kernel
def Ite (K:PySem.W.Frag) (p:Addr):It where
 go:=fun i H=>∃ xs a,SqL K H p xs∧xs[i]?=some a
 yld:=fun i H x H'=>∃ t a,x=.ref t∧H t=none∧H'=upd H t (.tup [.int (i:Int),a])∧∀ xs,SqL K H p xs→xs[i]?=some a
 stop:=fun i H=>∃ xs,SqL K H p xs∧i=xs.length
def tnE (e it p:Addr) (i:Nat) (h:Heap):Prop:=(∃ old,IsEnum h e it i old)∧h.IsListIter it p i
theorem zic {e it p:Addr} {i:Nat} {h:Heap} (st:tnE e it p i h):∀ b∈[e,it],∃ o,h.get? b=some o∧∀ v,o.data≠.cell v:=fun b hb=>by
 obtain ⟨⟨old,a1⟩,⟨o2,a2,_,d2⟩⟩:=st
 simp only [List.mem_cons,List.not_mem_nil,or_false] at hb
 rcases hb with rfl | rfl
 ·exact ⟨_,a1,zbA rfl⟩
 ·exact ⟨_,a2,zbA d2⟩
theorem zkv {P:Program} {w:World} {K:PySem.W.Frag} {elts:List Expr} {k:Nat} {pos:Pos} {e it p:Addr} (d1:e≠it) (d2:p≠e) (d3:p≠it):znx P w K (.Tuple elts k pos) (Ite K p) [e,it] e (tnE e it p) where
 mem:=by simp
 obj:=fun i h st=>zic st
 keep:=fun i h h' st kk=>by
  obtain ⟨⟨old,a1⟩,a2⟩:=st
  exact ⟨⟨old,kk e (by simp) _ a1⟩,a2.at fun o x=>kk it (by simp) o x⟩
 item:=by
  intro X hP hw hK hc i pins s σ H E I hf st hg
  subst hP hw hK
  obtain ⟨xs,a,hx,ea⟩:=hg
  obtain ⟨its,r1,pl1,z1⟩:=I.list hx
  obtain ⟨ua,eua,rua⟩:=r1.get ea
  have there:=zic st
  obtain ⟨s1,s2⟩:=st
  have W:=WalksT.enumerate (prog:=X.prog) (w:=X.w) (A:=X.A) (I.ok.hd hc) e it p d1 d2 d3 its.toArray
  have hi:i<its.toArray.size:=by
   have h1:=(List.getElem?_eq_some_iff.mp eua).1
   rw [List.size_toArray]
   exact h1
  refine W.item i s _ _ hi ⟨s1,s2,pl1.isList⟩ fun T vals h' tk hp hT hTup mid kk=>⟨_,rfl,?_⟩
  obtain ⟨t,u,e1,rfl⟩:=hp
  have e1':u=ua:=by
   have:its[i]?=some u:=by simpa using e1
   rw [eua] at this;cases this;rfl
  subst e1'
  refine W.go elts k pos i T { s with heap:=h',toks:=tk } _ _ mid fun h2 st2 kk2=>?_
  obtain ⟨t1,t2,_⟩:=st2
  have I1:Inv X pins σ H { s with heap:=h2,toks:=tk }:=I.turns (ch:=[e,it]) (fun b o hb q=>kk2 b o hb (kk b o hb q)) fun b hb=>hf b hb
  have nT:H T=none:=I.hok.fresh hT
  have I2:=I1.track (a:=T) (o:=.tup [.int (i:Int),a]) nT (Heap.get?_none_of_le (Nat.le_trans I.sz hT)) (Nat.ne_of_gt (Nat.lt_of_lt_of_le I.lt hT)) (fun x c q=>by
   obtain ⟨v,z⟩:=I.cell x c q
   exact Nat.ne_of_lt (Nat.lt_of_lt_of_le z.lt hT)) (fun y hy=>Nat.ne_of_lt (Nat.lt_of_lt_of_le (Heap.lt_size (I.pin y hy).1) hT)) (by
   refine ⟨by show 2≤sizeLine;decide,[.int i t,u],.cons ⟨t,rfl⟩ (.cons rua .nil),?_⟩
   obtain ⟨o,ho,hcl,hd⟩:=hTup
   exact ⟨o,kk2 T o (W.apart i T h' mid) ho,hcl,hd⟩)
  refine ⟨.ref T,_,I2,rfl,⟨T,a,rfl,nT,rfl,fun xs' h'=>?_⟩,⟨t1,t2⟩,fun b hb=>?_⟩
  ·rw [I.list_inj h' hx];exact ea
  ·obtain ⟨o,q,_⟩:=there b hb
   rw [zap (Nat.ne_of_lt (Nat.lt_of_lt_of_le (Heap.lt_size q) hT))]
   exact (hf b hb).1
 done:=by
  intro X hP hw hK hc i pins s σ H E I hf st hg
  subst hP hw hK
  obtain ⟨xs,hx,rfl⟩:=hg
  obtain ⟨its,r1,pl1,z1⟩:=I.list hx
  obtain ⟨s1,s2⟩:=st
  have W:=WalksT.enumerate (prog:=X.prog) (w:=X.w) (A:=X.A) (I.ok.hd hc) e it p d1 d2 d3 its.toArray
  refine W.done s _ _ ?_ fun h' tk kk=>⟨rfl,I.turns (ch:=[e,it]) (fun b o hb q=>kk b o hb q) fun b hb=>hf b hb⟩
  rw [List.size_toArray,← r1.length]
  exact ⟨s1,s2,pl1.isList⟩
 self:=fun A i s Q E st h=>by
  obtain ⟨⟨old,a1⟩,_⟩:=st
  exact wpAny_pyIter_enum a1 h
def zns (K:PySem.W.Frag) (ta:TA):TI:=fun σ H R=>ta σ H fun vs H1=>∃ p,vs=[.ref p]∧(∃ xs,SqL K H1 p xs)∧R (Ite K p) H1
theorem zo1 {X:Cx} {a:Expr} {elts:List Expr} {k:Nat} {tp p pos:Pos} {ta:TA} (hg:Gl X "enumerate") (hm:X.mg "enumerate"=none) (ha:PA X [a] ta) (hs:starEach [a] X.env=[(false,eval a X.env)]:=by rfl) :
  PI X (.Tuple elts k tp) (.Call (.Name "enumerate" p) [a] [] pos) (zns X.K ta):=by
 intro pins s σ H R I h
 refine Call_ (zgz I hg hm zmO (PyProof.Rows.callWith_type1 (thn (ha pos pins s σ H _ I h) fun us s1 hQ'=>?_) (by rw [hs];rfl) rfl))
 obtain ⟨vs,H1,I1,r1,q1⟩:=hQ'
 obtain ⟨p1,rfl,⟨xs,hx⟩,q⟩:=q1
 obtain ⟨u,rfl,ru⟩:=r1.one
 cases ru
 obtain ⟨its,_,pl1,_⟩:=I1.list hx
 have a1:p1<s1.heap.objs.size:=by obtain ⟨_,e,_⟩:=pl1.isList;exact Heap.lt_size e
 refine call_enumerate_list pl1.isList fun h' he hi hsz hk=>?_
 refine wpAny_pyIter_enum he ?_
 refine ⟨_,_,_,_,H1,rfl,I1.kept (t':=s1.toks) hk,zkv (Nat.succ_ne_self _) (Nat.ne_of_lt (Nat.lt_succ_of_lt a1)) (Nat.ne_of_lt a1),⟨⟨_,he⟩,hi⟩,fun b hb=>?_,q⟩
 have hb':s1.heap.objs.size≤b:=by
  simp only [List.mem_cons,List.not_mem_nil,or_false] at hb
  rcases hb with h | h <;> rw [h] <;> first | exact Nat.le_refl _ | exact Nat.le_add_right _ _
 exact I1.fpOk hb' (I1.hok.fresh hb')
theorem zlo {K:PySem.W.Frag} {p:Addr} {xs:List V} {g:TG} {tb:TS} {D:zcd} {σ:St} {H:Hp} (Pv:Nat→St→Hp→Prop) (h0:Pv 0 σ H) (hl:∀ i σ H,i≤xs.length→Pv i σ H→SqL K H p xs)
  (hs:∀ i x t σ H,xs[i]?=some x→Pv i σ H→H t=none→g (.ref t) σ (upd H t (.tup [.int (i:Int),x])) fun σ2 H2=>tb { D with nx:=Pv (i+1),ct:=Pv (i+1),bk:=D.nx } σ2 H2) (hd:∀ σ H,Pv xs.length σ H→D.nx σ H):zjM (Ite K p) g tb D σ H:=by
 refine ⟨fun i m σ H=>m=xs.length - i∧i≤xs.length∧Pv i σ H,⟨_,rfl,Nat.zero_le _,h0⟩,?_⟩
 rintro i m σ H ⟨rfl,hi,pv⟩
 have hx:=hl i σ H hi pv
 by_cases hlt:i<xs.length
 ·refine .inr ⟨⟨xs,xs[i],hx,by simp [hlt]⟩,Pv (i+1),fun σ' H' p'=>⟨_,by (first|lia|omega),rfl,hlt,p'⟩,fun x H' yl=>?_⟩
  obtain ⟨t,a,rfl,ht,rfl,e1⟩:=yl
  exact hs i a t σ H (e1 xs hx) pv ht
 ·have e:i=xs.length:=by (first|lia|omega)
  subst e
  exact .inl ⟨⟨xs,hx,rfl⟩,hd σ H pv⟩
end L2
namespace L2
open PySem PySem.Spec PyProof.Rows
def zpg (K:PySem.W.Frag) (a:Addr) (xs:List V):Prop:=∃ (o:Obj) (its:Array Value) (n:Nat),K.lookup a=some o∧o.cls=.type "tuple"∧o.data=.seq its n∧its.size≤sizeLine∧zb9 xs its.toList
theorem SqT.ofK {K:PySem.W.Frag} {H:Hp} {a:Addr} {xs:List V} (h:zpg K a xs):SqT K H a xs:=.inr h
section
variable {X:Cx}
end
end L2
namespace L2
open PySem PySem.Spec PyProof.Rows
theorem zc4 (K:PySem.W.Frag):PySem.W.kitOne K (.type "list") (.type "tuple")=some false:=by first | rfl | kernel_rfl
theorem zd9 (K:PySem.W.Frag):PySem.W.kitOne K (.type "tuple") (.type "list")=some false:=by first | rfl | kernel_rfl
theorem zhf (K:PySem.W.Frag):PySem.W.kitOne K (.type "int") (.type "tuple")=some false:=by first | rfl | kernel_rfl
theorem zhO (K:PySem.W.Frag):PySem.W.kitOne K (.type "int") (.type "list")=some false:=by first | rfl | kernel_rfl
theorem zhe (K:PySem.W.Frag):PySem.W.kitOne K (.type "str") (.type "tuple")=some false:=by first | rfl | kernel_rfl
theorem zig (K:PySem.W.Frag):PySem.W.kitOne K (.type "str") (.type "list")=some false:=by first | rfl | kernel_rfl
theorem zhB (K:PySem.W.Frag):PySem.W.kitOne K (.type "str") (.type "bool")=some false:=by first | rfl | kernel_rfl
theorem zjh (K:PySem.W.Frag):PySem.W.kitOne K (.type "str") (.type "int")=some false:=by first | rfl | kernel_rfl
theorem zcZ {K:PySem.W.Frag} {H:Hp} {Q:VK} {x:V} {t c:String} {b:Bool} (h:zju K H x (.type t)) (e:PySem.W.kitOne K (.type t) (.type c)=some b) (q:Q (.bl b) H):zdT K [x,.ty c] H Q:=⟨_,_,_,_,b,rfl,rfl,.of h,e,q⟩
end L2
namespace L2
open PySem PySem.Spec PyProof.Rows
def rNeE (K:PySem.W.Frag):R2:=fun x y H Q=>∃ a b xs,x=.ref a∧y=.ref b∧SqL K H a xs∧SqL K H b []∧Q (.bl (!xs.isEmpty)) H
section
variable {X:Cx}
theorem zqG (hu:X.A.units+64<cLine):OpR X (compareOp .NotEq) (rNeE X.K):=by
 intro pins s σ H x y v u Q I rx ry h
 obtain ⟨a,b,xs,rfl,rfl,ha,hb,q⟩:=h
 cases rx
 cases ry
 obtain ⟨us,r1,p1,_⟩:=I.list ha
 obtain ⟨vs,r2,p2,_⟩:=I.list hb
 cases r2
 cases xs with
 | nil =>
  cases r1
  have z:=SeqAt.RcNeAt.lists (A:=X.A) p1.isList p2.isList rfl (by (first|lia|omega)) (e:=fun _=>true) (fun j h1 h2=>absurd h1 (Nat.not_lt_zero _))
  exact z X.prog X.w X.xe _ ⟨.bl false,H,I,rfl,q⟩
 | cons y ys =>
  have z:=SeqAt.RcNeAt.lists_lengths (A:=X.A) p1.isList p2.isList (by rw [List.size_toArray,List.size_toArray,← r1.length];rfl) (by (first|lia|omega))
  exact z X.prog X.w X.xe _ ⟨.bl true,H,I,rfl,q⟩
end
end L2
namespace L2
open PySem
theorem znO {v:V} {σ:List (Option V)} {H:Hp} {Q:VK}:zac 0 (some v::σ) H Q=Q v H:=by simp [zac]
theorem zoH {x0:Option V} {v:V} {σ:List (Option V)} {H:Hp} {Q:VK}:zac 1 (x0::some v::σ) H Q=Q v H:=by simp [zac]
theorem zoc {x0 x1:Option V} {v:V} {σ:List (Option V)} {H:Hp} {Q:VK}:zac 2 (x0::x1::some v::σ) H Q=Q v H:=by simp [zac]
theorem zop {x0 x1 x2:Option V} {v:V} {σ:List (Option V)} {H:Hp} {Q:VK}:zac 3 (x0::x1::x2::some v::σ) H Q=Q v H:=by simp [zac]
theorem znE {x0 x1 x2 x3:Option V} {v:V} {σ:List (Option V)} {H:Hp} {Q:VK}:zac 4 (x0::x1::x2::x3::some v::σ) H Q=Q v H:=by simp [zac]
theorem znt {x0 x1 x2 x3 x4:Option V} {v:V} {σ:List (Option V)} {H:Hp} {Q:VK}:zac 5 (x0::x1::x2::x3::x4::some v::σ) H Q=Q v H:=by simp [zac]
theorem zo2 {x0 x1 x2 x3 x4 x5:Option V} {v:V} {σ:List (Option V)} {H:Hp} {Q:VK}:zac 6 (x0::x1::x2::x3::x4::x5::some v::σ) H Q=Q v H:=by simp [zac]
theorem zo9 {x0 x1 x2 x3 x4 x5 x6:Option V} {v:V} {σ:List (Option V)} {H:Hp} {Q:VK}:zac 7 (x0::x1::x2::x3::x4::x5::x6::some v::σ) H Q=Q v H:=by simp [zac]
theorem zpj {x0 x1 x2 x3 x4 x5 x6 x7:Option V} {v:V} {σ:List (Option V)} {H:Hp} {Q:VK}:zac 8 (x0::x1::x2::x3::x4::x5::x6::x7::some v::σ) H Q=Q v H:=by simp [zac]
theorem zoQ {x0 x1 x2 x3 x4 x5 x6 x7 x8:Option V} {v:V} {σ:List (Option V)} {H:Hp} {Q:VK}:zac 9 (x0::x1::x2::x3::x4::x5::x6::x7::x8::some v::σ) H Q=Q v H:=by simp [zac]
theorem zmq {x0 x1 x2 x3 x4 x5 x6 x7 x8 x9:Option V} {v:V} {σ:List (Option V)} {H:Hp} {Q:VK}:zac 10 (x0::x1::x2::x3::x4::x5::x6::x7::x8::x9::some v::σ) H Q=Q v H:=by simp [zac]
theorem zma {x0 x1 x2 x3 x4 x5 x6 x7 x8 x9 x10:Option V} {v:V} {σ:List (Option V)} {H:Hp} {Q:VK}:zac 11 (x0::x1::x2::x3::x4::x5::x6::x7::x8::x9::x10::some v::σ) H Q=Q v H:=by simp [zac]
theorem zmC {x0:Option V} {v:V} {σ:List (Option V)} {H:Hp} {Q:St→Hp→Prop}:zaC 0 v (x0::σ) H Q=Q (some v::σ) H:=rfl
theorem zmw {x0 x1:Option V} {v:V} {σ:List (Option V)} {H:Hp} {Q:St→Hp→Prop}:zaC 1 v (x0::x1::σ) H Q=Q (x0::some v::σ) H:=rfl
theorem zmz {x0 x1 x2:Option V} {v:V} {σ:List (Option V)} {H:Hp} {Q:St→Hp→Prop}:zaC 2 v (x0::x1::x2::σ) H Q=Q (x0::x1::some v::σ) H:=rfl
theorem zmI {x0 x1 x2 x3:Option V} {v:V} {σ:List (Option V)} {H:Hp} {Q:St→Hp→Prop}:zaC 3 v (x0::x1::x2::x3::σ) H Q=Q (x0::x1::x2::some v::σ) H:=rfl
theorem zl1 {x0 x1 x2 x3 x4:Option V} {v:V} {σ:List (Option V)} {H:Hp} {Q:St→Hp→Prop}:zaC 4 v (x0::x1::x2::x3::x4::σ) H Q=Q (x0::x1::x2::x3::some v::σ) H:=rfl
theorem zmm {x0 x1 x2 x3 x4 x5:Option V} {v:V} {σ:List (Option V)} {H:Hp} {Q:St→Hp→Prop}:zaC 5 v (x0::x1::x2::x3::x4::x5::σ) H Q=Q (x0::x1::x2::x3::x4::some v::σ) H:=rfl
theorem zmB {x0 x1 x2 x3 x4 x5 x6:Option V} {v:V} {σ:List (Option V)} {H:Hp} {Q:St→Hp→Prop}:zaC 6 v (x0::x1::x2::x3::x4::x5::x6::σ) H Q=Q (x0::x1::x2::x3::x4::x5::some v::σ) H:=rfl
theorem zmR {x0 x1 x2 x3 x4 x5 x6 x7:Option V} {v:V} {σ:List (Option V)} {H:Hp} {Q:St→Hp→Prop}:zaC 7 v (x0::x1::x2::x3::x4::x5::x6::x7::σ) H Q=Q (x0::x1::x2::x3::x4::x5::x6::some v::σ) H:=rfl
theorem zmL {x0 x1 x2 x3 x4 x5 x6 x7 x8:Option V} {v:V} {σ:List (Option V)} {H:Hp} {Q:St→Hp→Prop}:zaC 8 v (x0::x1::x2::x3::x4::x5::x6::x7::x8::σ) H Q=Q (x0::x1::x2::x3::x4::x5::x6::x7::some v::σ) H:=rfl
theorem zl5 {x0 x1 x2 x3 x4 x5 x6 x7 x8 x9:Option V} {v:V} {σ:List (Option V)} {H:Hp} {Q:St→Hp→Prop}:zaC 9 v (x0::x1::x2::x3::x4::x5::x6::x7::x8::x9::σ) H Q=Q (x0::x1::x2::x3::x4::x5::x6::x7::x8::some v::σ) H:=rfl
theorem zkT {x0 x1 x2 x3 x4 x5 x6 x7 x8 x9 x10:Option V} {v:V} {σ:List (Option V)} {H:Hp} {Q:St→Hp→Prop}:zaC 10 v (x0::x1::x2::x3::x4::x5::x6::x7::x8::x9::x10::σ) H Q=Q (x0::x1::x2::x3::x4::x5::x6::x7::x8::x9::some v::σ) H:=rfl
theorem zlp {x0 x1 x2 x3 x4 x5 x6 x7 x8 x9 x10 x11:Option V} {v:V} {σ:List (Option V)} {H:Hp} {Q:St→Hp→Prop}:zaC 11 v (x0::x1::x2::x3::x4::x5::x6::x7::x8::x9::x10::x11::σ) H Q=Q (x0::x1::x2::x3::x4::x5::x6::x7::x8::x9::x10::some v::σ) H:=rfl
theorem rI_c {C:Int→Int→Prop} {g:Int→Int→V} {a b:Int} {H:Hp} {Q:VK}:rI C g (.int a) (.int b) H Q=(C a b∧Q (g a b) H):=by simp [rI]
theorem rI0_c {g:Int→Int→V} {a b:Int} {H:Hp} {Q:VK}:rI0 g (.int a) (.int b) H Q=Q (g a b) H:=by simp [rI0]
theorem zqI {K:PySem.W.Frag} {p:Addr} {i:Int} {H:Hp} {Q:VK}:zcP K (.ref p) (.int i) H Q=∃ xs,SqL K H p xs∧∃ v,atI xs i=some v∧Q v H:=by simp [zcP]
theorem zqo {K:PySem.W.Frag} {p:Addr} {i:Int} {H:Hp} {Q:VK}:zme K (.ref p) (.int i) H Q=∃ xs,SqT K H p xs∧∃ v,atI xs i=some v∧Q v H:=by simp [zme]
theorem ex_bl {c:Bool} {Q:Bool→Prop}:(∃ k,V.bl c=V.bl k∧Q k)=Q c:=by simp
theorem zp5 {c:Int} {Q:Int→Prop}:(∃ k,V.int c=V.int k∧Q k)=Q c:=by simp
theorem zqm {c:Addr} {Q:Addr→Prop}:(∃ k,V.ref c=V.ref k∧Q k)=Q c:=by simp
theorem zpX {c:Int} {Q:Int→Prop}:(∃ k,[V.int c]=[V.int k]∧Q k)=Q c:=by simp
theorem zqM {c:Addr} {Q:Addr→Prop}:(∃ k,[V.ref c]=[V.ref k]∧Q k)=Q c:=by simp
end L2
namespace Att
open PySem PySem.W PySem.Calls PyProof.Rows
theorem zfP {x:Int}:∀ {ns:List Int},x∈ns→WData.weight (.int x)≤WData.weightAll (ns.map WData.int)
 | [],h=>absurd h (List.not_mem_nil)
 | y::ns,h=>by
  rw [List.map_cons,WData.weightAll]
  rcases List.mem_cons.mp h with e | e
  ·rw [← e]
   (first|lia|omega)
  ·have:=zfP e
   (first|lia|omega)
theorem zoh {ns:List Int} (h:WData.layableAll [WData.list (ns.map WData.int)]=true):∀ x∈ns,x.natAbs<2 ^ 2 ^ 20:=by
 intro x hx
 have h1:(WData.list (ns.map WData.int)).layable=true:=(layW_cons h).1
 have h2:WData.weight (.list (ns.map WData.int))≤2 ^ 20:=by
  unfold WData.layable at h1
  rw [Bool.and_eq_true] at h1
  exact of_decide_eq_true h1.2
 rw [WData.weight] at h2
 have h3:=Nat.le_trans (zfP hx) h2
 rw [WData.weight] at h3
 by_cases h0:x=0
 ·subst h0
  exact Nat.two_pow_pos _
 ·rw [if_neg (by simpa using h0)] at h3
  have hn:x.natAbs≠0:=fun e=>h0 (Int.natAbs_eq_zero.mp e)
  exact (Nat.log2_lt hn).mp h3
theorem attach_callL {l:OpenLaw} {n:Nat} {q:Program} {loose:List Str} {XP:(Str→Option Value)→Heap→Prop} {YP:World→Heap→Prop} {d:DefRec}
  (hn:l.most=some n) (hdf:d.params.defaults=[])
  (call:∀ (w:World) (s₀ s₁:Shared) (mg mb:Str→Option Value) (fa:Addr) (o:Obj) (pm cd doc:Value) (a:Addr) (vs:List Value) (ns:List Int),(∀ x∈ns,x.natAbs<2 ^ 2 ^ 20) →
   Ground q loose [] XP w s₀ mg mb s₁.heap→YP w s₁.heap →
   s₁.heap.get? fa=some o→o.data=.func (docDef d.name d.params d.body d.scope pm cd doc)→s₁.heap.CodeRec cd d.name→mg d.name=some (.ref fa) →
   s₁.heap.get? a=some { cls:=.type "list",data:=.seq vs.toArray }→IntsAre vs ns→ns.length≤n→s₁.gens=#[] →
   codeAny (model l.prog w) callerA (.call (.ref fa) ⟨[.ref a],[]⟩) (fun r s'=>r=.ok (.ret (.bool true))∧OldK s₁.heap s'.heap∧s'.os=s₁.os∧AllBare s'.gens) s₁) :
  WalkO q loose XP YP l.row.toRowW d [] (fun f vs=>PySem.call f vs):=by
 intro w s₀ s₁ mg mb G Y fa o pm cd doc dV kV ho hd hcd hD hmg hg args vals as hpre hlay hrd hwl hlo
 obtain rfl:dV=.none:=Dflts.none hD hdf
 obtain rfl:kV=.none:=Dflts.noKw hD
 obtain ⟨a,vs,ns,rfl,rfl,hobj,hints,hlen⟩:=zkS hn hpre hwl
 refine enter_call (codeAny_mono (call w s₀ s₁ mg mb fa o pm cd doc a vs ns (zoh hlay) G Y ho (fd_plain hd) hcd hmg hobj hints hlen hg) fun r s' hq=>?_)
 obtain ⟨rfl,h2,h3,h4⟩:=hq
 exact ⟨.inl ⟨.bool true,.bool true,[],rfl,fun _=>rfl,.bool true,zkV l _,fun _=>⟨List.Pairwise.nil,fun _ hm=>(nomatch hm)⟩⟩,h2,h3,h4⟩
end Att
namespace L2
open PySem PySem.Spec PyProof.Rows
end L2
namespace L2
open PySem PySem.Spec PyProof.Rows
section
variable {α β:Type}
def Kd:Sem α→Prop
 | .pure _=>True
 | .raise _=>True
 | .unsupported _=>True
 | .finish _=>True
 | .rule _ k=>Kd (k ())
 | .at _ k=>Kd (k ())
 | .load _ _ k=>∀ o,Kd (k o)
 | .update _ _ f k=>(∀ o:Obj,(f o).dict=o.dict∧(f o).isFreed=o.isFreed)∧Kd (k ())
 | .alloc _ k=>∀ a,Kd (k a)
 | .loadIfAlive _ k=>∀ o,Kd (k o)
 | .point _ k=>Kd (k ())
 | .fresh k=>∀ n,Kd (k n)
 | .ask k=>∀ n,Kd (k n)
 | .handled _ k=>∀ n,Kd (k n)
 | .stack k=>∀ l,Kd (k l)
 | .thread k=>∀ n,Kd (k n)
 | _=>False
theorem zaU {f:α→Sem β} (hf:∀ x,Kd (f x)):∀ {t:Sem α},Kd t→Kd (t >>= f)
 | .pure a,_=>hf a
 | .raise _,_=>trivial
 | .unsupported _,_=>trivial
 | .finish _,_=>trivial
 | .rule _ k,h=>zaU hf (t:=k ()) h
 | .at _ k,h=>zaU hf (t:=k ()) h
 | .load _ _ k,h=>fun o=>zaU hf (t:=k o) (h o)
 | .update _ _ _ k,h=>⟨h.1,zaU hf (t:=k ()) h.2⟩
 | .alloc _ k,h=>fun o=>zaU hf (t:=k o) (h o)
 | .loadIfAlive _ k,h=>fun o=>zaU hf (t:=k o) (h o)
 | .point _ k,h=>zaU hf (t:=k ()) h
 | .fresh k,h=>fun o=>zaU hf (t:=k o) (h o)
 | .ask k,h=>fun o=>zaU hf (t:=k o) (h o)
 | .handled _ k,h=>fun o=>zaU hf (t:=k o) (h o)
 | .stack k,h=>fun o=>zaU hf (t:=k o) (h o)
 | .thread k,h=>fun o=>zaU hf (t:=k o) (h o)
 | .register ..,h=>h.elim
 | .choose ..,h=>h.elim
 | .os ..,h=>h.elim
 | .call ..,h=>h.elim
 | .newGen ..,h=>h.elim
 | .genState ..,h=>h.elim
 | .resume ..,h=>h.elim
 | .yield ..,h=>h.elim
 | .fork ..,h=>h.elim
 | .await ..,h=>h.elim
def zhW (e:Addr) (od:Option Addr) (h:Heap):Prop:=∃ o,h.get? e=some o∧o.dict=od
theorem zfa {M:Model} {Γ:PySem.Ctx} {Q:α→Pos→Shared→Prop} {E:Value→Pos→Shared→Prop} {e:Addr} {od:Option Addr}:∀ {t:Sem α} {p:Pos} {s:Shared},Kd t→zhW e od s.heap→Sem.wp M Γ t Q E p s →
  Sem.wp M Γ t (fun a p s'=>Q a p s'∧zhW e od s'.heap) E p s
 | .pure _,_,_,_,d,h=>⟨h,d⟩
 | .raise _,_,_,_,_,h=>h
 | .unsupported _,_,_,_,_,h=>h
 | .finish _,_,_,_,_,h=>h
 | .rule _ k,_,_,c,d,h=>zfa (t:=k ()) c d h
 | .at _ k,_,_,c,d,h=>zfa (t:=k ()) c d h
 | .load _ _ k,_,_,c,d,⟨o,ho,h⟩=>⟨o,ho,zfa (t:=k o) (c o) d h⟩
 | .update a _ f k,p,s,c,d,⟨hi,h⟩=>by
  refine ⟨hi,zfa (t:=k ()) c.2 ?_ h⟩
  obtain ⟨o,ho,hd⟩:=d
  by_cases ea:a=e
  ·subst ea
   have nf:o.isFreed=false:=(Heap.get?_some_iff.mp ho).2
   exact ⟨f o,Heap.get?_update_self f ho (by rw [(c.1 o).2];exact nf),by rw [(c.1 o).1];exact hd⟩
  ·exact ⟨o,(Heap.get?_update_other _ f ea).trans ho,hd⟩
 | .alloc o k,p,s,c,⟨o',ho,hd⟩,h=>zfa (t:=k _) (c _) ⟨o',Heap.get?_push_of_some _ ho,hd⟩ h
 | .loadIfAlive _ k,_,_,c,d,h=>zfa (t:=k _) (c _) d h
 | .point _ k,_,_,c,d,h=>zfa (t:=k ()) c d h
 | .fresh k,_,_,c,d,h=>zfa (t:=k _) (c _) d h
 | .ask k,_,_,c,d,h=>zfa (t:=k _) (c _) d h
 | .handled _ k,_,_,c,d,h=>zfa (t:=k _) (c _) d h
 | .stack k,_,_,c,d,h=>zfa (t:=k _) (c _) d h
 | .thread k,_,_,c,d,h=>zfa (t:=k _) (c _) d h
 | .register ..,_,_,c,_,_=>c.elim
 | .choose ..,_,_,c,_,_=>c.elim
 | .os ..,_,_,c,_,_=>c.elim
 | .call ..,_,_,c,_,_=>c.elim
 | .newGen ..,_,_,c,_,_=>c.elim
 | .genState ..,_,_,c,_,_=>c.elim
 | .resume ..,_,_,c,_,_=>c.elim
 | .yield ..,_,_,c,_,_=>c.elim
 | .fork ..,_,_,c,_,_=>c.elim
 | .await ..,_,_,c,_,_=>c.elim
theorem zhw {M:Model} {A:Around} {t:Sem α} {Q:α→Shared→Prop} {E:Value→Shared→Prop} {s:Shared} {e:Addr} {od:Option Addr} (c:Kd t) (d:zhW e od s.heap) (h:wpAny M A t (fun a s'=>zhW e od s'.heap→Q a s') E s):wpAny M A t Q E s:=fun Γ p hΓ =>
 Sem.wp_mono M Γ t (fun _ _ _ z=>z.1 z.2) (fun _ _ _ z=>z) p s (zfa c d (h Γ p hΓ))
end
theorem zii (f:Array Value→Array Value) (o:Obj):(Obj.mapFields f o).dict=o.dict∧(Obj.mapFields f o).isFreed=o.isFreed:=by
 obtain ⟨c,d,dat,sl⟩:=o
 cases dat <;> exact ⟨rfl,rfl⟩
theorem zbP {α:Type} (a:α):Kd (pure a:Sem α):=trivial
theorem zeb {α:Type} (w:String):Kd (unsupported w:Sem α):=trivial
theorem ziK (a:Addr):Kd (load a):=fun _=>trivial
theorem zgS:Kd stack:=fun _=>trivial
theorem zmd (o:Obj):Kd (alloc o):=fun _=>trivial
theorem zmY {a:Addr} {f:Obj→Obj} (h:∀ o:Obj,(f o).dict=o.dict∧(f o).isFreed=o.isFreed):Kd (update a f):=⟨h,trivial⟩
theorem zhE {α:Type} {c:Prop} [Decidable c] {a b:Sem α} (h1:Kd a) (h2:Kd b):Kd (if c then a else b):=by
 split
 ·exact h1
 ·exact h2
theorem zft (v:Value) (i:Nat):Kd (field v i):=by
 unfold field fieldsOf
 refine zaU (fun x=>?_) ?_
 ·split
  ·exact zbP _
  ·exact zeb _
 ·split
  ·refine zaU (fun o=>?_) (ziK _)
   split
   ·exact zbP _
   ·exact zeb _
  ·exact zeb _
theorem zeg (v:Value) (i:Nat) (x:Value):Kd (setField v i x):=by
 unfold setField updateField
 split
 ·refine zaU (fun o=>?_) (ziK _)
  split
  ·exact zhE (zmY (zii _)) (zeb _)
  ·exact zeb _
 ·exact zeb _
theorem zh3 (ty:String) (vs:List Value):Kd (newFields ty vs):=by
 unfold newFields newObj newObjAsIs
 simp only
 split
 ·exact zeb _
 ·exact zaU (fun _=>zbP _) (zmd _)
theorem zd6:∀ l:List Env,Kd (readyFrames l)
 | []=>trivial
 | env::outer=>by
  have ih:=zd6 outer
  unfold readyFrames
  split
  ·refine zaU (fun o=>?_) (ziK _)
   refine zhE (zbP _) ?_
   refine zaU (fun im=>?_) ?_
   ·refine zaU (fun bk=>?_) ?_
    ·exact zaU (fun _=>ih) (zmY fun o=>⟨rfl,by obtain ⟨c,d,dat,sl⟩:=o;cases dat <;> rfl⟩)
    ·unfold keptBack underTheClaimsCaller
     split
     ·refine zhE (zbP _) ?_
      exact zaU (fun _=>zbP _) (zaU (fun _=>zbP _) zgS)
     ·exact zbP _
   ·unfold behindIsImport
    refine zhE (zbP _) (zhE (zbP _) ?_)
    exact zaU (fun _=>zbP _) (zft _ _)
  ·exact zeb _
theorem zjY (env:Env):Kd (PySem.frameOf env):=by
 unfold PySem.frameOf frameEnvs
 refine zaU (fun x=>?_) (zaU (fun _=>zbP _) zgS)
 refine zaU (fun y=>?_) ?_
 ·split
  ·exact zbP _
  ·exact zeb _
 ·unfold frameObject
  split
  ·exact zbP _
  ·exact zaU (fun _=>zbP _) (zd6 _)
theorem zfD (f:Addr) (b:Bool):Kd (entryPlaceOf f b):=by
 unfold entryPlaceOf
 refine zaU (fun x=>?_) zgS
 split
 ·exact zbP _
 ·exact zbP _
theorem zfi (e:Value) (env:Env):Kd (noteFrame e env):=by
 unfold noteFrame EntryCells.newEntry
 split
 ·refine zaU (fun head=>?_) (zft _ _)
  have zfq:∀ f:Addr,Kd (do let a ← PySem.frameOf env;let pl ← entryPlaceOf f (head != .none);let b ← newFields "traceback" ([head,a,.none,rawInt f,.none]++(if pl.isEmpty then List.replicate 6 .none else pl));setField e 1 b):=fun f =>
   zaU (fun _=>zaU (fun _=>zaU (fun _=>zeg _ _ _) (zh3 _ _)) (zfD _ _)) (zjY _)
  refine zhE ?_ (zfq _)
  refine zaU (fun x=>zhE (zbP _) ?_) (zft _ _)
  exact zaU (fun _=>zfq _) (zeg _ _ _)
 ·exact zeb _
theorem zdC (e:Value) (f:Option Addr):Kd (setFlight e f):=by
 unfold setFlight
 exact zaU (fun _=>zhE (zeg _ _ _) (zbP _)) (zft _ _)
theorem zgx (env:Env) (e:Value):Kd (leaving env e):=by
 unfold leaving
 exact zaU (fun _=>zdC _ _) (zfi _ _)
structure ExI (K:PySem.W.Frag) (C fI:Addr):Prop where
 lk:∃ nm q N bs bm sn sub ab col dd k0 k1 k2 k3 k5,K.lookup C=some (excClassObj nm q C N bs bm true sn sub ab col dd k0 k1 k2 k3 k5 "ValueError.__new__")∧PySem.W.tailIn K zfs bm=true
 ini:PySem.W.findIn K (.ref C) "__init__"=some (some (.ref fI))
 fn:PySem.W.isFn K (.ref fI)=true
 kp:PySem.W.keepIn K (.ref C)=true
 mo:PySem.W.mroIn K C (.type "object")=some true
 sa:PySem.W.findIn K (.ref C) "__setattr__"=some (some (.builtin "object.__setattr__"))
section
variable {K:PySem.W.Frag} {prog:Program} {w:World} {A:Around} {E:Value→Shared→Prop} {h:Heap} {g:Array GenState} {d:Drawn} {t:Nat} {os:OsState} {C fI:Addr} {us:List Value}
theorem zog {bm:List Value} {nm q:Str} {N:Addr} {bs:List Value} {hdct:Bool} {sn:List Str} {sub:List Value} {ab:Bool} {col:Option Bool} {dd:Option Addr} {k0 k1 k2 k3 k5:Option Value} {Q:Fin→Shared→Prop} (X:K.In h) (Z:ExI K C fI)
  (kC:h.get? C=some (excClassObj nm q C N bs bm hdct sn sub ab col dd k0 k1 k2 k3 k5 "ValueError.__new__")) (T:OwnTail h zfs bm) (hl:us.length≤sizeLine)
  (hq:∀ h1 x,x=h.objs.size+1→Heap.MadeExcOf h h1 x (.ref C) us→wpAny (model prog w) A (call (.ref fI) (.ref x::us)) (fun r s'=>r=.none∧Q (.done (.ret (.ref x))) s') E ⟨h1,g,d,t,os⟩) :
  wpAny (model prog w) A (Builtin.«type.__call__» ⟨.ref C::us,[]⟩) Q E ⟨h,g,d,t,os⟩:=by
 have F:=PySem.F.excBase_ValueError
 repeat (first | (with_reducible refine wpAny_loadPart_at kC ?_) | (with_reducible refine wpAny_madeBy_exc kC ?_) | wp_step)
 refine codeAny_call_builtin_code (Code.quiet_builtin _ F.quiet) (wpAny_check_new_subT F T kC (codeAny_exc_new_subT F T kC ?_ hl))
 show wpAny _ _ _ _ _ _
 have st:∀ b o,h.get? b=some o→((h.push { cls:=.type "tuple",data:=.seq us.toArray }).push { cls:=.ref C,data:=.fields #[.ref h.objs.size,.none,.none,.none,.bool false,.none] }).get? b=some o :=
  fun b o e=>Heap.get?_push_of_some _ (Heap.get?_push_of_some _ e)
 have gx:((h.push { cls:=.type "tuple",data:=.seq us.toArray }).push { cls:=.ref C,data:=.fields #[.ref h.objs.size,.none,.none,.none,.bool false,.none] }).get? (h.objs.size+1) =
   some { cls:=.ref C,data:=.fields #[.ref h.objs.size,.none,.none,.none,.bool false,.none] }:=by heap_get
 have gt:((h.push { cls:=.type "tuple",data:=.seq us.toArray }).push { cls:=.ref C,data:=.fields #[.ref h.objs.size,.none,.none,.none,.bool false,.none] }).get? h.objs.size =
   some { cls:=.type "tuple",data:=.seq us.toArray }:=Heap.get?_push_of_some _ (Heap.get?_push_at rfl rfl)
 generalize ((h.push { cls:=.type "tuple",data:=.seq us.toArray }).push { cls:=.ref C,data:=.fields #[.ref h.objs.size,.none,.none,.none,.bool false,.none] })=h1 at st gx gt ⊢
 have X1:K.In h1:=fun a o e=>st a o (X a o e)
 have k1:=st _ _ kC
 have LI:=PySem.W.looks_findIn (M:=model prog w) X1 Z.ini
 have cC:(Value.ref C::bm).contains (.ref C)=true:=by simp
 unfold isInstance
 repeat (first | (with_reducible refine wpAny_loadPart_at gx ?_) | (with_reducible refine wpAny_isSubtype_exc k1 ?_;rw [cC]) | (with_reducible refine LI.at ?_) | wp_step)
 refine (PySem.W.bind_fn (M:=model prog w) X1 (.ref (h.objs.size+1)) (beq_iff_eq.mp Z.fn)).at ?_
 refine wpAny_bind (wpAny_mono (hq h1 (h.objs.size+1) rfl ⟨st,Heap.get?_none_of_le (Nat.le_succ _),h.objs.size,gx,Heap.get?_none_of_le (Nat.le_refl _),gt⟩) (fun r s' z=>?_) fun _ _ z=>z)
 obtain ⟨rfl,z⟩:=z
 refine wpAny_pure ?_
 wp_walk
 exact z
theorem zpx {Q:Value→Shared→Prop} (X:K.In h) (Z:ExI K C fI) (hl:us.length≤sizeLine)
  (hq:∀ h1 x,x=h.objs.size+1→Heap.MadeExcOf h h1 x (.ref C) us→wpAny (model prog w) (A.under (.builtin "type.__call__" ⟨.ref C::us,[]⟩)) (call (.ref fI) (.ref x::us)) (fun r s'=>r=.none∧Q (.ref x) s') E ⟨h1,g,d,t,os⟩) :
  wpAny (model prog w) A (call (.ref C) us) Q E ⟨h,g,d,t,os⟩:=by
 obtain ⟨nm,q,N,bs,bm,sn,sub,ab,col,dd,k0,k1,k2,k3,k5,lk,tl⟩:=Z.lk
 have kC:=X _ _ lk
 have l1:=tc_lookup
 have l2:=tc_bind (.ref C)
 have l3:(⟨h,g,d,t,os⟩:Shared).TypeIs (.ref C) "type":=⟨_,kC,rfl⟩
 refine wpAny_call (codeAny_of_tree ?_)
 show wpAny _ _ (callAny (.ref C) _) _ _ _
 repeat (any_goals (first | assumption | (with_reducible refine wpAny_loadPart_at kC ?_) | wp_step))
 refine ⟨rfl,codeAny_call_builtin_at (Code.quiet_builtin _ (by decide +kernel)) entry_typeCall (wpAny_check_type_call_sub kC ?_)⟩
 exact zog X Z kC (PySem.W.tail_of_in X tl) hl hq
end
def zlT (x:Addr) (C:Addr):HO:=.ext fun h=>∃ o t0,h.get? x=some o∧o.cls=.ref C∧o.dict=none∧o.data=.fields #[.ref t0,.none,.none,.none,.bool false,.none]
def zl8 (x:Addr) (C dx:Addr):HO:=.ext fun h=>∃ o t0,h.get? x=some o∧o.cls=.ref C∧o.dict=some dx∧o.data=.fields #[.ref t0,.none,.none,.none,.bool false,.none]
structure ExB (K:PySem.W.Frag) (D:Addr):Prop where
 sg:PySem.W.specialIn K (.ref D) "__getattribute__"=some (some (.builtin "type.__getattribute__"))
 rd:PySem.W.readsIn K D (.type "type")=true
 fc:PySem.W.findCls K (.ref D) (.type "type") "__init__"=some (.val (.builtin "ValueError.__init__"))
theorem zmf {H:Hp} {x:Addr} {o:HO} (h:H x=some o):upd H x o=H:=by
 funext b
 unfold upd
 split
 ·rename_i e
  rw [e,h]
 ·rfl
section
variable {X:Cx} {pins:List (Addr×Obj)} {σ:St} {H:Hp} {s:Shared}
theorem zlr {A:Around} {E:Value→Shared→Prop} {Q:Value→Shared→Prop} {x C:Addr} {us:List Value} (I:Inv X pins σ H s) (hx:H x=some (zlT x C)) (Z:∃ fI,ExI X.K C fI) (hl:us.length≤sizeLine)
  (h:∀ s',Inv X pins σ H s'→Q .none s'):wpAny (model X.prog X.w) A (call (.builtin "ValueError.__init__") (.ref x::us)) Q E s:=by
 obtain ⟨fI,Z⟩:=Z
 obtain ⟨nm,q,N,bs,bm,sn,sub,ab,col,dd,k0,k1,k2,k3,k5,lk,tl⟩:=Z.lk
 have kC:=I.kIn _ _ lk
 have T:=PySem.W.tail_of_in I.kIn tl
 have F:=PySem.F.excBase_ValueError
 obtain ⟨⟨o,t0,ho,hc,hd,hdat⟩,_⟩:=(I.hok x _ hx:zcg X.prog X.w H s.heap x (zlT x C))
 obtain ⟨hh,g,d,t,os⟩:=s
 obtain ⟨oc,od,odt,osl⟩:=o
 dsimp only at hc hd hdat
 subst hc hd hdat
 refine wpAny_call (codeAny_call_builtin F.init.plain F.initEntry (wpAny_check_init_subT F T kC ho rfl ?_))
 wp_walk
 have I1:Inv X pins σ H { heap:=hh.push { cls:=.type "tuple",data:=.seq us.toArray },gens:=g,drawn:=d,toks:=t,os:=os }:=I.kept (t':=t) fun b u e=>Heap.get?_push_of_some _ e
 have gx:(hh.push { cls:=.type "tuple",data:=.seq us.toArray }).get? x=some ⟨.ref C,none,.fields #[.ref t0,.none,.none,.none,.bool false,.none],osl⟩:=Heap.get?_push_of_some _ ho
 have gy:=Heap.get?_update_self (Obj.mapFields fun z=>z.setIfInBounds 0 (Value.ref hh.objs.size)) gx rfl
 have I2:=I1.write (x:=x) (e:=x) (o:=zlT x C) (t':=t) (h':=(hh.push { cls:=.type "tuple",data:=.seq us.toArray }).update x (Obj.mapFields fun z=>z.setIfInBounds 0 (Value.ref hh.objs.size)))
  (by rw [hx];exact True.intro) (.inl rfl) (fun b u nb e=>(Heap.get?_update_other _ _ (Ne.symm nb)).trans e) ⟨_,gy⟩ ⟨⟨_,_,gy,rfl,rfl,rfl⟩,⟨_,gy⟩,fun _ _ ⟨o,t0,e,r⟩ k=>⟨o,t0,k o e,r⟩⟩
 rw [zmf hx] at I2
 exact h _ I2
end
theorem ziQ {h:Heap} {self:Value} {what:Str} {l:List Value} (T:OwnTail h zfs l) (hb:refuseLoop self what zfs=pure ()):refuseLoop self what l=pure ():=by
 induction T with
 | base=>exact hb
 | own _ _ _ _ ih=>rw [refuseLoop_ref,ih]
section
open Builtin Builtin.ObjectAttr
variable {K:PySem.W.Frag} {prog:Program} {w:World} {A:Around} {E:Value→Shared→Prop} {h:Heap} {g:Array GenState} {d:Drawn} {t:Nat} {os:OsState} {C fI x:Addr} {v:Value} {name:Str} {o:Obj}
theorem zpo {tk:Tok} {R:Result→Shared→Prop} (X:K.In h) (Z:ExI K C fI) (na:PySem.W.findIn K (.ref C) name=some none) (hx:h.get? x=some o) (hc:o.cls=.ref C) (hd:o.dict=none) {fs:Array Value} (hf:o.data=.fields fs)
  (hq:∀ h' tk',h'.get? x=some { o with dict:=some h.objs.size }→h'.Ns1 h.objs.size (fun y=>if y=name then some v else none)→(∀ b u,b≠x→h.get? b=some u→h'.get? b=some u)→R (.ok (.ret .none)) ⟨h',g,d,tk',os⟩) :
  codeAny (model prog w) A (.call (.builtin "object.__setattr__") ⟨[.ref x,.str name tk,v],[]⟩) R ⟨h,g,d,t,os⟩:=by
 obtain ⟨nm,q,N,bs,bm,sn,sub,ab,col,dd,k0,k1,k2,k3,k5,lk,tl⟩:=Z.lk
 have kC:=X _ _ lk
 have T:=PySem.W.tail_of_in X tl
 have S:=PySem.F.store_ValueError
 have LN:=PySem.W.looks_findIn (M:=model prog w) X na
 have pass:refuseLoop (.ref x) "__setattr__" (.ref C::bm)=pure ():=by
  rw [refuseLoop_ref]
  exact ziQ T (S.passes _)
 have cO:(Value.ref C::bm).contains (.type "object")=true:=by rw [List.contains_cons,T.hasType S.hasOwner,Bool.or_true]
 have LT:PySem.W.Looks (model prog w) h (typeOf (.ref x)) (.ref C):=hc ▸ (PySem.W.Looks.ld hx).andThen .now
 have LS:PySem.W.Looks (model prog w) h (isInstance (.ref x) (.type "object")) true:=LT.andThen (PySem.W.looks_mroIn X Z.mo)
 refine codeAny_call_builtin S.slot.plain S.entry (@PySem.W.check_slot (model prog w) _ _ ⟨h,g,d,t,os⟩ "object.__setattr__" "object" "__setattr__" (.ref x) [.str name tk,v] [] _ S.kind S.split LS (S.args (.ref x) (.str name tk) v) ?_)
 unfold Builtin.«object.__setattr__»
 repeat (first | rw [refuse_eq] | rw [pass] | (with_reducible refine wpAny_loadPart_at hx ?_;rw [hc]) | (with_reducible refine wpAny_mroOf_exc kC ?_) | (with_reducible refine LN.at ?_) | wp_step)
 obtain ⟨oc,od,odt,osl⟩:=o
 dsimp only at hc hd hf
 subst hc hd hf
 dsimp only
 rw [if_neg (by simp [typeHasDict])]
 have gx:(h.push { cls:=.type "dict",data:=.dict #[] }).get? x=some ⟨.ref C,none,.fields fs,osl⟩:=Heap.get?_push_of_some _ hx
 have ns:x≠h.objs.size:=Nat.ne_of_lt (Heap.lt_size hx)
 refine wpAny_bind (wpAny_alloc' (wpAny_bind (wpAny_update' gx (wpAny_pure ?_))))
 have gy:=Heap.get?_update_self (fun o:Obj=>{ cls:=o.cls,dict:=some h.objs.size,data:=o.data,slots:=o.slots }) gx rfl
 have gd:((h.push { cls:=.type "dict",data:=.dict #[] }).update x fun o=>{ cls:=o.cls,dict:=some h.objs.size,data:=o.data,slots:=o.slots }).get? h.objs.size=some { cls:=.type "dict",data:=.dict #[] } :=
  (Heap.get?_update_other _ _ ns).trans (Heap.get?_push_at rfl rfl)
 have keep:∀ b u,b≠x→h.get? b=some u→((h.push { cls:=.type "dict",data:=.dict #[] }).update x fun o=>{ cls:=o.cls,dict:=some h.objs.size,data:=o.data,slots:=o.slots }).get? b=some u:=fun b u nb e =>
  (Heap.get?_update_other _ _ (Ne.symm nb)).trans (Heap.get?_push_of_some _ e)
 generalize ((h.push { cls:=.type "dict",data:=.dict #[] }).update x fun o=>{ cls:=o.cls,dict:=some h.objs.size,data:=o.data,slots:=o.slots })=h2 at gy gd keep ⊢
 have nn:h2.Ns h.objs.size (fun _=>none):=⟨_,#[],_,gd,rfl,fun e he=>absurd he (by simp),fun _=>rfl⟩
 show wpAny _ _ (storeInDict h.objs.size (.str name tk) name v) _ _ _
 unfold storeInDict newKeyGuard
 refine wpAny_bind (wpAny_pure (wpAny_bind (wpAny_nsSet1 (Heap.Ns1.of_empty nn) fun h3 n3 s3=>?_)))
 obtain ⟨oD,eD,pD,aD,bD,cD⟩:=n3.count (Within.cons name v Within.nil)
 refine wpAny_bind (wpAny_lookBehind aD (by rw [bD];exact pastItsLine_dict (Nat.le_trans cD (by rw [List.length_cons,List.length_nil,sizeLine_eq];(first|lia|omega)))) ?_)
 wp_walk
 exact hq h3 _ ((s3.2 x ns).trans gy) n3 fun b u nb e=>(s3.2 b (Nat.ne_of_lt (Heap.lt_size e))).trans (keep b u nb e)
end
def tBI (K:PySem.W.Frag) (t:TA):TE:=fun σ H Q=>t σ H fun vs H1=>∃ x v C,vs=[.ref x,v]∧H1 x=some (zlT x C)∧(∃ fI,ExI K C fI)∧Q .non H1
def zn5 (K:PySem.W.Frag) (to tv:TE) (f:Str):TS:=fun D σ H=>tv σ H fun v H1=>to σ H1 fun x H2=>∃ a C,x=.ref a∧H2 a=some (zlT a C)∧(∃ fI,ExI K C fI)∧PySem.W.findIn K (.ref C) f=some none ∧
 ∀ dx,H2 dx=none→dx≠a→D.nx σ (upd (upd H2 a (zl8 a C dx)) dx (.xd [(f,v)]))
section
variable {X:Cx} {x:Str} {D:Addr} {np apos pos pos':Pos} {e o value:Expr} {es:List Expr} {t:TA} {to tv:TE} {f:Str}
theorem ziT {pl:Sem Bool} (hg:Gl X x) (hm:X.mg x=some (.ref D)) (B:ExB X.K D) (ha:PA X (e::es) t) (hdb:(x == ("__debug__":Str))=false:=by decide)
  (hst:starEach (e::es) X.env=(false,eval e X.env)::starEach es X.env:=by rfl) (hpl:(backTo pos (starEach es X.env)).any (·.1)=false:=by rfl)
  (ht:eval (.Call (.Attribute (.Name x np) "__init__" apos) (e::es) [] pos) X.env=(do
   let ov ← eval (.Name x np) X.env
   standAt apos.atName
   let (f,first) ← holding [ov] (getMethod ov "__init__" pl)
   callWith pos f first (backTo pos (starEach (e::es) X.env)) (backToKw pos (keywordEach [] X.env))):=by rfl) :
  PE X (.Call (.Attribute (.Name x np) "__init__" apos) (e::es) [] pos) (tBI X.K t):=by
 intro pins s σ H Q I h
 refine PySem.W.methodCall_KW (pl:=pl) (zeo I hg hm ?_ hdb) ht
 refine PySem.W.method_cls I.kIn B.sg (PySem.W.cls_value I.kIn B.rd B.fc rfl ?_)
 have I1:=I.tok (s.toks+1)
 have hA:=ha pos pins _ σ H _ I1 h
 rw [hst] at hA ⊢
 refine Calls.callWith_builtin (by show (false || (backTo pos (starEach es X.env)).any (·.1))=false;rw [hpl] <;> rfl) (Calls.evalArgs_plain ?_)
 refine thn hA fun us s2 hQ'=>?_
 obtain ⟨vs,H2,I2,r2,y,v,C,e1,e2,Z,q⟩:=hQ'
 subst e1
 obtain ⟨u1,u2,rfl,r3,r4⟩:=r2.two
 cases r3
 exact zlr (us:=[u2]) I2 e2 Z (by show 1≤sizeLine;decide) fun s' I'=>⟨.non,H2,I',rfl,q⟩
theorem zo4 (ho:PE X o to) (hv:PE X value tv) (hs:swapsWith value (some (.Attribute o f pos')) pos.line X.env=pure false):PS X (.Assign [.Attribute o f pos'] value pos) (zn5 X.K to tv f):=by
 intro pins s σ H D I h
 refine plainObj_wpAny_Assign_Attribute (thn (hv pins s σ H _ I h) fun u s1 ⟨y,H1,I1,ry,q⟩=>thn (ho pins s1 σ H1 _ I1 q) fun ov s2 hQ'=>?_) hs
 obtain ⟨z,H2,I2,rx,a,C,ex,ea,⟨fI,Z⟩,na,q2⟩:=hQ'
 subst ex
 obtain rfl:ov=Value.ref a:=rx
 obtain ⟨⟨ox,t0,hx,hc,hd,hf⟩,_⟩:=(I2.hok a _ ea:zcg X.prog X.w H2 s2.heap a (zlT a C))
 have J:PySem.W.InstAt s2.heap a ox C none:=⟨hx,hc,by unfold PySem.W.notCls;rw [hf],by rw [hd];exact True.intro⟩
 refine PySem.W.set_plain I2.kIn J Z.sa ?_
 obtain ⟨hh,g,d,tk,os⟩:=s2
 refine zpo I2.kIn Z na hx hc hd hf fun h3 tk3 gx n3 keep=>?_
 have fr:H2 hh.objs.size=none:=I2.hok.fresh (Nat.le_refl _)
 have ne:hh.objs.size≠a:=(Nat.ne_of_lt (Heap.lt_size hx)).symm
 have W:=I2.write (x:=a) (e:=a) (o:=zl8 a C hh.objs.size) (t':=tk3) (h':=h3) (by rw [ea];exact True.intro) (.inl rfl) (fun b v nb e=>keep b v nb e) ⟨_,gx⟩ ⟨⟨_,t0,gx,hc,rfl,hf⟩,⟨_,gx⟩,fun _ _ ⟨o,t0,e,r⟩ k=>⟨o,t0,k o e,r⟩⟩
 have fr2:upd H2 a (zl8 a C hh.objs.size) hh.objs.size=none:=by rw [zap ne];exact fr
 have V:=W.track (a:=hh.objs.size) (o:=.xd [(f,y)]) fr2 (Heap.get?_none_of_le I2.sz) (fun z=>?_) (fun y c e z=>?_) (fun p hp z=>?_) ⟨_,n3,fun k=>?_⟩
 ·exact ⟨σ,_,V,q2 _ fr ne⟩
 ·obtain ⟨m,⟨o,_,_,e,_⟩,_⟩:=I2.loc
  exact absurd z.symm (Nat.ne_of_lt (Heap.lt_size e))
 ·obtain ⟨v,o,e1,_⟩:=I2.cell y c e
  exact absurd z (Nat.ne_of_lt (Heap.lt_size e1))
 ·exact absurd z (Nat.ne_of_lt (Heap.lt_size (I2.pin p hp).1))
 ·show znz (List.lookup k [(f,y)]) (if k=f then some u else none)
  by_cases c:k=f
  ·subst c
   rw [if_pos rfl]
   simp only [List.lookup,beq_self_eq_true]
   exact ry
  ·rw [if_neg c]
   have:(k == f)=false:=beq_eq_false_iff_ne.mpr c
   simp only [List.lookup,this]
   exact trivial
end
section
variable {X:Cx} {CX:CXT} {k:Nat} {f C:Addr} {fd:FuncData} {ps:List Str} {sp:Sp} {E:XK} {x:Str} {p pos:Pos} {e:Expr} {es:List Expr} {t:TA}
theorem Inv.laidAt {pins:List (Addr×Obj)} {σ:St} {H:Hp} {s:Shared} {h':Heap} {a:Addr} {o:HO} (I:Inv X pins σ H s) (kp:∀ b u,s.heap.get? b=some u→h'.get? b=some u) (hp:s.heap.objs.size≤a) (new:zcg X.prog X.w (upd H a o) h' a o) :
  Inv X pins σ (upd H a o) { s with heap:=h' }:=I.laid (t':=s.toks) kp hp new
theorem zkt {pins:List (Addr×Obj)} {σ:St} {H:Hp} {s:Shared} {Q:VK} {us:List Value} {vs:List V} (Z:ExI X.K C f) (F:zdD X.prog X.w X.K X.mg X.base CX k f fd ps sp) (hr:ze3 (k+1) X.A) (hb:zcq X.K fd ps []) (hx:zfO CX X E)
  (I:Inv X pins σ H s) (r:zb9 vs us) (hl:us.length≤sizeLine) (h:∀ y,H y=none→X.s₀.heap.get? y=none→sp (.ref y::vs) (upd H y (zlT y C)) (fun v H2=>v=.non∧Q (.ref y) H2) E) :
  wpAny (model X.prog X.w) X.A (call (.ref C) us) (EP X pins σ Q) X.xe s:=by
 obtain ⟨hh,g,d,tk,os⟩:=s
 refine zpx I.kIn Z hl fun h1 y ey M=>?_
 have hy:hh.objs.size≤y:=by rw [ey];exact Nat.le_succ _
 obtain ⟨t0,gy,_,_⟩:=M.there
 have I2:=I.laidAt (a:=y) (o:=zlT y C) M.keeps hy ⟨⟨_,t0,gy,rfl,rfl,rfl⟩,⟨_,gy⟩,fun _ _ ⟨o,t0,e,r⟩ k=>⟨o,t0,k o e,r⟩⟩
 have hq:=h y (I.hok.fresh hy) (Heap.get?_none_of_le (Nat.le_trans I.sz hy))
 have r2:zb9 (V.ref y::vs) (Value.ref y::us):=.cons rfl r
 have hl2:(Value.ref y::us++[]).length=ps.length:=by
  rw [List.append_nil,← r2.length]
  exact F.len _ _ _ _ hq
 have B:=hb _ (Value.ref y::us) I2.kIn hl2
 rw [List.append_nil] at B
 refine wpAny_call (codeAny_mono (F.run _ X.stack _ _ ⟨Value.ref y::us,[]⟩ (Value.ref y::us) _ _ E (hr.make C us []) (I2.env0.make C us []) B r2 hq) fun res s' hq'=>?_)
 cases res with
 | error e=>exact hx pins σ _ _ e s' I2 hq'
 | ok fl =>
  cases fl with
  | ret u =>
   obtain ⟨v,H',I3,rv,ev,q3⟩:=I2.after hq'
   subst ev
   exact ⟨rv,⟨V.ref y,H',I3,rfl,q3⟩⟩
  | next=>exact False.elim hq'
  | brk=>exact False.elim hq'
  | cont=>exact False.elim hq'
end
def CXV (P:Program) (w:World):CXT:=fun outer H s E e s'=>∃ (ea:Addr) (B:Heap) (cls a0:Value) (H':Hp) (od:Option Addr),e=.ref ea∧znL P w outer H s (fun c _ H'=>E c od H') ea s' B cls a0 H'∧zhW ea od s'.heap
def zeA (H:Hp) (x:Addr):Hp:=fun b=>if b=x then none else H b
theorem zbp {H:Hp} {x b:Addr} (h:b≠x):zeA H x b=H b:=if_neg h
theorem zdP {H:Hp} {x:Addr}:zeA H x x=none:=if_pos rfl
theorem zhy {H:Hp} {x b:Addr} {u:HO} (h:zeA H x b=some u):b≠x∧H b=some u:=by
 unfold zeA at h
 split at h
 ·cases h
 ·rename_i n
  exact ⟨n,h⟩
section
variable {P:Program} {w:World} {K:PySem.W.Frag} {mg:Str→Option Value} {base:Heap} {N:List Str} {qual:Str} {scope:Scope} {f:Addr} {cd:Value} {A:Around} {outer:List Env} {s₀:Shared} {H₀:Hp} {E:XK}
theorem passV:zfO (CXV P w) (zlK (CXV P w) P w K mg base N qual scope f cd A outer s₀ H₀ E) E:=by
 intro pins σ H s e s' I h
 obtain ⟨ea,B,cls,a0,H',od,rfl,x,dd⟩:=h
 have hfr:=I.ok.frames
 have ff:=x.fly.2.2.1
 refine zhw (zgx _ _) dd (wpAny_leaves_onW (base:=B) (L:=s₀.heap.objs.size) hfr rfl x.fly fun h' fl sm dd'=>?_)
 obtain ⟨un2,hok2⟩:=x.later fl.1 sm ff
 have neL:∀ b o,s₀.heap.get? b=some o→b≠s₀.heap.objs.size:=fun b o e=>Nat.ne_of_lt (Heap.lt_size e)
 have notin:∀ b o,s₀.heap.get? b=some o→b∉frs outer→b∉frs (envOfC qual scope s₀.heap.objs.size f cd::outer):=fun b o e hb z=>by
  rcases List.mem_cons.mp (I.stkSub b z) with q | q
  ·exact neL b o e q
  ·exact hb q
 have un:Un (frs outer) [] H₀ H' s₀.heap h':=by
  refine ⟨fun b o e n hb hx=>?_,fun b o e n hb hx=>?_,fun b o e n hx=>?_,fun b o e hx=>?_,fun b xs e=>x.un.tups b xs (I.base.tups b xs e),fun b o u e=>x.un.frzs b o u (I.base.frzs b o u e),fun b ps e=>?_⟩
  ·exact un2.keep b o (I.base.keep b o e n hb hx) (I.base.free b o e n hx) (notin b o e hb) (by simp)
  ·obtain ⟨sl,e1⟩:=I.base.slot b o e n hb hx
   obtain ⟨sl',e2⟩:=un2.any e1 (I.base.free b o e n hx) (by simp)
   exact ⟨sl',e2⟩
  ·obtain ⟨o',e1⟩:=I.base.there b o e hx
   exact x.un.free b o' e1 (I.base.free b o e n hx) (by simp)
  ·obtain ⟨o',e1⟩:=I.base.there b o e hx
   exact un2.there b o' e1 (by simp)
  ·obtain ⟨m1,e1⟩:=I.base.tbls b ps e
   obtain ⟨m2,e2⟩:=x.un.tbls b _ e1
   exact ⟨m1++m2,by rw [e2,Array.append_assoc]⟩
 refine ⟨ea,B,cls,a0,H',od,rfl,⟨x.os.trans I.os,x.bare,un,x.hokB,fl,fun b o e n hb=>?_,fun b o e hb=>?_,?_,x.free,x.want⟩,dd'⟩
 ·exact x.cov b o (I.base.keep b o e n hb (by intro z;cases z)) (I.base.free b o e n (by intro z;cases z)) (notin b o e hb)
 ·obtain ⟨o',e1⟩:=I.base.there b o e (by intro z;cases z)
  exact x.covT b o' e1 (notin b o e hb)
 ·cases q:s₀.heap.get? ea with
  | none=>rfl
  | some o =>
   obtain ⟨o',e1⟩:=I.base.there ea o q (by intro z;cases z)
   rw [x.new] at e1
   cases e1
end
def zld (X:Cx) (E:XK):Prop:=∀ (pins:List (Addr×Obj)) (σ:St) (H:Hp) (s:Shared) (y C dx:Addr),Inv X pins σ H s→H y=some (zl8 y C dx)→X.s₀.heap.get? y=none→E (.ref C) (some dx) (zeA H y)→X.xe (.ref y) s
section
variable {P:Program} {w:World} {K:PySem.W.Frag} {mg:Str→Option Value} {base:Heap} {N:List Str} {qual:Str} {scope:Scope} {f:Addr} {cd:Value} {A:Around} {outer:List Env} {s₀:Shared} {H₀:Hp} {E:XK}
theorem ziL:zld (zlK (CXV P w) P w K mg base N qual scope f cd A outer s₀ H₀ E) E:=by
 intro pins σ H s y C dx I hy n0 q
 replace n0:s₀.heap.get? y=none:=n0
 obtain ⟨⟨oy,t0,gy,cy,dy,fy⟩,_⟩:=(I.hok y _ hy:zcg _ _ H s.heap y (zl8 y C dx))
 have hfr:=I.ok.frames
 have hst:s.heap.FunFrames base (envOfC qual scope s₀.heap.objs.size f cd::outer):=I.stack
 have fresh:∀ b∈frs (envOfC qual scope s₀.heap.objs.size f cd::outer),H b=none:=I.stkFree
 have yf:y∉frs (envOfC qual scope s₀.heap.objs.size f cd::outer):=fun z=>by rw [fresh y z] at hy;cases hy
 have inB:∀ b o,s.heap.get? b=some o→b≠y→b∉frs (envOfC qual scope s₀.heap.objs.size f cd::outer)→(PySem.W.hideAll s.heap (y::frs (envOfC qual scope s₀.heap.objs.size f cd::outer))).get? b=some o:=fun b o e ny n =>
  PySem.W.hideAll_get _ e (fun z=>(List.mem_cons.mp z).elim ny n)
 have st0:(PySem.W.hideAll s.heap (y::frs (envOfC qual scope s₀.heap.objs.size f cd::outer))).StaysIn s.heap:=fun b o q=>PySem.W.of_hideAll _ q
 have hl:s.heap.FunFrames (PySem.W.hideAll s.heap (y::frs (envOfC qual scope s₀.heap.objs.size f cd::outer))) (envOfC qual scope s₀.heap.objs.size f cd::outer) :=
  PySem.W.funFrames_hide hst fun env he a ha=>List.mem_cons_of_mem _ (List.mem_filterMap.mpr ⟨env,he,ha⟩)
 have yB:(PySem.W.hideAll s.heap (y::frs (envOfC qual scope s₀.heap.objs.size f cd::outer))).get? y=none:=PySem.W.hideAll_none _ List.mem_cons_self
 generalize PySem.W.hideAll s.heap (y::frs (envOfC qual scope s₀.heap.objs.size f cd::outer))=B at inB st0 hl yB
 refine zhw (zgx _ _) ⟨oy,gy,dy⟩ (wpAny_leaving_firstW (base:=B) (L:=s₀.heap.objs.size) (a0:=.ref t0) hfr hl rfl gy st0 yB fy rfl rfl fun h2 lf d2=>?_)
 obtain ⟨x1,⟨_,_,x2⟩,x3,x4⟩:=lf
 have neL:∀ b o,s₀.heap.get? b=some o→b≠s₀.heap.objs.size:=fun b o e=>Nat.ne_of_lt (Heap.lt_size e)
 have ney:∀ b o,s₀.heap.get? b=some o→b≠y:=fun b o e z=>by rw [z,n0] at e;cases e
 have notin:∀ b o,s₀.heap.get? b=some o→b∉frs outer→b∉frs (envOfC qual scope s₀.heap.objs.size f cd::outer):=fun b o e hb z=>by
  rcases List.mem_cons.mp (I.stkSub b z) with q | q
  ·exact neL b o e q
  ·exact hb q
 have slot:∀ b o,s.heap.get? b=some o→b∈frs outer→∃ sl,h2.get? b=some { o with slots:=sl }:=fun b o e hb=>by
  obtain ⟨_,o',e',nf⟩:=hl.2.2.mem hb
  rw [e] at e'
  cases e'
  exact x4 b o e nf
 have hokB:HOk P w (zeA H y) B:=fun b u e=>by
  obtain ⟨nb,e'⟩:=zhy e
  refine (I.hok b u e').stay (fun c v hc q=>inB c v q (fun z=>?_) fun z=>?_) (fun c q=>?_) fun c xs q=>?_
  ·rcases hc with r | r
   ·exact nb (r.symm.trans z)
   ·rw [z,hy] at r
    cases r
  ·rcases hc with r | r
   ·rw [r] at z
    rw [fresh b z] at e'
    cases e'
   ·rw [fresh c z] at r
    cases r
  ·rw [zbp fun z=>by rw [z,hy] at q;cases q]
   exact q
  ·rw [zbp fun z=>by rw [z,hy] at q;cases q]
   exact q
 have un:Un (frs outer) [] H₀ (zeA H y) s₀.heap h2:=by
  refine ⟨fun b o e n hb hx=>?_,fun b o e n hb hx=>?_,fun b o e n hx=>?_,fun b o e hx=>?_,fun b xs e=>?_,fun b o u e=>?_,fun b ps e=>?_⟩
  ·exact x1 b o (inB b o (I.base.keep b o e n hb hx) (ney b o e) (notin b o e hb))
  ·obtain ⟨sl,e1⟩:=I.base.slot b o e n hb hx
   obtain ⟨sl',e2⟩:=slot b _ e1 hb
   exact ⟨sl',e2⟩
  ·rw [zbp (ney b o e)]
   exact I.base.free b o e n hx
  ·obtain ⟨o',e1⟩:=I.base.there b o e hx
   by_cases hb:b∈frs outer
   ·obtain ⟨sl,e2⟩:=slot b o' e1 hb
    exact ⟨_,e2⟩
   ·exact ⟨o',x1 b o' (inB b o' e1 (ney b o e) (notin b o e hb))⟩
  ·have z:=I.base.tups b xs e
   rw [zbp fun q=>by rw [q,hy] at z;cases z]
   exact z
  ·have z:=I.base.frzs b o u e
   rw [zbp fun q=>by rw [q,hy] at z;cases z]
   exact z
  ·obtain ⟨m,z⟩:=I.base.tbls b ps e
   refine ⟨m,?_⟩
   rw [zbp fun q=>by rw [q,hy] at z;cases z]
   exact z
 rw [cy] at x3
 refine ⟨y,B,.ref C,.ref t0,zeA H y,some dx,rfl,⟨I.os,I.bare,un,hokB,⟨x1,yB,x2,x3⟩,fun b o e n hb=>?_,fun b o e hb=>?_,n0,zdP,q⟩,d2⟩
 ·exact inB b o (I.base.keep b o e n hb (by intro z;cases z)) (ney b o e) (notin b o e hb)
 ·obtain ⟨o',e1⟩:=I.base.there b o e (by intro z;cases z)
  exact ⟨o',inB b o' e1 (ney b o e) (notin b o e hb)⟩
end
section
variable {P:Program} {w:World} {K:PySem.W.Frag} {mg:Str→Option Value} {base:Heap} {N:List Str} {qual:Str} {scope:Scope} {f:Addr} {cd:Value} {A:Around} {outer:List Env} {s₀:Shared} {H₀:Hp} {E:XK}
end
section
variable {K:PySem.W.Frag} {prog:Program} {w:World} {A:Around} {E:Value→Shared→Prop} {s:Shared} {env:Env} {C fI:Addr}
theorem zla {xs:Sem Value} {Q:Flow→Shared→Prop} (Z:ExI K C fI) (hh:A.handled=none)
  (h:wpAny (model prog w) A xs (fun v s1=>∃ y o fs,v=.ref y∧K.In s1.heap∧s1.heap.get? y=some o∧o.cls=.ref C∧o.data=.fields fs∧fs[1]?=some .none∧E (.ref y) s1) E s):wpAny (model prog w) A (raiseStmt env (some xs) none) Q E s:=by
 obtain ⟨nm,q,N,bs,bm,sn,sub,ab,col,dd,k0,k1,k2,k3,k5,lk,tl⟩:=Z.lk
 unfold raiseStmt
 refine wpAny_bind (wpAny_mono h (fun v s1 z=>?_) fun _ _ z=>z)
 obtain ⟨y,o,fs,rfl,X,gy,cy,fy,f1,hE⟩:=z
 obtain ⟨hp,g,d,tk,os⟩:=s1
 have kC:=X _ _ lk
 have T:=PySem.W.tail_of_in X tl
 have cB:(Value.ref C::bm).contains (.type "BaseException")=true:=by rw [List.contains_cons,T.hasType PySem.F.excBase_ValueError.hasBase,Bool.or_true]
 obtain ⟨oc,od,odt,osl⟩:=o
 dsimp only at cy fy
 subst cy fy
 repeat (first | (with_reducible refine wpAny_loadPart_at gy ?_) | (with_reducible refine wpAny_loadPart_at kC ?_) | (with_reducible refine wpAny_isSubtype_exc kC ?_;rw [cB]) | wp_step)
 rw [f1]
 refine wpAny_pure ?_
 rw [if_neg (by decide)]
 exact wpAny_pure (wpAny_raiseNew_none hh hE)
end
def znk (C:Addr) (nm:Str):Sp:=fun vs H Q _=>∃ y v,vs=[.ref y,v]∧H y=some (zlT y C)∧∀ dx,H dx=none→dx≠y→Q .non (upd (upd H y (zl8 y C dx)) dx (.xd [(nm,v)]))
def zej (C:Addr) (nm:Str) (E:XK) (t:TA):TS:=fun _ σ H=>t σ H fun vs H1=>∃ v,vs=[v]∧∀ dx,H1 dx=none→E (.ref C) (some dx) (upd H1 dx (.xd [(nm,v)]))
theorem zlv {H:Hp} {y dx:Addr} {o u:HO} (h:H y=none) (n:dx≠y):zeA (upd (upd H y o) dx u) y=upd H dx u:=by
 funext b
 unfold zeA upd
 by_cases e:b=y
 ·rw [if_pos e,if_neg (by rw [e];exact n.symm),e,h]
 ·rw [if_neg e]
  by_cases e2:b=dx
  ·rw [if_pos e2,if_pos e2]
  ·rw [if_neg e2,if_neg e,if_neg e2]
theorem zfT {X:Cx} {CX:CXT} {k:Nat} {C f:Addr} {fd:FuncData} {ps:List Str} {nm x:Str} {E:XK} {np cpos pos:Pos} {e:Expr} {es:List Expr} {t:TA} (Z:ExI X.K C f) (F:zdD X.prog X.w X.K X.mg X.base CX k f fd ps (znk C nm)) (hr:ze3 (k+1) X.A) (hg:Gl X x) (hm:X.mg x=some (.ref C))
  (hb:zcq X.K fd ps []) (hx:zfO CX X E0) (hc:X.calm=true) (hT:zld X E) (ha:PA X (e::es) t) (hdb:(x == ("__debug__":Str))=false:=by decide) (he:starEach (e::es) X.env=(false,eval e X.env)::starEach es X.env:=by rfl) (hpl:(backTo cpos (starEach es X.env)).any (·.1)=false:=by rfl) :
  PS X (.Raise (some (.Call (.Name x np) (e::es) [] cpos)) none pos) (zej C nm E t):=by
 intro pins s σ H D I h
 rw [arm_exec_Raise]
 refine wpAny_bind (wpAny_standAt (zla Z (I.ok.hd hc) (wpAny_bind (wpAny_mono (Q:=fun v s1=>∃ y o fs,v=.ref y∧X.K.In s1.heap∧s1.heap.get? y=some o∧o.cls=.ref C∧o.data=.fields fs∧fs[1]?=some .none∧X.xe (.ref y) s1) ?_ (fun v s3 h3=>wpAny_bind (wpAny_standAt (wpAny_pure h3))) fun _ _ z=>z))))
 refine wpAny_Call_Name_kw (zeo I hg hm ?_ hdb)
 refine PySem.W.callWith_K (h₀:=X.base) I.ok.mod.kin Z.kp (thn (ha cpos pins s σ H _ I h) fun us s1 ⟨vs,H1,I1,r,v,e1,q⟩=>⟨I1.kIn,?_⟩) he hpl
 subst e1
 obtain ⟨u,rfl,ru⟩:=zfp r
 refine thn (zkt (Q:=fun z H2=>∃ y dx,z=.ref y∧X.s₀.heap.get? y=none∧H2 y=some (zl8 y C dx)∧E (.ref C) (some dx) (zeA H2 y)) Z F hr hb hx I1 r (by show 1≤sizeLine;decide) fun y hy n0=>?_) fun z s2 ⟨v2,H2,I2,rz,y,dx,ev,n0,hy,hE⟩=>?_
 ·refine ⟨y,v,rfl,zae,fun dx hd nd=>⟨rfl,y,dx,rfl,n0,?_,?_⟩⟩
  ·rw [zap nd.symm,zae]
  ·rw [zoA] 
   have hd1:H1 dx=none:=by rw [zap nd] at hd;exact hd
   rw [zlv hy nd]
   exact q dx hd1
 ·subst ev
  obtain rfl:z=Value.ref y:=rz
  obtain ⟨⟨oy,t0,gy,cy,dy,fy⟩,_⟩:=(I2.hok y _ hy:zcg X.prog X.w H2 s2.heap y (zl8 y C dx))
  exact ⟨y,oy,_,rfl,I2.kIn,gy,cy,fy,rfl,hT pins σ H2 s2 y C dx I2 hy n0 hE⟩
theorem Fun.okV {P:Program} {w:World} {K:PySem.W.Frag} {mg:Str→Option Value} {base:Heap} {x qual:Str} {st:Stmt} {f:Addr} {fd:FuncData} {N ps:List Str} {k:Nat} {sp:Sp} (F:Fun K x qual st f fd) (S:zbo N ps (zaI st)) (len:∀ vs H Q E,sp vs H Q E→vs.length=ps.length)
  (hbody:∀ (cdv:Value) (A:Around) (outer:List Env) (s:Shared) (H:Hp) (vs:List V) (Q:VK) (E:XK),ze3 k (A.deeper (envOfC qual (zaI st) s.heap.objs.size f cdv))→sp vs H Q E →
   ∃ t,PSs (zlK (CXV P w) P w K mg base N qual (zaI st) f cdv A outer s H E) (zcx st) t∧t { nx:=fun _ H'=>Q .non H',rt:=Q } (L2.zci N vs) H):zdD P w K mg base (CXV P w) (k+1) f fd ps sp:=by
 obtain ⟨oc,od,kV,doc,pm,an,cdv,ct,osl,rfl,lk,hcd⟩:=F.ex
 exact zou lk hcd S len fun A outer s H vs Q E hr hsp=>hbody cdv A outer s H vs Q E hr hsp
def zjl (a:Addr) (c:Value) (od:Option Addr) (h:Heap):Prop:=∃ oe vs,h.get? a=some oe∧oe.cls=c∧oe.data=.fields vs∧oe.dict=od
def zfr (a:Addr) (c:Value) (od:Option Addr):HO:=.ext (zjl a c od)
theorem zjl.is {a:Addr} {c:Value} {od:Option Addr} {h:Heap} (x:zjl a c od h):zoz a c h:=let ⟨oe,vs,e1,e2,e3,_⟩:=x;⟨oe,vs,e1,e2,e3⟩
def znB (K:PySem.W.Frag) (tb:(St→XK)→TS) (D:Value) (i:Nat) (th:TS):TS:=fun d σ H =>
 tb (fun σ' c od H'=>zgr K c∧PySem.W.subIn K c D=some true∧∀ a,H' a=none→th { d with nx:=fun σ2 H2=>d.nx (σ2.set i none) H2,bk:=fun σ2 H2=>d.bk (σ2.set i none) H2,ct:=fun σ2 H2=>d.ct (σ2.set i none) H2 } (σ'.set i (some (.ref a))) (upd H' a (zfr a c od))) d σ H
def Cx.inTryV (X:Cx) (pins:List (Addr×Obj)) (E:St→XK):Cx:={ X with
 pn:=X.pn++pins
 xe:=fun e s'=>∃ pins' σ H s,Inv { X with pn:=X.pn++pins } pins' σ H s∧CXV X.prog X.w X.stack H s (E σ) e s' }
theorem Inv.toTryV {X:Cx} {pins:List (Addr×Obj)} {σ:St} {H:Hp} {s:Shared} (I:Inv X pins σ H s) (E:St→XK):Inv (X.inTryV pins E) [] σ H s :=
 ⟨I.ok.pinned _ _,I.os,I.bare,I.base,I.loc,I.cell,I.free,I.freeC,fun p hp=>I.pin p (by rw [List.append_nil] at hp;exact hp),I.hok,I.len⟩
theorem zpZ {X:Cx} {pins:List (Addr×Obj)} {E:St→XK}:zkA (CXV X.prog X.w) (X.inTryV pins E) E:=fun pins' σ H s e s' I h =>
 ⟨pins',σ,H,s,⟨I.ok.pinned _ _,I.os,I.bare,I.base,I.loc,I.cell,I.free,I.freeC,I.pin,I.hok,I.len⟩,h⟩
theorem SP.ofTryV {X:Cx} {pins pins':List (Addr×Obj)} {E:St→XK} {D:zcd} {f:Flow} {s':Shared} (ok:X.Ok) (h:SP (X.inTryV pins E) pins' D f s'):SP X pins D f s':=by
 cases f with
 | next=>obtain ⟨σ',H',I,q⟩:=h;exact ⟨σ',H',I.ofTry ok,q⟩
 | brk=>obtain ⟨σ',H',I,q⟩:=h;exact ⟨σ',H',I.ofTry ok,q⟩
 | cont=>obtain ⟨σ',H',I,q⟩:=h;exact ⟨σ',H',I.ofTry ok,q⟩
 | ret u=>obtain ⟨v,σ',H',I,r,q⟩:=h;exact ⟨v,σ',H',I.ofTry ok,r,q⟩
theorem zoD {X:Cx} {i:Nat} {D:Addr} {x n:Str} {np pos hpos:Pos} {body:List Stmt} {b₀:Stmt} {suite:List Stmt} {tb:(St→XK)→TS} {th:TS} (hm:X.mg x=some (.ref D)) (hq:PySem.W.excIn X.K D zfs "ValueError.__new__"=true)
  (hg:Gl X x) (hN:X.N.Nodup) (hi:X.N[i]?=some n) (hl:X.env.scope.names.lookup n=some .local) (hxe:X.xe=fun _ _=>False) (hst:X.stack=X.env::X.outer) (hfr:X.env.frame=some X.env.locals) (hex:X.ex=[])
  (hb:∀ pins E,PSs (X.inTryV pins E) body (tb E)) (hh:∀ ea,PSs (X.inExc ea) (b₀::suite) th) (hd:(x == ("__debug__":Str))=false:=by decide) :
  PS X (.Try body [.ExceptHandler (some (.Name x np)) (some n) (b₀::suite) hpos] [] [] pos) (znB X.K tb (.ref D) i th):=by
 intro pins s σ H d I h
 refine wpAny_Try_except (wpAny_mono (hb pins _ [] s σ H d (I.toTryV _) h) (fun f s₁ q=>?_) fun e s₁ q=>?_)
 ·have q':=SP.ofTryV I.ok q
  cases f with
  | next=>exact wpAny_execs_nil q'
  | brk=>exact q'
  | cont=>exact q'
  | ret u=>exact q'
 obtain ⟨pins',σ',H1,s1,I1,ea,B,cls,a0,H',od,rfl,x,dd⟩:=q
 replace I1:Inv X pins σ' H1 s1:=Inv.ofTry (xe:=X.xe) I1 I.ok
 obtain ⟨hec,hsub,hth⟩:=x.want
 have fly:=x.fly
 rw [hst] at fly
 have ff:=x.fly.2.2.1
 have hfrm:X.A.frames=some (X.env::X.outer):=by rw [← hst];exact I.ok.frames
 refine zhw (zfi _ _) dd (wpAny_looks_onW (base:=B) (L:=X.env.locals) hfrm hfr fly fun h4 hd4 sm4 d4=>?_)
 refine zhw (zdC _ _) d4 (wpAny_landsW hd4 fun h5 fl5 sm5 d5=>?_)
 have invAt:∀ {h:Heap} {tk:Nat},B.StaysIn h→s₁.heap.UpToSlots h→Inv X pins σ' H' { s₁ with heap:=h,toks:=tk }:=fun {h tk} st sm=>by
  obtain ⟨un,hok⟩:=x.later st sm ff
  exact I1.call' (ch:=[]) x.os un hok x.bare fun b z=>nomatch z
 have I5:Inv X pins σ' H' { s₁ with heap:=h5 }:=invAt (tk:=s₁.toks) fl5.1 (sm4.trans sm5)
 have fmark:(X.A.mark (some (.ref ea))).frames=some X.stack:=I.ok.frames
 refine wpAny_handleBy_cons (codeAny_handlers_test ?_) (by intro q;cases q)
 refine zeo (X:=X.inExc ea) (I5.toExc fmark) hg hm ?_ hd
 have kin5:=I5.kIn
 obtain ⟨oe,hoe,hcls⟩:=fl5.there
 refine zgk (cls:=cls) hoe hcls (zk5 kin5 hq) (PySem.W.looks_subIn kin5 hsub) ?_
 refine codeAny_handlers_suite_as ?_
 refine zhw (zdC _ _) d5 (lands_againW fl5 fun h6 fl6 sm6 d6=>?_)
 have I6:Inv X pins σ' H' { s₁ with heap:=h6 }:=invAt (tk:=s₁.toks) fl6.1 ((sm4.trans sm5).trans sm6)
 have noat:∀ b o,s1.heap.get? b=some o→b≠ea:=fun b o e z=>by rw [z,x.new] at e;cases e
 have n0:X.s₀.heap.get? ea=none:=by
  cases q:X.s₀.heap.get? ea with
  | none=>rfl
  | some o =>
   obtain ⟨o',e1⟩:=I1.base.there ea o q (by rw [hex];intro z;cases z)
   exact absurd rfl (noat ea o' e1)
 have nL:ea≠X.env.locals:=by
  obtain ⟨m,⟨o,_,_,e,_⟩,_⟩:=I1.loc
  exact (noat _ o e).symm
 have nC:∀ y c,X.env.cells.lookup y=some c→c≠ea:=fun y c e=>by
  obtain ⟨v,z⟩:=I1.cell y c e
  obtain ⟨o,e1,_⟩:=z
  exact noat c o e1
 have nP:∀ p∈X.pn++pins,p.1≠ea:=fun p hp=>noat _ _ (I1.pin p hp).1
 have isx:zjl ea cls od h6:=by
  obtain ⟨_,_,_,oe,vs,_,_,_,he,hc,hd,_⟩:=fl6
  obtain ⟨o',e',ed⟩:=d6
  rw [he] at e'
  cases e'
  exact ⟨oe,vs,he,hc.1,hd,ed⟩
 have I7:=I6.track (o:=zfr ea cls od) x.free n0 nL nC nP ⟨isx,by obtain ⟨oe,_,he,_⟩:=isx;exact ⟨oe,he⟩,fun h1 h2 ⟨oe,vs,he,r⟩ k=>⟨oe,vs,k oe he,r⟩⟩
 refine zhh (X:=X.inExc ea) (v:=.ref ea) (I7.toExc fmark) hN hi (.inl hl) rfl (fun s8 I8=>?_) (.inr hl)
 refine wpAny_mono (hh ea pins s8 _ _ _ I8 (hth ea x.free)) (fun f s9 q=>?_) fun e s9 q=>?_
 ·cases f with
  | next =>
   obtain ⟨σ9,H9,I9,r⟩:=q
   exact zg6 (I9.ofExc I.ok) hN hi hl fun s10 I10=>⟨_,_,I10,r⟩
  | brk =>
   obtain ⟨σ9,H9,I9,r⟩:=q
   exact zg6 (I9.ofExc I.ok) hN hi hl fun s10 I10=>⟨_,_,I10,r⟩
  | cont =>
   obtain ⟨σ9,H9,I9,r⟩:=q
   exact zg6 (I9.ofExc I.ok) hN hi hl fun s10 I10=>⟨_,_,I10,r⟩
  | ret u =>
   obtain ⟨v,σ9,H9,I9,rv,r⟩:=q
   exact zg6 (I9.ofExc I.ok) hN hi hl fun s10 I10=>⟨v,_,_,I10,rv,r⟩
 ·rw [show (X.inExc ea).xe=X.xe from rfl,hxe] at q
  exact q.elim
section
open Builtin Builtin.ObjectAttr PySem.W
variable {K:PySem.W.Frag} {prog:Program} {w:World} {A:Around} {E:Value→Shared→Prop} {h:Heap} {g:Array GenState} {d:Drawn} {t:Nat} {os:OsState} {a C dx:Addr}
theorem zhI {f:Str} {tk:Tok} {v:Value} {o:Obj} {od:Option Obj} {Q:Fin→Shared→Prop} (X:K.In h) (J:PySem.W.InstAt h a o C od) (hf:PySem.W.findObj K C od f=some (.value v)) (hq:Q (.done (.ret v)) ⟨h,g,d,t,os⟩) :
  wpAny (model prog w) A (Builtin.«object.__getattribute__» ⟨[.ref a,.str f tk],[]⟩) Q E ⟨h,g,d,t,os⟩:=by
 have L0:=J.type (M:=model prog w)
 have L1:=PySem.W.looks_find (M:=model prog w) X J hf
 refine wpAny_bind (wpAny_pure (wpAny_bind (wpAny_pure (wpAny_bind (L0.at (wpAny_bind (L1.at ?_)))))))
 exact wpAny_pure hq
theorem zpe {f:Str} {v:Value} {b:Bool} {o:Obj} {od:Option Obj} {Q:Value→Shared→Prop} (X:K.In h) (Z:zcH K C) (J:PySem.W.InstAt h a o C od) (hf:PySem.W.findObj K C od f=some (.value v)) (hv:PySem.W.handedIn v=true) (hq:Q v ⟨h,g,d,t+1,os⟩) :
  wpAny (model prog w) A (getAttr (.ref a) f b) Q E ⟨h,g,d,t,os⟩:=by
 have FB:=PySem.F.attrBase_ValueError
 have LG:=PySem.W.looks_findIn (M:=model prog w) X Z.ga
 have LN:=PySem.W.looks_findIn (M:=model prog w) X Z.gn
 have hx:=J.at_
 have hc:=J.cls
 have f3:=FB.ga.bind (.ref a)
 have n2:(Value.builtin "BaseException.__getattribute__" == Value.builtin "object.__getattribute__")=false:=by decide +kernel
 have n1:(onTheHeap (Value.ref C)&&(Value.builtin "BaseException.__getattribute__" == Value.builtin "object.__getattribute__"))=false:=by rw [n2];rfl
 unfold getAttr
 repeat (any_goals (first | assumption | (with_reducible refine wpAny_loadPart_at hx ?_;rw [hc]) | with_reducible refine LG.at ?_ | with_reducible refine LN.at ?_ | wp_step))
 rw [show (b&&onTheHeap (Value.builtin "BaseException.__getattribute__"))=false from Bool.and_false _,if_neg Bool.false_ne_true]
 repeat (any_goals (first | assumption | wp_step))
 refine codeAny_call_builtin FB.ga.plain F.entry_bexc_ga (zfm X Z hx hc (zhI X J hf ?_))
 show wpAny _ _ (handedOut v) _ _ _
 rw [PySem.W.handedOut_of hv]
 exact wpAny_pure hq
end
structure zjd (K:PySem.W.Frag) (C:Addr) (f:Str):Prop where
 five:zcH K C
 hd:PySem.W.hasDictIn K C=true
 na:PySem.W.findIn K (.ref C) f=some none
def zjV (K:PySem.W.Frag) (ta:TE) (f:Str):TE:=fun σ H Q=>ta σ H fun x H1=>∃ a C dx fs v,x=.ref a∧H1 a=some (zfr a (.ref C) (some dx))∧H1 dx=some (.xd fs)∧zjd K C f∧fs.lookup f=some v∧Q v H1
def zbM (K:PySem.W.Frag):List V→Hp→VK→Prop:=fun xs H Q=>∃ a c cv od dv b,xs=[.ref a,c]∧clsV c=some dv∧H a=some (zfr a cv od)∧zgr K cv∧PySem.W.kitOne K cv dv=some b∧Q (.bl b) H
section
variable {X:Cx} {e:Expr} {f:Str} {pos:Pos} {ta:TE}
theorem zlm (he:PE X e ta) (hb:attributeBase e f X.env (eval e X.env)=eval e X.env):PE X (.Attribute e f pos) (zjV X.K ta f):=by
 intro pins s σ H Q I h
 refine znH hb (thn (he pins s σ H _ I h) fun u s1 hQ'=>?_)
 obtain ⟨x,H1,I1,rx,a,C,dx,fs,v,ex,ea,ed,Z,l,q⟩:=hQ'
 subst ex
 obtain rfl:u=Value.ref a:=rx
 obtain ⟨⟨oe,vs,ge,ce,fe,de⟩,_⟩:=(I1.hok a _ ea:zcg X.prog X.w H1 s1.heap a (zfr a (.ref C) (some dx)))
 obtain ⟨mA,ns,r⟩:=(I1.hok dx _ ed:zcg X.prog X.w H1 s1.heap dx (.xd fs))
 obtain ⟨u,hu,ru⟩:=znz.some_of (v:=v) (o:=mA f) (by rw [← l];exact r f)
 obtain ⟨oD,gD,lD⟩:=zhG ns
 have J:PySem.W.InstAt s1.heap a oe C (some oD):=⟨ge,ce,by unfold PySem.W.notCls;rw [fe],by rw [de];exact gD⟩
 have I2:=I1.tok (s1.toks+1)
 obtain ⟨hh,g,d,t,os⟩:=s1
 exact zpe I1.kIn Z.five J (PySem.W.findObj_own Z.hd Z.na rfl (by rw [lD,hu])) (zlf ru) ⟨v,H1,I2,ru,q⟩
theorem zaP:zeR X (.builtin "isinstance") (zbM X.K):=by
 intro pins s σ H xs us Q I r h
 obtain ⟨a,c,cv,od,dv,b,rfl,hc,ha,k,e,q⟩:=h
 obtain ⟨u,w',rfl,rx,rw'⟩:=zkF r
 obtain rfl:=zjj rw' hc
 cases (show u=Value.ref a from rx)
 obtain ⟨p,_,_⟩:=(show zcg X.prog X.w H s.heap a (zfr a cv od) from I.hok a _ ha)
 exact PySem.W.kia_one (k.kit a) I.kIn p.is e (fun z=>nomatch z) fun tk=>⟨.bl b,H,I.tok tk,rfl,q⟩
end
theorem zjZ {K:PySem.W.Frag} {C fI:Addr} (Z:zcH K C) (ZI:ExI K C fI):zgr K (.ref C):=by
 obtain ⟨nm,q,N,bs,bm,sn,sub,ab,col,dd,k0,k1,k2,k3,k5,lk,tl⟩:=ZI.lk
 exact ⟨fun x=>{
  ty:=fun M h _ p=>by
   obtain ⟨oe,vs,e,c,_⟩:=p
   exact c ▸ (PySem.W.Looks.ld e).andThen .now
  it:=fun M h X _=>by
   have hC:=X _ _ lk
   intro A' Q' E' s' k q
   unfold isType loadHead
   exact wpAny_bind (wpAny_loadPart (k _ _ hC) (wpAny_pure q))
  ne:=fun h tp dd its n sl X htp=>by
   have hC:=X _ _ lk
   refine Bool.eq_false_iff.mpr fun q=>?_
   have e:C=tp:=Value.ref.inj (beq_iff_eq.mp q)
   subst e
   rw [hC] at htp
   have z:=congrArg Obj.data (Option.some.inj htp)
   exact nomatch z
  ca:=fun {prog w A E Q s} X p q=>by
   obtain ⟨h,g,d,t,os⟩:=s
   obtain ⟨oe,vs,e,c,_⟩:=p
   exact ziG X Z PySem.F.attrBase_ValueError e c q }⟩
theorem znN {K:PySem.W.Frag} {C fI:Addr} {nm:Str} {H:Hp} {Q:VK} {y:Addr} {v:V} (Z:ExI K C fI) (na:PySem.W.findIn K (.ref C) nm=some none) (hy:H y=some (zlT y C)) (q:∀ dx,H dx=none→dx≠y→Q .non (upd (upd H y (zl8 y C dx)) dx (.xd [(nm,v)]))) :
  (zaV (zdZ (tBI K (zab (zac 0) (zab (zac 1) zaE)))) (zn5 K (zac 0) (zac 1) nm)) { nx:=fun _ H'=>Q .non H',rt:=Q } [some (.ref y),some v] H:=by
 simp only [zaV,zdZ,tBI,zab,zaE,zac,zn5,List.getElem?_cons_zero,List.getElem?_cons_succ,Option.some.injEq,exists_eq_left']
 exact ⟨y,v,C,rfl,hy,⟨_,Z⟩,y,C,rfl,hy,⟨_,Z⟩,na,q⟩
def zoI:Stmt→List Stmt
 | .ClassDef _ _ _ b _ _ _ _ _ _ _=>b
 | _=>[]
theorem vlst2 {us:List Value} (h:us.length=2):∃ x y,us=[x,y]:=match us,h with | [x,y],_=>⟨x,y,rfl⟩
end L2
namespace L2
open PySem
def ItzT (K:PySem.W.Frag) (p q:Addr):It where
 go:=fun i H=>∃ xs ys a b,SqT K H p xs∧SqT K H q ys∧xs[i]?=some a∧ys[i]?=some b
 yld:=fun i H x H'=>∃ t a b,x=.ref t∧H t=none∧H'=upd H t (.tup [a,b])∧(∀ xs,SqT K H p xs→xs[i]?=some a)∧∀ ys,SqT K H q ys→ys[i]?=some b
 stop:=fun i H=>∃ xs ys,SqT K H p xs∧SqT K H q ys∧i=min xs.length ys.length
def zmk (K:PySem.W.Frag) (ta:TA):TI:=fun σ H R=>ta σ H fun vs H1=>∃ p q,vs=[.ref p,.ref q]∧(((∃ xs,SqL K H1 p xs)∧(∃ ys,SqL K H1 q ys)∧R (Itz K p q) H1)∨((∃ xs,SqT K H1 p xs)∧(∃ ys,SqT K H1 q ys)∧R (ItzT K p q) H1))
theorem zks {K:PySem.W.Frag} {p q:Addr} {xs ys:List V} {g:TG} {tb:TS} {D:zcd} {σ:St} {H:Hp} (Pv:Nat→St→Hp→Prop) (h0:Pv 0 σ H) (hl:∀ i σ H,i≤min xs.length ys.length→Pv i σ H→SqT K H p xs∧SqT K H q ys)
  (hs:∀ i x y t σ H,xs[i]?=some x→ys[i]?=some y→Pv i σ H→H t=none→g (.ref t) σ (upd H t (.tup [x,y])) fun σ2 H2=>tb { D with nx:=Pv (i+1),ct:=Pv (i+1),bk:=D.nx } σ2 H2) (hd:∀ σ H,Pv (min xs.length ys.length) σ H→D.nx σ H):zjM (ItzT K p q) g tb D σ H:=by
 refine ⟨fun i m σ H=>m=min xs.length ys.length - i∧i≤min xs.length ys.length∧Pv i σ H,⟨_,rfl,Nat.zero_le _,h0⟩,?_⟩
 rintro i m σ H ⟨rfl,hi,pv⟩
 obtain ⟨hx,hy⟩:=hl i σ H hi pv
 by_cases hlt:i<min xs.length ys.length
 ·have l1:i<xs.length:=by (first|lia|omega)
  have l2:i<ys.length:=by (first|lia|omega)
  refine .inr ⟨⟨xs,ys,xs[i],ys[i],hx,hy,by simp [l1],by simp [l2]⟩,Pv (i+1),fun σ' H' p'=>⟨_,by (first|lia|omega),rfl,hlt,p'⟩,fun x H' yl=>?_⟩
  obtain ⟨t,a,b,rfl,ht,rfl,e1,e2⟩:=yl
  exact hs i a b t σ H (e1 xs hx) (e2 ys hy) pv ht
 ·have e:i=min xs.length ys.length:=by (first|lia|omega)
  subst e
  exact .inl ⟨⟨xs,ys,hx,hy,rfl⟩,hd σ H pv⟩
end L2
namespace L2.Srt
open PySem PyProof.Rows PySem.W
section
variable {prog:Program} {w:World} {A:Around} {E:Value→Shared→Prop} {s:Shared}
end
end L2.Srt
namespace L2
open PySem PySem.Spec PyProof.Rows
section
variable {X:Cx}
end
end L2
namespace L2.Srt
open PySem PyProof.Rows PySem.W
section
variable {prog:Program} {w:World} {A:Around} {E:Value→Shared→Prop} {s:Shared} {I l:Addr} {its:Array Value}
end
end L2.Srt
namespace L2
open PySem PySem.Spec PyProof.Rows
section
variable {X:Cx} {e:Expr} {t:TA} {p1 p2 pos1 pos2:Pos}
end
end L2
namespace L2.Zt
open PySem PySem.Spec PyProof.Rows
section
variable {P:Program} {w:World} {A:Around} {E:Value→Shared→Prop} {s:Shared}
theorem zlX {h h':Heap} {a t:Addr} {i:Nat} (x:h.IsTupleIter a t i) (k:∀ o,h.get? a=some o→h'.get? a=some o):h'.IsTupleIter a t i :=
 let ⟨o,e,r⟩:=x;⟨o,k o e,r⟩
theorem zfA {c t:Addr} {i:Nat} {us:Array Value} {u:Value} {R:Value→Shared→Prop} (n:s.heap.IsTupleIter c t i) (m:s.heap.IsTuple t us) (e:us[i]?=some u)
  (q:∀ h',h'.IsTupleIter c t (i+1)→Heap.SameBut c s.heap h'→R u { s with heap:=h' }):wpAny (model P w) A (Builtin.SmallTypes.nextOf (.ref c)) R E s:=by
 obtain ⟨oc,g1,g2,g3⟩:=id n
 obtain ⟨ot,f1,_,nt,f3⟩:=m
 unfold Builtin.SmallTypes.nextOf
 refine wpAny_bind (wpAny_callSpecial?_slot (name:=Str.ofString "__next__") n.typeIs F.slot_tuple_iterator_next (wpAny_call_entry F.slot_tuple_iterator_next n.typeIs F.entry_tuple_iterator_next ?_ (F.args_tuple_iterator_next_1 _)))
 show wpAny _ _ (field (.ref c) 0 >>= _) _ _ s;refine wpAny_bind (wpAny_field g1 g3 (x:=.ref t) rfl ?_)
 show wpAny _ _ (if (Value.ref t == Value.none)=true then _ else _) _ _ s;rw [if_neg (show ¬ ((Value.ref t == Value.none)=true) from Bool.false_ne_true)]
 show wpAny _ _ (field (.ref c) 1 >>= _) _ _ s;refine wpAny_bind (wpAny_field g1 g3 (x:=.int i 0) rfl ?_)
 show wpAny _ _ (seqItems? (.ref t) >>= _) _ _ s;refine wpAny_bind (wpAny_seqItems f1 f3 ?_)
 simp only [Int.toNat_natCast,e]
 refine wpAny_bind (wpAny_setField g1 g3 (by simp) (wpAny_pure ⟨u,rfl,wpAny_pure (q _ ?_ (Heap.SameBut.update ..))⟩))
 exact ⟨_,Heap.get?_update_self _ g1 (Obj.isFreed_of_fields (Obj.data_mapFields g3 _)),(Obj.cls_mapFields ..).trans g2,by rw [Obj.data_mapFields g3];simp [rawInt]⟩
theorem zjF {c t:Addr} {i:Nat} {us:Array Value} {R:Value→Shared→Prop} (hh:A.handled=none) (n:s.heap.IsTupleIter c t i) (m:s.heap.IsTuple t us) (e:us[i]?=none)
  (q:∀ h' x,Heap.ExtBut c s.heap h'→(∃ o,h'.get? x=some o∧o.cls=.type "StopIteration")→E (.ref x) { s with heap:=h' }):wpAny (model P w) A (Builtin.SmallTypes.nextOf (.ref c)) R E s:=by
 obtain ⟨oc,g1,g2,g3⟩:=id n
 obtain ⟨ot,f1,_,nt,f3⟩:=m
 unfold Builtin.SmallTypes.nextOf
 refine wpAny_bind (wpAny_callSpecial?_slot (name:=Str.ofString "__next__") n.typeIs F.slot_tuple_iterator_next (wpAny_call_entry F.slot_tuple_iterator_next n.typeIs F.entry_tuple_iterator_next ?_ (F.args_tuple_iterator_next_1 _)))
 show wpAny _ _ (field (.ref c) 0 >>= _) _ _ s;refine wpAny_bind (wpAny_field g1 g3 (x:=.ref t) rfl ?_)
 show wpAny _ _ (if (Value.ref t == Value.none)=true then _ else _) _ _ s;rw [if_neg (show ¬ ((Value.ref t == Value.none)=true) from Bool.false_ne_true)]
 show wpAny _ _ (field (.ref c) 1 >>= _) _ _ s;refine wpAny_bind (wpAny_field g1 g3 (x:=.int i 0) rfl ?_)
 show wpAny _ _ (seqItems? (.ref t) >>= _) _ _ s;refine wpAny_bind (wpAny_seqItems f1 f3 ?_)
 simp only [Int.toNat_natCast,e]
 refine wpAny_bind (wpAny_rule (wpAny_bind (wpAny_setField g1 g3 (by simp) ?_)));show wpAny _ _ (newExc (.type "StopIteration") [] >>= _) _ _ _
 refine wpAny_bind ?_;simp only [newExc,newTuple]
 refine wpAny_bind (wpAny_newObj_type ?_ (by size_fits));refine wpAny_bind (m:=firstArgMember _ _) (wpAny_of_eq (a:=Value.none) (by first | rfl | (simp only [firstArgMember];rfl)) ?_)
 refine wpAny_newObj_type ?_ (by size_fits);simp only [raiseNew];refine wpAny_bind (wpAny_handled ?_)
 first | rw [show A.in1.handled=none from hh] | rw [hh]
 refine wpAny_bind (wpAny_pure (wpAny_throw (q _ _ (((Heap.SameBut.update ..).extBut.push _).push _) ⟨_,Heap.get?_push_size _ rfl,rfl⟩)))
theorem zpv {z TI TO i1 i2 l1 l2:Addr} {k:Nat} {xs ys:Array Value} {x y a b:Value} {R:Value→Shared→Prop} (D:ZipApart z TI TO i1 i2 l1 l2)
  (gz:IsZip s.heap z TI TO .none) (gI:IsPair s.heap TI (.ref i1) (.ref i2)) (gO:IsPair s.heap TO a b)
  (n1:s.heap.IsTupleIter i1 l1 k) (n2:s.heap.IsTupleIter i2 l2 k) (m1:s.heap.IsTuple l1 xs) (m2:s.heap.IsTuple l2 ys) (ex:xs[k]?=some x) (ey:ys[k]?=some y)
  (q:∀ h',IsZip h' z TI TO (rawInt s.heap.objs.size)→IsPair h' TO x y→h'.IsTupleIter i1 l1 (k+1)→h'.IsTupleIter i2 l2 (k+1)→IsPair h' s.heap.objs.size x y →
   (∀ t o,t∉[z,TO,i1,i2]→s.heap.get? t=some o→h'.get? t=some o)→R (.ref s.heap.objs.size) { s with heap:=h' }) :
  wpAny (model P w) A (Builtin.«zip.__next__» ⟨[.ref z],[]⟩) (fun fin s'=>∃ v,fin=.done (.ret v)∧R v s') E s:=by
 show wpAny _ _ (field (.ref z) 2 >>= _) _ _ _;refine wpAny_bind (wpAny_field gz rfl (x:=.bool false) rfl ?_);show wpAny _ _ (field (.ref z) 3 >>= _) _ _ _
 refine wpAny_bind (wpAny_field gz rfl (x:=.ref TI) rfl ?_)
 refine wpAny_bind (wpAny_seqItems gI rfl ?_);show wpAny _ _ (Builtin.SmallTypes.ownedTupleIsFree (.ref z) >>= _) _ _ _
 refine wpAny_bind ?_;unfold Builtin.SmallTypes.ownedTupleIsFree
 refine wpAny_bind (wpAny_field gz rfl (x:=.none) rfl (wpAny_pure ?_));simp only [if_true]
 refine wpAny_bind (wpAny_rule ?_);refine wpAny_bind (wpAny_field gz rfl (x:=.ref TO) rfl ?_)
 refine wpAny_bind (wpAny_setField_rec gz (by simp) fun h₁ gz₁ q₁=>?_)
 replace gz₁:IsZip h₁ z TI TO .ellipsis:=gz₁
 refine wpAny_bind ?_;simp only [List.zipIdx_cons,List.zipIdx_nil,List.forIn_cons,List.forIn_nil]
 refine wpAny_bind (wpAny_bind (wpAny_onRaise ?_));show wpAny _ _ (Builtin.SmallTypes.nextOf (.ref i1) >>= _) _ _ _
 refine wpAny_bind (zfA (n1.extBut q₁.extBut D.i1z) (m1.extBut q₁.extBut D.l1z) ex fun h₂ n1₂ q₂=>wpAny_pure ?_)
 have gO₂:IsPair h₂ TO a b:=q₂.extBut _ _ D.TOi1 (q₁.extBut _ _ D.TOz gO)
 refine wpAny_bind (wpAny_seqItems gO₂ rfl ?_)
 refine wpAny_bind (wpAny_updateSeq_pair gO₂ fun h₃ gO₃ q₃=>?_)
 replace gO₃:IsPair h₃ TO x b:=gO₃
 refine wpAny_bind (wpAny_letGo (wpAny_pure ?_))
 refine wpAny_bind (wpAny_bind (wpAny_onRaise ?_));show wpAny _ _ (Builtin.SmallTypes.nextOf (.ref i2) >>= _) _ _ _
 refine wpAny_bind (zfA (((n2.extBut q₁.extBut D.i2z).extBut q₂.extBut D.i12.symm).extBut q₃.extBut D.TOi2.symm)
  (((m2.extBut q₁.extBut D.l2z).extBut q₂.extBut D.l2i1).extBut q₃.extBut D.l2TO) ey fun h₄ n2₄ q₄=>wpAny_pure ?_)
 have gO₄:IsPair h₄ TO x b:=q₄.extBut _ _ D.TOi2 gO₃
 refine wpAny_bind (wpAny_seqItems gO₄ rfl ?_)
 refine wpAny_bind (wpAny_updateSeq_pair gO₄ fun h₅ gO₅ q₅=>?_)
 replace gO₅:IsPair h₅ TO x y:=gO₅
 refine wpAny_bind (wpAny_letGo (wpAny_pure (wpAny_pure ?_)))
 refine wpAny_bind (wpAny_seqItems gO₅ rfl ?_);refine wpAny_bind (wpAny_newTuple ?_)
 have sz:h₅.objs.size=s.heap.objs.size:=by rw [q₅.1,q₄.1,q₃.1,q₂.1,q₁.1]
 have gz₅:IsZip h₅ z TI TO .ellipsis:=q₅.extBut _ _ D.TOz.symm (q₄.extBut _ _ D.i2z.symm (q₃.extBut _ _ D.TOz.symm (q₂.extBut _ _ D.i1z.symm gz₁)))
 have kp:∀ t o,t∉[z,TO,i1,i2]→s.heap.get? t=some o→h₅.get? t=some o:=fun t o ht e=>by
  simp only [List.mem_cons,List.not_mem_nil,or_false,not_or] at ht
  obtain ⟨t1,t2,t3,t4⟩:=ht
  exact q₅.extBut _ _ t2 (q₄.extBut _ _ t4 (q₃.extBut _ _ t2 (q₂.extBut _ _ t3 (q₁.extBut _ _ t1 e))))
 have n1₅:h₅.IsTupleIter i1 l1 (k+1):=((n1₂.extBut q₃.extBut D.TOi1.symm).extBut q₄.extBut D.i12).extBut q₅.extBut D.TOi1.symm
 have n2₅:h₅.IsTupleIter i2 l2 (k+1):=n2₄.extBut q₅.extBut D.TOi2.symm
 have zlt:z<h₅.objs.size:=Heap.lt_size gz₅
 show wpAny _ _ (Builtin.SmallTypes.ownedTupleHandOut (.ref z) (.ref h₅.objs.size) >>= _) _ _ _;refine wpAny_bind ?_;unfold Builtin.SmallTypes.ownedTupleHandOut
 have gz₈:IsZip (h₅.push { cls:=.type "tuple",data:=.seq #[x,y] }) z TI TO .ellipsis:=Heap.get?_push_of_some _ gz₅
 refine wpAny_bind (wpAny_setField_rec gz₈ (by simp) fun h₉ gz₉ q₉=>?_)
 replace gz₉:IsZip h₉ z TI TO (rawInt h₅.objs.size):=gz₉
 refine wpAny_setField_rec gz₉ (by simp) fun hA gzA qA=>?_
 replace gzA:IsZip hA z TI TO (rawInt h₅.objs.size):=gzA
 have up:∀ t o,t≠z→h₅.get? t=some o→hA.get? t=some o:=fun t o t1 e=>qA.extBut _ _ t1 (q₉.extBut _ _ t1 (Heap.get?_push_of_some _ e))
 have gT:IsPair hA h₅.objs.size x y:=qA.extBut _ _ (Nat.ne_of_gt zlt) (q₉.extBut _ _ (Nat.ne_of_gt zlt) (Heap.get?_push_size _ rfl))
 rw [sz] at gzA gT
 refine wpAny_pure ⟨_,rfl,?_⟩;show R (.ref h₅.objs.size) _;rw [sz]
 exact q hA gzA (up _ _ D.TOz gO₅) (zlX n1₅ fun o e=>up _ o D.i1z e) (zlX n2₅ fun o e=>up _ o D.i2z e) gT fun t o ht e=>up t o (fun h=>ht (by simp [h])) (kp t o ht e)
theorem zqz {z TI TO i1 i2 l1 l2:Addr} {k:Nat} {xs ys:Array Value} {a b:Value} {R:PySem.Fin→Shared→Prop} (hh:A.handled=none) (D:ZipApart z TI TO i1 i2 l1 l2)
  (gz:IsZip s.heap z TI TO .none) (gI:IsPair s.heap TI (.ref i1) (.ref i2)) (gO:IsPair s.heap TO a b)
  (n1:s.heap.IsTupleIter i1 l1 k) (n2:s.heap.IsTupleIter i2 l2 k) (m1:s.heap.IsTuple l1 xs) (m2:s.heap.IsTuple l2 ys) (ee:xs[k]?=none∨ys[k]?=none)
  (q:∀ h' e,(∀ t o,t∉[z,TO,i1,i2]→s.heap.get? t=some o→h'.get? t=some o)→(∃ o,h'.get? e=some o∧o.cls=.type "StopIteration")→E (.ref e) { s with heap:=h' }) :
  wpAny (model P w) A (Builtin.«zip.__next__» ⟨[.ref z],[]⟩) R E s:=by
 show wpAny _ _ (field (.ref z) 2 >>= _) _ _ _;refine wpAny_bind (wpAny_field gz rfl (x:=.bool false) rfl ?_);show wpAny _ _ (field (.ref z) 3 >>= _) _ _ _
 refine wpAny_bind (wpAny_field gz rfl (x:=.ref TI) rfl ?_)
 refine wpAny_bind (wpAny_seqItems gI rfl ?_);show wpAny _ _ (Builtin.SmallTypes.ownedTupleIsFree (.ref z) >>= _) _ _ _
 refine wpAny_bind ?_;unfold Builtin.SmallTypes.ownedTupleIsFree
 refine wpAny_bind (wpAny_field gz rfl (x:=.none) rfl (wpAny_pure ?_));simp only [if_true]
 refine wpAny_bind (wpAny_rule ?_);refine wpAny_bind (wpAny_field gz rfl (x:=.ref TO) rfl ?_)
 refine wpAny_bind (wpAny_setField_rec gz (by simp) fun h₁ gz₁ q₁=>?_)
 replace gz₁:IsZip h₁ z TI TO .ellipsis:=gz₁
 refine wpAny_bind ?_;simp only [List.zipIdx_cons,List.zipIdx_nil,List.forIn_cons,List.forIn_nil]
 refine wpAny_bind (wpAny_bind (wpAny_onRaise ?_));show wpAny _ _ (Builtin.SmallTypes.nextOf (.ref i1) >>= _) _ _ _
 cases ex:xs[k]? with
 | none =>
  refine wpAny_bind (zjF hh (n1.extBut q₁.extBut D.i1z) (m1.extBut q₁.extBut D.l1z) ex fun h₂ e q₂ he=>?_)
  obtain ⟨oe,g1,g2⟩:=he
  have gz₂:IsZip h₂ z TI TO .ellipsis:=q₂ _ _ D.i1z.symm gz₁
  have nz:e≠z:=fun x=>by subst x;rw [gz₂] at g1;cases g1;simp at g2
  refine wpAny_setField_rec gz₂ (by simp) fun h₃ _ q₃=>q h₃ e (fun t o ht x=>?_) ⟨oe,q₃.extBut _ _ nz g1,g2⟩
  simp only [List.mem_cons,List.not_mem_nil,or_false,not_or] at ht
  exact q₃.extBut _ _ ht.1 (q₂ _ _ ht.2.2.1 (q₁.extBut _ _ ht.1 x))
 | some x =>
  have ey:ys[k]?=none:=ee.resolve_left (by rw [ex];simp)
  refine wpAny_bind (zfA (n1.extBut q₁.extBut D.i1z) (m1.extBut q₁.extBut D.l1z) ex fun h₂ n1₂ q₂=>wpAny_pure ?_)
  have gO₂:IsPair h₂ TO a b:=q₂.extBut _ _ D.TOi1 (q₁.extBut _ _ D.TOz gO)
  refine wpAny_bind (wpAny_seqItems gO₂ rfl ?_);refine wpAny_bind (wpAny_updateSeq_pair gO₂ fun h₃ gO₃ q₃=>?_)
  refine wpAny_bind (wpAny_letGo (wpAny_pure ?_))
  refine wpAny_bind (wpAny_bind (wpAny_onRaise ?_));show wpAny _ _ (Builtin.SmallTypes.nextOf (.ref i2) >>= _) _ _ _
  refine wpAny_bind (zjF hh (((n2.extBut q₁.extBut D.i2z).extBut q₂.extBut D.i12.symm).extBut q₃.extBut D.TOi2.symm) (((m2.extBut q₁.extBut D.l2z).extBut q₂.extBut D.l2i1).extBut q₃.extBut D.l2TO) ey fun h₄ e q₄ he=>?_)
  obtain ⟨oe,g1,g2⟩:=he
  have gz₄:IsZip h₄ z TI TO .ellipsis:=q₄ _ _ D.i2z.symm (q₃.extBut _ _ D.TOz.symm (q₂.extBut _ _ D.i1z.symm gz₁))
  have nz:e≠z:=fun x=>by subst x;rw [gz₄] at g1;cases g1;simp at g2
  refine wpAny_setField_rec gz₄ (by simp) fun h₅ _ q₅=>q h₅ e (fun t o ht x=>?_) ⟨oe,q₅.extBut _ _ nz g1,g2⟩
  simp only [List.mem_cons,List.not_mem_nil,or_false,not_or] at ht
  obtain ⟨t1,t2,t3,t4⟩:=ht
  exact q₅.extBut _ _ t1 (q₄ _ _ t4 (q₃.extBut _ _ t2 (q₂.extBut _ _ t3 (q₁.extBut _ _ t1 x))))
abbrev ti0 (l:Addr):Obj:={ cls:=.type "tuple_iterator",data:=.fields #[.ref l,.int 0 0] }
abbrev th1 (h:Heap) (l1:Addr):Heap:=h.push (ti0 l1)
abbrev th2 (h:Heap) (l1 l2:Addr):Heap:=(th1 h l1).push (ti0 l2)
abbrev th3 (h:Heap) (l1 l2:Addr):Heap:=(th2 h l1 l2).push { cls:=.type "tuple",data:=.seq #[.ref h.objs.size,.ref (th1 h l1).objs.size] }
abbrev th4 (h:Heap) (l1 l2:Addr):Heap:=(th3 h l1 l2).push { cls:=.type "tuple",data:=.seq #[.none,.none] }
abbrev th5 (h:Heap) (l1 l2:Addr):Heap:=(th4 h l1 l2).push { cls:=.type "zip",data:=.fields #[.none,.bool false,.bool false,.ref (th2 h l1 l2).objs.size,.ref (th3 h l1 l2).objs.size] }
theorem newT (l1 l2:Addr) (xs ys:Array Value) :
  Meets (Builtin.«zip.__new__» ⟨[.type "zip",.ref l1,.ref l2],[]⟩) (fun _ R s=>s.heap.IsTuple l1 xs∧s.heap.IsTuple l2 ys∧R (.ok (.ret (.ref (th4 s.heap l1 l2).objs.size))) { s with heap:=th5 s.heap l1 l2 }) :=
 .of_wp fun prog w A R s h=>by
  obtain ⟨hp,g,d,tk,os⟩:=s;obtain ⟨m1,m2,h⟩:=h
  have hsub:=sub_zip
  have k1:Heap.IsTuple (Shared.heap ⟨hp,g,d,tk,os⟩) l1 xs:=m1
  have k2:Heap.IsTuple (Shared.heap ⟨hp.push { cls:=.type "tuple_iterator",data:=.fields #[.ref l1,.int 0 0] },g,d,tk,os⟩) l2 ys:=Heap.IsTuple.push m2 _
  wp_walk using wpAny_pyIter_tuple k1,wpAny_pyIter_tuple k2
  exact ⟨_,rfl,h⟩
theorem callT {l1 l2:Addr} {xs ys:Array Value} {R:Value→Shared→Prop} (m1:s.heap.IsTuple l1 xs) (m2:s.heap.IsTuple l2 ys)
  (h:∀ (h':Heap) (n:Nat),n=s.heap.objs.size→IsZip h' (n+4) (n+2) (n+3) .none→IsPair h' (n+2) (.ref n) (.ref (n+1))→IsPair h' (n+3) .none .none→h'.IsTupleIter n l1 0→h'.IsTupleIter (n+1) l2 0 →
   (∀ c o,s.heap.get? c=some o→h'.get? c=some o)→R (.ref (n+4)) { s with heap:=h' }) :
  wpAny (model P w) A (call (.type "zip") [.ref l1,.ref l2]) R E s:=by
 refine callType_new F.called_zip (by decide) (F.typeCall_zip_2 _ _) (F.newCall_zip_2 _ _) (fun obj=>F.args_object_init_3 obj _ _) F.entry_zip_new (newT l1 l2 xs ys) ⟨m1,m2,?_⟩
 have z1:(th1 s.heap l1).objs.size=s.heap.objs.size+1:=Heap.size_push ..
 have z2:(th2 s.heap l1 l2).objs.size=s.heap.objs.size+2:=by rw [Heap.size_push,z1]
 have z3:(th3 s.heap l1 l2).objs.size=s.heap.objs.size+3:=by rw [Heap.size_push,z2]
 have z4:(th4 s.heap l1 l2).objs.size=s.heap.objs.size+4:=by rw [Heap.size_push,z3]
 have on:∀ {hh:Heap} {a:Addr} {o o':Obj},hh.get? a=some o→(hh.push o').get? a=some o:=fun e=>Heap.get?_push_of_some _ e
 have y5:(th5 s.heap l1 l2).get? (th4 s.heap l1 l2).objs.size=some _:=Heap.get?_push_size _ rfl
 have y4:(th5 s.heap l1 l2).get? (th3 s.heap l1 l2).objs.size=some _:=on (Heap.get?_push_size _ rfl)
 have y3:(th5 s.heap l1 l2).get? (th2 s.heap l1 l2).objs.size=some _:=on (on (Heap.get?_push_size _ rfl))
 have y2:(th5 s.heap l1 l2).get? (th1 s.heap l1).objs.size=some _:=on (on (on (Heap.get?_push_size _ rfl)))
 have y1:(th5 s.heap l1 l2).get? s.heap.objs.size=some _:=on (on (on (on (Heap.get?_push_size _ rfl))))
 show _∧_
 rw [z2,z3,z4] at y5
 rw [z3] at y4
 rw [z1,z2] at y3
 rw [z1] at y2
 rw [z4]
 exact ⟨⟨_,y5,rfl⟩,h _ _ rfl y5 y3 y4 ⟨_,y1,rfl,rfl⟩ ⟨_,y2,rfl,rfl⟩ fun c o x=>on (on (on (on (on x))))⟩
end
def tnT (z TI TO i1 i2 p q:Addr) (i:Nat) (h:Heap):Prop:=IsZip h z TI TO .none∧IsPair h TI (.ref i1) (.ref i2)∧(∃ a b,IsPair h TO a b)∧h.IsTupleIter i1 p i∧h.IsTupleIter i2 q i
theorem zmb {z TI TO i1 i2 p q:Addr} {i:Nat} {h h':Heap} (st:tnT z TI TO i1 i2 p q i h) (k:∀ b∈[z,TI,TO,i1,i2],∀ o,h.get? b=some o→h'.get? b=some o):tnT z TI TO i1 i2 p q i h':=by
 obtain ⟨a1,a2,⟨x,y,a3⟩,a4,a5⟩:=st
 exact ⟨k z (by simp) _ a1,k TI (by simp) _ a2,⟨x,y,k TO (by simp) _ a3⟩,zlX a4 fun o e=>k i1 (by simp) o e,zlX a5 fun o e=>k i2 (by simp) o e⟩
theorem zhF {z TI TO i1 i2 p q:Addr} {i:Nat} {h:Heap} (st:tnT z TI TO i1 i2 p q i h):∀ b∈[z,TI,TO,i1,i2],∃ o,h.get? b=some o∧∀ v,o.data≠.cell v:=fun b hb=>by
 obtain ⟨a1,a2,⟨x,y,a3⟩,⟨o4,a4,_,d4⟩,⟨o5,a5,_,d5⟩⟩:=st
 simp only [List.mem_cons,List.not_mem_nil,or_false] at hb
 rcases hb with rfl | rfl | rfl | rfl | rfl
 ·exact ⟨_,a1,zbA rfl⟩
 ·exact ⟨_,a2,fun v z=>nomatch (show Data.seq _ _=Data.cell v from z)⟩
 ·exact ⟨_,a3,fun v z=>nomatch (show Data.seq _ _=Data.cell v from z)⟩
 ·exact ⟨_,a4,zbA d4⟩
 ·exact ⟨_,a5,zbA d5⟩
theorem turnT {P:Program} {w:World} {K:PySem.W.Frag} {elts:List Expr} {k:Nat} {pos:Pos} {z TI TO i1 i2 p q:Addr} (D:ZipApart z TI TO i1 i2 p q):znx P w K (.Tuple elts k pos) (ItzT K p q) [z,TI,TO,i1,i2] z (tnT z TI TO i1 i2 p q) where
 mem:=by simp
 obj:=fun i h st=>zhF st
 keep:=fun i h h' st kk=>zmb st kk
 item:=by
  intro X hP hw hK hc i pins s σ H E I hf st hg
  subst hP hw hK
  obtain ⟨xs,ys,a,b,hx,hy,ea,eb⟩:=hg
  obtain ⟨its1,r1,pl1,z1⟩:=I.tuple hx
  obtain ⟨its2,r2,pl2,z2⟩:=I.tuple hy
  obtain ⟨ua,eua,rua⟩:=r1.get ea
  obtain ⟨ub,eub,rub⟩:=r2.get eb
  have there:=zhF st
  obtain ⟨s1,s2,⟨x0,y0,s3⟩,s4,s5⟩:=st
  have ty:s.TypeIs (.ref z) "zip":=⟨_,s1,rfl⟩
  unfold pyNext
  refine wpAny_bind (wpAny_attempt (wpAny_callSpecial?_slot (name:=Str.ofString "__next__") ty F.slot_zip_next (wpAny_call_entry F.slot_zip_next ty F.entry_zip_next (zpv D s1 s2 s3 s4 s5 pl1 pl2 (by simpa using eua) (by simpa using eub) fun h' a1 a2 a3 a4 aT kk=>wpAny_pure ⟨_,rfl,?_⟩) (F.args_zip_next_1 _))))
  refine wpAny_letOwnedTupleGo_zip a1 fun h2 gz2 q2=>?_
  have sub:∀ b∈[z,TO,i1,i2],b∈[z,TI,TO,i1,i2]:=fun b hb=>by
   simp only [List.mem_cons,List.not_mem_nil,or_false] at hb ⊢
   rcases hb with h | h | h | h <;> simp [h]
  have I1:Inv X pins σ H { s with heap:=h2 }:=I.turns (t':=s.toks) (ch:=[z,TO,i1,i2]) (fun b o hb e=>q2.extBut _ _ (fun x=>hb (by simp [x])) (kk b o hb e)) fun b hb=>hf b (sub b hb)
  have hT:s.heap.objs.size≤s.heap.objs.size:=Nat.le_refl _
  have nT:H s.heap.objs.size=none:=I.hok.fresh hT
  have zT:s.heap.objs.size≠z:=Nat.ne_of_gt (Heap.lt_size s1)
  have I2:=I1.track (a:=s.heap.objs.size) (o:=.tup [a,b]) nT (Heap.get?_none_of_le (Nat.le_trans I.sz hT)) (Nat.ne_of_gt (Nat.lt_of_lt_of_le I.lt hT)) (fun x c e=>by
   obtain ⟨v,q⟩:=I.cell x c e
   exact Nat.ne_of_lt (Nat.lt_of_lt_of_le q.lt hT)) (fun p hp=>Nat.ne_of_lt (Nat.lt_of_lt_of_le (Heap.lt_size (I.pin p hp).1) hT)) (by
   refine ⟨by show 2≤sizeLine;decide,[ua,ub],.cons rua (.cons rub .nil),?_⟩
   exact ⟨_,q2.extBut _ _ zT aT,rfl,_,rfl⟩)
  refine ⟨.ref s.heap.objs.size,_,I2,rfl,⟨s.heap.objs.size,a,b,rfl,nT,rfl,fun xs' h'=>?_,fun ys' h'=>?_⟩,?_,fun b hb=>?_⟩
  ·rw [I.tuple_inj h' hx];exact ea
  ·rw [I.tuple_inj h' hy];exact eb
  ·have nTI:TI∉[z,TO,i1,i2]:=by
    simp only [List.mem_cons,List.not_mem_nil,or_false,not_or]
    exact ⟨D.TIz,D.TITO,D.TIi1,D.TIi2⟩
   exact ⟨gz2,q2.extBut _ _ D.TIz (kk _ _ nTI s2),⟨_,_,q2.extBut _ _ D.TOz a2⟩,a3.extBut q2.extBut D.i1z,a4.extBut q2.extBut D.i2z⟩
  ·obtain ⟨o,e,_⟩:=there b hb
   rw [zap (Nat.ne_of_lt (Nat.lt_of_lt_of_le (Heap.lt_size e) hT))]
   exact (hf b hb).1
 done:=by
  intro X hP hw hK hc i pins s σ H E I hf st hg
  subst hP hw hK
  obtain ⟨xs,ys,hx,hy,rfl⟩:=hg
  obtain ⟨its1,r1,pl1,z1⟩:=I.tuple hx
  obtain ⟨its2,r2,pl2,z2⟩:=I.tuple hy
  obtain ⟨s1,s2,⟨x0,y0,s3⟩,s4,s5⟩:=st
  have sub:∀ b∈[z,TO,i1,i2],b∈[z,TI,TO,i1,i2]:=fun b hb=>by
   simp only [List.mem_cons,List.not_mem_nil,or_false] at hb ⊢
   rcases hb with h | h | h | h <;> simp [h]
  have ee:its1.toArray[min xs.length ys.length]?=none∨its2.toArray[min xs.length ys.length]?=none:=by
   rw [r1.length,r2.length]
   rcases Nat.le_total its1.length its2.length with h | h
   ·exact .inl (by rw [Nat.min_eq_left h];simp)
   ·exact .inr (by rw [Nat.min_eq_right h];simp)
  have ty:s.TypeIs (.ref z) "zip":=⟨_,s1,rfl⟩
  unfold pyNext
  refine wpAny_bind (wpAny_attempt (wpAny_callSpecial?_slot (name:=Str.ofString "__next__") ty F.slot_zip_next (wpAny_call_entry F.slot_zip_next ty F.entry_zip_next (zqz (I.ok.hd hc) D s1 s2 s3 s4 s5 pl1 pl2 ee fun h' e kk he=>?_) (F.args_zip_next_1 _))))
  obtain ⟨o,h1,h2⟩:=he
  exact wpAny_bind (wpAny_isInstance (T:="StopIteration") (b:=true) ⟨o,h1,h2⟩ isSubtype_stop (wpAny_pure ⟨rfl,I.turns (t':=s.toks) (ch:=[z,TO,i1,i2]) (fun b o hb e=>kk b o hb e) fun b hb=>hf b (sub b hb)⟩))
 self:=fun A i s Q E st h=>wpAny_pyIter_zip st.1 h
end L2.Zt
namespace L2
open PySem PySem.Spec PyProof.Rows
theorem zob {X:Cx} {a b:Expr} {elts:List Expr} {k:Nat} {tp p pos:Pos} {ta:TA} (hg:Gl X "zip") (hm:X.mg "zip"=none) (ha:PA X [a,b] ta) (hs:starEach [a,b] X.env=[(false,eval a X.env),(false,eval b X.env)]:=by rfl) (hs2:starEach [b] X.env=[(false,eval b X.env)]:=by rfl) :
  PI X (.Tuple elts k tp) (.Call (.Name "zip" p) [a,b] [] pos) (zmk X.K ta):=by
 intro pins s σ H R I h
 refine Call_ (zgz I hg hm boot_zip (PyProof.Rows.callWith_type1 (thn (ha pos pins s σ H _ I h) fun us s1 hQ'=>?_) (by rw [hs,hs2]) (by rw [hs2];rfl)))
 obtain ⟨vs,H1,I1,r1,q1⟩:=hQ'
 obtain ⟨p1,p2,rfl,c⟩:=q1
 obtain ⟨u,v,rfl,ru,rv⟩:=zkF r1
 cases ru
 cases rv
 have new:∀ b∈[s1.heap.objs.size+4,s1.heap.objs.size+2,s1.heap.objs.size+3,s1.heap.objs.size,s1.heap.objs.size+1],s1.heap.objs.size≤b:=fun b hb=>by
  simp only [List.mem_cons,List.not_mem_nil,or_false] at hb
  rcases hb with h | h | h | h | h <;> rw [h] <;> first | exact Nat.le_refl _ | exact Nat.le_add_right _ _
 rcases c with ⟨⟨xs,hx⟩,⟨ys,hy⟩,q⟩ | ⟨⟨xs,hx⟩,⟨ys,hy⟩,q⟩
 ·obtain ⟨its1,_,pl1,_⟩:=I1.list hx
  obtain ⟨its2,_,pl2,_⟩:=I1.list hy
  have a1:p1<s1.heap.objs.size:=by obtain ⟨_,e,_⟩:=pl1.isList;exact Heap.lt_size e
  have a2:p2<s1.heap.objs.size:=by obtain ⟨_,e,_⟩:=pl2.isList;exact Heap.lt_size e
  refine call_zip_2 pl1.isList pl2.isList fun h' hz hTI hTO hi1 hi2 hsz hk=>?_
  refine wpAny_pyIter_zip hz ?_
  exact ⟨_,_,_,_,H1,rfl,I1.kept (t':=s1.toks) hk,zl0 (zipApart_new a1 a2),⟨hz,hTI,⟨_,_,hTO⟩,hi1,hi2⟩,fun b hb=>I1.fpOk (new b hb) (I1.hok.fresh (new b hb)),q⟩
 ·obtain ⟨its1,_,pl1,_⟩:=I1.tuple hx
  obtain ⟨its2,_,pl2,_⟩:=I1.tuple hy
  have a1:p1<s1.heap.objs.size:=by obtain ⟨_,e,_⟩:=pl1;exact Heap.lt_size e
  have a2:p2<s1.heap.objs.size:=by obtain ⟨_,e,_⟩:=pl2;exact Heap.lt_size e
  refine Zt.callT pl1 pl2 fun h' n en hz hTI hTO hi1 hi2 hk=>?_
  subst en
  refine wpAny_pyIter_zip hz ?_
  exact ⟨_,_,_,_,H1,rfl,I1.kept (t':=s1.toks) hk,Zt.turnT (zipApart_new a1 a2),⟨hz,hTI,⟨_,_,hTO⟩,hi1,hi2⟩,fun b hb=>I1.fpOk (new b hb) (I1.hok.fresh (new b hb)),q⟩
end L2
namespace L2
open PySem PySem.Spec PyProof.Rows
def zlw (P:Program) (w:World) (K:PySem.W.Frag) (mg:Str→Option Value) (base:Heap) (N:List Str) (qual:Str) (scope:Scope) (f:Addr) (cd:Value) (cl:List (Str×Addr)) (A:Around) (outer:List Env) (s:Shared) (H:Hp):Cx where
 prog:=P
 w:=w
 K:=K
 mg:=mg
 base:=base
 A:=A.deeper (PySem.W.envX qual scope s.heap.objs.size f cd cl)
 N:=N
 s₀:=s
 H₀:=H
 env:=PySem.W.envX qual scope s.heap.objs.size f cd cl
 outer:=outer
 stack:=PySem.W.envX qual scope s.heap.objs.size f cd cl::outer
 ex:=[]
 calm:=true
 fn:=fun y=>(cl.lookup y).isNone
 pn:=[]
 xe:=fun _ _=>False
structure zoG (H:Hp) (h:Heap) (sc:Scope) (cl:List (Str×Addr)) (Ns:List Str) (vs:List V):Prop where
 len:vs.length=Ns.length
 at':∀ (i:Nat) (y:Str),Ns[i]?=some y→∃ c uy vy,cl.lookup y=some c∧sc.names.lookup y=some .free∧h.IsCell c (some uy)∧vs[i]?=some vy∧zcF vy uy
 has:∀ y,sc.names.lookup y=some .free→∃ c,cl.lookup y=some c
 cel:∀ y c,cl.lookup y=some c→H c=none∧∃ v,h.IsCell c v
 inj:∀ y z c,cl.lookup y=some c→cl.lookup z=some c→y=z
def Bar (P:Addr) (H H':Hp):Prop:=∀ b o,b≠P→H b=some o→H' b=some o
def zcX (H:Hp) (P:Addr) (pos:Pos) (qual:Str):Prop:=H P=some (.tbl #[]) ∨
 ∃ (c':Addr) (oc:Obj) (vs:Array Value) (t:Nat),c'≠P∧H P=some (.tbl #[rawInt pos.line,rawInt pos.col,.ref c'])∧H c'=some (.frz oc (.own c'))∧oc.data=.fields vs∧vs[1]?=some (.str qual t)
section
variable {X:Cx} {pins:List (Addr×Obj)} {σ:St} {H:Hp} {s:Shared} {c P:Addr} {pos:Pos} {qual:Str} {params:Arguments} {body:Expr} {scope:Scope} {clos:List (Str×Addr)} {Q:Value→Shared→Prop} {E:Value→Shared→Prop}
theorem zoK {ps ps':Array Value} {h h':Heap} {Pg:Program} {w:World} {c':Addr} {oc:Obj} (ok:HOk Pg w H h) (hP:H P=some (.tbl ps)) (hc:H c'=none) (hx:∀ b o,b≠P→h.get? b=some o→h'.get? b=some o)
  (e1:h'.get? P=some { cls:=.none,data:=.fields ps' }) (e2:h'.get? c'=some oc):HOk Pg w (upd (upd H P (.tbl ps')) c' (.frz oc (.own c'))) h':=by
 have ncP:c'≠P:=fun z=>by rw [z,hP] at hc;cases hc
 intro b u e
 by_cases q:b=c'
 ·subst q
  rw [zae] at e
  cases e
  exact ⟨e2,oc,e2⟩
 ·rw [zap q] at e
  by_cases q2:b=P
  ·subst q2
   rw [zae] at e
   cases e
   exact e1
  ·rw [zap q2] at e
   refine (ok b u e).stay (fun d v hd r=>hx d v (fun z=>?_) r) (fun d r=>?_) fun d xs r=>?_
   ·rcases hd with rfl | hd
    ·exact q2 z
    ·rw [z,hP] at hd;cases hd
   ·rw [zap (fun z=>by rw [z,hc] at r;cases r),zap (fun z=>by rw [z,hP] at r;cases r)];exact r
   ·rw [zap (fun z=>by rw [z,hc] at r;cases r),zap (fun z=>by rw [z,hP] at r;cases r)];exact r
theorem zqA {ps more:Array Value} {fs ex:List Addr} {h h':Heap} {c':Addr} {oc:Obj} (hP:H P=some (.tbl ps)) (hc:H c'=none) (hf:h.objs.size≤c') (hx:∀ b o,b≠P→h.get? b=some o→h'.get? b=some o) (hPt:∃ o,h'.get? P=some o) :
  Un fs ex H (upd (upd H P (.tbl (ps++more))) c' (.frz oc (.own c'))) h h':=by
 have nP:∀ b,H b=none→b≠P:=fun b n z=>by rw [z,hP] at n;cases n
 have nc:∀ b u,H b=some u→b≠c':=fun b u e z=>by rw [z,hc] at e;cases e
 refine ⟨fun b o q n _ _=>hx b o (nP b n) q,fun b o q n _ _=>⟨o.slots,hx b o (nP b n) q⟩,fun b o q n _=>?_,fun b o q _=>?_,fun b xs q=>?_,fun b o u q=>?_,fun b ps' q=>?_⟩
 ·rw [zap (Nat.ne_of_lt (Nat.lt_of_lt_of_le (Heap.lt_size q) hf)),zap (nP b n)];exact n
 ·by_cases z:b=P
  ·rw [z];exact hPt
  ·exact ⟨o,hx b o z q⟩
 ·rw [zap (nc b _ q),zap (fun z=>by rw [z,hP] at q;cases q)];exact q
 ·rw [zap (nc b _ q),zap (fun z=>by rw [z,hP] at q;cases q)];exact q
 ·rw [zap (nc b _ q)]
  by_cases z:b=P
  ·subst z
   rw [hP] at q
   cases q
   exact ⟨more,zae⟩
  ·rw [zap z]
   exact ⟨#[],by rw [q];simp⟩
theorem zlZ (I:Inv X pins σ H s) (hcode:X.env.code=.ref c) (C:PySem.W.CodeHd X.base c P) (hB:X.base.BuiltinsAt X.mg P) (hL:zcX H P pos qual) (hcl:closureFor scope X.env=pure clos) (hdef:defaultsOf params X.env=([],[]))
  (hq:X.env.qual++"<lambda>"=qual)
  (h:∀ (q c':Addr) (pm ctv:Value) (H':Hp) (s':Shared) (oc:Obj) (vs:Array Value) (t:Nat),Inv X pins σ H' s'→Bar P H H'→zcX H' P pos qual→s'.heap.get? q=some (PySem.W.kla_obj "<lambda>" qual params body scope clos pm c' ctv) →
   H' c'=some (.frz oc (.own c'))→oc.data=.fields vs→vs[1]?=some (.str qual t)→zi8 X pins H' q→Q (.ref q) s') :
  wpAny (model X.prog X.w) X.A (eval (.Lambda params body scope pos) X.env) Q E s:=by
 have hg:s.heap.Ns mainGlobals X.mg:=I.ok.mod.glob.keeps I.bk
 have C':=C.keeps I.bk
 obtain ⟨bm,ob,b1,b2,b3,b4,b5,b6⟩:=hB
 have hgP:∀ ps,H P=some (.tbl ps)→mainGlobals≠P:=fun ps hP z=>by
  have e:=I.hok P _ hP
  obtain ⟨o,es,ep,e',d,_⟩:=hg
  rw [z] at e'
  have e:s.heap.get? P=some { cls:=.none,data:=.fields ps }:=e
  rw [e'] at e
  cases e
  cases d
 refine PySem.W.kla_eval hdef ?_
 rw [hq]
 rcases hL with hP | ⟨c',oc,vs,t,ne,hP,hc,hd,hv⟩
 ·refine PySem.W.kla_makeFunction (mg:=X.mg) (ps:=#[]) hcl I.ok.glob hg hcode C' (I.hok P _ hP) trivial rfl (hgP _ hP) ⟨bm,ob,b1,b2,b3,b4,I.bk _ _ b5,b6⟩ fun c' ctv h' tk hx hge hlt hrec htb=>?_
  obtain ⟨c₂,oc,vs,t,e2,hoc,hd,hv⟩:=hrec
  cases e2
  have hcn:H c'=none:=I.hok.fresh hge
  have hx':∀ b o,b≠P→s.heap.get? b=some o→(h'.push (PySem.W.kla_obj "<lambda>" qual params body scope clos ((X.mg "__name__").getD .none) c' ctv)).get? b=some o:=fun b o q e=>Heap.get?_push_of_some _ (hx b o q e)
  have e1:(h'.push (PySem.W.kla_obj "<lambda>" qual params body scope clos ((X.mg "__name__").getD .none) c' ctv)).get? P=some { cls:=.none,data:=.fields (#[]++#[rawInt pos.line,rawInt pos.col,.ref c']) }:=Heap.get?_push_of_some _ htb
  have e2:(h'.push (PySem.W.kla_obj "<lambda>" qual params body scope clos ((X.mg "__name__").getD .none) c' ctv)).get? c'=some oc:=Heap.get?_push_of_some _ hoc
  have ncP:c'≠P:=fun z=>by rw [z,hP] at hcn;cases hcn
  have J:=I.un (t':=tk) (zqA (more:=#[rawInt pos.line,rawInt pos.col,.ref c']) (oc:=oc) hP hcn hge hx' ⟨_,e1⟩) (zoK I.hok hP hcn hx' e1 e2)
  have hsz:s.heap.objs.size≤h'.objs.size:=Nat.le_trans hge (Nat.le_of_lt hlt)
  have nq:H h'.objs.size=none:=I.hok.fresh hsz
  refine h h'.objs.size c' _ ctv _ _ oc vs t J (fun b o nb e=>?_) (.inr ⟨c',oc,vs,t,ncP,?_,zae,hd,hv⟩) (Heap.get?_push_size _ rfl) zae hd hv (I.fpOk hsz ?_)
  ·rw [zap (fun z=>by rw [z,hcn] at e;cases e),zap nb];exact e
  ·rw [zap (Ne.symm ncP),zae];rfl
  ·rw [zap (Nat.ne_of_gt hlt),zap (fun z=>by rw [z,hP] at nq;cases nq)];exact nq
 ·have hf:codeAmong pos (#[rawInt pos.line,rawInt pos.col,Value.ref c']:Array Value).toList=some (.ref c'):=by simp [codeAmong,rawInt]
  refine PySem.W.kla_makeFunctionHit (mg:=X.mg) (ps:=#[rawInt pos.line,rawInt pos.col,.ref c']) hcl I.ok.glob hg hcode C' (I.hok P _ hP) trivial hf ⟨bm,ob,b1,b2,b3,b4,I.bk _ _ b5,b6⟩ fun ctv h' tk hk hsz=>?_
  have J:=I.kept (t':=tk) (h':=h'.push (PySem.W.kla_obj "<lambda>" qual params body scope clos ((X.mg "__name__").getD .none) c' ctv)) fun b u e=>Heap.get?_push_of_some _ (hk b u e)
  exact h h'.objs.size c' _ ctv H _ oc vs t J (fun _ _ _ e=>e) (.inr ⟨c',oc,vs,t,ne,hP,hc,hd,hv⟩) (Heap.get?_push_size _ rfl) hc hd hv (I.fpOk hsz (I.hok.fresh hsz))
end
end L2
namespace L2
open PySem PySem.Spec PyProof.Rows
structure zpF (X:Cx) (sc:Scope) (cl:List (Str×Addr)) (Ns:List Str) (js:List Nat):Prop where
 len:js.length=Ns.length
 at':∀ (i:Nat) (y:Str),Ns[i]?=some y→∃ j c,js[i]?=some j∧X.N[j]?=some y∧X.env.scope.names.lookup y=some .cell∧cl.lookup y=some c∧sc.names.lookup y=some .free
 has:∀ y,sc.names.lookup y=some .free→∃ c,cl.lookup y=some c
 sub:∀ y c,cl.lookup y=some c→X.env.cells.lookup y=some c
theorem zcX.tbl {H:Hp} {P:Addr} {pos:Pos} {qual:Str} (h:zcX H P pos qual):∃ ps,H P=some (.tbl ps):=by
 rcases h with h | ⟨_,_,_,_,_,h,_⟩ <;> exact ⟨_,h⟩
section
variable {X:Cx} {e body:Expr} {t:TA} {tb:TE} {pos p kp lpos:Pos} {c P:Addr} {params:Arguments} {scope:Scope} {clos:List (Str×Addr)} {qual x:Str} {Ns:List Str} {js:List Nat} {k:Nat}
theorem zpF.taken {pins:List (Addr×Obj)} {σ:St} {H:Hp} {s:Shared} {ws:List V} (C:zpF X scope clos Ns js) (I:Inv X pins σ H s) (hw:js.map (fun j=>σ[j]?)=ws.map (fun w=>some (some w))):zoG H s.heap scope clos Ns ws:=by
 have hl:ws.length=js.length:=by
  have:=congrArg List.length hw
  rw [List.length_map,List.length_map] at this
  exact this.symm
 refine ⟨hl.trans C.len,fun i y hi=>?_,C.has,fun y d hd=>⟨I.freeC y d (C.sub y d hd),I.cell y d (C.sub y d hd)⟩,fun y z d h1 h2=>I.ok.inj y z d (C.sub y d h1) (C.sub z d h2)⟩
 obtain ⟨j,d,e1,e2,e3,e4,e5⟩:=C.at' i y hi
 have g:=congrArg (fun l=>l[i]?) hw
 simp only [List.getElem?_map,e1,Option.map_some] at g
 cases hwi:ws[i]? with
 | none=>rw [hwi] at g;cases g
 | some vy =>
  rw [hwi] at g
  have g:some (σ[j]?)=some (some (some vy)):=g
  have g':σ[j]?=some (some vy):=Option.some.inj g
  obtain ⟨m,_,hlk⟩:=I.loc
  obtain ⟨u,ru,lk⟩:=hlk j y vy e2 g' (.inr (.inl e3))
  rcases lk with ⟨k1,_⟩ | ⟨_,d',f1,f2⟩
  ·have k1:X.env.scope.names.lookup y=some .local:=k1
   rw [e3] at k1
   cases k1
  ·have:=C.sub y d e4
   rw [this] at f1
   cases f1
   exact ⟨d,u,vy,e4,e5,f2,rfl,ru⟩
end
end L2
namespace L2
open PySem PySem.Spec PyProof.Rows
def zbt (P:Addr) (K:PySem.W.Frag):PySem.W.Frag:=K.filter fun x=>x.1 != P
theorem zaX {P b:Addr} (h:b≠P):∀ {K:PySem.W.Frag},(zbt P K).lookup b=K.lookup b
 | []=>rfl
 | (a,o)::K=>by
  unfold zbt
  by_cases q:a=P
  ·rw [List.filter_cons_of_neg (by simpa using q)]
   show (zbt P K).lookup b=_
   rw [zaX h,List.lookup_cons,show (b == a)=false from beq_eq_false_iff_ne.mpr (by rw [q];exact h)]
  ·rw [List.filter_cons_of_pos (by simpa using q),List.lookup_cons,List.lookup_cons]
   show (match b == a with | true=>some o | false=>(zbt P K).lookup b)=_
   rw [zaX h]
   cases b == a <;> rfl
theorem zaN {P:Addr}:∀ {K:PySem.W.Frag},(zbt P K).lookup P=none
 | []=>rfl
 | (a,o)::K=>by
  unfold zbt
  by_cases q:a=P
  ·rw [List.filter_cons_of_neg (by simpa using q)]
   exact zaN (K:=K)
  ·rw [List.filter_cons_of_pos (by simpa using q),List.lookup_cons,show (P == a)=false from beq_eq_false_iff_ne.mpr (Ne.symm q)]
   exact zaN (K:=K)
theorem znK {P:Addr} {K:PySem.W.Frag} {h:Heap} (KX:K.In h):(zbt P K).In h:=fun b o e=>by
 by_cases q:b=P
 ·rw [q,zaN] at e;cases e
 ·rw [zaX q] at e;exact KX b o e
theorem zkM {Pg:Program} {w:World} {K:PySem.W.Frag} {mg mb:Str→Option Value} {CX:CXT} {k:Nat} {fa a c P:Addr} {fd:FuncData} {x:Str} {sp:Sp} {s₁:Shared} {vs:List Value} {ns:List Int}
  (KX:K.In s₁.heap) (hPK:K.lookup P=none) (hPt:s₁.heap.get? P=some (PySem.W.tabObj #[])) (hC:PySem.W.CodeHd s₁.heap c P) (hB:s₁.heap.BuiltinsAt mg P)
  (hns:s₁.heap.Ns mainGlobals mg) (hb:s₁.heap.Ns builtinsNs mb) (hbb:∀ x:Str,x≠"__name__"→mb x=bootBuiltins x) (hlim:s₁.heap.NoLimit) (hg:s₁.gens=#[])
  (ha:s₁.heap.get? a=some { cls:=.type "list",data:=.seq vs.toArray }) (hi:IntsAre vs ns) (hl:ns.length≤sizeLine) (hr:ze3 k callerA)
  (F:∀ base:Heap,K.In base→base.Ns mainGlobals mg→PySem.W.CodeHd base c P→base.BuiltinsAt mg P→zdD Pg w K mg base CX k fa fd [x] sp) (hbind:∀ (s:Shared) (u:Value),BindsTo s fd ⟨[u],[]⟩ [(x,u)])
  (hsp:∀ H:Hp,H P=some (.tbl #[])→SqL K H a (ns.map V.int)→sp [.ref a] H (fun v _=>v=.bl true) fun _ _ _=>False)
  (hCX:∀ H e s',CX [] H s₁ (fun _ _ _=>False) e s'→False) :
  codeAny (model Pg w) callerA (.call (.ref fa) ⟨[.ref a],[]⟩) (fun r s'=>r=.ok (.ret (.bool true))∧OldK s₁.heap s'.heap∧s'.os=s₁.os∧AllBare s'.gens) s₁:=by
 have rv:=zio hi
 have lenV:=hi.length
 have naP:a≠P:=fun z=>by rw [z,hPt] at ha;cases ha
 have core:∀ H:Hp,H P=some (.tbl #[])→SqL K H a (ns.map V.int)→HOk Pg w H s₁.heap→(∀ b,H b≠none→b=P∨(b=a∧H a=some (.frz { cls:=.type "list",data:=.seq vs.toArray } (.lst (ns.map V.int)))))→(H a≠none→K.lookup a=none) →
   codeAny (model Pg w) callerA (.call (.ref fa) ⟨[.ref a],[]⟩) (fun r s'=>r=.ok (.ret (.bool true))∧OldK s₁.heap s'.heap∧s'.os=s₁.os∧AllBare s'.gens) s₁:=by
  intro H hHP hS hok hA hK
  have base_of:∀ {b:Addr} {o:Obj},s₁.heap.get? b=some o→H b=none→(zkC s₁.heap H).get? b=some o:=fun e n=>zlW e n
  have free:∀ {b:Addr} {o:Obj},s₁.heap.get? b=some o→b≠P→(∀ its n,o.data≠.seq its n)→H b=none:=fun {b o} e nP d=>by
   cases q:H b with
   | none=>rfl
   | some u =>
    rcases hA b (by rw [q];simp) with z | ⟨z,_⟩
    ·exact absurd z nP
    ·subst z
     rw [ha] at e;cases e
     exact absurd rfl (d _ _)
  have noP:∀ {b:Addr} {o:Obj},s₁.heap.get? b=some o→(∀ ps,o.data≠.fields ps)→b≠P:=fun {b o} e d z=>by
   subst z
   rw [hPt] at e;cases e
   exact d _ rfl
  have nsK:∀ {b:Addr} {m:Str→Option Value},s₁.heap.Ns b m→(zkC s₁.heap H).Ns b m:=fun {b m} ⟨o,es,ep,e,d,r⟩ =>
   ⟨o,es,ep,base_of e (free e (noP e fun ps z=>by rw [d] at z;cases z) fun its n z=>by rw [d] at z;cases z),d,r⟩
  have hKb:K.In (zkC s₁.heap H):=fun b o e=>base_of (KX b o e) (by
   cases q:H b with
   | none=>rfl
   | some u =>
    rcases hA b (by rw [q];simp) with z | ⟨z,_⟩
    ·rw [z,hPK] at e;cases e
    ·subst z
     rw [hK (by rw [q];simp)] at e;cases e)
  have hM:Mod K mg (zkC s₁.heap H):=⟨hKb,nsK hns,⟨mb,nsK hb,hbb⟩,let ⟨mc,h1,h2⟩:=hlim;⟨mc,nsK h1,h2⟩⟩
  have hC':PySem.W.CodeHd (zkC s₁.heap H) c P:=by
   obtain ⟨o,ovs,file,tf,flags,tg,inF,text,tt,e1,e2,e3,r⟩:=hC
   exact ⟨o,ovs,file,tf,flags,tg,inF,text,tt,base_of e1 (free e1 r.2.2.2.2.2.2 fun its n z=>by rw [e3] at z;cases z),e2,e3,r⟩
  have hB':(zkC s₁.heap H).BuiltinsAt mg P:=by
   obtain ⟨bm,ob,b1,b2,b3,b4,b5,b6,b7,b8⟩:=hB
   exact ⟨bm,ob,b1,b2,b3,b4,base_of b5 (free b5 b4 fun its n z=>by rw [b8] at z;cases z),b6,b7,b8⟩
  have e0:zlI Pg w K mg (zkC s₁.heap H) callerA [] s₁ H:=⟨rfl,hM,fun b o e=>zo8 e,Nat.le_of_eq (zkL _ _),trivial,fun b hb=>absurd (show b∈([]:List Addr) from hb) (by simp),hok,.of_eq hg⟩
  refine codeAny_mono ((F _ hKb (nsK hns) hC' hB').run callerA [] s₁ H ⟨[.ref a],[]⟩ [.ref a] [.ref a] _ _ hr e0 (hbind s₁ (.ref a)) (.cons rfl .nil) (hsp H hHP hS)) fun r s' h=>?_
  cases r with
  | error e=>exact (hCX H e s' h).elim
  | ok fl =>
   cases fl with
   | next=>exact False.elim h
   | brk=>exact False.elim h
   | cont=>exact False.elim h
   | ret u =>
    obtain ⟨v,H',os,bare,un,hok',r',q⟩:=h
    have q':v=.bl true:=q
    subst q'
    obtain rfl:u=Value.bool true:=r'
    refine ⟨rfl,⟨fun b o e=>?_,fun b o e=>un.there b o e (by simp)⟩,os,bare⟩
    by_cases zP:b=P
    ·subst zP
     rw [hPt] at e
     cases e
     obtain ⟨more,hm⟩:=un.tbls b _ hHP
     have ht':s'.heap.get? b=some { cls:=.none,data:=.fields (#[]++more) }:=hok' b _ hm
     exact .inr (.inl ⟨(hC.tab hPt).isCodeTable,rfl,#[],more,rfl,ht'⟩)
    ·refine .inl ?_
     cases q:H b with
     | none=>exact un.keep b o e q (by intro z;exact absurd (show b∈([]:List Addr) from z) (by simp)) (by simp)
     | some u =>
      rcases hA b (by rw [q];simp) with z | ⟨z,z1⟩
      ·exact absurd z zP
      ·subst z
       have z2:=un.frzs b _ _ z1
       obtain ⟨e1,_⟩:=hok b _ z1
       obtain ⟨e2,_⟩:=hok' b _ z2
       rw [e] at e1;cases e1
       exact e2
 have okP:∀ {H:Hp},H P=some (.tbl #[])→zcg Pg w H s₁.heap P (.tbl #[]):=fun _=>hPt
 cases hk:K.lookup a with
 | some o =>
  have e:=KX a o hk
  rw [ha] at e
  cases e
  refine core (fun b=>if b=P then some (.tbl #[]) else none) (if_pos rfl) (.inr ⟨_,vs.toArray,_,hk,rfl,rfl,rfl,by rw [List.size_toArray,lenV];exact hl,by simpa using rv⟩) (fun b u z=>?_) (fun b z=>?_) fun z=>absurd (if_neg naP) z
  ·by_cases q:b=P
   ·subst q
    have z':=(if_pos rfl).symm.trans z
    cases z'
    exact hPt
   ·have z':=(if_neg q).symm.trans z
    cases z'
  ·by_cases q:b=P
   ·exact .inl q
   ·exact absurd (if_neg q) z
 | none =>
  have hfr:(if a=P then some (HO.tbl #[]) else if a=a then some (HO.frz { cls:=.type "list",data:=.seq vs.toArray } (.lst (ns.map V.int))) else none)=some (.frz { cls:=.type "list",data:=.seq vs.toArray } (.lst (ns.map V.int))):=by rw [if_neg naP,if_pos rfl]
  refine core (fun b=>if b=P then some (.tbl #[]) else if b=a then some (.frz { cls:=.type "list",data:=.seq vs.toArray } (.lst (ns.map V.int))) else none) (if_pos rfl) (.inl (.inr ⟨{ cls:=.type "list",data:=.seq vs.toArray },hfr⟩)) (fun b u z=>?_) (fun b z=>?_) fun _=>hk
  ·by_cases q:b=P
   ·subst q
    have z':=(if_pos rfl).symm.trans z
    cases z'
    exact hPt
   ·by_cases hb:b=a
    ·subst hb
     have z':=hfr.symm.trans z
     cases z'
     exact ⟨ha,by rw [List.length_map];exact hl,vs,_,rv,ha⟩
    ·have z0:(if b=P then some (HO.tbl #[]) else if b=a then some (HO.frz { cls:=.type "list",data:=.seq vs.toArray } (.lst (ns.map V.int))) else none)=some u:=z
     rw [if_neg q,if_neg hb] at z0
     cases z0
  ·by_cases q:b=P
   ·exact .inl q
   ·by_cases hb:b=a
    ·exact .inr ⟨hb,hfr⟩
    ·have z0:(if b=P then some (HO.tbl #[]) else if b=a then some (HO.frz { cls:=.type "list",data:=.seq vs.toArray } (.lst (ns.map V.int))) else none)≠none:=z
     rw [if_neg q,if_neg hb] at z0
     exact absurd rfl z0
theorem zmo {l:PySem.W.OpenLaw} {n k:Nat} {q:Program} {loose:List Str} {XP:(Str→Option Value)→Heap→Prop} {YP:World→Heap→Prop} {d:DefRec} {K:Params→PySem.W.Frag} {sp:World→Sp} {x:Str} {c P:Addr}
  (hn:l.most=some n) (hn2:n≤sizeLine) (hdf:d.params.defaults=[]) (hr:ze3 k callerA)
  (hY:∀ (w:World) (h:Heap),YP w h→(K w.params).In h)
  (hPt:∀ w:World,(K w.params).lookup P=some (PySem.W.tabObj #[])) (hC:∀ (w:World) (h:Heap),(K w.params).In h→PySem.W.CodeHd h c P)
  (F:∀ (w:World) (mg:Str→Option Value) (fa:Addr) (h:Heap),(K w.params).In h→h.Ns mainGlobals mg→mg d.name=some (.ref fa) →
   ∃ fd:FuncData,(∀ (s:Shared) (u:Value),BindsTo s fd ⟨[u],[]⟩ [(x,u)]) ∧
    ∀ base:Heap,(zbt P (K w.params)).In base→base.Ns mainGlobals mg→PySem.W.CodeHd base c P→base.BuiltinsAt mg P→zdD l.prog w (zbt P (K w.params)) mg base CX0 k fa fd [x] (sp w))
  (hsp:∀ (w:World) (H:Hp) (a:Addr) (ns:List Int),(∀ x∈ns,x.natAbs<2 ^ 2 ^ 20)→ns.length≤n→H P=some (.tbl #[])→SqL (zbt P (K w.params)) H a (ns.map V.int)→sp w [.ref a] H (fun v _=>v=.bl true) fun _ _ _=>False) :
  PySem.W.WalkO q loose XP YP l.row.toRowW d [] (fun f vs=>PySem.call f vs):=by
 refine Att.attach_callL hn hdf fun w s₀ s₁ mg mb fa o pm cd doc a vs ns hb0 G Y ho hd hcd hmg hobj hints hlen hg=>?_
 have KX:=hY w _ Y
 obtain ⟨fd,hb,hF⟩:=F w mg fa _ KX G.T.g hmg
 have hP:=KX _ _ (hPt w)
 obtain ⟨bm,ob,b1,b2,b3,b4,b5,b6⟩:=G.T.bmain
 have hBt:s₁.heap.BuiltinsAt mg P:=by
  refine ⟨bm,ob,b1,b2,fun z=>?_,fun z=>?_,b3,b4,b5,b6⟩
  ·obtain ⟨o',es,ep,e,d',_⟩:=G.T.g
   rw [z,e] at b3;cases b3;rw [d'] at b6;cases b6
  ·rw [z,hP] at b3;cases b3;cases b4
 exact zkM (znK KX) zaN hP (hC w _ KX) hBt G.T.g G.T.b G.T.builtins G.T.nolimit hg hobj hints (Nat.le_trans hlen hn2) hr hF hb (fun H hP' hS=>hsp w H a ns hb0 hlen hP' hS) fun H e s' z=>z
section
open PySem.W
variable {P:Addr} {K:Frag}
theorem zgK (hP:K.lookup P=some (tabObj #[])) (a:Addr) (x:Str):nsIn (zbt P K) a x=nsIn K a x:=by
 unfold nsIn
 by_cases q:a=P
 ·rw [q,zaN,hP]
 ·rw [zaX q]
theorem zl9 (hP:K.lookup P=some (tabObj #[])) (x:Str) (v:Value):ownIn (zbt P K) x v=ownIn K x v:=by
 unfold ownIn
 cases v with
 | ref a =>
  by_cases q:a=P
  ·simp only [q,zaN,hP]
  ·simp only [zaX q,zgK hP]
 | _=>rfl
theorem zgm (hP:K.lookup P=some (tabObj #[])) (x:Str):∀ l:List Value,alongIn (zbt P K) x l=alongIn K x l
 | []=>rfl
 | c::r=>by simp only [alongIn,zl9 hP,zgm hP x r]
theorem zbS (hP:K.lookup P=some (tabObj #[])) (t:Value) (x:Str):findIn (zbt P K) t x=findIn K t x:=by
 unfold findIn
 cases t with
 | ref a =>
  by_cases q:a=P
  ·simp only [q,zaN,hP]
  ·simp only [zaX q,zgm hP]
 | _=>rfl
theorem zhg (hP:K.lookup P=some (tabObj #[])) (C:Addr):clsIn (zbt P K) C=clsIn K C:=by
 unfold clsIn
 by_cases q:C=P
 ·rw [q,zaN,hP]
 ·rw [zaX q]
theorem zdh {a:Addr} (q:a≠P):typeIn (zbt P K) (.ref a)=typeIn K (.ref a):=by
 unfold typeIn
 simp only [zaX q]
theorem zfS (hP:K.lookup P=some (tabObj #[])) (a:Addr):keepIn (zbt P K) (.ref a)=keepIn K (.ref a):=by
 unfold keepIn
 by_cases q:a=P
 ·simp only [q,zaN,hP]
 ·simp only [zaX q,specialIn,zdh q,zbS hP]
theorem zh2 (hP:K.lookup P=some (tabObj #[])) (cd:Value) (x:Str) (h:codeIn K cd x=true):codeIn (zbt P K) cd x=true:=by
 unfold codeIn at h ⊢
 cases cd with
 | ref c =>
  by_cases q:c=P
  ·simp only [q,hP] at h
   cases h
  ·simp only [zaX q]
   exact h
 | _=>exact h
theorem zbu (hP:K.lookup P=some (tabObj #[])) {x qual:Str} {st:Stmt} {f:Addr} {fd:FuncData} (F:Fun K x qual st f fd):Fun (zbt P K) x qual st f fd:=by
 obtain ⟨⟨oc,od,kV,doc,pm,an,cdv,ct,osl,e,l,c⟩,k⟩:=F
 have q:f≠P:=fun z=>by rw [z,hP] at l;cases l
 exact ⟨⟨oc,od,kV,doc,pm,an,cdv,ct,osl,e,(zaX q).trans l,zh2 hP _ _ c⟩,(zfS hP f).trans k⟩
theorem zoU (hP:K.lookup P=some (tabObj #[])) {f:Addr} (h:isFn K (.ref f)=true):f≠P:=fun z=>by
 have e:typeIn K (.ref f)=some .none:=by
  show (K.lookup f).map (·.cls)=_
  rw [z,hP]
  rfl
 unfold isFn at h
 rw [e] at h
 exact absurd h (by decide)
structure zlR (K:Frag) (x qual:Str) (st:Stmt) (f:Addr) (fd:FuncData) (c:Addr):Prop where
 ex:∃ (oc:Value) (od:Option Addr) (kV doc pm:Value) (an:Option Addr) (ct:Value) (osl:Array (Option Value)),
  fd=fnOf x qual (zdo st) (zcx st) (zaI st) .none kV doc pm an (.ref c) ct∧K.lookup f=some ⟨oc,od,.func fd,osl⟩∧codeIn K (.ref c) qual=true
 kp:keepIn K (.ref f)=true
theorem zom {x qual:Str} {st:Stmt} {f c:Addr} {oc:Value} {od an:Option Addr} {osl:Array (Option Value)} {kV doc pm ct:Value} (l:K.lookup f=some ⟨oc,od,.func (fnOf x qual (zdo st) (zcx st) (zaI st) .none kV doc pm an (.ref c) ct),osl⟩)
  (cc:codeIn K (.ref c) qual=true) (k:keepIn K (.ref f)=true):zlR K x qual st f (fnOf x qual (zdo st) (zcx st) (zaI st) .none kV doc pm an (.ref c) ct) c:=⟨⟨oc,od,kV,doc,pm,an,ct,osl,rfl,l,cc⟩,k⟩
theorem zlR.fun {x qual:Str} {st:Stmt} {f c:Addr} {fd:FuncData} (F:zlR K x qual st f fd c):Fun K x qual st f fd:=by
 obtain ⟨⟨oc,od,kV,doc,pm,an,ct,osl,e,l,cc⟩,k⟩:=F
 exact ⟨⟨oc,od,kV,doc,pm,an,.ref c,ct,osl,e,l,cc⟩,k⟩
theorem zlR.drop (hP:K.lookup P=some (tabObj #[])) {x qual:Str} {st:Stmt} {f c:Addr} {fd:FuncData} (F:zlR K x qual st f fd c):zlR (zbt P K) x qual st f fd c:=by
 obtain ⟨⟨oc,od,kV,doc,pm,an,ct,osl,e,l,cc⟩,k⟩:=F
 have q:f≠P:=fun z=>by rw [z,hP] at l;cases l
 exact ⟨⟨oc,od,kV,doc,pm,an,ct,osl,e,(zaX q).trans l,zh2 hP _ _ cc⟩,(zfS hP f).trans k⟩
end
end L2
namespace L2
open PySem PySem.Spec PyProof.Rows
section
variable {X:Cx} {o e value:Expr} {f:Str} {pos pos':Pos} {ta tv:TE} {C:Addr}
end
theorem zpF.one {X:Cx} {sc:Scope} {x:Str} {c:Addr} {j:Nat} (hN:X.N[j]?=some x) (hk:X.env.scope.names.lookup x=some .cell) (hc:X.env.cells.lookup x=some c) (hf:sc.names.lookup x=some .free) (hall:∀ z∈sc.names,z.2=.free→z.1=x) :
  zpF X sc [(x,c)] [x] [j]:=by
 have l1:([(x,c)]:List (Str×Addr)).lookup x=some c:=by simp [List.lookup]
 refine ⟨rfl,fun i y hi=>?_,fun y hy=>?_,fun y d hd=>?_⟩
 ·cases i with
  | zero =>
   have hi:some x=some y:=hi
   cases hi
   exact ⟨j,c,rfl,hN,hk,l1,hf⟩
  | succ i=>cases hi
 ·have:=hall _ (PySem.mem_of_lookup hy) rfl
  have e:y=x:=this
  rw [e]
  exact ⟨c,l1⟩
 ·rw [List.lookup_cons] at hd
  cases q:y == x with
  | true =>
   rw [q] at hd
   cases hd
   rw [beq_iff_eq.mp q]
   exact hc
  | false =>
   rw [q] at hd
   cases hd
theorem zcX.same {H H':Hp} {P:Addr} {pos:Pos} {qual:Str} (h:zcX H P pos qual) (s:∀ b o,H b=some o→H' b=some o):zcX H' P pos qual:=by
 rcases h with h | ⟨c',oc,vs,t,e1,e2,e3,e4⟩
 ·exact .inl (s _ _ h)
 ·exact .inr ⟨c',oc,vs,t,e1,s _ _ e2,s _ _ e3,e4⟩
theorem zcX.first {H:Hp} {P:Addr} {pos:Pos} {qual:Str} (h:H P=some (.tbl #[])):zcX H P pos qual:=.inl h
theorem zcX.new {H:Hp} {P x:Addr} {pos:Pos} {qual:Str} (h:zcX H P pos qual) (e:H x=none):x≠P:=fun z=>by
 obtain ⟨u,h⟩:=h.tbl
 rw [z,h] at e
 cases e
theorem zoC {K:PySem.W.Frag} {h:Heap} {c P:Addr} {od:Option Addr} {sl:Array (Option Value)} {v0 v1 v2 v3 v4 v5 v6 v8 v12 v13 v14 v15 v16 v17:Value} {fl tx:Int} {tg tt tf:Tok} {inF:Bool} {file:Str} (X:K.In h)
  (l:K.lookup c=some ⟨.type "code",od,.fields #[v0,v1,v2,v3,v4,v5,v6,.int fl tg,v8,.bool inF,.int tx tt,.ref P,v12,v13,v14,v15,v16,v17,.str file tf],sl⟩) (ne:c≠P):PySem.W.CodeHd h c P :=
 ⟨_,_,_,_,_,_,_,_,_,X _ _ l,rfl,rfl,rfl,rfl,rfl,rfl,rfl,rfl,ne⟩
end L2
namespace L2
open PySem PySem.Spec PyProof.Rows
section
variable {X:Cx}
end
section
open PySem.W
variable {P:Addr} {K:Frag}
theorem zfu (hP:K.lookup P=some (tabObj #[])) (C:Addr) (b:Value):mroIn (zbt P K) C b=mroIn K C b:=by
 unfold mroIn
 rw [zhg hP]
theorem zfz (hP:K.lookup P=some (tabObj #[])) (t b:Value):subIn (zbt P K) t b=subIn K t b:=by
 unfold subIn
 cases t with
 | ref D=>exact zfu hP D b
 | _=>rfl
theorem zbn (hP:K.lookup P=some (tabObj #[])) (t c:Value):kitOne (zbt P K) t c=kitOne K t c:=by
 unfold kitOne kitCls
 cases c with
 | ref C =>
  simp only [zfz hP,zhg hP]
  by_cases q:C=P
  ·have e:clsIn K C=none:=by
    unfold clsIn
    rw [q,hP]
   rw [e]
   rfl
  ·rw [zdh q]
 | type T=>simp only [zfz hP]
 | _=>rfl
theorem zhN (hP:K.lookup P=some (tabObj #[])) (a:Addr):nsOkIn (zbt P K) a=nsOkIn K a:=by
 unfold nsOkIn
 by_cases q:a=P
 ·rw [q,zaN,hP]
 ·rw [zaX q]
theorem zfJ (hP:K.lookup P=some (tabObj #[])) (b:List Value):∀ l,tailIn (zbt P K) b l=tailIn K b l
 | []=>rfl
 | v::r=>by
  unfold tailIn
  cases v with
  | ref A =>
   by_cases q:A=P
   ·simp only [q,zaN,hP]
   ·simp only [zaX q,zhN hP,zgK hP,zfJ hP b r]
  | _=>rfl
theorem zmv (hP:K.lookup P=some (tabObj #[])) (C:Addr) (b:List Value) (n:String):excIn (zbt P K) C b n=excIn K C b n:=by
 unfold excIn
 by_cases q:C=P
 ·rw [q,zaN,hP]
 ·simp only [zaX q,zhN hP,zgK hP,zfJ hP]
end
end L2
namespace L2
open PySem PySem.Spec PyProof.Rows
def zcm:R2:=fun x y H Q=>∃ i j:Str,x=.str i∧y=.str j∧i.length+j.length≤sizeLine∧Q (.str (i++j)) H
def rInS:R2:=fun x y H Q=>∃ i j:Str,x=.str i∧y=.str j∧Q (.bl (!(Builtin.Str.occurrences j i 0 j.length 1).isEmpty)) H
def zhm:R2:=fun x y H Q=>∃ i j:Str,x=.str i∧y=.str j∧Q (.bl (!(!(Builtin.Str.occurrences j i 0 j.length 1).isEmpty))) H
def zj9:List V→Hp→VK→Prop:=fun xs H Q=>∃ y:Str,xs=[.str y]∧y.length≤sizeLine∧Q (.int y.length) H
def zgj:List V→Hp→VK→Prop:=fun xs H Q=>∃ i:Int,xs=[.int i]∧i.natAbs.log2<1920∧Q (.str (toString i)) H
def zkO:List V→Hp→VK→Prop:=fun xs H Q=>∃ (x:Str) (n:Int),xs=[.str x]∧x.length≤640∧PySem.intText? x=some n∧Q (.int n) H
def zdt:V→List V→Hp→VK→Prop:=fun x vs H Q=>∃ s c:Str,x=.str s∧vs=[.str c]∧1≤c.length∧s.length≤1000000∧∀ p,H p=none→Q (.ref p) (upd H p (.lst ((Txt.split s c).map V.str)))
def ziY:V→List V→Hp→VK→Prop:=fun x vs H Q=>∃ s c:Str,x=.str s∧vs=[.str c]∧1≤c.length∧s.length≤1000000∧∀ p,H p=none→Q (.ref p) (upd H p (.tup [.str (Txt.partition s c).1,.str (Txt.partition s c).2.1,.str (Txt.partition s c).2.2]))
def zg4:V→List V→Hp→VK→Prop:=fun x vs H Q=>∃ s c:Str,x=.str s∧vs=[.str c]∧Q (.bl (Txt.startswith s c)) H
def zjc (K:PySem.W.Frag):V→List V→Hp→VK→Prop:=fun x vs H Q=>∃ (s:Str) (p:Addr) (ts:List Str),x=.str s∧vs=[.ref p]∧SqL K H p (ts.map V.str)∧(ts.map (·.length)).sum+ts.length*s.length≤sizeLine∧Q (.str (Txt.join s ts)) H
section
variable {X:Cx}
theorem zb6:OpR X (binaryOp .Add) zcm:=zjT
theorem zqs:OpR X (compareOp .In) rInS:=zli
theorem zkH:OpR X (compareOp .NotIn) zhm:=zh8
theorem zfB:zeR X (.builtin "len") zj9:=by
 intro pins s σ H xs us Q I r h
 obtain ⟨y,rfl,hy,q⟩:=h
 exact zmp pins s σ H _ us Q I r ⟨_,_,rfl,⟨hy,rfl⟩,q⟩
theorem zeM:zeR X (.type "str") zgj:=ziq
theorem zh9:zeR X (.type "int") zkO:=by
 intro pins s σ H xs us Q I r h
 obtain ⟨x,n,rfl,hl,hn,q⟩:=h
 obtain ⟨u,rfl,t,rfl⟩:=zfp r
 exact PySem.W.KIN.call_text hn hl ⟨.int n,H,I.tok _,⟨_,rfl⟩,q⟩
theorem zhL:∀ l:List (Str×Tok),zb9 ((l.map (·.1)).map V.str) (strValues l)
 | []=>.nil
 | p::l=>.cons ⟨_,rfl⟩ (zhL l)
theorem zh7:∀ {ts:List Str} {us:List Value},zb9 (ts.map V.str) us→∃ l:List (Str×Tok),us=strValues l∧l.map (·.1)=ts
 | [],_,.nil=>⟨[],rfl,rfl⟩
 | t::ts,_,.cons ⟨k,e⟩ r=>by
  obtain ⟨l,e1,e2⟩:=zh7 r
  exact ⟨(t,k)::l,by rw [e,e1];rfl,by rw [← e2];rfl⟩
theorem zds:MtM X "str.split" zdt:=by
 intro pins s σ H x vs v us Q I rx rv h
 obtain ⟨x,y,rfl,rfl,hy,hx,q⟩:=h
 obtain ⟨t,rfl⟩:=rx
 obtain ⟨w,rfl,u,rfl⟩:=zfp rv
 have sz:(1000000:Nat)+2≤sizeLine:=by decide
 have hy':(y.length == 0)=false:=beq_eq_false_iff_ne.mpr (by (first|lia|omega))
 have lo:=StrLaws.occ_length_le x y 0 x.length (x.length+1)
 have lp:=PySem.length_partsBetween x (Builtin.Str.occurrences x y 0 x.length (x.length+1)) y.length
 have ls:(Txt.split x y).length≤sizeLine:=by
  have:=PyProof.Rows.split_weight x y hy
  (first|lia|omega)
 have fin:∀ (l:List (Str×Tok)) (k:Nat),l.map (·.1)=Txt.split x y→EP X pins σ Q (.ref s.heap.objs.size) { s with toks:=k,heap:=s.heap.push { cls:=.type "list",data:=.seq (strValues l).toArray } }:=fun l k e=>by
  refine ⟨.ref _,_,I.laid (t':=k) (fun b o e=>Heap.get?_push_of_some _ e) (Nat.le_refl _) ?_,rfl,q _ (I.hok.fresh (Nat.le_refl _))⟩
  exact ⟨by rw [List.length_map];exact ls,strValues l,0,by rw [← e];exact zhL l,Heap.get?_push_size _ rfl⟩
 cases h1:(decide (x.length<y.length) || decide (Builtin.Str.strKind x<Builtin.Str.strKind y))
 ·cases hf:(Builtin.Str.occurrences x y 0 x.length (x.length+1)).isEmpty
  ·refine call_meets F.slot_str_split (typeIs_str _ _ _) F.entry_str_split (F.args_str_split_2 _ _) (meets_str_split_sep x y t u h1 hy' hf (by (first|lia|omega)) (by (first|lia|omega))) ?_
   show wants _ _ _ { s with toks:=_,heap:=s.heap.push { cls:=.type "list",data:=.seq (strsFrom s.toks (Builtin.Str.partsBetween x (Builtin.Str.occurrences x y 0 x.length (x.length+1)) y.length)).toArray } }
   rw [strsFrom_eq]
   exact fin (numbered s.toks _) _ ((numbered_texts _ _).trans ((if_neg (ne_true_of_eq_false h1)).trans (if_neg (ne_true_of_eq_false hf))).symm)
  ·exact call_meets F.slot_str_split (typeIs_str _ _ _) F.entry_str_split (F.args_str_split_2 _ _) (meets_str_split_not_found x y t u h1 hy' hf) (fin [(x,t)] s.toks ((if_neg (ne_true_of_eq_false h1)).trans (if_pos hf)).symm)
 ·exact call_meets F.slot_str_split (typeIs_str _ _ _) F.entry_str_split (F.args_str_split_2 _ _) (meets_str_split_cannot_occur x y t u h1) (fin [(x,t)] s.toks (if_pos h1).symm)
theorem zkX:MtM X "str.partition" ziY:=by
 intro pins s σ H x vs v us Q I rx rv h
 obtain ⟨x,y,rfl,rfl,hy,hx,q⟩:=h
 obtain ⟨t,rfl⟩:=rx
 obtain ⟨w,rfl,u,rfl⟩:=zfp rv
 have sz:(1000000:Nat)+2≤sizeLine:=by decide
 have hy':(y.length == 0)=false:=beq_eq_false_iff_ne.mpr (by (first|lia|omega))
 have fin:∀ (ta tb tc:Tok) (k:Nat),EP X pins σ Q (.ref s.heap.objs.size) { s with toks:=k,heap:=s.heap.push { cls:=.type "tuple",data:=.seq [.str (Txt.partition x y).1 ta,.str (Txt.partition x y).2.1 tb,.str (Txt.partition x y).2.2 tc].toArray } }:=fun ta tb tc k=>by
  refine ⟨.ref _,_,I.laid (t':=k) (fun b o e=>Heap.get?_push_of_some _ e) (Nat.le_refl _) ?_,rfl,q _ (I.hok.fresh (Nat.le_refl _))⟩
  exact ⟨(by decide:3≤sizeLine),_,.cons ⟨_,rfl⟩ (.cons ⟨_,rfl⟩ (.cons ⟨_,rfl⟩ .nil)),_,Heap.get?_push_size _ rfl,rfl,0,rfl⟩
 refine call_meets F.slot_str_partition (typeIs_str _ _ _) F.entry_str_partition (F.args_str_partition_2 _ _) (meets_str_partition x y t u hy' (by (first|lia|omega))) ?_
 have h':=fin
 unfold Txt.partition at h'
 revert h'
 cases Builtin.Str.occurrences x y 0 x.length 1 with
 | nil=>intro h';exact h' _ _ _ _
 | cons i r=>intro h';exact h' _ _ _ _
theorem zk6:MtM X "str.startswith" zg4:=by
 intro pins s σ H x vs v us Q I rx rv h
 obtain ⟨x,y,rfl,rfl,q⟩:=h
 obtain ⟨t,rfl⟩:=rx
 obtain ⟨w,rfl,u,rfl⟩:=zfp rv
 exact SC.startswith ⟨.bl _,H,I,rfl,q⟩
theorem zg5:MtM X "str.join" (zjc X.K):=by
 intro pins s σ H x vs v us Q I rx rv h
 obtain ⟨x,p,ts,rfl,rfl,hp,hx,q⟩:=h
 obtain ⟨t,rfl⟩:=rx
 obtain ⟨w,rfl,ru⟩:=zfp rv
 cases ru
 obtain ⟨its,r,pl,_⟩:=I.list hp
 obtain ⟨l,rfl,el⟩:=zh7 r
 refine SC.join pl.isList el ?_ fun t' k=>⟨.str _,H,I.tok _,⟨_,rfl⟩,q⟩
 show (!Builtin.Str.tooLong (ts.toArray.foldl (fun a p=>a+p.length+x.length) 0))=true
 rw [StrLaws.joinTotal]
 unfold Builtin.Str.tooLong
 rw [decide_eq_false (by (first|lia|omega))]
 rfl
end
def Its (x:Str):It:=⟨fun i _=>i<x.cps.size,fun i H v H'=>H'=H∧∃ c,x.cps[i]?=some c∧v=.str ⟨#[c]⟩,fun i _=>x.cps.size≤i⟩
def zpA (tl:TE):TI:=fun σ H R=>tl σ H fun v H1=>∃ x,v=.str x∧R (Its x) H1
theorem zjI {P:Program} {w:World} {K:PySem.W.Frag} {tg:Expr} (ty:String) (hty:ty="str_ascii_iterator"∨ty="str_iterator") (it:Addr) (x:Str) (t:Tok):znx P w K tg (Its x) [it] it (fun i h=>h.IsStrIter it ty x t i) where
 mem:=by simp
 obj:=fun i h st b hb=>by
  have e:b=it:=by simpa using hb
  subst e
  obtain ⟨o,e,c,d⟩:=st
  exact ⟨o,e,fun v z=>by rw [d] at z;cases z⟩
 keep:=fun i h h' st k=>let ⟨o,ho,r⟩:=st;⟨o,k it (by simp) o ho,r⟩
 item:=by
  intro X hP hw hK hc i pins s σ H E I hf st hg
  subst hP hw hK
  obtain ⟨f0,f1,f2,f3,f4,f5⟩:=hf it (by simp)
  have W:Walks X.prog X.w X.A it [it] [it] x.cps.size (SignAt x) (fun i h=>h.IsStrIter it ty x t i):=by
   rcases hty with rfl | rfl
   ·exact Walks.strAscii (I.ok.hd hc) it x t
   ·exact Walks.strWide (I.ok.hd hc) it x t
  refine W.item i s _ _ hg st fun v h' tk hv st' kk=>?_
  obtain ⟨c,u,hcu,rfl⟩:=hv
  have I1:Inv X pins σ H { s with heap:=h',toks:=tk }:=I.turned (fun b o hb e=>kk b o (by simpa using hb) e) f0 f1 f3 f4 f5
  obtain ⟨o,e,cl,d⟩:=id st'
  refine ⟨_,rfl,zoq (s:={ s with heap:=h',toks:=tk }) (n:=ty) e cl d ?_ ⟨.str ⟨#[c]⟩,H,I1,⟨u,rfl⟩,⟨rfl,c,hcu,rfl⟩,st',fun b hb=>(hf b hb).1⟩⟩
  rcases hty with rfl | rfl <;> decide
 done:=by
  intro X hP hw hK hc i pins s σ H E I hf st hg
  subst hP hw hK
  obtain ⟨f0,f1,f2,f3,f4,f5⟩:=hf it (by simp)
  have hx:x.cps[i]?=none:=by
   have:x.cps.size≤i:=hg
   simp [this]
  rcases hty with rfl | rfl
  ·exact wpAny_pyNext_ascii_end (I.ok.hd hc) st hx fun h' eb=>⟨rfl,I.turned (t':=s.toks) (fun b o hb e=>eb b o hb e) f0 f1 f3 f4 f5⟩
  ·exact wpAny_pyNext_wide_end (I.ok.hd hc) st hx fun h' eb=>⟨rfl,I.turned (t':=s.toks) (fun b o hb e=>eb b o hb e) f0 f1 f3 f4 f5⟩
 self:=fun _ _ _ _ _ st h=>by
  rcases hty with rfl | rfl
  ·exact wpAny_pyIter_striter_ascii st h
  ·exact wpAny_pyIter_striter_wide st h
section
variable {X:Cx} {tg:Expr}
theorem zm5 {l:Expr} {tl:TE} (hl:PE X l tl):PI X tg l (zpA tl):=by
 intro pins s σ H R I h
 refine thn (hl pins s σ H _ I h) fun v s1 hQ'=>?_
 obtain ⟨x,H1,I1,r1,q1⟩:=hQ'
 obtain ⟨x,rfl,q⟩:=q1
 obtain ⟨t,rfl⟩:=r1
 have fp:∀ b∈[s1.heap.objs.size],zi8 X pins H1 b:=fun b hb=>by
  have e:b=s1.heap.objs.size:=by simpa using hb
  subst e
  exact I1.fpOk (Nat.le_refl _) (I1.hok.fresh (Nat.le_refl _))
 cases ha:x.cps.all (·<128)
 ·exact wpAny_pyIter_wide ha ⟨s1.heap.objs.size,[s1.heap.objs.size],_,_,H1,rfl,I1.kept (t':=s1.toks) fun b o e=>Heap.get?_push_of_some _ e,zjI "str_iterator" (.inr rfl) _ x t,⟨_,Heap.get?_push_size _ rfl,rfl,rfl⟩,fp,q⟩
 ·exact wpAny_pyIter_ascii ha ⟨s1.heap.objs.size,[s1.heap.objs.size],_,_,H1,rfl,I1.kept (t':=s1.toks) fun b o e=>Heap.get?_push_of_some _ e,zjI "str_ascii_iterator" (.inl rfl) _ x t,⟨_,Heap.get?_push_size _ rfl,rfl,rfl⟩,fp,q⟩
end
theorem zie {x:Str} {g:TG} {tt:TT} {te:TE} {σ:St} {H:Hp} {D:Addr} {Q:VK} (Pv:Nat→List V→St→Hp→Prop) (h0:Pv 0 [] σ (upd H D (.lst [])))
  (hs:∀ i c ys σ H,x.cps[i]?=some c→H D=some (.lst ys)→Pv i ys σ H→g (.str ⟨#[c]⟩) σ H fun σ2 H2=>tt σ2 H2 fun b H3=>if b=true then te σ2 H3 fun y H4=>zbr (.ref D) [y] H4 fun _ H5=>∃ ys,H5 D=some (.lst ys)∧Pv (i+1) ys σ2 H5 else ∃ ys,H3 D=some (.lst ys)∧Pv (i+1) ys σ2 H3)
  (hd:∀ ys σ H,H D=some (.lst ys)→Pv x.cps.size ys σ H→Q (.ref D) H):zfl (Its x) g tt te D Q σ (upd H D (.lst [])):=by
 refine ⟨fun i m σ H=>m=x.cps.size - i∧i≤x.cps.size∧∃ ys,H D=some (.lst ys)∧Pv i ys σ H,⟨_,rfl,Nat.zero_le _,[],zae,h0⟩,?_⟩
 rintro i m σ H ⟨rfl,hi,ys,hD,pv⟩
 by_cases hlt:i<x.cps.size
 ·refine .inr ⟨hlt,fun σ H=>∃ ys,H D=some (.lst ys)∧Pv (i+1) ys σ H,fun σ' H' p'=>⟨_,by (first|lia|omega),rfl,hlt,p'⟩,fun v H' yl=>?_⟩
  obtain ⟨e,c,hc,rfl⟩:=yl
  subst e
  exact hs i c ys σ _ hc hD pv
 ·have e:i=x.cps.size:=by (first|lia|omega)
  subst e
  exact .inl ⟨Nat.le_refl _,hd ys σ H hD pv⟩
def zlL:V→Option Int→Option Int→Hp→VK→Prop:=fun x lo hi H Q=>∃ z:Str,x=.str z∧z.length≤sizeLine∧Q (.str ⟨((z.cps.toList.drop (HT.sIx z.length 0 lo)).take (HT.sIx z.length z.length hi - HT.sIx z.length 0 lo)).toArray⟩) H
theorem zfH (lo hi:Option Int) (n:Nat):Builtin.Str.strSliceIndices lo hi 1 n=sliceRange (HT.sIx n 0 lo:Nat) (HT.sIx n n hi:Nat) 1:=by
 have one:(1:Int) > 0:=by decide
 have e1:∀ v:Int,max (0:Int) (min (if v<0 then v+n else v) n)=((HT.sIx n 0 (some v):Nat):Int):=fun v=>by
  show _=(((if v<0 then (v+(n:Int)).toNat else min v.toNat n):Nat):Int)
  by_cases h:v<0
  ·rw [if_pos h,if_pos h];(first|lia|omega)
  ·rw [if_neg h,if_neg h];(first|lia|omega)
 have e2:∀ v:Int,max (0:Int) (min (if v<0 then v+n else v) n)=((HT.sIx n n (some v):Nat):Int):=e1
 unfold Builtin.Str.strSliceIndices
 simp only [one,if_true]
 cases lo with
 | none =>
  cases hi with
  | none=>rfl
  | some v=>rw [← e2 v];rfl
 | some v =>
  cases hi with
  | none=>rw [← e1 v];rfl
  | some u=>rw [← e1 v,← e2 u]
theorem zfI {X:Cx}:SlR X zlL:=by
 intro pins s σ H x v vl vu lo hi sl Q I rx hs pl pu h
 obtain ⟨z,rfl,hz,q⟩:=h
 obtain ⟨t,rfl⟩:=rx
 refine ⟨"str",_,F.slot_str_getitem.lookup,typeIs_str _ _ _,?_⟩
 obtain ⟨l,rfl,el⟩:∃ l:Option (Int×Tok),vl=partValue l∧l.map (·.1)=lo:=by
  cases pl with
  | none=>exact ⟨none,rfl,rfl⟩
  | int i t=>exact ⟨some (i,t),rfl,rfl⟩
 obtain ⟨u,rfl,eu⟩:∃ l:Option (Int×Tok),vu=partValue l∧l.map (·.1)=hi:=by
  cases pu with
  | none=>exact ⟨none,rfl,rfl⟩
  | int i t=>exact ⟨some (i,t),rfl,rfl⟩
 have ep:(slicePicked z l u none).filterMap (z.cps[·]?)=(z.cps.toList.drop (HT.sIx z.length 0 lo)).take (HT.sIx z.length z.length hi - HT.sIx z.length 0 lo):=by
  unfold slicePicked
  rw [el,eu]
  show (Builtin.Str.strSliceIndices lo hi 1 z.length).filterMap (z.cps[·]?)=_
  rw [zfH,sliceRange_one,pick_run]
 refine wpAny_getItem_str_slice (l:=l) (u:=u) (st:=none) hs rfl ?_
 unfold sliceMade
 rw [ep]
 cases hw:(((none:Option (Int×Tok)).map (·.1)).getD 1 == 1&&(slicePicked z l u none).length == z.length)
 ·refine ⟨?_,.str _,H,I.tok _,⟨_,rfl⟩,q⟩
  show (List.toArray _).size≤sizeLine
  rw [List.size_toArray,List.length_take,List.length_drop]
  have:z.cps.toList.length=z.length:=by simp [Str.length]
  (first|lia|omega)
 ·refine ⟨.str z,H,I,⟨t,rfl⟩,?_⟩
  have e:(z.cps.toList.drop (HT.sIx z.length 0 lo)).take (HT.sIx z.length z.length hi - HT.sIx z.length 0 lo)=z.cps.toList:=by
   have hl:(slicePicked z l u none).length=z.length:=by simpa using hw
   have hp:slicePicked z l u none=(List.range (HT.sIx z.length z.length hi - HT.sIx z.length 0 lo)).map (HT.sIx z.length 0 lo+·):=by
    unfold slicePicked
    rw [el,eu]
    show Builtin.Str.strSliceIndices lo hi 1 z.length=_
    rw [zfH,sliceRange_one]
   rw [hp,List.length_map,List.length_range] at hl
   have h1:=HT.sIx_le z.length z.length (Nat.le_refl _) hi
   have h0:=HT.sIx_le z.length 0 (Nat.zero_le _) lo
   have lz:z.cps.toList.length=z.length:=by simp [Str.length]
   rw [hl]
   by_cases n0:z.length=0
   ·have:z.cps.toList=[]:=List.eq_nil_of_length_eq_zero (by (first|lia|omega))
    rw [this,List.drop_nil,List.take_nil]
   ·rw [show HT.sIx z.length 0 lo=0 by (first|lia|omega),List.drop_zero,List.take_of_length_le (by (first|lia|omega))]
  rw [e] at q
  exact q
end L2
namespace L2
open PySem PySem.Spec PyProof.Rows
section
variable {P:Program} {w:World} {H H':Hp} {h h':Heap} {c:Addr} {o:Obj}
theorem ziC (x:HOk P w H h) (hc:H c=some (.frz o (.own c))):HOk P w (zeA H c) h:=fun b u e=>by
 obtain ⟨n,e⟩:=zhy e
 refine (x b u e).stay (fun _ _ _ q=>q) (fun d q=>?_) fun d xs q=>?_
 ·rw [zbp (fun z=>by rw [z,hc] at q;cases q)];exact q
 ·rw [zbp (fun z=>by rw [z,hc] at q;cases q)];exact q
theorem ziJ (x:HOk P w H h) (hc:H c=none) (e:h.get? c=some o):HOk P w (upd H c (.frz o (.own c))) h:=fun b u q=>by
 by_cases z:b=c
 ·subst z
  rw [zae] at q
  cases q
  exact ⟨e,o,e⟩
 ·rw [zap z] at q
  refine (x b u q).stay (fun _ _ _ r=>r) (fun d r=>?_) fun d xs r=>?_
  ·rw [zap (zaL r hc)];exact r
  ·rw [zap (zaL r hc)];exact r
theorem zng {fs:List Addr} (u:Un fs [] (upd H c (.frz o (.own c))) H' h h') (hc:H c=none) (e:h.get? c=some o) (ec:h'.get? c=some o):Un fs [] H (zeA H' c) h h':=by
 have up:∀ b,b≠c→H b=none→upd H c (.frz o (.own c)) b=none:=fun b n q=>by rw [zap n];exact q
 refine ⟨fun b ob q n hb hx=>?_,fun b ob q n hb hx=>?_,fun b ob q n hx=>?_,fun b ob q hx=>u.there b ob q hx,fun b xs q=>?_,fun b ob v q=>?_,fun b ps q=>?_⟩
 ·by_cases z:b=c
  ·subst z
   rw [e] at q
   cases q
   exact ec
  ·exact u.keep b ob q (up b z n) hb hx
 ·by_cases z:b=c
  ·subst z
   rw [e] at q
   cases q
   exact ⟨o.slots,ec⟩
  ·exact u.slot b ob q (up b z n) hb hx
 ·by_cases z:b=c
  ·rw [z];exact zdP
  ·rw [zbp z];exact u.free b ob q (up b z n) hx
 ·have z:b≠c:=fun z=>by rw [z,hc] at q;cases q
  rw [zbp z]
  exact u.tups b xs (by rw [zap z];exact q)
 ·have z:b≠c:=fun z=>by rw [z,hc] at q;cases q
  rw [zbp z]
  exact u.frzs b ob v (by rw [zap z];exact q)
 ·have z:b≠c:=fun z=>by rw [z,hc] at q;cases q
  rw [zbp z]
  exact u.tbls b ps (by rw [zap z];exact q)
theorem zqr {fs:List Addr} (u:Un fs [] (zeA H c) H' h h') (hc:H c=some (.frz o (.own c))) (e:h.get? c=some o):Un fs [] H (upd H' c (.frz o (.own c))) h h':=by
 have nb:∀ b,H b=none→b≠c:=fun b n z=>by rw [z,hc] at n;cases n
 refine ⟨fun b ob q n hb hx=>?_,fun b ob q n hb hx=>?_,fun b ob q n hx=>?_,fun b ob q hx=>u.there b ob q hx,fun b xs q=>?_,fun b ob v q=>?_,fun b ps q=>?_⟩
 ·exact u.keep b ob q (by rw [zbp (nb b n)];exact n) hb hx
 ·exact u.slot b ob q (by rw [zbp (nb b n)];exact n) hb hx
 ·rw [zap (nb b n)]
  exact u.free b ob q (by rw [zbp (nb b n)];exact n) hx
 ·have z:b≠c:=fun z=>by rw [z,hc] at q;cases q
  rw [zap z]
  exact u.tups b xs (by rw [zbp z];exact q)
 ·by_cases z:b=c
  ·subst z
   rw [hc] at q
   cases q
   exact zae
  ·rw [zap z]
   exact u.frzs b ob v (by rw [zbp z];exact q)
 ·have z:b≠c:=fun z=>by rw [z,hc] at q;cases q
  rw [zap z]
  exact u.tbls b ps (by rw [zbp z];exact q)
theorem zpT {outer:List Env} {s s':Shared} {Q:VK} {u:Value} (x:CE outer P w (upd H c (.frz o (.own c))) s (fun v H'=>Q v (zeA H' c)) u s') (hc:H c=none) (e:s.heap.get? c=some o):CE outer P w H s Q u s':=by
 obtain ⟨v,H',os,bare,un,hok,r,q⟩:=x
 exact ⟨v,_,os,bare,zng un hc e (hok c _ (un.frzs c _ _ zae)).1,ziC hok (un.frzs c _ _ zae),r,q⟩
theorem zpY {outer:List Env} {s s':Shared} {Q:VK} {u:Value} (x:CE outer P w (zeA H c) s (fun v H'=>Q v (upd H' c (.frz o (.own c)))) u s') (hc:H c=some (.frz o (.own c))) (e:s.heap.get? c=some o) (hf:c∉frs outer):CE outer P w H s Q u s':=by
 obtain ⟨v,H',os,bare,un,hok,r,q⟩:=x
 have fr:H' c=none:=un.free c o e zdP (by simp)
 exact ⟨v,_,os,bare,zqr un hc e,ziJ hok fr (un.keep c o e zdP hf (by simp)),r,q⟩
theorem znI {outer:List Env} {s s':Shared} {E:XK} {v:Value} (x:CXV P w outer (upd H c (.frz o (.own c))) s (fun k od H'=>E k od (zeA H' c)) v s') (hc:H c=none) (e:s.heap.get? c=some o) (hf:c∉frs outer):CXV P w outer H s E v s':=by
 obtain ⟨ea,B,cls,a0,H',od,rfl,x,d⟩:=x
 have fc:H' c=some (.frz o (.own c)):=x.un.frzs c _ _ zae
 have eB:B.get? c=some o:=(x.hokB c _ fc).1
 refine ⟨ea,B,cls,a0,zeA H' c,od,rfl,⟨x.os,x.bare,?_,ziC x.hokB fc,x.fly,fun b ob q n hb=>?_,x.covT,x.new,?_,x.want⟩,d⟩
 ·exact zng x.un hc e (x.fly.1 c o eB)
 ·by_cases z:b=c
  ·subst z
   rw [e] at q
   cases q
   exact eB
  ·exact x.cov b ob q (by rw [zap z];exact n) hb
 ·unfold zeA
  split
  ·rfl
  ·exact x.free
end
theorem zk1 {P:Program} {w:World} {K:PySem.W.Frag} {mg:Str→Option Value} {base:Heap} {A:Around} {outer:List Env} {s:Shared} {H:Hp} {q c':Addr} {nm qual x y:Str} {params:Arguments} {body:Expr} {scope:Scope} {cl:List (Str×Addr)}
  {pm ctv u1 u2:Value} {v1 v2:V} {Ns:List Str} {vs:List V} {Q:VK} {t:TE} (e0:zlI P w K mg base A outer s H) (hroom:A.depth<recursionLimit) (hh:A.handled=none)
  (ho:s.heap.get? q=some (PySem.W.kla_obj nm qual params body scope cl pm c' ctv)) (hcd:s.heap.CodeRec (.ref c') qual)
  (hbind:bindArgs (PySem.W.kla_fn nm qual params body scope cl pm (.ref c') ctv) ⟨[u1,u2],[]⟩=pure [(x,u1),(y,u2)]) (hne:x≠y) (hlx:scope.names.lookup x=some .local) (hly:scope.names.lookup y=some .local) (hk:scope.kind=.function) (hco:scope.isCoroutine=false) (hgen:scope.isGenerator=false)
  (hcell:∀ y∈scope.names,y.2≠.cell) (T:zoG H s.heap scope cl Ns vs) (r1:zcF v1 u1) (r2:zcF v2 u2) (hb:PE (zlw P w K mg base (x::y::Ns) qual scope q (.ref c') cl A outer s H) body t) {Q0:VK} (hQ:∀ v H',(∀ y c,cl.lookup y=some c→H' c=none)→Q0 v H'→Q v H') (h:t (some v1::some v2::vs.map some) H Q0) :
  codeAny (model P w) A (.call (.ref q) ⟨[u1,u2],[]⟩) (fun r s'=>match r with | .ok (.ret u')=>CE outer P w H s Q u' s' | _=>False) s:=by
 have lim:s.heap.NoLimit:=e0.mod.nolimit.keeps fun b o e=>(e0.bs b o e).1
 refine PySem.W.kla_callFunE hroom ho rfl hco hgen rfl hcd ?_
 rw [hbind]
 refine wpAny_pure (wpAny_newFunctionEnv hcell (fun z hz=>?_) (fun h₁ hns hsb=>⟨lim.fresh _ hsb,?_⟩) hk)
 ·rcases List.mem_cons.mp hz with rfl | hz
  ·exact hlx
  ·rw [List.mem_singleton.mp hz];exact hly
 have hk₁:∀ b o,s.heap.get? b=some o→h₁.get? b=some o:=fun b o e=>hsb.extBut b o (Nat.ne_of_lt (Heap.lt_size e)) (Heap.get?_push_of_some _ e)
 have I:Inv (zlw P w K mg base (x::y::Ns) qual scope q (.ref c') cl A outer s H) [] (some v1::some v2::vs.map some) H { s with heap:=h₁,toks:=s.toks+2 }:=by
  have noA:∀ b:Addr,b∉(zlw P w K mg base (x::y::Ns) qual scope q (.ref c') cl A outer s H).ex:=fun b z=>absurd (show b∈([]:List Addr) from z) (by simp)
  refine ⟨⟨e0.mod,hk,rfl,rfl,Nat.le_refl _,T.inj,fun y hy=>?_,fun y c hf e=>?_,fun _=>hh,Around.frames_deeper e0.frames,.inr ⟨rfl,rfl⟩,fun b z=>absurd z (noA b),e0.bs,e0.bsz,fun b _ _=>noA b,fun b z=>absurd z (noA b),e0.funs,e0.frf⟩,
   rfl,e0.bare,Un.kept hk₁,⟨_,hns,fun i z v' h1 h2 h3=>?_⟩,fun y c e=>?_,e0.hok.fresh (Nat.le_refl _),fun y c e=>(T.cel y c e).1,fun p hp=>absurd (show p∈([]:List (Addr×Obj)) from hp) (by simp),e0.hok.kept hk₁,?_⟩
  ·have hy:scope.names.lookup y=some .cell∨scope.names.lookup y=some .free:=hy
   rcases hy with hy | hy
   ·exact absurd rfl (hcell _ (PySem.mem_of_lookup hy))
   ·exact T.has y hy
  ·have hf:(cl.lookup y).isNone=true:=hf
   have e:cl.lookup y=some c:=e
   rw [e] at hf
   cases hf
  ·match i,h1,h2 with
   | 0,h1,h2 =>
    have h1:some x=some z:=h1
    have h2:some (some v1)=some (some v'):=h2
    cases h1
    cases h2
    refine ⟨u1,r1,.inl ⟨hlx,?_⟩⟩
    show List.lookup x [(y,u2),(x,u1)]=some u1
    rw [List.lookup_cons,beq_eq_false_iff_ne.mpr hne]
    simp
   | 1,h1,h2 =>
    have h1:some y=some z:=h1
    have h2:some (some v2)=some (some v'):=h2
    cases h1
    cases h2
    refine ⟨u2,r2,.inl ⟨hly,?_⟩⟩
    show List.lookup y [(y,u2),(x,u1)]=some u2
    simp
   | i+2,h1,h2 =>
    have h1:Ns[i]?=some z:=h1
    obtain ⟨c,uy,vy,e1,e2,e3,e4,e5⟩:=T.at' i z h1
    have h2:(vs.map some)[i]?=some (some v'):=h2
    rw [List.getElem?_map,e4] at h2
    cases h2
    obtain ⟨oc,z1,z2⟩:=e3
    exact ⟨uy,e5,.inr ⟨.inr e2,c,e1,⟨oc,hk₁ _ _ z1,z2⟩⟩⟩
  ·obtain ⟨v',oc,z1,z2⟩:=(T.cel y c e).2
   exact ⟨v',oc,hk₁ _ _ z1,z2⟩
  ·show (some v1::some v2::vs.map some).length=(x::y::Ns).length
   rw [List.length_cons,List.length_cons,List.length_map,List.length_cons,List.length_cons,T.len]
 refine PySem.W.kla_codeExpr (wpAny_mono (hb [] _ _ H _ I h) (fun u' s' hs=>?_) fun _ _ z=>z.elim)
 obtain ⟨v',H',J,rv',q'⟩:=hs
 exact ⟨v',H',J.os,J.bare,J.base,J.hok,rv',hQ v' H' (fun y c e=>J.freeC y c e) q'⟩
def znM (e:Expr) (qual y:Str) (H:Hp) (q c:Addr) (w:V):Prop:=∃ (params:Arguments) (body:Expr) (scope:Scope) (lpos:Pos) (pm ctv:Value) (c':Addr) (oc:Obj) (ovs:Array Value) (t:Nat) (ou:Obj) (uv:Value),
 e=.Lambda params body scope lpos∧H q=some (.frz (PySem.W.kla_obj "<lambda>" qual params body scope [(y,c)] pm c' ctv) (.own q))∧H c'=some (.frz oc (.own c'))∧oc.data=.fields ovs∧ovs[1]?=some (.str qual t)∧c'≠c∧q≠c ∧
 H c=some (.frz ou (.own c))∧ou.data=.cell (some uv)∧zcF w uv
theorem znM.same {e:Expr} {qual y:Str} {H H':Hp} {q c:Addr} {w:V} (h:znM e qual y H q c w) (s:za3 H H'):znM e qual y H' q c w:=by
 obtain ⟨a1,a2,a3,a4,a5,a6,a7,a8,a9,a10,a11,a12,b1,b2,b3,b4,b5,b6,b7,b8,b9⟩:=h
 exact ⟨a1,a2,a3,a4,a5,a6,a7,a8,a9,a10,a11,a12,b1,s _ _ b2,s _ _ b3,b4,b5,b6,b7,s _ _ b8,b9⟩
def zjJ (e:Expr) (qual y:Str) (i:Nat) (tb:TE) (ta:TA):TE:=fun σ H Q=>∃ q,σ[i]?=some (some (.ref q))∧ta σ H fun vs H1=>∃ u1 u2 c w,vs=[u1,u2]∧znM e qual y H1 q c w∧tb [some u1,some u2,some w] (zeA H1 c) fun v H2=>H2 c=none→∀ F,H1 c=some F→Q v (upd H2 c F)
section
variable {X:Cx} {x y z f:Str} {p pos lpos:Pos} {e1 e2 body:Expr} {params:Arguments} {scope:Scope} {qual:Str} {ta:TA} {tb:TE} {i k:Nat}
theorem zmJ (hN:X.N[i]?=some f) (hv:Vis X.env.scope f) (hr:ze3 (k+1) X.A) (ha:PA X [e1,e2] ta)
  (hbind:∀ (cl:List (Str×Addr)) (pm cd ctv u1 u2:Value),bindArgs (PySem.W.kla_fn "<lambda>" qual params body scope cl pm cd ctv) ⟨[u1,u2],[]⟩=pure [(x,u1),(z,u2)]) (hne:x≠z) (hlx:scope.names.lookup x=some .local) (hlz:scope.names.lookup z=some .local) (hk:scope.kind=.function) (hco:scope.isCoroutine=false) (hgen:scope.isGenerator=false)
  (hcell:∀ y∈scope.names,y.2≠.cell) (hfree:scope.names.lookup y=some .free) (hall:∀ n∈scope.names,n.2=.free→n.1=y)
  (hb:∀ (c:Addr) (f:Addr) (cd:Value) (A:Around) (outer:List Env) (s:Shared) (H:Hp),ze3 k (zlw X.prog X.w X.K X.mg X.base [x,z,y] qual scope f cd [(y,c)] A outer s H).A→PE (zlw X.prog X.w X.K X.mg X.base [x,z,y] qual scope f cd [(y,c)] A outer s H) body tb)
  (hd:(f == ("__debug__":Str))=false:=by decide) (hcd:(f == ("__classdict__":Str))=false:=by decide)
  (he:starEach [e1,e2] X.env=(false,eval e1 X.env)::starEach [e2] X.env:=by rfl) (hpl:(backTo pos (starEach [e2] X.env)).any (·.1)=false:=by rfl) :
  PE X (.Call (.Name f p) [e1,e2] [] pos) (zjJ (.Lambda params body scope lpos) qual y i tb ta):=by
 intro pins s σ H Q I h
 obtain ⟨q,hq,h⟩:=h
 refine wpAny_Call_Name_kw (thn (zm3 (pos:=p) hN hv hd hcd pins s σ H (fun v H1=>v=.ref q∧H1=H) I ⟨.ref q,hq,rfl,rfl⟩) fun fv s1 hQ'=>?_)
 obtain ⟨v,H1,I1,r1,e,eH⟩:=hQ'
 subst e
 subst eH
 cases r1
 refine PySem.W.callWith_of (P:=fun h=>∃ (cl:List (Str×Addr)) (pm ctv:Value) (c':Addr),h.get? q=some (PySem.W.kla_obj "<lambda>" qual params body scope cl pm c' ctv)) (by rw [he];show ((false || (backTo pos (starEach [e2] X.env)).any (·.1)) || false)=false;rw [hpl];rfl) (fun h ⟨cl,pm,ctv,c',e⟩=>⟨.frame,.inl rfl,(PySem.W.Looks.ld (part:=none) e).andThen .now⟩) ?_
 have hA:=ha pos pins s1 σ H1 _ I1 h
 rw [he] at hA ⊢
 refine Calls.evalArgs_plain (thn hA fun us s2 hQ'=>?_)
 obtain ⟨vs,H2,I2,r2,q2⟩:=hQ'
 obtain ⟨v1,v2,c,w,rfl,L,q2⟩:=q2
 obtain ⟨pa,bo,sc,lp,pm,ctv,c',oc,ovs,tk,ou,uv,eL,hq2,hc',hd',hv',nc',nq,hc,hdc,rw'⟩:=L
 cases eL
 obtain ⟨u1,u2,rfl,ru1,ru2⟩:=zkF r2
 have eq2:s2.heap.get? q=some (PySem.W.kla_obj "<lambda>" qual params body scope [(y,c)] pm c' ctv):=(I2.hok q _ hq2).1
 have ec':s2.heap.get? c'=some oc:=(I2.hok c' _ hc').1
 have ecell:s2.heap.get? c=some ou:=(I2.hok c _ hc).1
 refine ⟨⟨_,pm,ctv,c',eq2⟩,?_⟩
 have e0:=I2.env0
 have e0':zlI X.prog X.w X.K X.mg X.base X.A X.stack s2 (zeA H2 c):=⟨e0.frames,e0.mod,fun b o e=>⟨(e0.bs b o e).1,by
  unfold zeA
  split
  ·rfl
  ·exact (e0.bs b o e).2⟩,e0.bsz,e0.funs,fun b hb=>by
  unfold zeA
  split
  ·rfl
  ·exact e0.frf b hb,ziC e0.hok hc,e0.bare⟩
 have T:zoG (zeA H2 c) s2.heap scope [(y,c)] [y] [w]:=by
  have l1:([(y,c)]:List (Str×Addr)).lookup y=some c:=by simp [List.lookup]
  have only:∀ n d,([(y,c)]:List (Str×Addr)).lookup n=some d→n=y∧d=c:=fun n d e=>by
   rw [List.lookup_cons] at e
   cases q:n == y with
   | true =>
    rw [q] at e
    cases e
    exact ⟨beq_iff_eq.mp q,rfl⟩
   | false =>
    rw [q] at e
    cases e
  refine ⟨rfl,fun j n hj=>?_,fun n hn=>?_,fun n d e=>?_,fun n m d h1 h2=>?_⟩
  ·match j,hj with
   | 0,hj =>
    cases hj
    exact ⟨c,uv,w,l1,hfree,⟨ou,ecell,hdc⟩,rfl,rw'⟩
  ·have:=hall _ (PySem.mem_of_lookup hn) rfl
   have e:n=y:=this
   rw [e]
   exact ⟨c,l1⟩
  ·obtain ⟨_,rfl⟩:=only n d e
   exact ⟨zdP,_,ou,ecell,hdc⟩
  ·rw [(only n d h1).1,(only m d h2).1]
 refine wpAny_call (codeAny_mono (zk1 (t:=tb) (Ns:=[y]) (vs:=[w]) (x:=x) (y:=z) (v1:=v1) (v2:=v2) e0' hr.depth hr.hd eq2 ⟨c',oc,ovs,tk,rfl,ec',hd',hv'⟩ (hbind _ _ _ _ _ _) hne hlx hlz hk hco hgen hcell T ru1 ru2 (hb _ _ _ _ _ _ _ (hr.deeper _)) (Q:=fun v H3=>∀ F,H2 c=some F→Q v (upd H3 c F)) (fun v H' hf q=>q (hf y c (by simp [List.lookup]))) q2) fun r s' hq=>?_)
 have nfr:c∉frs X.stack:=fun z=>by rw [I2.stkFree c z] at hc;cases hc
 cases r with
 | error e=>exact hq.elim
 | ok fl =>
  cases fl with
  | ret u =>
   have hq:CE X.stack X.prog X.w (zeA H2 c) s2 _ u s':=hq
   refine I2.after (zpY (o:=ou) ?_ hc ecell nfr)
   obtain ⟨v,H',os,bare,un,hok,r,q⟩:=hq
   exact ⟨v,H',os,bare,un,hok,r,q _ hc⟩
  | next=>exact hq.elim
  | brk=>exact hq.elim
  | cont=>exact hq.elim
end
theorem Inv.trackF {X:Cx} {pins:List (Addr×Obj)} {σ:St} {H:Hp} {s:Shared} {q:Addr} {o:Obj} (I:Inv X pins σ H s) (fq:zi8 X pins H q) (hex:X.ex=[]) (e:s.heap.get? q=some o):Inv X pins σ (upd H q (.frz o (.own q))) s:=by
 obtain ⟨f0,f1,f2,f3,f4,f5⟩:=fq
 have f3:X.s₀.heap.objs.size≤q:=by
  rcases f3 with z | z
  ·rw [hex] at z;cases z
  ·exact z
 refine ⟨I.ok,I.os,I.bare,⟨I.base.keep,I.base.slot,fun b ob r n hx=>?_,I.base.there,fun b xs r=>?_,fun b ob u r=>?_,fun b ps r=>?_⟩,I.loc,I.cell,?_,fun x c ec=>?_,fun p hp=>?_,ziJ I.hok f0 e,I.len⟩
 ·rw [zap (Nat.ne_of_lt (Nat.lt_of_lt_of_le (Heap.lt_size r) f3))]
  exact I.base.free b ob r n hx
 ·have:=I.base.tups b xs r
  rw [zap (zaL this f0)]
  exact this
 ·have:=I.base.frzs b ob u r
  rw [zap (zaL this f0)]
  exact this
 ·obtain ⟨more,hm⟩:=I.base.tbls b ps r
  exact ⟨more,by rw [zap (zaL hm f0)];exact hm⟩
 ·rw [zap (Ne.symm f1)]
  exact I.free
 ·rw [zap (f4 x c ec)]
  exact I.freeC x c ec
 ·obtain ⟨p1,p2,p3,p4,p5⟩:=I.pin p hp
  exact ⟨p1,by rw [zap (f5 p hp)];exact p2,p3,p4,p5⟩
def zkI (P:Addr) (e:Expr) (lpos:Pos) (qual y:Str) (j:Nat) (sp:Sp) (E:XK) (te:TE):TE:=fun σ H Q=>te σ H fun v H1=>∃ w,σ[j]?=some (some w)∧zcX H1 P lpos qual ∧
 ∀ (q c:Addr) (H3 H4:Hp),Bar P H1 H3→zcX H3 P lpos qual→H1 q=none→H3 c=none→H1 c=none→za3 H3 H4→znM e qual y H4 q c w→sp [v,.ref q] H4 (fun r H5=>Q r (zeA H5 c)) (fun k od H5=>E k od (zeA H5 c))
section
variable {X:Cx} {x y:Str} {p pos lpos:Pos} {e body:Expr} {params:Arguments} {scope:Scope} {qual:Str} {te:TE} {j k:Nat} {f c cc P:Addr} {fd:FuncData} {ps:List Str} {sp:Sp} {E:XK}
theorem zmH (F:zdD X.prog X.w X.K X.mg X.base (CXV X.prog X.w) k f fd ps sp) (hr:ze3 k X.A) (hg:Gl X x) (hm:X.mg x=some (.ref f)) (hk:PySem.W.keepIn X.K (.ref f)=true) (hb:zcq X.K fd ps []) (hx:zfO (CXV X.prog X.w) X E) (h1:PE X e te)
  (hcode:X.env.code=.ref cc) (C:PySem.W.CodeHd X.base cc P) (hB:X.base.BuiltinsAt X.mg P) (hcl:closureFor scope X.env=pure [(y,c)]) (hdef:defaultsOf params X.env=([],[])) (hq:X.env.qual++"<lambda>"=qual) (hcap:zpF X scope [(y,c)] [y] [j]) (hex:X.ex=[]) (hfn:X.fn y=true)
  (hdb:(x == ("__debug__":Str))=false:=by decide) (he:starEach [e,.Lambda params body scope lpos] X.env=(false,eval e X.env)::starEach [.Lambda params body scope lpos] X.env:=by rfl)
  (he2:starEach [.Lambda params body scope lpos] X.env=(false,eval (.Lambda params body scope lpos) X.env)::starEach [] X.env:=by rfl) (hpl:(backTo pos (starEach [.Lambda params body scope lpos] X.env)).any (·.1)=false:=by rfl) :
  PE X (.Call (.Name x p) [e,.Lambda params body scope lpos] [] pos) (zkI P (.Lambda params body scope lpos) lpos qual y j sp E te):=by
 intro pins s σ H Q I h
 refine wpAny_Call_Name_kw (zeo I hg hm ?_ hdb)
 refine PySem.W.callWith_K (h₀:=X.base) I.ok.mod.kin hk ?_ he hpl
 rw [he]
 show wpAny _ _ (spliced ((false,eval e X.env)::backTo pos (starEach [.Lambda params body scope lpos] X.env))) _ _ s
 refine Calls.spliced_cons (thn (h1 pins s σ H _ I h) fun u s1 hQ'=>?_)
 obtain ⟨v,H1,I1,r1,w,hw,hL,q1⟩:=hQ'
 rw [he2]
 show wpAny _ _ (spliced ((false,eval (.Lambda params body scope lpos) X.env)::backTo pos (starEach [] X.env))) _ _ s1
 refine Calls.spliced_cons (zlZ I1 hcode C hB hL hcl hdef hq fun qa c' pm ctv H2 s2 oc ovs ot I2 bar hL2 hqa hc' hd hv fq=>?_)
 refine Calls.spliced_nil ⟨I2.kIn,?_⟩
 obtain ⟨j',c2,ej,eN,ek,el,ef⟩:=hcap.at' 0 y rfl
 have ec2:c2=c:=by
  have l1:([(y,c)]:List (Str×Addr)).lookup y=some c:=by simp [List.lookup]
  rw [l1] at el
  exact (Option.some.inj el).symm
 subst ec2
 have hcx:X.env.cells.lookup y=some c2:=hcap.sub y c2 el
 have T:=hcap.taken I2 (ws:=[w]) (by
  have:j=j':=by
   have e:some j=some j':=ej
   exact Option.some.inj e
  show [σ[j]?]=[some (some w)]
  rw [hw])
 obtain ⟨c3,uy,vy,t1,_,t3,t4,t5⟩:=T.at' 0 y rfl
 cases t4
 have ec3:c3=c2:=by
  rw [el] at t1
  exact (Option.some.inj t1).symm
 subst ec3
 obtain ⟨ou,eou,hou⟩:=t3
 have fc:H2 c3=none:=I2.freeC y c3 hcx
 have fc1:H1 c3=none:=I1.freeC y c3 hcx
 have nqc:qa≠c3:=fun z=>by
  rw [z,eou] at hqa
  cases hqa
  cases hou
 have ncc:c'≠c3:=fun z=>by rw [z,fc] at hc';cases hc'
 have fq2:H2 qa=none:=fq.1
 have nqP:qa≠P:=fun z=>by
  obtain ⟨ps,hP⟩:=hL2.tbl
  rw [z,hP] at fq2
  cases fq2
 have I3:=I2.trackF fq hex hqa
 have fc3:upd H2 qa (.frz (PySem.W.kla_obj "<lambda>" qual params body scope [(y,c3)] pm c' ctv) (.own qa)) c3=none:=by rw [zap (Ne.symm nqc)];exact fc
 have cab:X.s₀.heap.objs.size≤c3:=I2.ok.cab y c3 hfn hcx
 have nfr:c3∉frs X.stack:=fun z=>by
  rcases List.mem_cons.mp (I2.stkSub c3 z) with e | hb
  ·exact I2.cne y c3 hcx e
  ·obtain ⟨_,o',ho',_⟩:=I2.ok.funs.mem hb
   exact absurd (Nat.lt_of_lt_of_le (Heap.lt_size ho') cab) (Nat.lt_irrefl _)
 have q3:upd H2 qa (.frz (PySem.W.kla_obj "<lambda>" qual params body scope [(y,c3)] pm c' ctv) (.own qa)) qa=some (.frz (PySem.W.kla_obj "<lambda>" qual params body scope [(y,c3)] pm c' ctv) (.own qa)):=zae
 have hc3:upd H2 qa (.frz (PySem.W.kla_obj "<lambda>" qual params body scope [(y,c3)] pm c' ctv) (.own qa)) c'=some (.frz oc (.own c')):=by rw [zap (fun z=>by rw [z,fq2] at hc';cases hc')];exact hc'
 have bar3:Bar P H1 (upd H2 qa (.frz (PySem.W.kla_obj "<lambda>" qual params body scope [(y,c3)] pm c' ctv) (.own qa))):=fun b o n e=>by
  have:=bar b o n e
  rw [zap (zaL this fq2)]
  exact this
 have hL3:zcX (upd H2 qa (.frz (PySem.W.kla_obj "<lambda>" qual params body scope [(y,c3)] pm c' ctv) (.own qa))) P lpos qual:=hL2.same fun b o e=>by rw [zap (zaL e fq2)];exact e
 have fq1:H1 qa=none:=by
  cases z:H1 qa with
  | none=>rfl
  | some o =>
   rw [bar qa o nqP z] at fq2
   cases fq2
 generalize upd H2 qa (.frz (PySem.W.kla_obj "<lambda>" qual params body scope [(y,c3)] pm c' ctv) (.own qa))=H3 at I3 fc3 q3 hc3 bar3 hL3
 have S4:za3 H3 (upd H3 c3 (.frz ou (.own c3))):=zaA fc3 _
 have sp4:=q1 qa c3 H3 (upd H3 c3 (.frz ou (.own c3))) bar3 hL3 fq1 fc3 fc1 S4 ⟨params,body,scope,lpos,pm,ctv,c',oc,ovs,ot,ou,uy,rfl,S4 _ _ q3,S4 _ _ hc3,hd,hv,ncc,nqc,zae,hou,t5⟩
 have e0:=I3.env0
 have e04:zlI X.prog X.w X.K X.mg X.base X.A X.stack s2 (upd H3 c3 (.frz ou (.own c3))):=by
  refine ⟨e0.frames,e0.mod,fun b o e=>⟨(e0.bs b o e).1,?_⟩,e0.bsz,e0.funs,fun b hb=>?_,ziJ e0.hok fc3 eou,e0.bare⟩
  ·have lt:b<c3:=Nat.lt_of_lt_of_le (Nat.lt_of_lt_of_le (Heap.lt_size e) I2.ok.bsz) cab
   rw [zap (Nat.ne_of_lt lt)]
   exact (e0.bs b o e).2
  ·rw [zap (fun z=>nfr (by rw [← z];exact hb))]
   exact e0.frf b hb
 have r2:zb9 [v,.ref qa] [u,.ref qa]:=.cons r1 (.cons rfl .nil)
 have hl:([u,Value.ref qa]++[]).length=ps.length:=by
  have:=F.len _ _ _ _ sp4
  rw [← this]
  rfl
 have hbb:=hb s2 [u,.ref qa] I3.kIn hl
 rw [List.append_nil] at hbb
 refine wpAny_call (codeAny_mono (F.run X.A X.stack s2 _ ⟨[u,.ref qa],[]⟩ [u,.ref qa] [v,.ref qa] _ _ hr e04 hbb r2 sp4) fun r s' hq=>?_)
 cases r with
 | error e=>exact hx pins σ H3 s2 e s' I3 (znI hq fc3 eou nfr)
 | ok fl =>
  cases fl with
  | ret u=>exact I3.after (zpT hq fc3 eou)
  | next=>exact False.elim hq
  | brk=>exact False.elim hq
  | cont=>exact False.elim hq
end
end L2
namespace L2
open PySem PySem.Spec PyProof.Rows
section
open PySem.W
variable {P:Addr} {K:Frag}
theorem zdz (hP:K.lookup P=some (tabObj #[])) (v:Value) (n:Str):specialIn (zbt P K) v n=specialIn K v n:=by
 unfold specialIn
 cases v with
 | ref a =>
  by_cases q:a=P
  ·subst q
   have e1:typeIn (zbt a K) (.ref a)=none:=by show ((zbt a K).lookup a).map (·.cls)=none;rw [zaN];rfl
   have e2:typeIn K (.ref a)=some .none:=by show (K.lookup a).map (·.cls)=_;rw [hP];rfl
   rw [e1,e2]
   rfl
  ·rw [zdh q]
   simp only [zbS hP]
 | _=>simp only [zbS hP,typeIn]
theorem zjW (hP:K.lookup P=some (tabObj #[])) (v:Value):takesIn (zbt P K) v=takesIn K v:=by
 unfold takesIn
 simp only [zdz hP]
theorem zjg (hP:K.lookup P=some (tabObj #[])) (c mc:Value) (n:Str):findCls (zbt P K) c mc n=findCls K c mc n:=by
 unfold findCls
 simp only [zbS hP,zdz hP,zjW hP]
 congr 1
 funext ma
 congr 1
 funext mg
 congr 1
 funext data
 have key:∀ (a:Value) (f:Value→Option CFound),(a=.ref P→f .none=none)→(typeIn (zbt P K) a).bind f=(typeIn K a).bind f:=fun a f hf=>by
  cases a with
  | ref b =>
   by_cases q:b=P
   ·subst q
    have e1:typeIn (zbt b K) (.ref b)=none:=by show ((zbt b K).lookup b).map (·.cls)=none;rw [zaN];rfl
    have e2:typeIn K (.ref b)=some .none:=by show (K.lookup b).map (·.cls)=_;rw [hP];rfl
    rw [e1,e2]
    exact (hf rfl).symm
   ·rw [zdh q]
  | _=>rfl
 split
 ·rfl
 ·congr 1
  funext o
  cases o with
  | none=>rfl
  | some a =>
   dsimp only
   split
   ·rfl
   ·refine key a _ fun z=>?_
    have e3:specialIn K a "__get__"=none:=by
     rw [z]
     unfold specialIn
     have e2:typeIn K (.ref P)=some .none:=by show (K.lookup P).map (·.cls)=_;rw [hP];rfl
     rw [e2]
     rfl
    rw [e3,if_neg (by decide)]
    rfl
theorem zps (hP:K.lookup P=some (tabObj #[])) {a:Addr} {T:String} (h:typeIn K (.ref a)=some (.type T)):a≠P:=fun z=>by
 have e:typeIn K (.ref a)=some .none:=by
  show (K.lookup a).map (·.cls)=_
  rw [z,hP]
  rfl
 rw [e] at h
 cases h
theorem ExB.drop (hP:K.lookup P=some (tabObj #[])) {D:Addr} (x:ExB K D):ExB (zbt P K) D:=by
 obtain ⟨h1,h2,h3⟩:=x
 refine ⟨(zdz hP _ _).trans h1,?_,(zjg hP _ _ _).trans h3⟩
 unfold readsIn at h2 ⊢
 rw [Bool.and_eq_true,Bool.and_eq_true,Bool.and_eq_true,Bool.and_eq_true] at h2
 have ne:=zps hP (T:="type") (beq_iff_eq.mp h2.1.1.1.2)
 rw [zgK hP,zdh ne,zbS hP,zbS hP,zfz hP]
 simp only [Bool.and_eq_true]
 exact h2
theorem ExI.drop (hP:K.lookup P=some (tabObj #[])) {C f:Addr} (x:ExI K C f):ExI (zbt P K) C f:=by
 obtain ⟨⟨a1,a2,a3,a4,a5,a6,a7,a8,a9,a10,a11,a12,a13,a14,a15,lk,tl⟩,h2,h3,h4,h5,h6⟩:=x
 have nC:C≠P:=fun z=>by rw [z,hP] at lk;cases lk
 have nf:=zoU hP h3
 refine ⟨⟨a1,a2,a3,a4,a5,a6,a7,a8,a9,a10,a11,a12,a13,a14,a15,(zaX nC).trans lk,(zfJ hP _ _).trans tl⟩,(zbS hP _ _).trans h2,?_,(zfS hP _).trans h4,(zfu hP _ _).trans h5,(zbS hP _ _).trans h6⟩
 unfold isFn at h3 ⊢
 rw [zdh nf]
 exact h3
theorem zcH.drop (hP:K.lookup P=some (tabObj #[])) {C:Addr} (x:zcH K C):zcH (zbt P K) C :=
 ⟨(zbS hP _ _).trans x.ga,(zbS hP _ _).trans x.gn,(zbS hP _ _).trans x.cl,(zfu hP _ _).trans x.mb,(zfu hP _ _).trans x.mo⟩
theorem zjd.drop (hP:K.lookup P=some (tabObj #[])) {C:Addr} {f:Str} (x:zjd K C f):zjd (zbt P K) C f:=by
 refine ⟨x.five.drop hP,?_,(zbS hP _ _).trans x.na⟩
 have:=x.hd
 unfold hasDictIn at this ⊢
 rw [zhg hP]
 exact this
theorem zpg.drop (hP:K.lookup P=some (tabObj #[])) {a:Addr} {xs:List V} (x:zpg K a xs):zpg (zbt P K) a xs:=by
 obtain ⟨o,its,n,lk,r⟩:=x
 refine ⟨o,its,n,(zaX fun z=>?_).trans lk,r⟩
 rw [z,hP] at lk
 cases lk
 cases r.1
theorem zlR.okV {Pg:Program} {w:World} {mg:Str→Option Value} {base:Heap} {x qual:Str} {st:Stmt} {f c:Addr} {fd:FuncData} {N ps:List Str} {k:Nat} {sp:Sp} (F:zlR K x qual st f fd c) (S:zbo N ps (zaI st)) (len:∀ vs H Q E,sp vs H Q E→vs.length=ps.length)
  (hbody:∀ (A:Around) (outer:List Env) (s:Shared) (H:Hp) (vs:List V) (Q:VK) (E:XK),ze3 k (A.deeper (envOfC qual (zaI st) s.heap.objs.size f (.ref c)))→sp vs H Q E →
   ∃ t,PSs (zlK (CXV Pg w) Pg w K mg base N qual (zaI st) f (.ref c) A outer s H E) (zcx st) t∧t { nx:=fun _ H'=>Q .non H',rt:=Q } (zci N vs) H):zdD Pg w K mg base (CXV Pg w) (k+1) f fd ps sp:=by
 obtain ⟨⟨oc,od,kV,doc,pm,an,ct,osl,rfl,lk,hcd⟩,_⟩:=F
 exact zou lk hcd S len fun A outer s H vs Q E hr hsp=>hbody A outer s H vs Q E hr hsp
end
end L2
namespace L2
open PySem PySem.Spec PyProof.Rows
def rInN (K:PySem.W.Frag):R2:=fun x y H Q=>∃ p xs,x=.non∧y=.ref p∧SqL K H p xs∧(∀ z∈xs,z=.non∨(∃ i:Int,z=.int i)∨∃ a ys,z=.ref a∧SqT K H a ys)∧Q (.bl (xs.any fun z=>decide (z=.non))) H
def eqN:Value→Bool
 | .none=>true
 | _=>false
theorem zlA:∀ {xs:List V} {us:List Value},zb9 xs us→(∀ z∈xs,z=.non∨(∃ i:Int,z=.int i)∨∃ a,z=.ref a)→us.any eqN=xs.any fun z=>decide (z=.non)
 | _,_,.nil,_=>rfl
 | y::xs,u::us,.cons r t,f=>by
  rw [List.any_cons,List.any_cons,zlA t fun z hz=>f z (List.mem_cons_of_mem _ hz)]
  congr 1
  rcases f y List.mem_cons_self with rfl | ⟨i,rfl⟩ | ⟨a,rfl⟩
  ·cases r;rfl
  ·obtain ⟨k,rfl⟩:=r;rfl
  ·cases r;rfl
theorem zqa {X:Cx} (hu:X.A.units+64<cLine):OpR X (compareOp .In) (rInN X.K):=by
 intro pins s σ H x y v u Q I rx ry h
 obtain ⟨p,xs,rfl,rfl,hq,fs,q⟩:=h
 cases rx
 cases ry
 obtain ⟨its,r,pl,hz⟩:=I.list hq
 refine SeqAt.in_listAt eqN pl.isList (fun w hw=>?_) ⟨.bl _,H,I,rfl,?_⟩
 ·have hw:w∈its:=by simpa using hw
  obtain ⟨j,hj⟩:=List.mem_iff_getElem?.mp hw
  have lj:=(List.getElem?_eq_some_iff.mp hj).1
  have ex:xs[j]?=some (xs[j]'(by rw [r.length];exact lj)):=List.getElem?_eq_getElem _
  obtain ⟨w',hw',rw'⟩:=r.get ex
  rw [hj] at hw'
  cases hw'
  rcases fs _ (List.mem_of_getElem? ex) with e | ⟨i,e⟩ | ⟨a,ys,e,ht⟩
  ·rw [e] at rw'
   cases rw'
   exact SeqAt.EqAt.same _
  ·rw [e] at rw'
   obtain ⟨k,rfl⟩:=rw'
   exact SeqAt.EqAt.int_none i k
  ·rw [e] at rw'
   cases rw'
   obtain ⟨_,_,pt,_⟩:=I.tuple ht
   exact SeqAt.EqAt.tuple_none pt (by show X.A.units+1<cLine;(first|lia|omega))
 ·rw [show its.toArray.any eqN=its.any eqN by simp,zlA r fun z hz=>(fs z hz).imp id (Or.imp id fun ⟨a,_,e,_⟩=>⟨a,e⟩)]
  exact q
end L2
set_option maxHeartbeats 4000000
local macro_rules
 | `(tactic| simp_all only [$xs,*])=>do
  let ds ← ("znO zoH zoc zop znE znt zo2 zo9 zpj zoQ zmq zma rI_c rI0_c zqI ex_bl zp5 zqm zpX zqM zmC zmw zmz zmI zl1 zmm zmB zmR zmL zl5 zkT zlp zdt rIn zmn zcz tSl zbs zco ziz zbr tBM znJ ze4 zfK zaV za1 zbi tCB zab zaE tC tOp zaM zlO tOr zb2 zbU zdZ zdu zf3 zbz rEq rNe zqo zcm zgj zlP zdw zlU zhm zql zkO zpA rNeE zj9 zjc zlL zfU ziY zjJ zkI zej zns tUn tTru zkl rU znB zku tIf zmk tB zdi zlj zjV zjD rInN rInS zg4 rAll zjz".splitOn " ").toArray.mapM fun s=>`(Lean.Parser.Tactic.simpLemma| ↓ $(Lean.mkIdent s.toName):ident)
  let ps ← ("zpD Option.bind_some Option.bind_none Option.join_some Option.map_some List.getElem?_cons_zero List.getElem?_cons_succ V.str.injEq V.ty.injEq zac rI rI0 zcP L2.zci zmx zoS zl4 zok List.map_cons List.map_nil List.length_cons List.length_nil List.replicate List.cons_append List.nil_append List.append_nil Option.some.injEq exists_eq_left' exists_eq_left exists_and_left List.cons.injEq V.int.injEq V.ref.injEq V.bl.injEq and_true true_and List.set_cons_zero List.set_cons_succ Nat.reduceAdd Nat.reduceSub Int.reduceToNat Int.reducePow Int.reduceNeg Int.reduceMul Int.reduceAdd Int.reduceSub decide_eq_true_eq Bool.not_eq_true' decide_eq_false_iff_not exists_const and_assoc exists_eq exists_eq' if_true if_false Bool.false_eq_true Bool.true_eq_false reduceCtorEq not_true_eq_false not_false_eq_true zme".splitOn " ").toArray.mapM fun s=>`(Lean.Parser.Tactic.simpLemma| $(Lean.mkIdent s.toName):ident)
  `(tactic| simp only [$xs,*,$ds,*,$ps,*])
namespace My
local macro_rules | `(tactic| omega)=>`(tactic| lia)
open PySem L2
def top (i:Nat):Stmt:=PySem.Challenge.pw_hideworth_k83_papers_read.main.body.getD i (.Pass ⟨0,0,0,0⟩)
abbrev zdp:Stmt:=top 24
abbrev zc2:Stmt:=top 25
abbrev ze7:Stmt:=top 26
abbrev zeG:Stmt:=top 27
abbrev zfe:Stmt:=top 28
abbrev zez:Stmt:=top 29
abbrev zc1:Stmt:=top 30
abbrev zdy:Stmt:=top 32
abbrev zdN:Stmt:=top 33
abbrev zdQ:Stmt:=top 34
abbrev zb0:Stmt:=top 35
abbrev zdB:Stmt:=top 36
abbrev zcy:Stmt:=top 37
abbrev zbY:Stmt:=top 38
abbrev zep:Stmt:=top 39
abbrev zei:Stmt:=top 40
abbrev zeu:Stmt:=top 41
abbrev zkR:Stmt:=top 42
abbrev zcj:Stmt:=(zoI (top 18)).getD 0 (.Pass ⟨0,0,0,0⟩)
def zpC:Expr:=match (zcx zc1).getD 2 (.Pass ⟨0,0,0,0⟩) with
 | .Return (some (.Tuple [_,.Call _ [_,e] _ _] _ _)) _=>e
 | _=>.Constant .none 0 ⟨0,0,0,0⟩
def znj:Pos:=match zpC with
 | .Lambda _ _ _ p=>p
 | _=>⟨0,0,0,0⟩
set_option genInjectivity false in
set_option genSizeOf false in
structure Ad where
 f_number_in:Addr
 d_number_in:FuncData
 f_numbers_in:Addr
 d_numbers_in:FuncData
 f_thing_in:Addr
 d_thing_in:FuncData
 f_plan_in:Addr
 d_plan_in:FuncData
 f_share_in:Addr
 d_share_in:FuncData
 f_read_rows:Addr
 d_read_rows:FuncData
 f_read_paper:Addr
 d_read_paper:FuncData
 f__law_mixed:Addr
 d__law_mixed:FuncData
 f__law_whole:Addr
 d__law_whole:FuncData
 f__law_class:Addr
 d__law_class:FuncData
 f__law_word_number:Addr
 d__law_word_number:FuncData
 f__law_paper:Addr
 d__law_paper:FuncData
 f__law_paper_text:Addr
 d__law_paper_text:FuncData
 f__law_paper_wrong:Addr
 d__law_paper_wrong:FuncData
 f__law_bent:Addr
 d__law_bent:FuncData
 f__law_same:Addr
 d__law_same:FuncData
 f__law_told:Addr
 d__law_told:FuncData
 f_law:Addr
 d_law:FuncData
 c_HideError:Addr
 c_NoNumber:Addr
 c_NoTable:Addr
 c_NoBoxes:Addr
 c_NoBudget:Addr
 c_NoOrder:Addr
 c_NoWeights:Addr
 c_TooGreat:Addr
 c_NoKind:Addr
 c_NoTree:Addr
 c_NoTurns:Addr
 c_NoPlay:Addr
 c_NoRow:Addr
 c_NoName:Addr
 c_NoRoad:Addr
 c_NoWeb:Addr
 c_NoPlan:Addr
 c_NoText:Addr
 c_NoPaper:Addr
 i_NoText:Addr
 j_NoText:FuncData
 k_MOST_FIGURES:Tok
 k_FIGURES:Tok
 t_KINDS:Addr
 p_lam:Addr
 cd_lam:Addr
structure Isa (K:PySem.W.Frag) (a:Ad):Prop where
 k_NoNumber:PySem.W.kitOne K (.ref a.c_NoText) (.ref a.c_NoNumber)=some false
 k_NoTable:PySem.W.kitOne K (.ref a.c_NoText) (.ref a.c_NoTable)=some false
 k_NoBoxes:PySem.W.kitOne K (.ref a.c_NoText) (.ref a.c_NoBoxes)=some false
 k_NoBudget:PySem.W.kitOne K (.ref a.c_NoText) (.ref a.c_NoBudget)=some false
 k_NoOrder:PySem.W.kitOne K (.ref a.c_NoText) (.ref a.c_NoOrder)=some false
 k_NoWeights:PySem.W.kitOne K (.ref a.c_NoText) (.ref a.c_NoWeights)=some false
 k_TooGreat:PySem.W.kitOne K (.ref a.c_NoText) (.ref a.c_TooGreat)=some false
 k_NoKind:PySem.W.kitOne K (.ref a.c_NoText) (.ref a.c_NoKind)=some false
 k_NoTree:PySem.W.kitOne K (.ref a.c_NoText) (.ref a.c_NoTree)=some false
 k_NoTurns:PySem.W.kitOne K (.ref a.c_NoText) (.ref a.c_NoTurns)=some false
 k_NoPlay:PySem.W.kitOne K (.ref a.c_NoText) (.ref a.c_NoPlay)=some false
 k_NoRow:PySem.W.kitOne K (.ref a.c_NoText) (.ref a.c_NoRow)=some false
 k_NoName:PySem.W.kitOne K (.ref a.c_NoText) (.ref a.c_NoName)=some false
 k_NoRoad:PySem.W.kitOne K (.ref a.c_NoText) (.ref a.c_NoRoad)=some false
 k_NoWeb:PySem.W.kitOne K (.ref a.c_NoText) (.ref a.c_NoWeb)=some false
 k_NoPlan:PySem.W.kitOne K (.ref a.c_NoText) (.ref a.c_NoPlan)=some false
 k_NoText:PySem.W.kitOne K (.ref a.c_NoText) (.ref a.c_NoText)=some true
 k_NoPaper:PySem.W.kitOne K (.ref a.c_NoText) (.ref a.c_NoPaper)=some false
 k_ValueError:PySem.W.kitOne K (.ref a.c_NoText) (.type "ValueError")=some true
 sub:PySem.W.subIn K (.ref a.c_NoText) (.ref a.c_HideError)=some true
 ec:zgr K (.ref a.c_NoText)
structure Txt (K:PySem.W.Frag) (mg:Str→Option Value) (base:Heap) (a:Ad):Prop where
 F_number_in:Fun K "number_in" "number_in" zdp a.f_number_in a.d_number_in
 b_number_in:zcq K a.d_number_in ["word"] []
 m_number_in:mg "number_in"=some (.ref a.f_number_in)
 F_numbers_in:Fun K "numbers_in" "numbers_in" zc2 a.f_numbers_in a.d_numbers_in
 b_numbers_in:zcq K a.d_numbers_in ["words"] []
 m_numbers_in:mg "numbers_in"=some (.ref a.f_numbers_in)
 F_thing_in:Fun K "thing_in" "thing_in" ze7 a.f_thing_in a.d_thing_in
 b_thing_in:zcq K a.d_thing_in ["kind","word"] []
 m_thing_in:mg "thing_in"=some (.ref a.f_thing_in)
 F_plan_in:Fun K "plan_in" "plan_in" zeG a.f_plan_in a.d_plan_in
 b_plan_in:zcq K a.d_plan_in ["kind","words"] []
 m_plan_in:mg "plan_in"=some (.ref a.f_plan_in)
 F_share_in:Fun K "share_in" "share_in" zfe a.f_share_in a.d_share_in
 b_share_in:zcq K a.d_share_in ["row","kind"] []
 m_share_in:mg "share_in"=some (.ref a.f_share_in)
 F_read_rows:Fun K "read_rows" "read_rows" zez a.f_read_rows a.d_read_rows
 b_read_rows:zcq K a.d_read_rows ["text","read_row"] []
 m_read_rows:mg "read_rows"=some (.ref a.f_read_rows)
 F_read_paper:zlR K "read_paper" "read_paper" zc1 a.f_read_paper a.d_read_paper a.cd_lam
 b_read_paper:zcq K a.d_read_paper ["text"] []
 m_read_paper:mg "read_paper"=some (.ref a.f_read_paper)
 F__law_mixed:Fun K "_law_mixed" "_law_mixed" zdy a.f__law_mixed a.d__law_mixed
 b__law_mixed:zcq K a.d__law_mixed ["_law_script","_law_k"] []
 m__law_mixed:mg "_law_mixed"=some (.ref a.f__law_mixed)
 F__law_whole:Fun K "_law_whole" "_law_whole" zdN a.f__law_whole a.d__law_whole
 b__law_whole:zcq K a.d__law_whole ["_law_told_here"] []
 m__law_whole:mg "_law_whole"=some (.ref a.f__law_whole)
 F__law_class:Fun K "_law_class" "_law_class" zdQ a.f__law_class a.d__law_class
 b__law_class:zcq K a.d__law_class ["_law_caught"] []
 m__law_class:mg "_law_class"=some (.ref a.f__law_class)
 F__law_word_number:Fun K "_law_word_number" "_law_word_number" zb0 a.f__law_word_number a.d__law_word_number
 b__law_word_number:zcq K a.d__law_word_number ["_law_word"] []
 m__law_word_number:mg "_law_word_number"=some (.ref a.f__law_word_number)
 F__law_paper:Fun K "_law_paper" "_law_paper" zdB a.f__law_paper a.d__law_paper
 b__law_paper:zcq K a.d__law_paper ["_law_script","_law_start","_law_kind"] []
 m__law_paper:mg "_law_paper"=some (.ref a.f__law_paper)
 F__law_paper_text:Fun K "_law_paper_text" "_law_paper_text" zcy a.f__law_paper_text a.d__law_paper_text
 b__law_paper_text:zcq K a.d__law_paper_text ["_law_kind","_law_paper_here"] []
 m__law_paper_text:mg "_law_paper_text"=some (.ref a.f__law_paper_text)
 F__law_paper_wrong:Fun K "_law_paper_wrong" "_law_paper_wrong" zbY a.f__law_paper_wrong a.d__law_paper_wrong
 b__law_paper_wrong:zcq K a.d__law_paper_wrong ["_law_text"] []
 m__law_paper_wrong:mg "_law_paper_wrong"=some (.ref a.f__law_paper_wrong)
 F__law_bent:Fun K "_law_bent" "_law_bent" zep a.f__law_bent a.d__law_bent
 b__law_bent:zcq K a.d__law_bent ["_law_text","_law_draws"] []
 m__law_bent:mg "_law_bent"=some (.ref a.f__law_bent)
 F__law_same:Fun K "_law_same" "_law_same" zei a.f__law_same a.d__law_same
 b__law_same:zcq K a.d__law_same ["_law_told_here","_law_due"] []
 m__law_same:mg "_law_same"=some (.ref a.f__law_same)
 F__law_told:Fun K "_law_told" "_law_told" zeu a.f__law_told a.d__law_told
 b__law_told:zcq K a.d__law_told ["_law_text"] []
 m__law_told:mg "_law_told"=some (.ref a.f__law_told)
 F_law:Fun K "law" "law" zkR a.f_law a.d_law
 b_law:zcq K a.d_law ["_law_script"] []
 m_law:mg "law"=some (.ref a.f_law)
 hC:PySem.W.CodeHd base a.cd_lam a.p_lam
 hB:base.BuiltinsAt mg a.p_lam
 z_isinstance:mg "isinstance"=none
 z_int:mg "int"=none
 z_bool:mg "bool"=none
 z_list:mg "list"=none
 z_len:mg "len"=none
 z_all:mg "all"=none
 z_range:mg "range"=none
 z_tuple:mg "tuple"=none
 z_str:mg "str"=none
 z_enumerate:mg "enumerate"=none
 z_zip:mg "zip"=none
 z_min:mg "min"=none
 z_ValueError:mg "ValueError"=none
 m_HideError:mg "HideError"=some (.ref a.c_HideError)
 m_NoNumber:mg "NoNumber"=some (.ref a.c_NoNumber)
 m_NoTable:mg "NoTable"=some (.ref a.c_NoTable)
 m_NoBoxes:mg "NoBoxes"=some (.ref a.c_NoBoxes)
 m_NoBudget:mg "NoBudget"=some (.ref a.c_NoBudget)
 m_NoOrder:mg "NoOrder"=some (.ref a.c_NoOrder)
 m_NoWeights:mg "NoWeights"=some (.ref a.c_NoWeights)
 m_TooGreat:mg "TooGreat"=some (.ref a.c_TooGreat)
 m_NoKind:mg "NoKind"=some (.ref a.c_NoKind)
 m_NoTree:mg "NoTree"=some (.ref a.c_NoTree)
 m_NoTurns:mg "NoTurns"=some (.ref a.c_NoTurns)
 m_NoPlay:mg "NoPlay"=some (.ref a.c_NoPlay)
 m_NoRow:mg "NoRow"=some (.ref a.c_NoRow)
 m_NoName:mg "NoName"=some (.ref a.c_NoName)
 m_NoRoad:mg "NoRoad"=some (.ref a.c_NoRoad)
 m_NoWeb:mg "NoWeb"=some (.ref a.c_NoWeb)
 m_NoPlan:mg "NoPlan"=some (.ref a.c_NoPlan)
 m_NoText:mg "NoText"=some (.ref a.c_NoText)
 m_NoPaper:mg "NoPaper"=some (.ref a.c_NoPaper)
 m_MOST_FIGURES:mg "MOST_FIGURES"=some (.int 2000 a.k_MOST_FIGURES)
 m_FIGURES:mg "FIGURES"=some (.str "0123456789" a.k_FIGURES)
 m_KINDS:mg "KINDS"=some (.ref a.t_KINDS)
 u_KINDS:zpg K a.t_KINDS [.str "walk",.str "spread"]
 x_HideError:PySem.W.excIn K a.c_HideError zfs "ValueError.__new__"=true
 B:ExB K a.c_HideError
 I_NoText:Fun K "__init__" "NoText.__init__" zcj a.i_NoText a.j_NoText
 bi_NoText:zcq K a.j_NoText ["self","row"] []
 X_NoText:ExI K a.c_NoText a.i_NoText
 xa_NoText:zjd K a.c_NoText "row"
 I:Isa K a
def sg (t b:Int):Int:=if b<0 then -(Int.gcd t b:Int) else (Int.gcd t b:Int)
abbrev fr (q:Rat):List L2.V:=[.int q.num,.int (q.den:Int)]
abbrev nf (q:Rat):List Int:=[q.num,(q.den:Int)]
theorem zpm:zjR 10 18:=⟨by decide,by decide,by decide⟩
theorem logA:(0:Int)<1000000000000000000∧(Int.natAbs 1000000000000000000).log2<9000:=by decide +kernel
theorem logB:(0:Int)<2147483587∧(Int.natAbs 2147483587).log2<9000:=by decide +kernel
theorem log8:(0:Int)<8∧(Int.natAbs 8).log2<9000:=by decide +kernel
def ziP:Sp:=fun vs H Q _=>∃ a:Int,vs=[.int a]∧Q (.bl true) H
def zcG (K:PySem.W.Frag):Sp:=fun vs H Q _=>∃ (a:Addr) (ns:List Int) (k:Int),vs=[.ref a,.int k]∧SqL K H a (ns.map V.int)∧ns.length≤63∧0≤k∧k<1000000∧∀ r:Int,0≤r→r<2147483587→Q (.int r) H
theorem zgu {α β:Type} {f:α→β} {l:List α} {i:Nat} {y:β} (h:(l.map f)[i]?=some y):∃ x,l[i]?=some x∧y=f x:=by
 rw [List.getElem?_map] at h
 obtain ⟨x,h1,h2⟩:=Option.map_eq_some_iff.mp h
 exact ⟨x,h1,h2.symm⟩
theorem zc0 {α:Type} {l:List α} {i:Nat} {x:α} (e:l[i]?=some x):x∈l:=List.mem_of_getElem? e
theorem zek {K:PySem.W.Frag} {H:Hp} {Q:VK} {r:Addr} {xs:List V} (h:H r=some (.lst xs)) (q:Q (.bl true) H):zdT K [.ref r,.ty "list"] H Q:=⟨_,_,_,_,true,rfl,rfl,.of (.lst h),rfl,q⟩
def dg (c:Nat):Bool:=decide (48≤c)&&decide (c≤57)
theorem zlk:(Str.ofString "0123456789").cps.toList=[48,49,50,51,52,53,54,55,56,57]:=by decide +kernel
theorem zmZ (c:Nat):(!(Builtin.Str.occurrences (Str.ofString "0123456789") ⟨#[c]⟩ 0 (Str.ofString "0123456789").length 1).isEmpty)=dg c:=by
 rw [StrLaws.found_one,zlk]
 unfold dg
 by_cases h:48≤c∧c≤57
 ·rw [decide_eq_true h.1,decide_eq_true h.2,decide_eq_true]
  ·rfl
  ·have:c=48∨c=49∨c=50∨c=51∨c=52∨c=53∨c=54∨c=55∨c=56∨c=57:=by omega
   rcases this with rfl | rfl | rfl | rfl | rfl | rfl | rfl | rfl | rfl | rfl <;> decide
 ·rw [decide_eq_false (p:=c∈_)]
  ·cases z:(decide (48≤c)&&decide (c≤57)) with
   | false=>rfl
   | true =>
    rw [Bool.and_eq_true,decide_eq_true_eq,decide_eq_true_eq] at z
    exact absurd z h
  ·intro m
   simp only [List.mem_cons,List.not_mem_nil,or_false] at m
   omega
theorem zfg:(Str.ofString "0").cps.toList=[48]:=by decide +kernel
theorem zn9 (w:Str):Txt.startswith w (Str.ofString "0")=decide (w.cps.toList.head?=some 48):=by
 unfold Txt.startswith
 rw [StrLaws.subAt_eq,zfg]
 have l1:(Str.ofString "0").length=1:=by decide +kernel
 have lw:w.length=w.cps.toList.length:=by simp [Str.length]
 rw [l1,lw,List.drop_zero]
 cases h:w.cps.toList with
 | nil=>rfl
 | cons c l =>
  show (decide (0+1≤(c::l).length)&&([c] == [48]))=decide (some c=some 48)
  rw [decide_eq_true (show 0+1≤(c::l).length by rw [List.length_cons];omega),Bool.true_and]
  by_cases z:c=48
  ·rw [z];rfl
  ·rw [decide_eq_false (fun y=>z (Option.some.inj y))]
   simp [z]
def okW (w:Str):Bool:=decide (1≤w.length)&&w.cps.toList.all dg&&!(decide (w.cps.toList.head?=some 48)&&!decide (w=Str.ofString "0"))
def zcY (w:Str):Option Int:=if okW w=true then PySem.intText? w else none
def zhs:Option Int→V
 | none=>.non
 | some n=>.int n
theorem zjC {w:Str} (h:w.cps.toList.all dg=true) (l1:1≤w.length) (l2:w.length≤4300):∃ n:Int,PySem.intText? w=some n∧0≤n:=by
 have lw:w.length=w.cps.toList.length:=by simp [Str.length]
 refine ⟨_,PySem.intText_digits (fun c hc=>?_) (fun z=>?_) l2,Int.natCast_nonneg _⟩
 ·have:=List.all_eq_true.mp h c hc
  unfold dg at this
  rw [Bool.and_eq_true,decide_eq_true_eq,decide_eq_true_eq] at this
  exact this
 ·rw [lw,z] at l1
  exact absurd l1 (by decide)
def lr:Nat→List Nat→Nat
 | k,[]=>k
 | k,c::l=>if c=32∨c=10 then max k (lr 0 l) else lr (k+1) l
theorem zcc (k c:Nat) (l:List Nat):lr k (c::l)=if c=32∨c=10 then max k (lr 0 l) else lr (k+1) l:=rfl
theorem zfE:∀ (l:List Nat) (k:Nat),k≤lr k l∧lr 0 l≤lr k l∧lr k l≤k+lr 0 l
 | [],k=>⟨Nat.le_refl _,Nat.zero_le _,Nat.le_refl _⟩
 | c::l,k=>by
  rw [zcc,zcc]
  by_cases h:c=32∨c=10
  ·rw [if_pos h,if_pos h]
   omega
  ·rw [if_neg h,if_neg h]
   have h1:=zfE l (k+1)
   have h2:=zfE l (0+1)
   have h3:∀ j,lr j l=max j (lr 0 l)∨True:=fun j=>.inr trivial
   refine ⟨by omega,?_,?_⟩
   ·exact lr_mono l (by omega)
   ·exact lr_shift l k 1
where
 lr_mono:∀ (l:List Nat) {j k:Nat},j≤k→lr j l≤lr k l
  | [],j,k,h=>h
  | c::l,j,k,h=>by
   rw [zcc,zcc]
   by_cases z:c=32∨c=10
   ·rw [if_pos z,if_pos z];omega
   ·rw [if_neg z,if_neg z]
    exact lr_mono l (by omega)
 lr_shift:∀ (l:List Nat) (j k:Nat),lr (j+k) l≤j+lr k l
  | [],j,k=>Nat.le_refl _
  | c::l,j,k=>by
   rw [zcc,zcc]
   by_cases z:c=32∨c=10
   ·rw [if_pos z,if_pos z];omega
   ·rw [if_neg z,if_neg z]
    exact lr_shift l j (k+1)
theorem zfo:∀ (a b:List Nat) (k:Nat),lr k (a++b)≤lr k a+lr 0 b∧lr k a≤lr k (a++b)∧lr 0 b≤lr k (a++b)
 | [],b,k=>by
  have:=zfE b k
  exact ⟨this.2.2,this.1,this.2.1⟩
 | c::a,b,k=>by
  rw [List.cons_append,zcc,zcc]
  by_cases h:c=32∨c=10
  ·rw [if_pos h,if_pos h]
   have:=zfo a b 0
   omega
  ·rw [if_neg h,if_neg h]
   exact zfo a b (k+1)
theorem zlu (s:Nat) (hs:s=32∨s=10):∀ (a b:List Nat) (k:Nat),lr k (a++s::b)=max (lr k a) (lr 0 b)
 | [],b,k=>by rw [List.nil_append,zcc,if_pos hs];rfl
 | c::a,b,k=>by
  rw [List.cons_append,zcc,zcc]
  by_cases h:c=32∨c=10
  ·rw [if_pos h,if_pos h,zlu s hs a b 0];omega
  ·rw [if_neg h,if_neg h]
   exact zlu s hs a b (k+1)
theorem zlz:∀ (l:List Nat) (k:Nat),32∉l→10∉l→lr k l=k+l.length
 | [],k,_,_=>rfl
 | c::l,k,h1,h2=>by
  rw [zcc,if_neg (fun z=>z.elim (fun e=>h1 (e ▸ List.mem_cons_self ..)) (fun e=>h2 (e ▸ List.mem_cons_self ..))),zlz l _ (fun m=>h1 (List.mem_cons_of_mem _ m)) (fun m=>h2 (List.mem_cons_of_mem _ m)),List.length_cons]
  omega
theorem zll:∀ (l:List Nat) (k:Nat),lr k l≤k+l.length
 | [],k=>Nat.le_refl _
 | c::l,k=>by
  rw [zcc,List.length_cons]
  have h1:=zll l 0
  have h2:=zll l (k+1)
  by_cases h:c=32∨c=10
  ·rw [if_pos h];omega
  ·rw [if_neg h];omega
theorem znG (l:List Nat) (n:Nat):lr 0 (l.take n)≤lr 0 l:=by
 have:=(zfo (l.take n) (l.drop n) 0).2.1
 rw [List.take_append_drop] at this
 exact this
theorem zn2 (l:List Nat) (n:Nat):lr 0 (l.drop n)≤lr 0 l:=by
 have:=(zfo (l.take n) (l.drop n) 0).2.2
 rw [List.take_append_drop] at this
 exact this
def sgn (s:Str):List Nat:=s.cps.toList
theorem zdn (s:Str):s.length=(sgn s).length:=by simp [sgn,Str.length]
theorem zfd (s t:Str):sgn (s++t)=sgn s++sgn t:=by
 unfold sgn
 rw [Str.cps_append',Array.toList_append]
where
 Str.cps_append':(s++t).cps=s.cps++t.cps:=rfl
theorem zmU (l:List Nat):sgn ⟨l.toArray⟩=l:=rfl
theorem ziU {s t:Str} (h:sgn s=sgn t):s=t:=by
 cases s
 cases t
 exact congrArg _ (Array.toList_inj.mp h)
def Rn (n:Nat) (s:Str):Prop:=lr 0 (sgn s)≤n
theorem zeB (y x z:Str) (l:List Str):sgn (Str.join y (x::z::l))=sgn x++(sgn y++sgn (Str.join y (z::l))):=by
 show sgn (x++y++Str.join y (z::l))=_
 rw [zfd,zfd,List.append_assoc]
theorem zk2 {c n:Nat} (hc:c=32∨c=10):∀ {l:List Str},(∀ x∈l,Rn n x)→Rn n (Str.join ⟨#[c]⟩ l)
 | [],_=>Nat.zero_le _
 | [x],h=>h x (List.mem_cons_self ..)
 | x::z::l,h=>by
  unfold Rn
  rw [zeB]
  show lr 0 (sgn x++c::sgn (Str.join ⟨#[c]⟩ (z::l)))≤n
  rw [zlu c hc]
  have h1:=h x (List.mem_cons_self ..)
  have h2:=zk2 hc (l:=z::l) fun y hy=>h y (List.mem_cons_of_mem _ hy)
  unfold Rn at h1 h2
  omega
theorem zkr {c n:Nat}:∀ {l:List Str},Rn n (Str.join ⟨#[c]⟩ l)→∀ x∈l,Rn n x
 | [x],h,y,hy=>by rw [List.mem_singleton.mp hy];exact h
 | x::z::l,h,y,hy=>by
  unfold Rn at h
  rw [zeB] at h
  have h:lr 0 (sgn x++c::sgn (Str.join ⟨#[c]⟩ (z::l)))≤n:=h
  rcases List.mem_cons.mp hy with rfl | hy
  ·exact Nat.le_trans (zfo _ _ 0).2.1 h
  ·refine zkr (c:=c) (l:=z::l) ?_ y hy
   have h2:=(zfo (sgn x) (c::sgn (Str.join ⟨#[c]⟩ (z::l))) 0).2.2
   have h3:=(zfo [c] (sgn (Str.join ⟨#[c]⟩ (z::l))) 0).2.2
   exact Nat.le_trans h3 (Nat.le_trans h2 h)
theorem zfv {c n:Nat} {s:Str} (h:Rn n s):∀ x∈Txt.split s ⟨#[c]⟩,Rn n x:=zkr (c:=c) (by rw [StrLaws.join_split];exact h)
theorem zfc {c:Nat} {s x:Str} {l:List Str} (e:Txt.split s ⟨#[c]⟩=x::l):sgn x=(sgn s).takeWhile (fun d=>decide (d≠c))∧(l=[]→s=x)∧(l≠[]→∃ z,sgn s=sgn x++c::z):=by
 have hf:=StrLaws.split_free s c x (by rw [e];exact List.mem_cons_self ..)
 have hj:=StrLaws.join_split s ⟨#[c]⟩
 rw [e] at hj
 have tw:∀ (a b:List Nat),c∉a→(a++c::b).takeWhile (fun d=>decide (d≠c))=a:=fun a b h=>by
  rw [List.takeWhile_append_of_pos (p:=fun d=>decide (d≠c)) (fun d hd=>decide_eq_true (fun (z:d=c)=>h (z ▸ hd))),List.takeWhile_cons_of_neg (by simp),List.append_nil]
 have tn:∀ (a:List Nat),c∉a→a.takeWhile (fun d=>decide (d≠c))=a:=fun a h=>by
  have:=List.takeWhile_append_of_pos (p:=fun d=>decide (d≠c)) (l₁:=a) (l₂:=[]) (fun d hd=>decide_eq_true (fun (z:d=c)=>h (z ▸ hd)))
  rw [List.append_nil,List.takeWhile_nil,List.append_nil] at this
  exact this
 cases l with
 | nil =>
  have hj:x=s:=hj
  subst hj
  exact ⟨(tn _ hf).symm,fun _=>rfl,fun h=>absurd rfl h⟩
 | cons z l =>
  have e2:=zeB ⟨#[c]⟩ x z l
  rw [hj] at e2
  refine ⟨?_,fun h=>(by cases h),fun _=>⟨_,e2⟩⟩
  rw [e2]
  exact (tw _ _ hf).symm
theorem zcM (s y:Str):Txt.split s y≠[]:=by
 unfold Txt.split
 split
 ·exact List.cons_ne_nil _ _
 ·split
  ·exact List.cons_ne_nil _ _
  ·intro h
   rw [StrLaws.partsBetween_eq] at h
   obtain ⟨p,r,e⟩:=StrLaws.partsFrom_ne s y.length 0 (Builtin.Str.occurrences s y 0 s.length (s.length+1))
   rw [e] at h
   cases h
theorem zde (s:Str) (c:Nat):(Txt.split s ⟨#[c]⟩).length≤s.length+1:=by
 have:=PyProof.Rows.split_weight s ⟨#[c]⟩ (Nat.le_refl 1)
 omega
theorem zdU (s:Str) (c:Nat):∀ x∈Txt.split s ⟨#[c]⟩,x.length≤s.length:=fun x hx=>by
 have h:=PyProof.Rows.split_weight s ⟨#[c]⟩ (Nat.le_refl 1)
 have:x.length≤((Txt.split s ⟨#[c]⟩).map (·.length)).sum:=List.le_sum_of_mem' (List.mem_map.mpr ⟨x,hx,rfl⟩)
 have l1:1≤(Txt.split s ⟨#[c]⟩).length:=List.length_pos_of_mem hx
 omega
where
 List.le_sum_of_mem':∀ {l:List Nat} {n:Nat},n∈l→n≤l.sum
  | a::l,n,h=>by
   rw [List.sum_cons]
   rcases List.mem_cons.mp h with rfl | h
   ·omega
   ·have:=List.le_sum_of_mem' h
    omega
theorem parti (s:Str) (c:Nat):sgn (Txt.partition s ⟨#[c]⟩).1=(sgn s).takeWhile (fun d=>decide (d≠c)):=by
 have key:∀ (l:List Nat) (i:Nat),(∀ k,k<i→l[k]?≠some c)→l[i]?=some c→l.takeWhile (fun d=>decide (d≠c))=l.take i:=by
  intro l
  induction l with
  | nil=>intro i _ h;cases h
  | cons a l ih =>
   intro i h1 h2
   cases i with
   | zero =>
    have:a=c:=Option.some.inj h2
    rw [List.takeWhile_cons_of_neg (by simp [this]),List.take_zero]
   | succ i =>
    have na:a≠c:=fun z=>h1 0 (Nat.succ_pos _) (by rw [z];rfl)
    rw [List.takeWhile_cons_of_pos (by simp [na]),List.take_succ_cons,ih i (fun k hk=>h1 (k+1) (by omega)) h2]
 have keyN:∀ l:List Nat,(∀ k:Nat,l[k]?≠some c)→l.takeWhile (fun d=>decide (d≠c))=l:=by
  intro l
  induction l with
  | nil=>intro _;rfl
  | cons a l ih =>
   intro h1
   have na:a≠c:=fun z=>h1 0 (by rw [z];rfl)
   rw [List.takeWhile_cons_of_pos (by simp [na]),ih (fun k=>h1 (k+1))]
 unfold Txt.partition
 rcases StrLaws.occ_head s ⟨#[c]⟩ 1 (Nat.le_refl 1) with ⟨e,hn⟩ | ⟨i,r,e,hi,hn⟩
 ·rw [e]
  show sgn s=_
  rw [keyN (sgn s) fun k hk=>hn k ((StrLaws.subAt_one s c k).mpr hk)]
 ·rw [e]
  have hi':=(StrLaws.subAt_one s c i).mp hi
  rw [key (sgn s) i (fun k hk z=>hn k hk ((StrLaws.subAt_one s c k).mpr z)) hi']
  show (Builtin.Str.strSub s 0 i).cps.toList=_
  rw [StrLaws.strSub_toList,List.drop_zero,Nat.sub_zero]
  rfl
theorem zpu {i:Int} (h0:0≤i) {k:Nat} (hk:0<k) (h:i<10 ^ k):(Str.ofString (toString i)).length≤k:=PyProof.Rows.toString_length_le h0 hk h
section
variable {P:Program} {w:World} {mg:Str→Option Value} {base:Heap}
variable {K:PySem.W.Frag} {H:Hp} {Q:VK} {a:Ad}
inductive Sh (H:Hp):Tr→V→Prop where
 | int (i:Int):Sh H (.int i) (.int i)
 | bl (b:Bool):Sh H (.bl b) (.bl b)
 | str (x:Str):Sh H (.str x) (.str x)
 | non:Sh H .non .non
 | lst {p:Addr} {xs:List V} {ts:List Tr} (h:H p=some (.lst xs)) (l:xs.length=ts.length) (e:∀ (i:Nat) x t,xs[i]?=some x→ts[i]?=some t→Sh H t x):Sh H (.lst ts) (.ref p)
 | tup {p:Addr} {xs:List V} {ts:List Tr} (h:H p=some (.tup xs)) (l:xs.length=ts.length) (e:∀ (i:Nat) x t,xs[i]?=some x→ts[i]?=some t→Sh H t x):Sh H (.tup ts) (.ref p)
theorem Sh.same {H H':Hp} {t:Tr} {v:V} (h:Sh H t v) (s:za3 H H'):Sh H' t v:=by
 induction h with
 | int i=>exact .int i
 | bl b=>exact .bl b
 | str x=>exact .str x
 | non=>exact .non
 | lst h l _ ih=>exact .lst (s _ _ h) l ih
 | tup h l _ ih=>exact .tup (s _ _ h) l ih
structure ShL (H:Hp) (ts:List Tr) (xs:List V):Prop where
 len:xs.length=ts.length
 el:∀ (i:Nat) x t,xs[i]?=some x→ts[i]?=some t→Sh H t x
theorem ShL.nil:ShL H [] []:=⟨rfl,fun i x t e _=>by cases e⟩
theorem ShL.one {t:Tr} {x:V} (h:Sh H t x):ShL H [t] [x]:=⟨rfl,fun i y u e1 e2=>by
 match i,e1,e2 with
 | 0,e1,e2=>cases e1;cases e2;exact h⟩
theorem ShL.append {ts us:List Tr} {xs ys:List V} (h:ShL H ts xs) (g:ShL H us ys):ShL H (ts++us) (xs++ys):=by
 refine ⟨by rw [List.length_append,List.length_append,h.len,g.len],fun i x t e1 e2=>?_⟩
 by_cases c:i<xs.length
 ·rw [List.getElem?_append_left c] at e1
  rw [List.getElem?_append_left (by rw [← h.len];exact c)] at e2
  exact h.el i x t e1 e2
 ·rw [List.getElem?_append_right (by omega)] at e1
  rw [List.getElem?_append_right (by rw [← h.len];omega),← h.len] at e2
  exact g.el _ x t e1 e2
theorem ShL.cons {t:Tr} {ts:List Tr} {x:V} {xs:List V} (h:Sh H t x) (g:ShL H ts xs):ShL H (t::ts) (x::xs):=(ShL.one h).append g
theorem ShL.same {H':Hp} {ts:List Tr} {xs:List V} (h:ShL H ts xs) (s:za3 H H'):ShL H' ts xs:=⟨h.len,fun i x t e1 e2=>(h.el i x t e1 e2).same s⟩
theorem ShL.sh {ts:List Tr} {xs:List V} {p:Addr} (h:ShL H ts xs) (e:H p=some (.lst xs)):Sh H (.lst ts) (.ref p):=.lst e h.len h.el
theorem ShL.tp {ts:List Tr} {xs:List V} {p:Addr} (h:ShL H ts xs) (e:H p=some (.tup xs)):Sh H (.tup ts) (.ref p):=.tup e h.len h.el
theorem ShL.ints (ns:List Int):ShL H (ns.map Tr.int) (ns.map V.int):=⟨by rw [List.length_map,List.length_map],fun i x t e1 e2=>by
 obtain ⟨n,hn,rfl⟩:=zgu e1
 obtain ⟨m,hm,rfl⟩:=zgu e2
 rw [hn] at hm
 cases hm
 exact .int _⟩
theorem ShL.put {ts:List Tr} {xs:List V} {p:Addr} (h:ShL H ts xs) (hp:H p=none):Sh (L2.upd H p (.lst xs)) (.lst ts) (.ref p):=(h.same (zaA hp _)).sh zae
theorem zc5 {n:Nat} (h:n<100000):n<sizeLine:=Nat.lt_of_lt_of_le h (by decide)
def NwH (H H':Hp):Hp:=fun a=>if H a=none then H' a else none
theorem zcl {A X:Hp} {a:Addr} {o:HO}:NwH A X a=some o↔A a=none∧X a=some o:=by
 unfold NwH
 by_cases h:A a=none
 ·rw [if_pos h];exact ⟨fun z=>⟨h,z⟩,fun z=>z.2⟩
 ·rw [if_neg h];exact ⟨fun z=>(by cases z),fun z=>absurd z.1 h⟩
theorem zbE {A X B Y:Hp} (h:∀ a o,A a=none→X a=some o→B a=none∧Y a=some o):za3 (NwH A X) (NwH B Y):=fun a o e=>by
 have:=zcl.mp e
 exact zcl.mpr (h a o this.1 this.2)
theorem zjp {A X:Hp}:za3 (NwH A X) X:=fun _ _ e=>(zcl.mp e).2
theorem zeE {A B X Y:Hp} (s:za3 B A) (t:za3 X Y):za3 (NwH A X) (NwH B Y):=zbE fun a o e1 e2=>⟨s.free e1,t _ _ e2⟩
theorem zjv {K:PySem.W.Frag} {a:Addr} {xs:List V} {te:TE} {σ:St} {H:Hp} {D:Addr} {Q:VK} (Rl:Nat→Hp→V→Prop) (st:∀ i H H' v,za3 H H'→Rl i H v→Rl i H' v) (hl:SqL K H a xs) (hD:H D=none) (hx:xs.length≤99999)
  (hs:∀ (i:Nat) x H' (R:VK),xs[i]?=some x→za3 H H'→(∀ y H'',za3 H' H''→Rl i (NwH H' H'') y→R y H'')→te (σ.set 0 (some x)) H' R)
  (hd:∀ H' ys,za3 H H'→ys.length=xs.length→(∀ (i:Nat) y,ys[i]?=some y→Rl i (NwH H H') y)→H' D=some (.lst ys)→Q (.ref D) H'):zfl (Itl K a) (zaC 0) zcz te D Q σ (L2.upd H D (.lst [])):=by
 refine zjL (xs:=xs) (fun i ys σ' H'=>za3 H H'∧(∀ x,σ'.set 0 x=σ.set 0 x)∧i≤xs.length∧ys.length=i∧∀ (j:Nat) y,ys[j]?=some y→Rl j (NwH (L2.upd H D (.lst [])) H') y) ⟨zaA hD _,fun _=>rfl,Nat.zero_le _,rfl,fun j y e=>by cases e⟩ ?_ ?_ ?_
 ·rintro i ys σ' H' _ ⟨s,_⟩
  exact s.seq hl
 ·rintro i x ys σ' H' e hD' ⟨s,es,hi,ly,hr⟩
  have li:=(List.getElem?_eq_some_iff.mp e).1
  show te (σ'.set 0 (some x)) H' _
  rw [es]
  refine hs i x H' _ e s fun y H'' s2 hy=>?_
  refine ⟨D,_,_,rfl,rfl,s2 _ _ hD',zc5 (by omega),_,zae,(s.trans s2).put hD,fun y=>by rw [List.set_set],by omega,by rw [List.length_append,ly];rfl,?_⟩
  intro j z ez
  have nD:∀ b,L2.upd H D (.lst []) b=none→b≠D:=fun b hb z=>by rw [z,zae] at hb;cases hb
  by_cases c:j<ys.length
  ·rw [List.getElem?_append_left c] at ez
   refine st j _ _ z (zbE fun b o e1 e2=>⟨e1,?_⟩) (hr j z ez)
   rw [zap (nD b e1)]
   exact s2 _ _ e2
  ·rw [List.getElem?_append_right (by omega)] at ez
   have l1:=(List.getElem?_eq_some_iff.mp ez).1
   rw [List.length_singleton] at l1
   have ej:j - ys.length=0:=by omega
   rw [ej] at ez
   cases ez
   have ei:j=i:=by omega
   subst ei
   refine st j _ _ y (zbE fun b o e1 e2=>?_) hy
   have nb:b≠D:=fun z=>by rw [z,hD'] at e1;cases e1
   rw [zap nb,zap nb]
   exact ⟨s.free e1,e2⟩
 ·rintro ys σ' H' hD' ⟨s,es,_,ly,hr⟩
  exact hd H' ys s ly (fun i y e=>st i _ _ y (zeE (zaA hD _) (.refl _)) (hr i y e)) hD'
theorem zj3 {x:Str} {te:TE} {σ:St} {H:Hp} {D:Addr} {Q:VK} (f:Nat→Bool) (hx:x.length≤99999) (hD:H D=none)
  (hs:∀ (i:Nat) c H' (R:VK),x.cps[i]?=some c→za3 H H'→(∀ H'',za3 H' H''→R (.bl (f c)) H'')→te (σ.set 0 (some (.str ⟨#[c]⟩))) H' R)
  (hd:∀ H',za3 H H'→H' D=some (.lst ((x.cps.toList.map f).map V.bl))→Q (.ref D) H'):zfl (Its x) (zaC 0) zcz te D Q σ (L2.upd H D (.lst [])):=by
 have lx:x.length=x.cps.toList.length:=by simp [Str.length]
 have lx2:x.cps.size=x.cps.toList.length:=by simp
 refine zie (x:=x) (fun i ys σ' H'=>za3 H H'∧(∀ x,σ'.set 0 x=σ.set 0 x)∧ys=((x.cps.toList.take i).map f).map V.bl) ⟨zaA hD _,fun _=>rfl,rfl⟩ ?_ ?_
 ·rintro i c ys σ' H' e hD' ⟨s,es,rfl⟩
  have ec:x.cps.toList[i]?=some c:=by rw [Array.getElem?_toList];exact e
  show te (σ'.set 0 _) H' _
  rw [es]
  refine hs i _ H' _ e s fun H'' s2=>?_
  refine ⟨D,_,_,rfl,rfl,s2 _ _ hD',zc5 (by rw [List.length_map,List.length_map,List.length_take];omega),_,zae,(s.trans s2).put hD,fun y=>by rw [List.set_set],?_⟩
  rw [List.take_add_one,ec,List.map_append,List.map_append]
  rfl
 ·rintro ys σ' H' hD' ⟨s,es,rfl⟩
  rw [List.take_of_length_le (by omega)] at hD'
  exact hd H' s hD'
theorem zke {x:Str} {tt:TT} {σ:St} {H:Hp} {D:Addr} {Q:VK} (f:Nat→Bool) (hx:x.length≤99999) (hD:H D=none)
  (hs:∀ (i:Nat) c H' (R:Bool→Hp→Prop),x.cps[i]?=some c→za3 H H'→(∀ H'',za3 H' H''→R (f c) H'')→tt (σ.set 0 (some (.str ⟨#[c]⟩))) H' R) (l0:0<σ.length)
  (hd:∀ H',za3 H H'→H' D=some (.lst ((x.cps.toList.filter f).map fun c=>V.str ⟨#[c]⟩))→Q (.ref D) H'):zfl (Its x) (zaC 0) tt (zac 0) D Q σ (L2.upd H D (.lst [])):=by
 have lx:x.length=x.cps.toList.length:=by simp [Str.length]
 have lx2:x.cps.size=x.cps.toList.length:=by simp
 refine zie (x:=x) (fun i ys σ' H'=>za3 H H'∧(∀ x,σ'.set 0 x=σ.set 0 x)∧σ'.length=σ.length∧ys=((x.cps.toList.take i).filter f).map fun c=>V.str ⟨#[c]⟩) ⟨zaA hD _,fun _=>rfl,rfl,rfl⟩ ?_ ?_
 ·rintro i c ys σ' H' e hD' ⟨s,es,el,rfl⟩
  have ec:x.cps.toList[i]?=some c:=by rw [Array.getElem?_toList];exact e
  show tt (σ'.set 0 _) H' _
  rw [es]
  refine hs i _ H' _ e s fun H'' s2=>?_
  rw [List.take_add_one,ec,List.filter_append,List.map_append]
  have lf:=List.length_filter_le f (x.cps.toList.take i)
  rw [List.length_take] at lf
  cases hf:f c with
  | true =>
   rw [if_pos rfl]
   refine ⟨_,(by rw [List.getElem?_set_self l0]),D,_,_,rfl,rfl,s2 _ _ hD',zc5 (by rw [List.length_map];omega),_,zae,(s.trans s2).put hD,fun y=>by rw [List.set_set],by rw [List.length_set],?_⟩
   show _=_++List.map _ (List.filter f [c])
   rw [List.filter_cons_of_pos hf]
   rfl
  | false =>
   rw [if_neg Bool.false_ne_true]
   refine ⟨_,s2 _ _ hD',s.trans s2,fun y=>by rw [List.set_set],by rw [List.length_set],?_⟩
   show _=_++List.map _ (List.filter f [c])
   rw [List.filter_cons_of_neg (by rw [hf];exact Bool.false_ne_true),List.filter_nil,List.map_nil,List.append_nil]
 ·rintro ys σ' H' hD' ⟨s,es,_,rfl⟩
  rw [List.take_of_length_le (by omega)] at hD'
  exact hd H' s hD'
def EvS (te:TE) (σ:St) (H:Hp) (t:Tr):Prop:=∀ (H1:Hp) (R:VK),za3 H H1→(∀ v H',za3 H1 H'→Sh H' t v→R v H')→te σ H1 R
def EvA (ta:TA) (σ:St) (H:Hp) (ts:List Tr):Prop:=∀ (H1:Hp) (R:List V→Hp→Prop),za3 H H1→(∀ vs H',za3 H1 H'→ShL H' ts vs→R vs H')→ta σ H1 R
def EvO (to:TO) (σ:St) (H:Hp) (o:Option Int):Prop:=∀ (H1:Hp) (R:Option Int→Hp→Prop),za3 H H1→(∀ H',za3 H1 H'→R o H')→to σ H1 R
section
variable {σ:St} {te ta tb:TE} {tas:TA} {tl th:TO} {t:Tr} {ts us:List Tr} {i j:Int} {o1 o2:Option Int}
theorem EvS.var {k:Nat} {v:V} (h:σ[k]?=some (some v)) (s:Sh H t v):EvS (zac k) σ H t:=fun H1 _ s1 q=>⟨v,h,q v H1 (.refl _) (s.same s1)⟩
theorem EvS.con {v:V} (s:∀ H',Sh H' t v):EvS (tC v) σ H t:=fun H1 _ _ q=>q v H1 (.refl _) (s H1)
theorem EvS.int:EvS (tC (.int i)) σ H (.int i):=.con fun _=>.int i
theorem EvA.nil:EvA zaE σ H []:=fun H1 _ _ q=>q [] H1 (.refl _) .nil
theorem EvA.cons (e:EvS te σ H t) (a:EvA tas σ H ts):EvA (zab te tas) σ H (t::ts):=fun H1 _ s q=>e H1 _ s fun v H2 s2 sh=>a H2 _ (s.trans s2) fun vs H3 s3 shs=>q (v::vs) H3 (s2.trans s3) (.cons (sh.same s3) shs)
theorem EvS.lst (a:EvA tas σ H ts) (l:ts.length≤sizeLine):EvS (zdu tas) σ H (.lst ts):=fun H1 _ s q=>a H1 _ s fun vs H2 s2 sh=>⟨by rw [sh.len];exact l,fun p hp=>q _ _ (s2.add hp) (sh.put hp)⟩
theorem EvS.add (a:EvS ta σ H (.int i)) (b:EvS tb σ H (.int j)):EvS (tOp (rI0 fun i j=>.int (i+j)) ta tb) σ H (.int (i+j)):=fun H1 _ s q=>a H1 _ s fun v H2 s2 sh=>b H2 _ (s.trans s2) fun u H3 s3 sh2=>by
 cases sh
 cases sh2
 exact ⟨_,_,rfl,rfl,q _ _ (s2.trans s3) (.int _)⟩
theorem EvS.cat (a:EvS ta σ H (.lst ts)) (b:EvS tb σ H (.lst us)) (l:ts.length+us.length≤sizeLine):EvS (tOp zfU ta tb) σ H (.lst (ts++us)):=fun H1 _ s q=>a H1 _ s fun v H2 s2 sh=>b H2 _ (s.trans s2) fun u H3 s3 sh2=>by
 cases sh.same s3 with
 | lst h1 l1 e1 =>
  cases sh2 with
  | lst h2 l2 e2=>exact ⟨_,_,_,_,rfl,rfl,h1,h2,by rw [l1,l2];exact l,fun p hp=>q _ _ ((s2.trans s3).add hp) ((ShL.append ⟨l1,e1⟩ ⟨l2,e2⟩).put hp)⟩
theorem EvO.no:EvO zbs σ H none:=fun _ _ _ q=>q _ (.refl _)
theorem EvO.at (a:EvS ta σ H (.int i)):EvO (zco ta) σ H (some i):=fun H1 R s q=>a H1 _ s fun v H2 s2 sh=>by
 cases sh
 exact ⟨i,rfl,q H2 s2⟩
theorem zkZ {g:TG} {T:TS} {D:zcd} (e:EvS te σ H t) (k:∀ v H',za3 H H'→Sh H' t v→g v σ H' (T D)):zaV (zbi te g) T D σ H:=e H _ (.refl _) k
end
def ze8:Str:="read_paper.<locals>.<lambda>"
abbrev LT (H:Hp) (P:Addr):Prop:=zcX H P znj ze8
def zcE (ws:List Str):Option (List Int):=ws.mapM zcY
theorem zdc (w:Str) (ws:List Str):zcE (w::ws)=(zcY w).bind fun n=>(zcE ws).bind fun ns=>some (n::ns):=by
 unfold zcE
 rw [List.mapM_cons]
 rfl
theorem zdf:∀ {ws:List Str},zcE ws=none↔inV .non (ws.map fun w=>zhs (zcY w))=true
 | []=>by constructor <;> intro h <;> cases h
 | w::ws=>by
  rw [zdc,List.map_cons]
  have ih:=zdf (ws:=ws)
  show _↔(eqV (zhs (zcY w)) .non || inV .non (ws.map fun w=>zhs (zcY w)))=true
  cases hn:zcY w with
  | none=>exact ⟨fun _=>rfl,fun _=>rfl⟩
  | some n =>
   show ((zcE ws).bind fun ns=>some (n::ns))=none↔(false || inV .non (ws.map fun w=>zhs (zcY w)))=true
   rw [Bool.false_or,← ih]
   cases zcE ws with
   | none=>exact ⟨fun _=>rfl,fun _=>rfl⟩
   | some ns=>exact ⟨fun h=>(by cases h),fun h=>(by cases h)⟩
theorem ze6:∀ {ws:List Str} {ns:List Int},zcE ws=some ns→(ws.map fun w=>zhs (zcY w))=ns.map V.int
 | [],ns,h=>by cases h;rfl
 | w::ws,ns,h=>by
  rw [zdc] at h
  cases hn:zcY w with
  | none=>rw [hn] at h;cases h
  | some n =>
   rw [hn] at h
   have h:((zcE ws).bind fun ns=>some (n::ns))=some ns:=h
   cases hs:zcE ws with
   | none=>rw [hs] at h;cases h
   | some ms =>
    rw [hs] at h
    cases h
    rw [List.map_cons,List.map_cons,ze6 hs,hn]
    rfl
def thO (sp:Bool) (w:Str):Option Tr:=if sp then match zcE (Txt.split w "-") with
  | some [x,y]=>some (.tup [.int x,.int y])
  | _=>none
 else (zcY w).map Tr.int
def plO (sp:Bool) (ws:List Str):Option (List Tr):=ws.mapM (thO sp)
def kdS (sp:Bool):Str:=if sp then Str.ofString "spread" else Str.ofString "walk"
def shO (sp:Bool) (row:Str):Option Tr :=
 let ws:=Txt.split row " "
 if ws.getD 0 ""=kdS sp∧(if sp then 2 else 3)≤ws.length then
  (zcY (ws.getD 1 "")).bind fun n=>if n<1 then none else (plO sp (ws.drop 2)).map fun p=>.tup [.lst p,.int n]
 else none
def zjm:Option Tr→Hp→V→Prop
 | none,_,v=>v=.non
 | some t,H,v=>Sh H t v∧v≠.non
def zfn (sp:Bool) (rows:List Str):Nat ⊕ List Tr:=match (rows.dropLast.map (shO sp)).findIdx? (fun o=>o.isNone) with
 | some k=>.inl k
 | none=>if rows.dropLast=[]∨rows.getLastD ""≠"" then .inl (rows.length - 1) else .inr (rows.dropLast.filterMap (shO sp))
theorem zi6 {sp:Bool} {rows:List Str} {k:Nat} {r:Str} (hk:rows.dropLast[k]?=some r) (h:shO sp r=none) (hb:∀ (i:Nat) r,i<k→rows.dropLast[i]?=some r→shO sp r≠none):zfn sp rows=.inl k:=by
 have e:(rows.dropLast.map (shO sp)).findIdx? (fun o=>o.isNone)=some k:=by
  rw [List.findIdx?_eq_some_iff_getElem]
  have hl:=(List.getElem?_eq_some_iff.mp hk).1
  refine ⟨by rw [List.length_map];exact hl,?_,fun j hj=>?_⟩
  ·rw [List.getElem_map,(List.getElem?_eq_some_iff.mp hk).2,h];rfl
  ·rw [List.getElem_map]
   have:=hb j _ hj (List.getElem?_eq_getElem (by omega))
   intro z
   exact this (Option.isNone_iff_eq_none.mp z)
 unfold zfn
 rw [e]
theorem zi0 {sp:Bool} {rows:List Str} (hb:∀ (i:Nat) r,rows.dropLast[i]?=some r→shO sp r≠none):zfn sp rows=if rows.dropLast=[]∨rows.getLastD ""≠"" then .inl (rows.length - 1) else .inr (rows.dropLast.filterMap (shO sp)):=by
 have e:(rows.dropLast.map (shO sp)).findIdx? (fun o=>o.isNone)=none:=by
  rw [List.findIdx?_eq_none_iff]
  intro x hx
  obtain ⟨r,hr,rfl⟩:=List.mem_map.mp hx
  obtain ⟨i,hi⟩:=List.mem_iff_getElem?.mp hr
  have:=hb i r hi
  cases h:shO sp r with
  | none=>exact absurd h this
  | some t=>rfl
 unfold zfn
 rw [e]
def zjE (kd:Str) (rows:List Str):Nat ⊕ (Bool×List Tr):=if kd=kdS false then (match zfn false rows with | .inl k=>.inl k | .inr ts=>.inr (false,ts))
 else if kd=kdS true then (match zfn true rows with | .inl k=>.inl k | .inr ts=>.inr (true,ts)) else .inl 0
def zf2 (text:Str):Nat ⊕ (Bool×List Tr):=zjE (Txt.partition text " ").1 (Txt.split text "\n")
theorem zm4 (xs:List V) (k:Nat):zko xs (some (k:Int)) none=xs.drop k:=by
 unfold zko
 rw [HT.sIx_none,HT.sIx_nat]
 by_cases h:k≤xs.length
 ·rw [Nat.min_eq_left h,List.take_of_length_le (by rw [List.length_drop];exact Nat.le_refl _)]
 ·rw [Nat.min_eq_right (by omega),List.drop_eq_nil_of_le (Nat.le_refl _),List.drop_eq_nil_of_le (by omega),List.take_nil]
theorem zhM:Str.ofString " "=⟨#[32]⟩:=by decide +kernel
theorem zgf:Str.ofString "\n"=⟨#[10]⟩:=by decide +kernel
theorem zlg:Str.ofString "-"=⟨#[45]⟩:=by decide +kernel
def zgh:Sp:=fun vs H Q _=>∃ w:Str,vs=[.str w]∧w.length≤640∧∀ H',za3 H H'→Q (zhs (zcY w)) H'
def zeO (K:PySem.W.Frag):TS :=
 (zaV (zcV (zb2 (zlO (tB (tBM K "str" zg4 (zac 0) (zab (tC (.str "0")) zaE))) (zaM (tOp rNe (zac 0) (tC (.str "0"))))) (zbU (tC .non)) za1))
 (zbU (tCB zkO (zab (zac 0) zaE))))
theorem zcI (K:PySem.W.Frag) (D:zcd) (σ:St) (H:Hp):zeO K D σ H=(zaV (zcV (zb2 (zlO (tB (tBM K "str" zg4 (zac 0) (zab (tC (.str "0")) zaE))) (zaM (tOp rNe (zac 0) (tC (.str "0"))))) (zbU (tC .non)) za1))
 (zbU (tCB zkO (zab (zac 0) zaE)))) D σ H:=rfl
def zeI (K:PySem.W.Frag):TS :=
 (zb2 (tOr (zkl (zaM (zjz (rI0 fun i j=>.bl (decide (i≤j))) (rI0 fun i j=>.bl (decide (i≤j))) (tC (.int 1)) (tCB zj9 (zab (zac 0) zaE)) (tC (.int 2000))))) (zkl (tB (tCB (rAll K) (zab (zeK (zpA (zac 0)) (zaC 0) zcz (tOp rInS (zac 0) (tC (.str "0123456789"))) [none]) zaE))))) (zbU (tC .non)) za1)
theorem zcJ (K:PySem.W.Frag) (D:zcd) (σ:St) (H:Hp):zeI K D σ H=(zb2 (tOr (zkl (zaM (zjz (rI0 fun i j=>.bl (decide (i≤j))) (rI0 fun i j=>.bl (decide (i≤j))) (tC (.int 1)) (tCB zj9 (zab (zac 0) zaE)) (tC (.int 2000))))) (zkl (tB (tCB (rAll K) (zab (zeK (zpA (zac 0)) (zaC 0) zcz (tOp rInS (zac 0) (tC (.str "0123456789"))) [none]) zaE))))) (zbU (tC .non)) za1) D σ H:=rfl
def zex (K:PySem.W.Frag):TS :=
 (zaV (zcV (zeI K))
 (zeO K))
theorem all_map {α:Type} {f:α→Bool}:∀ (l:List α),(l.map f).all id=l.all f
 | []=>rfl
 | a::l=>by rw [List.map_cons,List.all_cons,List.all_cons,all_map l];rfl
theorem zdY {n:Nat} (h:n≤99999):n≤sizeLine:=Nat.le_trans h (by decide)
theorem zh6 {w:Str} (l:w.length≤640) (q:∀ H',za3 H H'→Q (zhs (zcY w)) H'):zex K { nx:=fun _ H'=>Q .non H',rt:=Q } (L2.zci ["word"] [.str w]) H:=by
 unfold zex
 have lw:w.length=w.cps.toList.length:=by simp [Str.length]
 have qn:okW w=false→∀ H',za3 H H'→Q .non H':=fun e H' s=>by
  have:=q H' s
  unfold zcY at this
  rw [if_neg (by rw [e];exact Bool.false_ne_true)] at this
  exact this
 simp_all only [zac]
 refine ⟨fun σ H'=>za3 H H'∧1≤w.length∧w.cps.toList.all dg=true∧σ=[some (.str w)],?_,?_⟩
 ·simp_all only [zcI,zcJ,zac]
  refine ⟨zdY (by omega),?_⟩
  by_cases l1:(1:Int)≤(w.length:Int)
  ·rw [if_pos l1,if_neg (by omega)]
   intro D hD
   refine zj3 dg (by omega) hD ?_ ?_
   ·intro i c H' R hc s r
    refine ⟨_,rfl,_,_,rfl,rfl,?_⟩
    rw [zmZ]
    exact r H' (.refl _)
   ·intro H' s hD'
    refine ⟨_,rfl,_,SqL.of hD',?_⟩
    rw [all_map]
    cases ha:w.cps.toList.all dg with
    | false =>
     rw [if_pos rfl]
     exact qn (by unfold okW;rw [ha,Bool.and_false,Bool.false_and]) H' s
    | true =>
     rw [if_neg (by decide)]
     exact ⟨s,by omega,rfl⟩
  ·rw [if_neg l1]
   exact qn (by unfold okW;rw [decide_eq_false (by omega),Bool.false_and,Bool.false_and]) H (.refl _)
 ·rintro σ H1 ⟨s1,l1,hd,rfl⟩
  have e0:okW w=!(decide (w.cps.toList.head?=some 48)&&!decide (w=Str.ofString "0")):=by
   unfold okW
   rw [hd,decide_eq_true l1,Bool.true_and,Bool.true_and]
  refine ⟨fun σ H'=>za3 H H'∧okW w=true∧σ=[some (.str w)],?_,?_⟩
  ·simp_all only [zcI,zcJ,zac]
   refine ⟨rfl,?_⟩
   rw [zn9]
   by_cases h1:w.cps.toList.head?=some 48
   ·rw [if_pos (decide_eq_true h1)]
    refine ⟨rfl,?_⟩
    by_cases h2:w=Str.ofString "0"
    ·rw [if_neg (fun z=>z h2)]
     exact ⟨s1,by rw [e0,decide_eq_true h1,decide_eq_true h2];rfl⟩
    ·rw [if_pos h2]
     exact qn (by rw [e0,decide_eq_true h1,decide_eq_false h2];rfl) H1 s1
   ·rw [if_neg (by rw [decide_eq_false h1];exact Bool.false_ne_true)]
    exact ⟨s1,by rw [e0,decide_eq_false h1];rfl⟩
  ·rintro σ H2 ⟨s2,hk,rfl⟩
   obtain ⟨n,hn,_⟩:=zjC hd l1 (by omega)
   have q2:=q H2 s2
   unfold zcY at q2
   rw [if_pos hk,hn] at q2
   simp_all only [zcI,zcJ,zac]
   exact ⟨l,n,hn,q2⟩
theorem zhP:zbo ["word"] ["word"] (zaI zdp):=⟨rfl,rfl,rfl,by decide +kernel,rfl,by decide +kernel,by decide +kernel⟩
theorem zdE (T:Txt K mg base a):zdD P w K mg base CX0 1 a.f_number_in a.d_number_in ["word"] zgh:=by
 refine T.F_number_in.ok zhP (fun vs H Q E h=>?_) (fun cdv A outer s H vs Q E hr h=>?_)
 ·obtain ⟨w,rfl,l,q⟩:=h
  rfl
 obtain ⟨w,rfl,l,q⟩:=h
 exact ⟨zex K,(zaf (zbj (zbW (PW.pt (zd0 (zim (zmj zqt zqt zaz (zaF zfB rfl T.z_len PySem.boot_len (zaa (pv 0) zag)) (zbB rfl T.m_MOST_FIGURES ⟨_,rfl⟩))) (zdd (zim (zeX (zaF (zmF rfl) rfl T.z_all PyProof.Rows.boot_all (zaa (ziR (sc:=zaI zdp) (N:=["word"]) (Nc:=["sign"]) (cap:=[none]) rfl rfl rfl (.of (by decide +kernel)) (zm5 (pv 0)) (fun _ _ _ _=>(zbm (i:=0) (show List.Nodup (["sign"]:List Str) from by decide) rfl (Or.inl rfl))) (fun _ _ _ _=>zfQ) (fun _ _ _ _=>(zcu zqs (pv 0) (zbB rfl T.m_FIGURES ⟨_,rfl⟩) (by with_unfolding_all rfl)))) zag))))))) (zaD (zaZ zbC)) zaW))
 (zaf (zbj (zbW (PW.pt (zjr (zeX (zda PySem.F.plainAttrs_str PySem.F.slot_str_startswith PySem.F.type_str_startswith zk6 (pv 0) (zaa zaS zag))) (zgI (zaJ zeJ (pv 0) zaS (zaQ _))))) (zaD (zaZ zbC)) zaW))
 (zaD (zaZ (zbT zh9 rfl T.z_int zcK (zaa (pv 0) zag)))))),
  zh6 l q⟩
def zkD (K:PySem.W.Frag):Sp:=fun vs H Q _=>∃ (p:Addr) (ws:List Str),vs=[.ref p]∧SqL K H p (ws.map V.str)∧ws.length≤99999∧(∀ w∈ws,w.length≤640)∧(zcE ws=none→∀ H',za3 H H'→Q .non H')∧∀ ns,zcE ws=some ns→∀ D H',za3 H H'→H D=none→H' D=some (.lst (ns.map V.int))→Q (.ref D) H'
def zdM (K:PySem.W.Frag):TS :=
 (zaV (zbi (zeK (zfK K (zac 0)) (zaC 0) zcz (zbz zgh [] E0 (zab (zac 0) zaE)) [none]) (zaC 1))
 (zbU (tIf (zaM (tOp (rIn K false) (tC .non) (zac 1))) (tC .non) (zac 1))))
theorem zh0 (ws:List Str):(ws.map fun w=>zhs (zcY w)).all zdX=true:=by
 rw [List.all_map]
 refine List.all_eq_true.mpr fun w _=>?_
 show zdX (zhs (zcY w))=true
 cases zcY w <;> rfl
theorem zhK {a D:Addr} {ws:List Str} {te:TE} {σ:St} (hl:SqL K H a (ws.map V.str)) (hD:H D=none) (hx:ws.length≤99999)
  (hs:∀ (i:Nat) w H' (R:VK),ws[i]?=some w→za3 H H'→(∀ H'',za3 H' H''→R (zhs (zcY w)) H'')→te (σ.set 0 (some (.str w))) H' R)
  (hd:∀ H',za3 H H'→H' D=some (.lst (ws.map fun w=>zhs (zcY w)))→Q (.ref D) H'):zfl (Itl K a) (zaC 0) zcz te D Q σ (L2.upd H D (.lst [])):=by
 refine zjv (fun i _ v=>∃ w,ws[i]?=some w∧v=zhs (zcY w)) (fun _ _ _ _ _ h=>h) hl hD (by rw [List.length_map];exact hx) ?_ ?_
 ·intro i x H' R e s r
  obtain ⟨w,hw,rfl⟩:=zgu e
  exact hs i w H' R hw s fun H'' s2=>r _ H'' s2 ⟨w,hw,rfl⟩
 ·intro H' ys s ly hr hD'
  refine hd H' s ?_
  have ey:ys=ws.map fun w=>zhs (zcY w):=by
   refine List.ext_getElem? fun i=>?_
   by_cases c:i<ys.length
   ·obtain ⟨w,hw,e⟩:=hr i _ (List.getElem?_eq_getElem c)
    rw [List.getElem?_eq_getElem c,List.getElem?_map,hw,e]
    rfl
   ·rw [List.getElem?_eq_none (by omega),List.getElem?_eq_none (by rw [List.length_map] at ly ⊢;omega)]
  rw [← ey]
  exact hD'
theorem zg8 {p:Addr} {ws:List Str} (hp:SqL K H p (ws.map V.str)) (lw:ws.length≤99999) (lws:∀ w∈ws,w.length≤640) (q0:zcE ws=none→∀ H',za3 H H'→Q .non H') (q1:∀ ns,zcE ws=some ns→∀ D H',za3 H H'→H D=none→H' D=some (.lst (ns.map V.int))→Q (.ref D) H'):zdM K { nx:=fun _ H'=>Q .non H',rt:=Q } (L2.zci ["words","numbers"] [.ref p]) H:=by
 unfold zdM
 simp_all only [zac]
 refine ⟨⟨_,hp⟩,fun D hD=>zhK hp hD lw ?_ ?_⟩
 ·intro i w H' R e s r
  exact ⟨_,rfl,w,rfl,lws w (zc0 e),r⟩
 ·intro H' s hD'
  refine ⟨D,rfl,_,.inl (SqL.of hD'),rfl,zh0 ws,?_⟩
  cases hn:zcE ws with
  | none =>
   rw [if_pos (zdf.mp hn)]
   exact q0 hn H' s
  | some ns =>
   rw [if_neg (fun z=>by rw [zdf.mpr z] at hn;cases hn)]
   rw [ze6 hn] at hD'
   exact q1 ns hn D H' s hD hD'
theorem zeC:zbo ["words","numbers"] ["words"] (zaI zc2):=⟨rfl,rfl,rfl,by decide +kernel,rfl,by decide +kernel,by decide +kernel⟩
theorem zhb (T:Txt K mg base a):zdD P w K mg base CX0 2 a.f_numbers_in a.d_numbers_in ["words"] (zkD K):=by
 have G_number_in:=zdE (P:=P) (w:=w) (base:=base) T
 refine T.F_numbers_in.ok zeC (fun vs H Q E h=>?_) (fun cdv A outer s H vs Q E hr h=>?_)
 ·obtain ⟨p,ws,rfl,hp,lw,lws,q0,q1⟩:=h
  rfl
 obtain ⟨p,ws,rfl,hp,lw,lws,q0,q1⟩:=h
 exact ⟨zdM K,(zaf (zff (i:=1) zeC.nd rfl rfl (sc:=zaI zc2) (N:=["words","numbers"]) (Nc:=["word"]) (cap:=[none]) rfl rfl rfl (.of (by decide +kernel)) (ze9 (pv 0)) (fun _ _ _ _=>(zbm (i:=0) (show List.Nodup (["word"]:List Str) from by decide) rfl (Or.inl rfl))) (fun _ _ _ _=>zfQ) (fun _ _ _ _=>(zbh G_number_in (hr.mono (by decide)) rfl T.m_number_in T.F_number_in.kp T.b_number_in .nil zcp (zaa (pv 0) zag))))
 (zaD (zaZ (zeH (zaJ zif zbC (pv 1) (by with_unfolding_all rfl)) zbC (pv 1))))),
  zg8 hp lw lws q0 q1⟩
def zqR:Sp:=fun vs H Q _=>∃ (sp:Bool) (w:Str),vs=[.str (kdS sp),.str w]∧w.length≤640∧∀ v H',za3 H H'→zjm (thO sp w) (NwH H H') v→Q v H'
def zdL (K:PySem.W.Frag):TS :=
 (zaV (zbi (zbz (zkD K) [] E0 (zab (tBM K "str" zdt (zac 1) (zab (tC (.str "-")) zaE)) zaE)) (zaC 2))
 (zbU (tIf (tOr (zaM (tOp (fun x y H Q=>y=.non∧Q (.bl (decide (x=.non))) H) (zac 2) (tC .non))) (zaM (tOp rNe (tCB (fun xs H Q=>∃ p ys,xs=[.ref p]∧(SqL K H p ys∨SqT K H p ys)∧Q (.int ys.length) H) (zab (zac 2) zaE)) (tC (.int 2))))) (tC .non) (tCB (fun xs H Q=>∃ p ys,xs=[.ref p]∧((SqL K H p ys∧∀ l,H l=none→Q (.ref l) (upd H l (.tup ys)))∨(SqT K H p ys∧Q (.ref p) H))) (zab (zac 2) zaE)))))
theorem zcR (K:PySem.W.Frag) (D:zcd) (σ:St) (H:Hp):zdL K D σ H=(zaV (zbi (zbz (zkD K) [] E0 (zab (tBM K "str" zdt (zac 1) (zab (tC (.str "-")) zaE)) zaE)) (zaC 2))
 (zbU (tIf (tOr (zaM (tOp (fun x y H Q=>y=.non∧Q (.bl (decide (x=.non))) H) (zac 2) (tC .non))) (zaM (tOp rNe (tCB (fun xs H Q=>∃ p ys,xs=[.ref p]∧(SqL K H p ys∨SqT K H p ys)∧Q (.int ys.length) H) (zab (zac 2) zaE)) (tC (.int 2))))) (tC .non) (tCB (fun xs H Q=>∃ p ys,xs=[.ref p]∧((SqL K H p ys∧∀ l,H l=none→Q (.ref l) (upd H l (.tup ys)))∨(SqT K H p ys∧Q (.ref p) H))) (zab (zac 2) zaE))))) D σ H:=rfl
def zfb (K:PySem.W.Frag):TS :=
 (zaV (zcV (zb2 (zaM (tOp rEq (zac 0) (tC (.str "walk")))) (zbU (zbz zgh [] E0 (zab (zac 1) zaE))) za1))
 (zdL K))
theorem zmG:kdS false=Str.ofString "walk":=rfl
theorem zl3:kdS true=Str.ofString "spread":=rfl
theorem zd1:¬ Str.ofString "spread"=Str.ofString "walk":=by decide +kernel
theorem zoR {o:Option Int}:zjm (o.map Tr.int) H (zhs o):=by
 cases o with
 | none=>exact rfl
 | some n=>exact ⟨.int n,fun z=>by cases z⟩
theorem ziE {sp:Bool} {w:Str} (lw:w.length≤640) (q:∀ v H',za3 H H'→zjm (thO sp w) (NwH H H') v→Q v H'):zfb K { nx:=fun _ H'=>Q .non H',rt:=Q } (L2.zci ["kind","word","ends"] [.str (kdS sp),.str w]) H:=by
 unfold zfb
 simp_all only [zcR,zac]
 refine ⟨fun σ H'=>za3 H H'∧sp=true∧σ=[some (.str (kdS sp)),some (.str w),none],?_,?_⟩
 ·simp_all only [zcR,zac]
  refine ⟨rfl,?_⟩
  cases sp
  ·rw [if_pos zmG]
   exact ⟨w,rfl,lw,fun H' s=>q _ H' s zoR⟩
  ·rw [if_neg (by rw [zl3];exact zd1)]
   exact ⟨.refl _,rfl⟩
 ·rintro σ H1 ⟨s1,rfl,rfl⟩
  unfold zdL
  simp_all only [zcR,zac]
  have lp:∀ x∈Txt.split w (Str.ofString "-"),x.length≤w.length:=by rw [zlg];exact zdU w 45
  have lq:(Txt.split w (Str.ofString "-")).length≤w.length+1:=by rw [zlg];exact zde w 45
  refine ⟨rfl,by decide +kernel,by omega,fun p hp=>⟨p,_,rfl,SqL.of zae,by omega,fun x hx=>Nat.le_trans (lp x hx) lw,fun hn H2 s2=>?_,fun ns hn D H2 s2 hD hD2=>?_⟩⟩
  ·show ite _ _ _
   rw [if_pos rfl]
   refine q _ H2 (s1.trans ((zaA hp _).trans s2)) ?_
   unfold thO
   rw [if_pos rfl]
   show zjm (match zcE (Txt.split w (Str.ofString "-")) with | some [x,y]=>_ | _=>none) _ _
   rw [hn]
   rfl
  ·show ite _ _ _
   rw [if_neg (fun z=>V.noConfusion z)]
   refine ⟨D,rfl,_,.inl (SqL.of hD2),?_⟩
   have s3:za3 H H2:=s1.trans ((zaA hp _).trans s2)
   have et:thO true w=(match some ns with | some [x,y]=>some (Tr.tup [.int x,.int y]) | _=>none):=by
    rw [← hn]
    rfl
   rw [List.length_map]
   by_cases l2:(ns.length:Int)=2
   ·rw [if_neg (fun z=>z l2)]
    obtain ⟨x,y,rfl⟩:∃ x y,ns=[x,y]:=by
     match ns,l2 with
     | [x,y],_=>exact ⟨x,y,rfl⟩
     | [],h=>exact absurd h (by decide)
     | [_],h=>rw [List.length_singleton] at h;omega
     | _::_::_::l,h=>rw [List.length_cons,List.length_cons,List.length_cons] at h;omega
    refine ⟨D,rfl,_,.inl ⟨SqL.of hD2,fun l hl=>q _ _ (s3.add hl) ?_⟩⟩
    rw [et]
    refine ⟨ShL.tp (ShL.ints [x,y]) (zcl.mpr ⟨s3.free hl,zae⟩),fun z=>by cases z⟩
   ·rw [if_pos l2]
    refine q _ H2 s3 ?_
    rw [et]
    split
    ·rename_i x y e
     cases e
     exact absurd rfl l2
    ·rfl
theorem zfZ:zbo ["kind","word","ends"] ["kind","word"] (zaI ze7):=⟨rfl,rfl,rfl,by decide +kernel,rfl,by decide +kernel,by decide +kernel⟩
theorem ziX (T:Txt K mg base a):zdD P w K mg base CX0 3 a.f_thing_in a.d_thing_in ["kind","word"] zqR:=by
 have G_number_in:=zdE (P:=P) (w:=w) (base:=base) T
 have G_numbers_in:=zhb (P:=P) (w:=w) (base:=base) T
 refine T.F_thing_in.ok zfZ (fun vs H Q E h=>?_) (fun cdv A outer s H vs Q E hr h=>?_)
 ·obtain ⟨sp,w,rfl,lw,q⟩:=h
  rfl
 obtain ⟨sp,w,rfl,lw,q⟩:=h
 exact ⟨zfb K,(zaf (zbj (zbW (zaJ zcD (pv 0) zaS (zaQ _)) (zaD (zaZ (zbh G_number_in (hr.mono (by decide)) rfl T.m_number_in T.F_number_in.kp T.b_number_in .nil zcp (zaa (pv 1) zag)))) zaW))
 (zaf (zaR (i:=2) zfZ.nd rfl (Or.inl rfl) (zbh G_numbers_in (hr.mono (by decide)) rfl T.m_numbers_in T.F_numbers_in.kp T.b_numbers_in .nil zcp (zaa (zda PySem.F.plainAttrs_str PySem.F.slot_str_split PySem.F.type_str_split zds (pv 1) (zaa zaS zag)) zag)))
 (zaD (zaZ (zeH (PW.pt (zd0 (zaJ zd4 (pv 2) zbC (zaQ _)) (zdd (zaJ zeJ (zaF zaY rfl T.z_len PySem.boot_len (zaa (pv 2) zag)) zaz (zaQ _))))) zbC (zbT zeQ rfl T.z_tuple zdg (zaa (pv 2) zag))))))),
  ziE lw q⟩
def zgX (K:PySem.W.Frag):Sp:=fun vs H Q _=>∃ (sp:Bool) (p:Addr) (ws:List Str),vs=[.str (kdS sp),.ref p]∧SqL K H p (ws.map V.str)∧ws.length≤99999∧(∀ w∈ws,w.length≤640)∧∀ v H',za3 H H'→zjm ((plO sp ws).map Tr.lst) (NwH H H') v→Q v H'
def zfY (K:PySem.W.Frag):TS :=
 (zaV (zbi (zeK (zfK K (zac 1)) (zaC 0) zcz (zbz zqR [] E0 (zab (zac 1) (zab (zac 0) zaE))) [none,some 0]) (zaC 2))
 (zbU (tIf (zaM (tOp (rInN K) (tC .non) (zac 2))) (tC .non) (zac 2))))
theorem zjm.same {o:Option Tr} {H H':Hp} {v:V} (h:zjm o H v) (s:za3 H H'):zjm o H' v:=by
 cases o with
 | none=>exact h
 | some t=>exact ⟨h.1.same s,h.2⟩
theorem zlq (sp:Bool) (w:Str):thO sp w=none∨(∃ n,thO sp w=some (.int n))∨∃ ts,thO sp w=some (.tup ts):=by
 unfold thO
 cases sp
 ·show (zcY w).map Tr.int=none∨_
  cases zcY w with
  | none=>exact .inl rfl
  | some n=>exact .inr (.inl ⟨n,rfl⟩)
 ·show (match zcE (Txt.split w "-") with | some [x,y]=>some (Tr.tup [.int x,.int y]) | _=>none)=none∨_
  split
  ·exact .inr (.inr ⟨_,rfl⟩)
  ·exact .inl rfl
theorem zfy (sp:Bool) (w:Str) (ws:List Str):plO sp (w::ws)=(thO sp w).bind fun n=>(plO sp ws).bind fun ns=>some (n::ns):=by
 unfold plO
 rw [List.mapM_cons]
 rfl
theorem zmX (sp:Bool):∀ {ws:List Str} {ys:List V},ys.length=ws.length→(∀ (i:Nat) y w,ys[i]?=some y→ws[i]?=some w→zjm (thO sp w) H y)→((ys.any fun z=>decide (z=.non))=true∧plO sp ws=none)∨((ys.any fun z=>decide (z=.non))=false∧∃ ts,plO sp ws=some ts∧ShL H ts ys)
 | [],[],_,_=>.inr ⟨rfl,[],rfl,.nil⟩
 | w::ws,y::ys,l,h=>by
  have h0:=h 0 y w rfl rfl
  have ih:=zmX sp (ws:=ws) (ys:=ys) (by rw [List.length_cons,List.length_cons] at l;omega) fun i y w e1 e2=>h (i+1) y w e1 e2
  rw [List.any_cons,zfy]
  cases ht:thO sp w with
  | none =>
   rw [ht] at h0
   have h0:y=.non:=h0
   exact .inl ⟨by rw [decide_eq_true h0];rfl,rfl⟩
  | some t =>
   rw [ht] at h0
   rw [decide_eq_false h0.2,Bool.false_or]
   rcases ih with ⟨a1,a2⟩ | ⟨a1,ts,a2,a3⟩
   ·exact .inl ⟨a1,by rw [a2];rfl⟩
   ·exact .inr ⟨a1,t::ts,by rw [a2];rfl,.cons h0.1 a3⟩
theorem zj2 {sp:Bool} {p:Addr} {ws:List Str} (hp:SqL K H p (ws.map V.str)) (lw:ws.length≤99999) (lws:∀ w∈ws,w.length≤640) (q:∀ v H',za3 H H'→zjm ((plO sp ws).map Tr.lst) (NwH H H') v→Q v H'):zfY K { nx:=fun _ H'=>Q .non H',rt:=Q } (L2.zci ["kind","words","plan"] [.str (kdS sp),.ref p]) H:=by
 unfold zfY
 simp_all only [zac]
 refine ⟨⟨_,hp⟩,fun D hD=>zjv (fun i H v=>∃ w,ws[i]?=some w∧zjm (thO sp w) H v) (fun i H H' v s h=>by obtain ⟨w,e,h⟩:=h;exact ⟨w,e,h.same s⟩) hp hD (by rw [List.length_map];exact lw) ?_ ?_⟩
 ·intro i x H' R e s r
  obtain ⟨w,hw,rfl⟩:=zgu e
  exact ⟨_,rfl,_,rfl,sp,w,rfl,lws w (zc0 hw),fun v H'' s2 h=>r v H'' s2 ⟨w,hw,h⟩⟩
 ·intro H' ys s ly hr hD'
  rw [List.length_map] at ly
  refine ⟨D,rfl,ys,SqL.of hD',?_,?_⟩
  ·intro z hz
   obtain ⟨i,hi⟩:=List.mem_iff_getElem?.mp hz
   obtain ⟨w,hw,h⟩:=hr i z hi
   rcases zlq sp w with e | ⟨n,e⟩ | ⟨ts,e⟩
   ·rw [e] at h
    exact .inl h
   ·rw [e] at h
    obtain ⟨h,_⟩:=h
    cases h
    exact .inr (.inl ⟨_,rfl⟩)
   ·rw [e] at h
    obtain ⟨h,_⟩:=h
    cases h with
    | tup hh=>exact .inr (.inr ⟨_,rfl,_,SqT.of (zjp _ _ hh)⟩)
  ·rcases zmX sp (H:=NwH H H') ly (fun i y w e1 e2=>by
    obtain ⟨w',e3,h⟩:=hr i y e1
    rw [e2] at e3
    cases e3
    exact h) with ⟨a1,a2⟩ | ⟨a1,ts,a2,a3⟩
   ·rw [if_pos a1]
    exact q _ H' s (by rw [a2];exact rfl)
   ·rw [if_neg (by rw [a1];exact Bool.false_ne_true)]
    refine q _ H' s ?_
    rw [a2]
    exact ⟨a3.sh (zcl.mpr ⟨hD,hD'⟩),fun z=>by cases z⟩
theorem zgB:zbo ["kind","words","plan"] ["kind","words"] (zaI zeG):=⟨rfl,rfl,rfl,by decide +kernel,rfl,by decide +kernel,by decide +kernel⟩
theorem zjN (T:Txt K mg base a):zdD P w K mg base CX0 4 a.f_plan_in a.d_plan_in ["kind","words"] (zgX K):=by
 have G_thing_in:=ziX (P:=P) (w:=w) (base:=base) T
 refine T.F_plan_in.ok zgB (fun vs H Q E h=>?_) (fun cdv A outer s H vs Q E hr h=>?_)
 ·obtain ⟨sp,p,ws,rfl,hp,lw,lws,q⟩:=h
  rfl
 obtain ⟨sp,p,ws,rfl,hp,lw,lws,q⟩:=h
 exact ⟨zfY K,(zaf (zff (i:=2) zgB.nd rfl rfl (sc:=zaI zeG) (N:=["kind","words","plan"]) (Nc:=["word","kind"]) (cap:=[none,some 0]) rfl rfl rfl (.of (by decide +kernel)) (ze9 (pv 1)) (fun _ _ _ _=>(zbm (i:=0) (show List.Nodup (["word","kind"]:List Str) from by decide) rfl (Or.inl rfl))) (fun _ _ _ _=>zfQ) (fun _ _ _ _=>(zbh G_thing_in (hr.mono (by decide)) rfl T.m_thing_in T.F_thing_in.kp T.b_thing_in .nil zcp (zaa (pv 1) (zaa (pv 0) zag)))))
 (zaD (zaZ (zeH (zaJ (zqa hr.units) zbC (pv 2) (by with_unfolding_all rfl)) zbC (pv 2))))),
  zj2 hp lw lws q⟩
def ziN:Sp:=fun vs H Q _=>∃ (sp:Bool) (row:Str),vs=[.str row,.str (kdS sp)]∧Rn 640 row∧10∉sgn row∧row.length≤90000∧∀ v H',za3 H H'→zjm (shO sp row) (NwH H H') v→Q v H'
def zdK (K:PySem.W.Frag):TS :=
 (zaV (zbi (zbz zgh [] E0 (zab (tOp (zcP K) (zac 2) (tC (.int 1))) zaE)) (zaC 3))
 (zaV (zbi (zbz (zgX K) [] E0 (zab (zac 1) (zab (tSl (ziz K) (zac 2) (zco (tC (.int 2))) zbs) zaE))) (zaC 4))
 (zbU (tIf (tOr (zaM (tOp (fun x y H Q=>y=.non∧Q (.bl (decide (x=.non))) H) (zac 3) (tC .non))) (tOr (zaM (tOp (rI0 fun i j=>.bl (decide (i<j))) (zac 3) (tC (.int 1)))) (zaM (tOp (fun x y H Q=>y=.non∧Q (.bl (decide (x=.non))) H) (zac 4) (tC .non))))) (tC .non) (zf3 (zab (zac 4) (zab (zac 3) zaE)))))))
theorem zcQ (K:PySem.W.Frag) (D:zcd) (σ:St) (H:Hp):zdK K D σ H=(zaV (zbi (zbz zgh [] E0 (zab (tOp (zcP K) (zac 2) (tC (.int 1))) zaE)) (zaC 3))
 (zaV (zbi (zbz (zgX K) [] E0 (zab (zac 1) (zab (tSl (ziz K) (zac 2) (zco (tC (.int 2))) zbs) zaE))) (zaC 4))
 (zbU (tIf (tOr (zaM (tOp (fun x y H Q=>y=.non∧Q (.bl (decide (x=.non))) H) (zac 3) (tC .non))) (tOr (zaM (tOp (rI0 fun i j=>.bl (decide (i<j))) (zac 3) (tC (.int 1)))) (zaM (tOp (fun x y H Q=>y=.non∧Q (.bl (decide (x=.non))) H) (zac 4) (tC .non))))) (tC .non) (zf3 (zab (zac 4) (zab (zac 3) zaE))))))) D σ H:=rfl
def zdH (K:PySem.W.Frag):TS :=
 (zb2 (tOr (zaM (tOp rNe (tOp (zcP K) (zac 2) (tC (.int 0))) (zac 1))) (zaM (tOp (rI0 fun i j=>.bl (decide (i<j))) (tCB (fun xs H Q=>∃ p ys,xs=[.ref p]∧(SqL K H p ys∨SqT K H p ys)∧Q (.int ys.length) H) (zab (zac 2) zaE)) (tIf (zaM (tOp rEq (zac 1) (tC (.str "walk")))) (tC (.int 3)) (tC (.int 2)))))) (zbU (tC .non)) za1)
theorem zcT (K:PySem.W.Frag) (D:zcd) (σ:St) (H:Hp):zdH K D σ H=(zb2 (tOr (zaM (tOp rNe (tOp (zcP K) (zac 2) (tC (.int 0))) (zac 1))) (zaM (tOp (rI0 fun i j=>.bl (decide (i<j))) (tCB (fun xs H Q=>∃ p ys,xs=[.ref p]∧(SqL K H p ys∨SqT K H p ys)∧Q (.int ys.length) H) (zab (zac 2) zaE)) (tIf (zaM (tOp rEq (zac 1) (tC (.str "walk")))) (tC (.int 3)) (tC (.int 2)))))) (zbU (tC .non)) za1) D σ H:=rfl
def ze5 (K:PySem.W.Frag):TS :=
 (zaV (zbi (tBM K "str" zdt (zac 0) (zab (tC (.str " ")) zaE)) (zaC 2))
 (zaV (zcV (zdH K))
 (zdK K)))
theorem zjK {row:Str} (hr:Rn 640 row) (h10:10∉sgn row):∀ w∈Txt.split row (Str.ofString " "),w.length≤640:=fun w hw=>by
 rw [zhM] at hw
 have h1:=zfv hr w hw
 have h2:=StrLaws.split_free row 32 w hw
 unfold Rn at h1
 rw [zlz (sgn w) _ h2 (fun m=>h10 (part_sub hw m))] at h1
 rw [zdn]
 omega
where
 part_sub {c d:Nat} {row w:Str} (hw:w∈Txt.split row ⟨#[c]⟩) (m:d∈sgn w):d∈sgn row:=by
  have key:∀ l:List Str,w∈l→d∈sgn (Str.join ⟨#[c]⟩ l):=by
   intro l
   induction l with
   | nil=>intro h;cases h
   | cons x l ih =>
    intro h
    cases l with
    | nil=>rw [List.mem_singleton.mp h] at m;exact m
    | cons z l =>
     rw [zeB]
     rcases List.mem_cons.mp h with rfl | h
     ·exact List.mem_append_left _ m
     ·exact List.mem_append_right _ (List.mem_append_right _ (ih h))
  have:=key _ hw
  rw [StrLaws.join_split] at this
  exact this
theorem ziS {sp:Bool} {row:Str} (hr:Rn 640 row) (h10:10∉sgn row) (lr:row.length≤90000) (q:∀ v H',za3 H H'→zjm (shO sp row) (NwH H H') v→Q v H'):ze5 K { nx:=fun _ H'=>Q .non H',rt:=Q } (L2.zci ["row","kind","words","weight","plan"] [.str row,.str (kdS sp)]) H:=by
 unfold ze5
 simp_all only [zcQ,zcT,zac]
 refine ⟨rfl,by decide +kernel,by omega,fun p hp=>?_⟩
 have lws:=zjK hr h10
 have lw:(Txt.split row (Str.ofString " ")).length≤90001:=by
  rw [zhM]
  have:=zde row 32
  omega
 obtain ⟨w0,wr,ew⟩:∃ w0 wr,Txt.split row (Str.ofString " ")=w0::wr:=by
  cases e:Txt.split row (Str.ofString " ") with
  | nil=>exact absurd e (zcM _ _)
  | cons a l=>exact ⟨a,l,rfl⟩
 refine ⟨fun σ H'=>H'=L2.upd H p (.lst ((Txt.split row (Str.ofString " ")).map V.str))∧w0=kdS sp∧(if sp then 2 else 3)≤(Txt.split row (Str.ofString " ")).length∧σ=[some (.str row),some (.str (kdS sp)),some (.ref p),none,none],?_,?_⟩
 ·unfold zdH
  have eS:shO sp row=if w0=kdS sp∧(if sp then 2 else 3)≤wr.length+1 then (zcY (wr.getD 0 "")).bind fun n=>if n<1 then none else (plO sp (wr.drop 1)).map fun p=>.tup [.lst p,.int n] else none:=by
   unfold shO
   show (if (Txt.split row (Str.ofString " ")).getD 0 ""=kdS sp∧(if sp then 2 else 3)≤(Txt.split row (Str.ofString " ")).length then _ else none)=_
   rw [ew]
   rfl
  have qn:shO sp row=none→Q .non (L2.upd H p (.lst ((Txt.split row (Str.ofString " ")).map V.str))):=fun e=>q _ _ (zaA hp _) (by rw [e];rfl)
  rw [ew] at qn ⊢
  simp_all only [zcQ,zcT,zac]
  refine ⟨_,SqL.of zae,.str w0,za0 (j:=0) rfl,rfl,?_⟩
  by_cases e0:w0=kdS sp
  ·rw [if_neg (fun z=>z (by rw [e0]))]
   refine ⟨_,.inl (SqL.of zae),rfl,?_⟩
   rw [List.length_cons,List.length_map]
   cases sp
   ·rw [if_pos zmG]
    by_cases l3:((wr.length+1:Nat):Int)<3
    ·rw [if_pos l3]
     exact qn (by rw [eS,if_neg (fun z=>by have:=z.2;rw [if_neg Bool.false_ne_true] at this;omega)])
    ·rw [if_neg l3]
     exact ⟨e0,by rw [if_neg Bool.false_ne_true];omega⟩
   ·rw [if_neg (by rw [zl3];exact zd1)]
    by_cases l3:((wr.length+1:Nat):Int)<2
    ·rw [if_pos l3]
     exact qn (by rw [eS,if_neg (fun z=>by have:=z.2;rw [if_pos rfl] at this;omega)])
    ·rw [if_neg l3]
     exact ⟨e0,by rw [if_pos rfl];omega⟩
  ·rw [if_pos (fun z=>e0 (V.str.inj z))]
   exact qn (by rw [eS,if_neg (fun z=>e0 z.1)])
 ·rintro σ H1 ⟨rfl,hk,hl,rfl⟩
  unfold zdK
  have eS:shO sp row=(zcY (wr.getD 0 "")).bind fun n=>if n<1 then none else (plO sp (wr.drop 1)).map fun p=>.tup [.lst p,.int n]:=by
   unfold shO
   show (if (Txt.split row (Str.ofString " ")).getD 0 ""=kdS sp∧(if sp then 2 else 3)≤(Txt.split row (Str.ofString " ")).length then _ else none)=_
   rw [if_pos ⟨by rw [ew];exact hk,hl⟩,ew]
   rfl
  rw [ew] at hl lws lw ⊢
  obtain ⟨w1,wt,rfl⟩:∃ w1 wt,wr=w1::wt:=by
   cases wr with
   | nil =>
    rw [List.length_singleton] at hl
    cases sp <;> exact absurd hl (by decide)
   | cons a l=>exact ⟨a,l,rfl⟩
  simp_all only [zcQ,zcT,zac]
  refine ⟨_,SqL.of zae,.str w1,za0 (j:=1) rfl,w1,rfl,lws w1 (by simp),fun H1 s1=>⟨_,SqL.of (s1 _ _ zae),fun p2 hp2=>?_⟩⟩
  have ec:zko (V.str w0::V.str w1::wt.map V.str) (some 2) none=wt.map V.str:=by
   exact zm4 _ 2
  rw [ec]
  refine ⟨sp,p2,wt,rfl,SqL.of zae,by rw [List.length_cons,List.length_cons] at lw;omega,fun x hx=>lws x (by simp [hx]),fun v H2 s2 h2=>?_⟩
  have s3:za3 H H2:=((zaA hp _).trans s1).trans ((zaA hp2 _).trans s2)
  have eS:shO sp row=(zcY w1).bind fun n=>if n<1 then none else (plO sp wt).map fun p=>.tup [.lst p,.int n]:=eS
  cases hn:zcY w1 with
  | none =>
   show ite (V.non=V.non) _ _
   rw [if_pos rfl]
   exact q _ H2 s3 (by rw [eS,hn];rfl)
  | some n =>
   rw [hn] at eS
   have eS:shO sp row=if n<1 then none else (plO sp wt).map fun p=>.tup [.lst p,.int n]:=eS
   show ite _ _ _
   rw [if_neg (fun z=>V.noConfusion z)]
   refine ⟨n,rfl,?_⟩
   by_cases n1:n<1
   ·rw [if_pos n1]
    exact q _ H2 s3 (by rw [eS,if_pos n1];rfl)
   ·rw [if_neg n1]
    rw [if_neg n1] at eS
    cases hp:plO sp wt with
    | none =>
     rw [hp] at h2 eS
     have h2:v=V.non:=h2
     rw [if_pos h2]
     exact q _ H2 s3 (by rw [eS];rfl)
    | some ts =>
     rw [hp] at h2 eS
     rw [if_neg h2.2]
     refine ⟨by decide,fun p3 hp3=>q _ _ (s3.add hp3) ?_⟩
     rw [eS]
     refine ⟨ShL.tp (.cons (h2.1.same ?_) (.one (.int n))) (zcl.mpr ⟨s3.free hp3,zae⟩),fun z=>by cases z⟩
     exact zeE (((zaA ‹H p=none› _).trans s1).trans (zaA hp2 _)) (zaA hp3 _)
theorem zdr:zbo ["row","kind","words","weight","plan"] ["row","kind"] (zaI zfe):=⟨rfl,rfl,rfl,by decide +kernel,rfl,by decide +kernel,by decide +kernel⟩
theorem zi5 (T:Txt K mg base a):zdD P w K mg base CX0 5 a.f_share_in a.d_share_in ["row","kind"] ziN:=by
 have G_number_in:=zdE (P:=P) (w:=w) (base:=base) T
 have G_plan_in:=zjN (P:=P) (w:=w) (base:=base) T
 refine T.F_share_in.ok zdr (fun vs H Q E h=>?_) (fun cdv A outer s H vs Q E hr h=>?_)
 ·obtain ⟨sp,row,rfl,hR,h10,lr,q⟩:=h
  rfl
 obtain ⟨sp,row,rfl,hR,h10,lr,q⟩:=h
 exact ⟨ze5 K,(zaf (zaR (i:=2) zdr.nd rfl (Or.inl rfl) (zda PySem.F.plainAttrs_str PySem.F.slot_str_split PySem.F.type_str_split zds (pv 0) (zaa zaS zag)))
 (zaf (zbj (zbW (PW.pt (zd0 (zaJ zeJ (zch zbg (pv 2) zaz (fun _ _=>rfl)) (pv 1) (zaQ _)) (zdd (zaJ zlF (zaF zaY rfl T.z_len PySem.boot_len (zaa (pv 2) zag)) (zeH (zaJ zcD (pv 1) zaS (zaQ _)) zaz zaz) (zaQ _))))) (zaD (zaZ zbC)) zaW))
 (zaf (zaR (i:=3) zdr.nd rfl (Or.inl rfl) (zbh G_number_in (hr.mono (by decide)) rfl T.m_number_in T.F_number_in.kp T.b_number_in .nil zcp (zaa (zch zbg (pv 2) zaz (fun _ _=>rfl)) zag)))
 (zaf (zaR (i:=4) zdr.nd rfl (Or.inl rfl) (zbh G_plan_in (hr.mono (by decide)) rfl T.m_plan_in T.F_plan_in.kp T.b_plan_in .nil zcp (zaa (pv 1) (zaa (zbv zcW (pv 2) (zbX zaz) zbV) zag))))
 (zaD (zaZ (zeH (PW.pt (zd0 (zaJ zd4 (pv 3) zbC (zaQ _)) (zd0 (zaJ zlF (pv 3) zaz (zaQ _)) (zdd (zaJ zd4 (pv 4) zbC (zaQ _)))))) zbC (zdv (zaa (pv 4) (zaa (pv 3) zag)))))))))),
  ziS hR h10 lr q⟩
theorem zjP:zbo ["self","row"] ["self","row"] (zaI zcj):=⟨rfl,rfl,rfl,by decide +kernel,rfl,by decide +kernel,by decide +kernel⟩
theorem zd3 (T:Txt K mg base a):zdD P w K mg base CX0 1 a.i_NoText a.j_NoText ["self","row"] (znk a.c_NoText "row"):=by
 refine T.I_NoText.ok zjP (fun vs H Q E h=>?_) (fun cdv A outer s H vs Q E hr h=>?_)
 ·obtain ⟨y,v,rfl,hy,q⟩:=h
  rfl
 obtain ⟨y,v,rfl,hy,q⟩:=h
 exact ⟨_,(zaf (zen (ziT rfl T.m_HideError T.B (zaa (pv 0) (zaa (pv 1) zag)))) (zaD (zo4 (pv 0) (pv 1) rfl))),znN T.X_NoText T.xa_NoText.na hy q⟩
def zgt (a:Ad):Sp:=fun vs H Q E=>∃ (text:Str) (q c:Addr) (sp:Bool),vs=[.str text,.ref q]∧znM zpC ze8 "kind" H q c (.str (kdS sp))∧Rn 640 text∧text.length≤80000 ∧
 (∀ ts v H',zfn sp (Txt.split text "\n")=.inr ts→za3 H H'→Sh (NwH H H') (.lst ts) v→Q v H') ∧
 ∀ (k:Nat) dx H',zfn sp (Txt.split text "\n")=.inl k→za3 H H'→H dx=none→H' dx=some (.xd [("row",.int k)])→E (.ref a.c_NoText) (some dx) H'
def zeF (K:PySem.W.Frag) (a:Ad) (E:XK):TS :=
 (zb2 (tOr (zkl (tTru K (zac 3))) (zaM (tOp rNe (tOp (zcP K) (zac 2) (tUn (rU fun i=>.int (-i)) (tC (.int 1)))) (tC (.str ""))))) (zej a.c_NoText "row" E (zab (tCB (fun xs H Q=>∃ p ys,xs=[.ref p]∧(SqL K H p ys∨SqT K H p ys)∧Q (.int ys.length) H) (zab (zac 3) zaE)) zaE)) za1)
theorem zbx (K:PySem.W.Frag) (a:Ad) (E:XK) (D:zcd) (σ:St) (H:Hp):zeF K a E D σ H=(zb2 (tOr (zkl (tTru K (zac 3))) (zaM (tOp rNe (tOp (zcP K) (zac 2) (tUn (rU fun i=>.int (-i)) (tC (.int 1)))) (tC (.str ""))))) (zej a.c_NoText "row" E (zab (tCB (fun xs H Q=>∃ p ys,xs=[.ref p]∧(SqL K H p ys∨SqT K H p ys)∧Q (.int ys.length) H) (zab (zac 3) zaE)) zaE)) za1) D σ H:=rfl
def zcN (a:Ad) (E:XK):TS :=
 (zb2 (zaM (tOp (fun x y H Q=>y=.non∧Q (.bl (decide (x=.non))) H) (zac 6) (tC .non))) (zej a.c_NoText "row" E (zab (zac 4) zaE)) za1)
theorem zby (a:Ad) (E:XK) (D:zcd) (σ:St) (H:Hp):zcN a E D σ H=(zb2 (zaM (tOp (fun x y H Q=>y=.non∧Q (.bl (decide (x=.non))) H) (zac 6) (tC .non))) (zej a.c_NoText "row" E (zab (zac 4) zaE)) za1) D σ H:=rfl
def zdm (K:PySem.W.Frag) (a:Ad) (E:XK):TS :=
 (zaV (zbi (zjJ zpC ze8 "kind" 1 (zbz ziN [] E0 (zab (zac 0) (zab (zac 2) zaE))) (zab (zac 5) (zab (zac 3) zaE))) (zaC 6))
 (zaV (zcV (zcN a E))
 (zdZ (tBM K "list" zbr (zac 3) (zab (zac 6) zaE)))))
theorem zbw (K:PySem.W.Frag) (a:Ad) (E:XK) (D:zcd) (σ:St) (H:Hp):zdm K a E D σ H=(zaV (zbi (zjJ zpC ze8 "kind" 1 (zbz ziN [] E0 (zab (zac 0) (zab (zac 2) zaE))) (zab (zac 5) (zab (zac 3) zaE))) (zaC 6))
 (zaV (zcV (zcN a E))
 (zdZ (tBM K "list" zbr (zac 3) (zab (zac 6) zaE))))) D σ H:=rfl
def zel (K:PySem.W.Frag) (a:Ad) (E:XK):TS :=
 (zaV (zbi (tBM K "str" zdt (zac 0) (zab (tC (.str "\n")) zaE)) (zaC 2))
 (zaV (zbi (zdu zaE) (zaC 3))
 (zaV (zgP (zns K (zab (tSl (ziz K) (zac 2) zbs (zco (tUn (rU fun i=>.int (-i)) (tC (.int 1))))) zaE)) (zlP K 2 (zdw (zaC 4) (zdw (zaC 5) zlU)))
 (zdm K a E))
 (zaV (zcV (zeF K a E))
 (zbU (zac 3))))))
theorem zor {xs:List V} {v:V} {n:Nat} (l:xs.length=n+1) (h:xs[n]?=some v):atI xs (-1)=some v:=by
 have e:xs=xs.dropLast++[v]:=by
  have ne:xs≠[]:=fun z=>by rw [z] at l;cases l
  have:=List.dropLast_concat_getLast ne
  rw [List.getLast_eq_getElem] at this
  have hv:xs[xs.length - 1]'(by omega)=v:=by
   have h2:xs[xs.length - 1]?=some v:=by rw [l];exact h
   exact (List.getElem?_eq_some_iff.mp h2).2
  rw [hv] at this
  exact this.symm
 rw [e]
 exact zmP _ _
theorem zmr (xs:List V):zko xs none (some (-1))=xs.dropLast:=by
 unfold zko
 show List.take (HT.sIx xs.length xs.length (some (-1)) - 0) (List.drop 0 xs)=_
 rw [List.drop_zero,Nat.sub_zero,List.dropLast_eq_take]
 have:HT.sIx xs.length xs.length (some (-1))=xs.length - 1:=by
  show (if (-1:Int)<0 then ((-1:Int)+(xs.length:Int)).toNat else min (-1:Int).toNat xs.length)=_
  rw [if_pos (by decide)]
  omega
 rw [this]
theorem zh5 {E:XK} {text:Str} {q c:Addr} {sp:Bool} (L:znM zpC ze8 "kind" H q c (.str (kdS sp))) (hr:Rn 640 text) (lt:text.length≤80000)
  (q1:∀ ts v H',zfn sp (Txt.split text (Str.ofString "\n"))=.inr ts→za3 H H'→Sh (NwH H H') (.lst ts) v→Q v H')
  (q2:∀ (k:Nat) dx H',zfn sp (Txt.split text (Str.ofString "\n"))=.inl k→za3 H H'→H dx=none→H' dx=some (.xd [("row",.int k)])→E (.ref a.c_NoText) (some dx) H'):zel K a E { nx:=fun _ H'=>Q .non H',rt:=Q } (L2.zci ["text","read_row","rows","read","k","row","thing"] [.str text,.ref q]) H:=by
 unfold zel
 simp_all only [zbx,zby,zbw,zac]
 refine ⟨rfl,by decide +kernel,by omega,fun p hp=>⟨by decide,fun rd hrd=>?_⟩⟩
 generalize eR:Txt.split text (Str.ofString "\n")=rows at *
 have rne:rows≠[]:=by rw [← eR];exact zcM _ _
 have rln:rows.length≤80001:=by
  rw [← eR,zgf]
  have:=zde text 10
  omega
 have rok:∀ r∈rows,Rn 640 r∧10∉sgn r∧r.length≤90000:=fun r h=>by
  rw [← eR,zgf] at h
  exact ⟨zfv hr r h,StrLaws.split_free text 10 r h,Nat.le_trans (zdU text 10 r h) (by omega)⟩
 have npr:p≠rd:=fun z=>by rw [z,zae] at hrd;cases hrd
 refine ⟨_,SqL.of (by rw [zap npr];exact zae),fun sl hsl=>⟨⟨_,SqL.of zae⟩,?_⟩⟩
 rw [zmr]
 have nsr:sl≠rd:=fun z=>by rw [z,zae] at hsl;cases hsl
 have nsp:sl≠p:=fun z=>by rw [z,zap npr,zae] at hsl;cases hsl
 generalize eH:L2.upd (L2.upd (L2.upd H p (.lst (rows.map V.str))) rd (.lst [])) sl (.lst (rows.map V.str).dropLast)=H0
 have s0:za3 H H0:=by rw [← eH];exact ((zaA hp _).add hrd).add hsl
 have h0p:H0 p=some (.lst (rows.map V.str)):=by rw [← eH,zap nsp.symm,zap npr,zae]
 have h0s:H0 sl=some (.lst (rows.map V.str).dropLast):=by rw [← eH,zae]
 have h0r:H0 rd=some (.lst []):=by rw [← eH,zap nsr.symm,zae]
 have hHr:H rd=none:=(zaA hp _).free hrd
 have ld:(rows.map V.str).dropLast.length=rows.length - 1:=by rw [List.length_dropLast,List.length_map]
 have edl:(rows.map V.str).dropLast=rows.dropLast.map V.str:=List.map_dropLast.symm
 refine zlo (xs:=(rows.map V.str).dropLast) (fun i σ H'=>Bar rd H0 H'∧i≤rows.length - 1∧(∀ (j:Nat) r,j<i→rows.dropLast[j]?=some r→shO sp r≠none)∧(∃ xs,H' rd=some (.lst xs)∧xs.length=i∧ShL (NwH H0 H') ((rows.dropLast.take i).filterMap (shO sp)) xs)∧∃ x4 x5 x6,σ=[some (.str text),some (.ref q),some (.ref p),some (.ref rd),x4,x5,x6]) ⟨fun _ _ _ e=>e,Nat.zero_le _,fun j r h=>absurd h (Nat.not_lt_zero _),⟨[],h0r,rfl,.nil⟩,_,_,_,rfl⟩ ?_ ?_ ?_
 ·rintro i σ H' _ ⟨b,_⟩
  exact SqL.of (b _ _ nsr h0s)
 ·rintro i x t σ H' e ⟨b,hi,hb,⟨xs,hx,lx,sx⟩,x4,x5,x6,rfl⟩ ht
  rw [edl] at e
  obtain ⟨r,er,rfl⟩:=zgu e
  have li:=(List.getElem?_eq_some_iff.mp e).1
  rw [List.length_map,List.length_dropLast] at li
  obtain ⟨k1,k2,k3⟩:=rok r (List.dropLast_subset _ (zc0 er))
  unfold zdm
  simp_all only [zbx,zby,zbw,zac]
  have ntr:t≠rd:=fun z=>by rw [z,hx] at ht;cases ht
  have sH':za3 H H':=fun b' o e=>b _ _ (zaL e hHr) (s0 _ _ e)
  have sHt:za3 H (L2.upd H' t (.tup [.int i,.str r])):=sH'.add ht
  refine ⟨_,SqT.of zae,rfl,_,_,rfl,_,_,rfl,rfl,c,_,L.same sHt,sp,r,rfl,k1,k2,k3,fun v H2 s2 h2 hc F hF=>?_⟩
  have s3:za3 (L2.upd H' t (.tup [.int i,.str r])) (L2.upd H2 c F):=fun b' o e=>by
   by_cases z:b'=c
   ·rw [z] at e ⊢
    rw [zae,← hF,e]
   ·rw [zap z]
    exact s2 _ _ (by rw [zbp z];exact e)
  have h3:zjm (shO sp r) (NwH (L2.upd H' t (.tup [.int i,.str r])) (L2.upd H2 c F)) v:=h2.same (zbE fun b' o e1 e2=>by
   have z:b'≠c:=fun z=>by rw [z,hc] at e2;cases e2
   rw [zbp z] at e1
   exact ⟨e1,by rw [zap z];exact e2⟩)
  generalize L2.upd H2 c F=H3 at s3 h3
  have s4:za3 H' H3:=(zaA ht _).trans s3
  refine ⟨fun σ H4=>H4=H3∧v≠.non∧σ=[some (.str text),some (.ref q),some (.ref p),some (.ref rd),some (.int i),some (.str r),some v],?_,?_⟩
  ·unfold zcN
   simp_all only [zbx,zby,zbw,zac]
   by_cases hv:v=.non
   ·rw [if_pos hv]
    intro dx hdx
    refine q2 i dx _ ?_ ((sH'.trans s4).add hdx) ((sH'.trans s4).free hdx) zae
    have en:shO sp r=none:=by
     cases h:shO sp r with
     | none=>rfl
     | some t=>rw [h] at h3;exact absurd hv h3.2
    exact zi6 er en hb
   ·rw [if_neg hv]
    exact hv
  ·rintro σ H4 ⟨rfl,hv,rfl⟩
   simp_all only [zbx,zby,zbw,zac]
   have hx4:H4 rd=some (.lst xs):=s4 _ _ hx
   have bb:Bar rd H0 (L2.upd H4 rd (.lst (xs++[v]))):=fun b' o n e=>by
    rw [zap n]
    exact s4 _ _ (b b' o n e)
   refine ⟨.inl ⟨rfl,xs,SqL.of hx4⟩,xs,hx4,zc5 (by omega),bb,by omega,fun j r' hj e'=>?_,xs++[v],zae,by rw [List.length_append,lx];rfl,?_⟩
   ·by_cases z:j<i
    ·exact hb j r' z e'
    ·have:j=i:=by omega
     subst this
     rw [er] at e'
     cases e'
     intro z
     rw [z] at h3
     exact hv h3
   ·have nr:∀ b',H0 b'=none→b'≠rd:=fun b' h z=>by rw [z,h0r] at h;cases h
    rw [List.take_add_one,er,List.filterMap_append]
    refine ShL.append (sx.same (zbE fun b' o e1 e2=>⟨e1,by rw [zap (nr b' e1)];exact s4 _ _ e2⟩)) ?_
    cases ho:shO sp r with
    | none=>rw [ho] at h3;exact absurd h3 hv
    | some t' =>
     rw [ho] at h3
     have:List.filterMap (shO sp) (some r).toList=[t']:=by simp [ho]
     rw [this]
     refine .one (h3.1.same (zbE fun b' o e1 e2=>?_))
     have e3:H' b'=none:=(zaA ht _).free e1
     have z1:b'≠rd:=fun z=>by rw [z,hx] at e3;cases e3
     refine ⟨?_,by rw [zap z1];exact e2⟩
     cases h0:H0 b' with
     | none=>rfl
     | some o'=>rw [b _ _ z1 h0] at e3;cases e3
 ·rintro σ H' ⟨b,_,hb,⟨xs,hx,lx,sx⟩,x4,x5,x6,rfl⟩
  rw [ld] at hb lx sx
  have sH':za3 H H':=fun b' o e=>b _ _ (zaL e hHr) (s0 _ _ e)
  have hall:∀ (j:Nat) r,rows.dropLast[j]?=some r→shO sp r≠none:=fun j r e=>hb j r (by have:=(List.getElem?_eq_some_iff.mp e).1;rw [List.length_dropLast] at this;exact this) e
  have eo:=zi0 hall
  obtain ⟨r0,hr0⟩:∃ r0,rows[rows.length - 1]?=some r0:=⟨_,List.getElem?_eq_getElem (by have:=List.length_pos_iff.mpr rne;omega)⟩
  have hl0:rows.getLastD ""=r0:=by
   rw [List.getLastD_eq_getLast?,List.getLast?_eq_getElem?,hr0]
   rfl
  have hat:atI (rows.map V.str) (-1)=some (.str r0):=zor (n:=rows.length - 1) (by rw [List.length_map];have:=List.length_pos_iff.mpr rne;omega) (by rw [List.getElem?_map,hr0];rfl)
  have hdl:rows.dropLast=[]↔rows.length - 1=0:=by rw [← List.length_eq_zero_iff,List.length_dropLast]
  refine ⟨fun σ H4=>H4=H'∧rows.length - 1≠0∧r0=Str.ofString ""∧σ=[some (.str text),some (.ref q),some (.ref p),some (.ref rd),x4,x5,x6],?_,?_⟩
  ·simp_all only [zbx,zby,zbw,zac]
   have bad:zfn sp rows=.inl (rows.length - 1)→∃ x,(SqL K H' rd x∨SqT K H' rd x)∧∀ dx,H' dx=none→E (.ref a.c_NoText) (some dx) (L2.upd H' dx (.xd [(Str.ofString "row",.int x.length)])):=fun e=>⟨_,.inl (SqL.of hx),fun dx hdx=>q2 _ dx _ (by rw [e,lx]) (sH'.add hdx) (sH'.free hdx) zae⟩
   refine ⟨_,.inl ⟨xs,SqL.of hx,rfl⟩,?_⟩
   cases hxs:xs with
   | nil =>
    rw [hxs] at lx
    rw [if_pos (show (!([]:List V).isEmpty)=false from rfl)]
    exact bad (eo.trans (if_pos (.inl (hdl.mpr lx.symm))))
   | cons x0 xt =>
    rw [if_neg (show ¬ (!(x0::xt).isEmpty)=false from fun z=>Bool.noConfusion z)]
    have l0:rows.length - 1≠0:=by rw [← lx,hxs,List.length_cons];omega
    refine ⟨_,SqL.of (b _ _ npr h0p),_,hat,rfl,?_⟩
    by_cases he:r0=Str.ofString ""
    ·rw [if_neg (fun z=>z (by rw [he]))]
     exact ⟨l0,he⟩
    ·rw [if_pos (fun z=>he (V.str.inj z))]
     exact bad (eo.trans (if_pos (.inr (by rw [hl0];exact he))))
  ·rintro σ H4 ⟨rfl,hz,he,rfl⟩
   simp_all only [zbx,zby,zbw,zac]
   refine q1 _ _ _ (eo.trans (if_neg ?_)) sH' (ShL.sh (p:=rd) (xs:=xs) ?_ (zcl.mpr ⟨hHr,hx⟩))
   ·rw [hdl,hl0]
    rintro (z | z)
    ·exact hz z
    ·exact z he
   ·rw [List.take_of_length_le (by rw [List.length_dropLast];exact Nat.le_refl _)] at sx
    exact sx.same (zeE s0 (.refl _))
theorem zcf:zbo ["text","read_row","rows","read","k","row","thing"] ["text","read_row"] (zaI zez):=⟨rfl,rfl,rfl,by decide +kernel,rfl,by decide +kernel,by decide +kernel⟩
theorem zh1 (T:Txt K mg base a):zdD P w K mg base (CXV P w) 7 a.f_read_rows a.d_read_rows ["text","read_row"] (zgt a):=by
 have G_share_in:=zi5 (P:=P) (w:=w) (base:=base) T
 have G__NoText:=zd3 (P:=P) (w:=w) (base:=base) T
 refine T.F_read_rows.okV zcf (fun vs H Q E h=>?_) (fun cdv A outer s H vs Q E hr h=>?_)
 ·obtain ⟨text,q,c,sp,rfl,L,hR,lt,q1,q2⟩:=h
  rfl
 obtain ⟨text,q,c,sp,rfl,L,hR,lt,q1,q2⟩:=h
 exact ⟨zel K a E,(zaf (zaR (i:=2) zcf.nd rfl (Or.inl rfl) (zda PySem.F.plainAttrs_str PySem.F.slot_str_split PySem.F.type_str_split zds (pv 0) (zaa zaS zag)))
 (zaf (zaR (i:=3) zcf.nd rfl (Or.inl rfl) (zb3 zag))
 (zaf (zdJ PassesOwn.leaving rfl (zo1 rfl T.z_enumerate (zaa (zbv zcW (pv 2) zbV (zbX (zmt zjG zaz))) zag)) (zh4 rfl (zcC (zbm (i:=4) zcf.nd rfl (Or.inl rfl)) (zcC (zbm (i:=5) zcf.nd rfl (Or.inl rfl)) zfG)))
 (zaf (zaR (i:=6) zcf.nd rfl (Or.inl rfl) (zmJ (i:=1) (k:=5) rfl (Or.inl rfl) (hr.mono (by decide)) (zaa (pv 5) (zaa (pv 3) zag)) (fun _ _ _ _ _ _=>rfl) (by decide) rfl rfl rfl rfl rfl (by decide +kernel) rfl (by decide +kernel) (fun _ _ _ _ _ _ _ hr=>(zbh G_share_in (hr.mono (by decide)) rfl T.m_share_in T.F_share_in.kp T.b_share_in .nil zcp (zaa (pv 0) (zaa (pv 2) zag))))))
 (zaf (zbj (zbW (zaJ zd4 (pv 6) zbC (zaQ _)) (zaD (zfT T.X_NoText G__NoText (hr.mono (by decide)) rfl T.m_NoText T.bi_NoText zcp rfl ziL (zaa (pv 4) zag))) zaW))
 (zaD (zen (zda PySem.F.plainAttrs_list PySem.F.slot_list_append PySem.F.type_list_append zcU (pv 3) (zaa (pv 6) zag)))))))
 (zaf (zbj (zbW (PW.pt (zd0 (zim (zlY (pv 3) (fun _=>rfl))) (zdd (zaJ zeJ (zch zbg (pv 2) (zmt zjG zaz) (fun _ _=>rfl)) zaS (zaQ _))))) (zaD (zfT T.X_NoText G__NoText (hr.mono (by decide)) rfl T.m_NoText T.bi_NoText zcp rfl ziL (zaa (zaF zaY rfl T.z_len PySem.boot_len (zaa (pv 3) zag)) zag))) zaW))
 (zaD (zaZ (pv 3))))))),
  zh5 L hR lt q1 q2⟩
def zfV (a:Ad):Sp:=fun vs H Q E=>∃ text:Str,vs=[.str text]∧LT H a.p_lam∧Rn 640 text∧text.length≤80000 ∧
 (∀ sp ts v H',zf2 text=.inr (sp,ts)→Bar a.p_lam H H'→LT H' a.p_lam→Sh (NwH H H') (.tup [.str (kdS sp),.lst ts]) v→Q v H') ∧
 ∀ (k:Nat) dx H',zf2 text=.inl k→Bar a.p_lam H H'→LT H' a.p_lam→H dx=none→H' dx=some (.xd [("row",.int k)])→E (.ref a.c_NoText) (some dx) H'
def zdO (K:PySem.W.Frag) (a:Ad) (E:XK):TS :=
 (zaV (zbi (tOp (zme K) (tBM K "str" ziY (zac 0) (zab (tC (.str " ")) zaE)) (tC (.int 0))) (zaC 1))
 (zaV (zcV (zb2 (zaM (tOp (rIn K true) (zac 1) (tC (.ref a.t_KINDS)))) (zej a.c_NoText "row" E (zab (tC (.int 0)) zaE)) za1))
 (zbU (zf3 (zab (zac 1) (zab (zkI a.p_lam zpC znj ze8 "kind" 1 (zgt a) E (zac 0)) zaE))))))
theorem zgE {E:XK} {text:Str} (hP:LT H a.p_lam) (hK:zpg K a.t_KINDS [.str "walk",.str "spread"]) (hr:Rn 640 text) (lt:text.length≤80000)
  (q1:∀ sp ts v H',zf2 text=.inr (sp,ts)→Bar a.p_lam H H'→LT H' a.p_lam→Sh (NwH H H') (.tup [.str (kdS sp),.lst ts]) v→Q v H')
  (q2:∀ (k:Nat) dx H',zf2 text=.inl k→Bar a.p_lam H H'→LT H' a.p_lam→H dx=none→H' dx=some (.xd [("row",.int k)])→E (.ref a.c_NoText) (some dx) H'):zdO K a E { nx:=fun _ H'=>Q .non H',rt:=Q } (L2.zci ["text","kind"] [.str text]) H:=by
 unfold zdO
 simp_all only [zac]
 refine ⟨rfl,by decide +kernel,by omega,fun p hp=>⟨_,SqT.of zae,_,za0 (j:=0) rfl,?_⟩⟩
 have e1:(Txt.partition text (Str.ofString " ")).1=(Txt.partition text " ").1:=rfl
 generalize eH:L2.upd H p (.tup [.str (Txt.partition text (Str.ofString " ")).1,.str (Txt.partition text (Str.ofString " ")).2.1,.str (Txt.partition text (Str.ofString " ")).2.2])=H1
 have s1:za3 H H1:=by rw [← eH];exact zaA hp _
 generalize hkd:(Txt.partition text (Str.ofString " ")).1=kd
 have et:zf2 text=if kd=kdS false then (match zfn false (Txt.split text (Str.ofString "\n")) with | .inl k=>.inl k | .inr ts=>.inr (false,ts)) else if kd=kdS true then (match zfn true (Txt.split text (Str.ofString "\n")) with | .inl k=>.inl k | .inr ts=>.inr (true,ts)) else .inl 0:=by
  rw [← hkd]
  rfl
 refine ⟨fun σ H'=>H'=H1∧(∃ sp,kd=kdS sp)∧σ=[some (.str text),some (.str kd)],?_,?_⟩
 ·simp_all only [zac]
  have einv:inV (.str kd) [.str "walk",.str "spread"]=(decide (kd=kdS false) || decide (kd=kdS true)):=by
   show ((Str.ofString "walk" == kd) || ((Str.ofString "spread" == kd) || false))=_
   rw [Bool.or_false]
   congr 1
   ·rw [Bool.eq_iff_iff,beq_iff_eq,decide_eq_true_eq]
    exact eq_comm
   ·rw [Bool.eq_iff_iff,beq_iff_eq,decide_eq_true_eq]
    exact eq_comm
  refine ⟨_,.inr (SqT.ofK hK),rfl,rfl,?_⟩
  rw [einv]
  by_cases k1:kd=kdS false
  ·rw [decide_eq_true k1,if_neg (by simp)]
   exact ⟨_,k1⟩
  ·by_cases k2:kd=kdS true
   ·rw [decide_eq_true k2,if_neg (by simp)]
    exact ⟨_,k2⟩
   ·rw [decide_eq_false k1,decide_eq_false k2,if_pos (show (false || false)=false from rfl)]
    intro dx hdx
    refine q2 0 dx _ (by rw [et,if_neg k1,if_neg k2]) (fun b o n e=>(s1.add hdx) _ _ e) (hP.same (s1.add hdx)) (s1.free hdx) zae
 ·rintro σ H' ⟨rfl,⟨sp,rfl⟩,rfl⟩
  have et2:zf2 text=match zfn sp (Txt.split text (Str.ofString "\n")) with | .inl k=>.inl k | .inr ts=>.inr (sp,ts):=by
   rw [et]
   cases sp
   ·rw [if_pos rfl]
   ·rw [if_neg (by rw [zl3];exact zd1),if_pos rfl]
  simp_all only [zac]
  refine ⟨hP.same s1,fun qf c H3 H4 hb hl3 hq hc3 hc1 s4 L=>?_⟩
  have hl4:LT H4 a.p_lam:=hl3.same s4
  obtain ⟨ps4,hp4⟩:=hl4.tbl
  have hcs:∃ F,H4 c=some F:=by
   obtain ⟨a1,a2,a3,a4,a5,a6,a7,a8,a9,a10,a11,a12,b1,b2,b3,b4,b5,b6,b7,b8,b9⟩:=L
   exact ⟨_,b8⟩
  obtain ⟨F,hF⟩:=hcs
  have bH4:Bar a.p_lam H H4:=fun b o n e=>s4 _ _ (hb b o n (s1 _ _ e))
  have bH5:∀ H5,za3 H4 H5→Bar a.p_lam H (zeA H5 c):=fun H5 s5 b o n e=>by
   have e3:=hb b o n (s1 _ _ e)
   have nc:b≠c:=fun z=>by rw [z,hc3] at e3;cases e3
   rw [zbp nc]
   exact s5 _ _ (s4 _ _ e3)
  have lH5:∀ H5,za3 H4 H5→LT (zeA H5 c) a.p_lam:=fun H5 s5=>hl3.same fun b o e3=>by
   have nc:b≠c:=fun z=>by rw [z,hc3] at e3;cases e3
   rw [zbp nc]
   exact s5 _ _ (s4 _ _ e3)
  have new4:∀ b,H4 b=none→H b=none∧b≠c:=fun b e=>by
   refine ⟨?_,fun z=>by rw [z,hF] at e;cases e⟩
   have nP:b≠a.p_lam:=fun z=>by rw [z,hp4] at e;cases e
   cases h:H b with
   | none=>rfl
   | some o=>rw [bH4 b o nP h] at e;cases e
  refine ⟨text,qf,c,sp,rfl,L,hr,lt,fun ts v H5 eo s5 h5=>⟨by decide,fun p3 hp3=>?_⟩,fun k dx H5 eo s5 hdx h5=>?_⟩
  ·have np:p3≠a.p_lam:=(lH5 H5 s5).new hp3
   refine q1 sp ts _ _ ?_ (fun b o n e=>by rw [zap (zaL (bH5 H5 s5 b o n e) hp3)];exact bH5 H5 s5 b o n e) ((lH5 H5 s5).same (zaA hp3 _)) ?_
   ·rw [et2,show zfn sp (Txt.split text (Str.ofString "\n"))=.inr ts from eo]
   ·have hHp:H p3=none:=by
     cases h:H p3 with
     | none=>rfl
     | some o=>rw [bH5 H5 s5 p3 o np h] at hp3;cases hp3
    refine ShL.tp (.cons (.str _) (.one (h5.same (zbE fun b o e1 e2=>?_)))) (zcl.mpr ⟨hHp,zae⟩)
    obtain ⟨n1,n2⟩:=new4 b e1
    have e3:zeA H5 c b=some o:=by rw [zbp n2];exact e2
    exact ⟨n1,by rw [zap (zaL e3 hp3)];exact e3⟩
  ·obtain ⟨n1,n2⟩:=new4 dx hdx
   exact q2 k dx _ (by rw [et2,show zfn sp (Txt.split text (Str.ofString "\n"))=.inl k from eo]) (bH5 H5 s5) (lH5 H5 s5) n1 (by rw [zbp n2];exact h5)
theorem zeS:zbo ["text","kind"] ["text"] (zaI zc1):=⟨rfl,rfl,rfl,by decide +kernel,rfl,by decide +kernel,by decide +kernel⟩
theorem zhk (T:Txt K mg base a):zdD P w K mg base (CXV P w) 8 a.f_read_paper a.d_read_paper ["text"] (zfV a):=by
 have G_read_rows:=zh1 (P:=P) (w:=w) (base:=base) T
 have G__NoText:=zd3 (P:=P) (w:=w) (base:=base) T
 refine T.F_read_paper.okV zeS (fun vs H Q E h=>?_) (fun A outer s H vs Q E hr h=>?_)
 ·obtain ⟨text,rfl,hP,hR,lt,q1,q2⟩:=h
  rfl
 obtain ⟨text,rfl,hP,hR,lt,q1,q2⟩:=h
 exact ⟨zdO K a E,(zaf (zaR (i:=1) zeS.nd rfl (Or.inr rfl) (zch zlx (zda PySem.F.plainAttrs_str PySem.F.slot_str_partition PySem.F.type_str_partition zkX (pv 0) (zaa zaS zag)) zaz (fun _ _=>rfl)))
 (zaf (zbj (zbW (zaJ zhS (pv 1) (zbB rfl T.m_KINDS rfl) (by with_unfolding_all rfl)) (zaD (zfT T.X_NoText G__NoText (hr.mono (by decide)) rfl T.m_NoText T.bi_NoText zcp rfl ziL (zaa zaz zag))) zaW))
 (zaD (zaZ (zdv (zaa (pv 1) (zaa (zmH G_read_rows (hr.mono (by decide)) rfl T.m_read_rows T.F_read_rows.kp T.b_read_rows passV (pv 0) rfl T.hC T.hB rfl rfl rfl (zpF.one (j:=1) rfl rfl rfl rfl (by decide +kernel)) rfl rfl) zag))))))),
  zgE hP T.u_KINDS hR lt q1 q2⟩
def zkQ:Sp:=fun _ _ _ _=>False
theorem zmE {P:Program} {w:World} {K:PySem.W.Frag} {mg:Str→Option Value} {base:Heap} {CX:CXT} {k:Nat} {f:Addr} {fd:FuncData} {ps:List Str}:zdD P w K mg base CX k f fd ps zkQ :=
 ⟨fun _ _ _ _ h=>h.elim,fun _ _ _ _ _ _ _ _ _ _ _ _ _ h=>h.elim⟩
def zec:TS :=
 (zaV (zbi (tOp (rI0 fun i j=>.int (i+j)) (tOp (rI (fun _ j=>0<j) fun i j=>.int (i % j)) (zac 3) (tOp (rI zjR fun i j=>.int (i ^ j.toNat)) (tC (.int 10)) (tC (.int 18)))) (tOp (rI IntMulOk fun i j=>.int (i*j)) (tC (.int 48271)) (tOp (rI0 fun i j=>.int (i+j)) (zac 1) (tC (.int 1))))) (zaC 5))
 (zaV (zbi (tOp (rI0 fun i j=>.int (i+j)) (tOp (rI (fun _ j=>0<j) fun i j=>.int (i % j)) (tOp (rI IntMulOk fun i j=>.int (i*j)) (zac 5) (zac 5)) (tC (.int 2147483629))) (tOp (rI IntMulOk fun i j=>.int (i*j)) (tC (.int 69621)) (zac 1))) (zaC 5))
 (zbU (tOp (rI (fun _ j=>0<j) fun i j=>.int (i % j)) (tOp (rI IntMulOk fun i j=>.int (i*j)) (zac 5) (zac 5)) (tC (.int 2147483587))))))
theorem za8 (D:zcd) (σ:St) (H:Hp):zec D σ H=(zaV (zbi (tOp (rI0 fun i j=>.int (i+j)) (tOp (rI (fun _ j=>0<j) fun i j=>.int (i % j)) (zac 3) (tOp (rI zjR fun i j=>.int (i ^ j.toNat)) (tC (.int 10)) (tC (.int 18)))) (tOp (rI IntMulOk fun i j=>.int (i*j)) (tC (.int 48271)) (tOp (rI0 fun i j=>.int (i+j)) (zac 1) (tC (.int 1))))) (zaC 5))
 (zaV (zbi (tOp (rI0 fun i j=>.int (i+j)) (tOp (rI (fun _ j=>0<j) fun i j=>.int (i % j)) (tOp (rI IntMulOk fun i j=>.int (i*j)) (zac 5) (zac 5)) (tC (.int 2147483629))) (tOp (rI IntMulOk fun i j=>.int (i*j)) (tC (.int 69621)) (zac 1))) (zaC 5))
 (zbU (tOp (rI (fun _ j=>0<j) fun i j=>.int (i % j)) (tOp (rI IntMulOk fun i j=>.int (i*j)) (zac 5) (zac 5)) (tC (.int 2147483587)))))) D σ H:=rfl
def zea (K:PySem.W.Frag):TS :=
 (zb2 (zaM (tOp (rI0 fun i j=>.bl (decide (j<i))) (tCB (fun xs H Q=>∃ p ys,xs=[.ref p]∧(SqL K H p ys∨SqT K H p ys)∧Q (.int ys.length) H) (zab (zac 0) zaE)) (tC (.int 0)))) (zbi (tOp (zcP K) (zac 0) (tOp (rI (fun _ j=>0<j) fun i j=>.int (i % j)) (zac 1) (tCB (fun xs H Q=>∃ i j,xs=[.int i,.int j]∧Q (.int (if j<i then j else i)) H) (zab (tC (.int 63)) (zab (tCB (fun xs H Q=>∃ p ys,xs=[.ref p]∧(SqL K H p ys∨SqT K H p ys)∧Q (.int ys.length) H) (zab (zac 0) zaE)) zaE))))) (zaC 3)) za1)
theorem za6 (K:PySem.W.Frag) (D:zcd) (σ:St) (H:Hp):zea K D σ H=(zb2 (zaM (tOp (rI0 fun i j=>.bl (decide (j<i))) (tCB (fun xs H Q=>∃ p ys,xs=[.ref p]∧(SqL K H p ys∨SqT K H p ys)∧Q (.int ys.length) H) (zab (zac 0) zaE)) (tC (.int 0)))) (zbi (tOp (zcP K) (zac 0) (tOp (rI (fun _ j=>0<j) fun i j=>.int (i % j)) (zac 1) (tCB (fun xs H Q=>∃ i j,xs=[.int i,.int j]∧Q (.int (if j<i then j else i)) H) (zab (tC (.int 63)) (zab (tCB (fun xs H Q=>∃ p ys,xs=[.ref p]∧(SqL K H p ys∨SqT K H p ys)∧Q (.int ys.length) H) (zab (zac 0) zaE)) zaE))))) (zaC 3)) za1) D σ H:=rfl
def zc9:TS :=
 (zb2 (zaM (tOp (rI0 fun i j=>.bl (decide (j<i))) (zac 3) (tC (.int 0)))) (zbU (tOp (rI (fun _ j=>0<j) fun i j=>.int (i % j)) (zac 3) (tC (.int 2147483587)))) za1)
theorem za5 (D:zcd) (σ:St) (H:Hp):zc9 D σ H=(zb2 (zaM (tOp (rI0 fun i j=>.bl (decide (j<i))) (zac 3) (tC (.int 0)))) (zbU (tOp (rI (fun _ j=>0<j) fun i j=>.int (i % j)) (zac 3) (tC (.int 2147483587)))) za1) D σ H:=rfl
def zd5 (K:PySem.W.Frag):TS :=
 (zb2 (zlO (zaM (tOp (rI0 fun i j=>.bl (decide (i<j))) (zac 2) (tCB (fun xs H Q=>∃ p ys,xs=[.ref p]∧(SqL K H p ys∨SqT K H p ys)∧Q (.int ys.length) H) (zab (zac 0) zaE)))) (zaM (tOp (rI0 fun i j=>.bl (decide (j≤i))) (tOp (zcP K) (zac 0) (zac 2)) (tOp (rI zjR fun i j=>.int (i ^ j.toNat)) (tC (.int 10)) (tC (.int 18)))))) (zaV (zbi (tOp (rI (fun _ j=>0<j∧j.natAbs.log2<9000) fun i j=>.int (i / j)) (tOp (zcP K) (zac 0) (zac 2)) (tOp (rI zjR fun i j=>.int (i ^ j.toNat)) (tC (.int 10)) (tC (.int 18)))) (zaC 3))
 (zaV (zgP (ze4 (zab (tOp (rI (fun _ j=>0<j) fun i j=>.int (i % j)) (zac 1) (tC (.int 8))) zaE)) (zaC 4)
 (zbi (tOp (rI (fun _ j=>0<j∧j.natAbs.log2<9000) fun i j=>.int (i / j)) (zac 3) (tC (.int 2147483587))) (zaC 3)))
 (zc9))) za1)
theorem za7 (K:PySem.W.Frag) (D:zcd) (σ:St) (H:Hp):zd5 K D σ H=(zb2 (zlO (zaM (tOp (rI0 fun i j=>.bl (decide (i<j))) (zac 2) (tCB (fun xs H Q=>∃ p ys,xs=[.ref p]∧(SqL K H p ys∨SqT K H p ys)∧Q (.int ys.length) H) (zab (zac 0) zaE)))) (zaM (tOp (rI0 fun i j=>.bl (decide (j≤i))) (tOp (zcP K) (zac 0) (zac 2)) (tOp (rI zjR fun i j=>.int (i ^ j.toNat)) (tC (.int 10)) (tC (.int 18)))))) (zaV (zbi (tOp (rI (fun _ j=>0<j∧j.natAbs.log2<9000) fun i j=>.int (i / j)) (tOp (zcP K) (zac 0) (zac 2)) (tOp (rI zjR fun i j=>.int (i ^ j.toNat)) (tC (.int 10)) (tC (.int 18)))) (zaC 3))
 (zaV (zgP (ze4 (zab (tOp (rI (fun _ j=>0<j) fun i j=>.int (i % j)) (zac 1) (tC (.int 8))) zaE)) (zaC 4)
 (zbi (tOp (rI (fun _ j=>0<j∧j.natAbs.log2<9000) fun i j=>.int (i / j)) (zac 3) (tC (.int 2147483587))) (zaC 3)))
 (zc9))) za1) D σ H:=rfl
def zdG (K:PySem.W.Frag):TS :=
 (zaV (zbi (tOp (rI (fun _ j=>0<j) fun i j=>.int (i % j)) (tOp (rI (fun _ j=>0<j∧j.natAbs.log2<9000) fun i j=>.int (i / j)) (zac 1) (tC (.int 8))) (tC (.int 63))) (zaC 2))
 (zaV (zcV (zd5 K))
 (zaV (zbi (tC (.int 0)) (zaC 3))
 (zaV (zcV (zea K))
 (zec)))))
theorem zg9 {p:Addr} {ns:List Int} {k:Int} (hS:SqL K H p (ns.map V.int)) (hl:ns.length≤63) (k0:0≤k) (k1:k<1000000) (q:∀ r:Int,0≤r→r<2147483587→Q (.int r) H) :
  zdG K { nx:=fun _ H'=>Q .non H',rt:=Q } (L2.zci ["_law_script","_law_k","_law_at","_law_cell","_law_j","_law_number"] [.ref p,.int k]) H:=by
 unfold zdG
 simp_all only [za8,za6,za5,za7,zac]
 have el:((ns.map V.int).length:Int)=(ns.length:Int):=by rw [List.length_map]
 refine ⟨log8.1,log8.2,by decide,fun σ H'=>H'=H∧∃ t c j,σ=[some (.ref p),some (.int k),t,c,j,none],?_,?_⟩
 ·simp_all only [za8,za6,za5,za7,zac]
  refine ⟨_,.inl hS,?_⟩
  rw [el]
  refine ziI (fun c=>?_) (fun c=>?_)
  ·obtain ⟨v,hv,_⟩:=znh (ns:=ns) (k:=k / 8 % 63) (by omega) c
   refine ⟨_,hS,_,hv,?_⟩
   simp_all only [za8,za6,za5,za7,zac]
   refine ⟨zpm,?_⟩
   refine ziI (fun c2=>?_) (fun c2=>trivial)
   ·refine ⟨_,hS,_,hv,zpm,_,rfl,logA.1,logA.2,by decide,by omega,by omega,?_⟩
    refine zcO (fun _ σ H'=>H'=H∧∃ t c j,σ=[some (.ref p),some (.int k),t,some (.int c),j,none]) ⟨rfl,_,_,_,rfl⟩ ?_ ?_
    ·rintro i σ H' hi ⟨rfl,t,c,j,rfl⟩
     simp_all only [za8,za6,za5,za7,zac]
     exact ⟨logB.1,logB.2⟩
    ·rintro σ H' ⟨rfl,t,c,j,rfl⟩
     simp_all only [za8,za6,za5,za7,zac]
     refine ziI (fun c3=>?_) (fun c3=>?_)
     ·exact ⟨by decide,q _ (Int.emod_nonneg _ (by decide)) (Int.emod_lt_of_pos _ (by decide))⟩
     ·trivial
  ·trivial
 ·rintro σ H' ⟨e,t,c,j,rfl⟩
  rw [e]
  simp_all only [za8,za6,za5,za7,zac]
  refine ⟨fun σ H'=>H'=H∧∃ t c j,σ=[some (.ref p),some (.int k),t,some (.int c),j,none],?_,?_⟩
  ·simp_all only [za8,za6,za5,za7,zac]
   refine ⟨_,.inl hS,?_⟩
   rw [el]
   refine ziI (fun c=>?_) (fun c=>trivial)
   refine ⟨_,.inl hS,?_⟩
   rw [el]
   have hm:0<(if (ns.length:Int)<63 then (ns.length:Int) else 63):=by split <;> omega
   obtain ⟨v,hv,_⟩:=znh (ns:=ns) (k:=k % if (ns.length:Int)<63 then (ns.length:Int) else 63) (Int.emod_nonneg _ (by omega)) (Int.lt_of_lt_of_le (Int.emod_lt_of_pos _ hm) (by split <;> omega))
   exact ⟨hm,_,hS,_,hv,_,rfl⟩
  ·rintro σ H' ⟨e,t,c,j,rfl⟩
   rw [e]
   simp_all only [za8,za6,za5,za7,zac]
   have b1:=Int.emod_nonneg c (show (1000000000000000000:Int)≠0 by decide)
   have b2:=Int.emod_lt_of_pos c (show (0:Int)<1000000000000000000 by decide)
   generalize c % 1000000000000000000=z at b1 b2 ⊢
   have m1:IntMulOk (z+48271*(k+1)) (z+48271*(k+1)):=mulR (by omega) (by omega)
   generalize (z+48271*(k+1))*(z+48271*(k+1))=y
   have b3:=Int.emod_nonneg y (show (2147483629:Int)≠0 by decide)
   have b4:=Int.emod_lt_of_pos y (show (0:Int)<2147483629 by decide)
   generalize y % 2147483629=x at b3 b4 ⊢
   exact ⟨zpm,by decide,zqg (by decide) (by decide),m1,by decide,zqg (by decide) (by decide),mulR (by omega) (by omega),by decide,q _ (Int.emod_nonneg _ (by decide)) (Int.emod_lt_of_pos _ (by decide))⟩
theorem zbq:zbo ["_law_script","_law_k","_law_at","_law_cell","_law_j","_law_number"] ["_law_script","_law_k"] (zaI zdy):=⟨rfl,rfl,rfl,by decide +kernel,rfl,by decide +kernel,by decide +kernel⟩
theorem zeL (T:Txt K mg base a):zdD P w K mg base CX0 1 a.f__law_mixed a.d__law_mixed ["_law_script","_law_k"] (zcG K):=by
 refine T.F__law_mixed.ok zbq (fun vs H Q E h=>?_) (fun cdv A outer s H vs Q E hr h=>?_)
 ·obtain ⟨p,ns,k,rfl,hS,hl,k0,k1,q⟩:=h
  rfl
 obtain ⟨p,ns,k,rfl,hS,hl,k0,k1,q⟩:=h
 exact ⟨zdG K,(zaf (zaR (i:=2) zbq.nd rfl (Or.inl rfl) (zaK zbZ (zaK zcL (pv 1) zaz) zaz))
 (zaf (zbj (zbW (PW.pt (zjr (zaJ zlF (pv 2) (zaF zaY rfl T.z_len PySem.boot_len (zaa (pv 0) zag)) (zaQ _)) (zgI (zaJ op_ge (zch zbg (pv 0) (pv 2) (fun _ _=>rfl)) (zaK zir zaz zaz) (zaQ _))))) (zaf (zaR (i:=3) zbq.nd rfl (Or.inl rfl) (zaK zcL (zch zbg (pv 0) (pv 2) (fun _ _=>rfl)) (zaK zir zaz zaz)))
 (zaf (zdJ PassesOwn.never rfl (zcS rfl T.z_range (zaa (zaK zbZ (pv 1) zaz) zag)) (zbm (i:=4) zbq.nd rfl (Or.inl rfl))
 (zaD (zaR (i:=3) zbq.nd rfl (Or.inl rfl) (zaK zcL (pv 3) zaz))))
 (zaD (zbW (zaJ zqT (pv 3) zaz (zaQ _)) (zaD (zaZ (zaK zbZ (pv 3) zaz))) zaW)))) zaW))
 (zaf (zaR (i:=3) zbq.nd rfl (Or.inl rfl) zaz)
 (zaf (zbj (zbW (zaJ zqT (zaF zaY rfl T.z_len PySem.boot_len (zaa (pv 0) zag)) zaz (zaQ _)) (zaD (zaR (i:=3) zbq.nd rfl (Or.inl rfl) (zch zbg (pv 0) (zaK zbZ (pv 1) (zaF (zkz rfl) rfl T.z_min PyProof.Rows.boot_min (zaa zaz (zaa (zaF zaY rfl T.z_len PySem.boot_len (zaa (pv 0) zag)) zag)))) (fun _ _=>rfl)))) zaW))
 (zaf (zaR (i:=5) zbq.nd rfl (Or.inl rfl) (zaK zb1 (zaK zbZ (pv 3) (zaK zir zaz zaz)) (zaK zed zaz (zaK zb1 (pv 1) zaz))))
 (zaf (zaR (i:=5) zbq.nd rfl (Or.inl rfl) (zaK zb1 (zaK zbZ (zaK zed (pv 5) (pv 5)) zaz) (zaK zed zaz (pv 1))))
 (zaD (zaZ (zaK zbZ (zaK zed (pv 5) (pv 5)) zaz))))))))),
  zg9 hS hl k0 k1 q⟩
def zdI (K:PySem.W.Frag):TS :=
 (zbU (zdi (tCB (zdT K) (zab (zac 0) (zab (tC (.ty "int")) zaE))) (zlj (tCB (zdT K) (zab (zac 0) (zab (tC (.ty "bool")) zaE))))))
theorem zgF {x:Int} (q:Q (.bl true) H):zdI K { nx:=fun _ H'=>Q .non H',rt:=Q } (L2.zci ["_law_told_here"] [.int x]) H:=by
 unfold zdI
 simp_all only [zac]
 refine zet ⟨_,rfl,zov ?_⟩
 exact zfj ⟨_,rfl,q⟩
theorem zgY:zbo ["_law_told_here"] ["_law_told_here"] (zaI zdN):=⟨rfl,rfl,rfl,by decide +kernel,rfl,by decide +kernel,by decide +kernel⟩
theorem zgT (T:Txt K mg base a):zdD P w K mg base CX0 1 a.f__law_whole a.d__law_whole ["_law_told_here"] ziP:=by
 refine T.F__law_whole.ok zgY (fun vs H Q E h=>?_) (fun cdv A outer s H vs Q E hr h=>?_)
 ·obtain ⟨x,rfl,q⟩:=h
  rfl
 obtain ⟨x,rfl,q⟩:=h
 exact ⟨zdI K,(zaD (zaZ (ze0 (zaF za4 rfl T.z_isinstance PyProof.Rows.boot_isinstance (zaa (pv 0) (zaa (zb4 rfl T.z_int zcK rfl) zag))) (zfN (zne (zaF za4 rfl T.z_isinstance PyProof.Rows.boot_isinstance (zaa (pv 0) (zaa (zb4 rfl T.z_bool zeV rfl) zag)))))))),
  zgF q⟩
def zi7 (a:Ad):Sp:=fun vs H Q _=>∃ (r:Addr) (od:Option Addr),vs=[.ref r]∧H r=some (zfr r (.ref a.c_NoText) od)∧∀ H',za3 H H'→Q (.int 2) H'
def zc8 (K:PySem.W.Frag):TS :=
 (zb2 (tOr (zaM (tOp rNe (tBM K "list" (zjD K) (zac 1) (zab (tC (.bl true)) zaE)) (tC (.int 1)))) (zkl (tB (tCB (zbM K) (zab (zac 0) (zab (tC (.ty "ValueError")) zaE)))))) (zbU (tUn (rU fun i=>.int (-i)) (tC (.int 2)))) za1)
theorem zbL (K:PySem.W.Frag) (D:zcd) (σ:St) (H:Hp):zc8 K D σ H=(zb2 (tOr (zaM (tOp rNe (tBM K "list" (zjD K) (zac 1) (zab (tC (.bl true)) zaE)) (tC (.int 1)))) (zkl (tB (tCB (zbM K) (zab (zac 0) (zab (tC (.ty "ValueError")) zaE)))))) (zbU (tUn (rU fun i=>.int (-i)) (tC (.int 2)))) za1) D σ H:=rfl
def zd2 (K:PySem.W.Frag) (a:Ad):TS :=
 (zaV (zbi (zdu (zab (tCB (zbM K) (zab (zac 0) (zab (tC (.ref a.c_NoWeb)) zaE))) (zab (tCB (zbM K) (zab (zac 0) (zab (tC (.ref a.c_NoPlan)) zaE))) (zab (tCB (zbM K) (zab (zac 0) (zab (tC (.ref a.c_NoText)) zaE))) zaE)))) (zaC 1))
 (zaV (zbi (tOp zfU (zac 1) (zdu (zab (tCB (zbM K) (zab (zac 0) (zab (tC (.ref a.c_NoKind)) zaE))) (zab (tCB (zbM K) (zab (zac 0) (zab (tC (.ref a.c_TooGreat)) zaE))) (zab (tCB (zbM K) (zab (zac 0) (zab (tC (.ref a.c_NoTree)) zaE))) zaE))))) (zaC 1))
 (zaV (zbi (tOp zfU (zac 1) (zdu (zab (tCB (zbM K) (zab (zac 0) (zab (tC (.ref a.c_NoWeights)) zaE))) (zab (tCB (zbM K) (zab (zac 0) (zab (tC (.ref a.c_NoTurns)) zaE))) (zab (tCB (zbM K) (zab (zac 0) (zab (tC (.ref a.c_NoNumber)) zaE))) zaE))))) (zaC 1))
 (zaV (zbi (tOp zfU (zac 1) (zdu (zab (tCB (zbM K) (zab (zac 0) (zab (tC (.ref a.c_NoBoxes)) zaE))) (zab (tCB (zbM K) (zab (zac 0) (zab (tC (.ref a.c_NoBudget)) zaE))) (zab (tCB (zbM K) (zab (zac 0) (zab (tC (.ref a.c_NoName)) zaE))) zaE))))) (zaC 1))
 (zaV (zbi (tOp zfU (zac 1) (zdu (zab (tCB (zbM K) (zab (zac 0) (zab (tC (.ref a.c_NoOrder)) zaE))) (zab (tCB (zbM K) (zab (zac 0) (zab (tC (.ref a.c_NoPlay)) zaE))) (zab (tCB (zbM K) (zab (zac 0) (zab (tC (.ref a.c_NoRoad)) zaE))) zaE))))) (zaC 1))
 (zaV (zbi (tOp zfU (zac 1) (zdu (zab (tCB (zbM K) (zab (zac 0) (zab (tC (.ref a.c_NoRow)) zaE))) (zab (tCB (zbM K) (zab (zac 0) (zab (tC (.ref a.c_NoTable)) zaE))) (zab (tCB (zbM K) (zab (zac 0) (zab (tC (.ref a.c_NoPaper)) zaE))) zaE))))) (zaC 1))
 (zaV (zcV (zc8 K))
 (zbU (tBM K "list" (zle K) (zac 1) (zab (tC (.bl true)) zaE))))))))))
theorem zbK (K:PySem.W.Frag) (a:Ad) (D:zcd) (σ:St) (H:Hp):zd2 K a D σ H=(zaV (zbi (zdu (zab (tCB (zbM K) (zab (zac 0) (zab (tC (.ref a.c_NoWeb)) zaE))) (zab (tCB (zbM K) (zab (zac 0) (zab (tC (.ref a.c_NoPlan)) zaE))) (zab (tCB (zbM K) (zab (zac 0) (zab (tC (.ref a.c_NoText)) zaE))) zaE)))) (zaC 1))
 (zaV (zbi (tOp zfU (zac 1) (zdu (zab (tCB (zbM K) (zab (zac 0) (zab (tC (.ref a.c_NoKind)) zaE))) (zab (tCB (zbM K) (zab (zac 0) (zab (tC (.ref a.c_TooGreat)) zaE))) (zab (tCB (zbM K) (zab (zac 0) (zab (tC (.ref a.c_NoTree)) zaE))) zaE))))) (zaC 1))
 (zaV (zbi (tOp zfU (zac 1) (zdu (zab (tCB (zbM K) (zab (zac 0) (zab (tC (.ref a.c_NoWeights)) zaE))) (zab (tCB (zbM K) (zab (zac 0) (zab (tC (.ref a.c_NoTurns)) zaE))) (zab (tCB (zbM K) (zab (zac 0) (zab (tC (.ref a.c_NoNumber)) zaE))) zaE))))) (zaC 1))
 (zaV (zbi (tOp zfU (zac 1) (zdu (zab (tCB (zbM K) (zab (zac 0) (zab (tC (.ref a.c_NoBoxes)) zaE))) (zab (tCB (zbM K) (zab (zac 0) (zab (tC (.ref a.c_NoBudget)) zaE))) (zab (tCB (zbM K) (zab (zac 0) (zab (tC (.ref a.c_NoName)) zaE))) zaE))))) (zaC 1))
 (zaV (zbi (tOp zfU (zac 1) (zdu (zab (tCB (zbM K) (zab (zac 0) (zab (tC (.ref a.c_NoOrder)) zaE))) (zab (tCB (zbM K) (zab (zac 0) (zab (tC (.ref a.c_NoPlay)) zaE))) (zab (tCB (zbM K) (zab (zac 0) (zab (tC (.ref a.c_NoRoad)) zaE))) zaE))))) (zaC 1))
 (zaV (zbi (tOp zfU (zac 1) (zdu (zab (tCB (zbM K) (zab (zac 0) (zab (tC (.ref a.c_NoRow)) zaE))) (zab (tCB (zbM K) (zab (zac 0) (zab (tC (.ref a.c_NoTable)) zaE))) (zab (tCB (zbM K) (zab (zac 0) (zab (tC (.ref a.c_NoPaper)) zaE))) zaE))))) (zaC 1))
 (zaV (zcV (zc8 K))
 (zbU (tBM K "list" (zle K) (zac 1) (zab (tC (.bl true)) zaE)))))))))) D σ H:=rfl
def zd7:TS :=
 (zb2 (zaM (tOp (fun x y H Q=>y=.non∧Q (.bl (decide (x=.non))) H) (zac 0) (tC .non))) (zbU (tUn (rU fun i=>.int (-i)) (tC (.int 1)))) za1)
theorem zbJ (D:zcd) (σ:St) (H:Hp):zd7 D σ H=(zb2 (zaM (tOp (fun x y H Q=>y=.non∧Q (.bl (decide (x=.non))) H) (zac 0) (tC .non))) (zbU (tUn (rU fun i=>.int (-i)) (tC (.int 1)))) za1) D σ H:=rfl
def zdA (K:PySem.W.Frag) (a:Ad):TS :=
 (zaV (zcV (zd7))
 (zd2 K a))
theorem isV {x:Addr} {od:Option Addr} {d:V} {cv dv:Value} {b:Bool} (hc:clsV d=some dv) (h:H x=some (zfr x cv od)) (k:zgr K cv) (e:PySem.W.kitOne K cv dv=some b) (q:Q (.bl b) H):zbM K [.ref x,d] H Q:=⟨x,d,cv,_,dv,b,rfl,hc,h,k,e,q⟩
theorem zg3 {r:Addr} {od:Option Addr} (I:Isa K a) (hr:H r=some (zfr r (.ref a.c_NoText) od)) (q:∀ H',za3 H H'→Q (.int 2) H'):zdA K a { nx:=fun _ H'=>Q .non H',rt:=Q } (L2.zci ["_law_caught","_law_tests"] [.ref r]) H:=by
 unfold zdA
 simp_all only [zbL,zbK,zbJ,zac]
 refine ⟨fun σ H'=>H'=H∧σ=[some (.ref r),none],?_,?_⟩
 ·simp_all only [zbL,zbK,zbJ,zac]
 rintro σ H' ⟨e,rfl⟩
 rw [e]
 simp_all only [zbL,zbK,zbJ,zac]
 refine isV rfl hr I.ec I.k_NoWeb ?_
 refine isV rfl hr I.ec I.k_NoPlan ?_
 refine isV rfl hr I.ec I.k_NoText ?_
 refine ⟨by decide,fun p0 n0=>?_⟩
 have s0:=zaA n0 (.lst [V.bl false,V.bl false,V.bl true])
 have l0:(L2.upd H p0 (.lst [V.bl false,V.bl false,V.bl true])) p0=some (.lst [V.bl false,V.bl false,V.bl true]):=zae
 generalize L2.upd H p0 (.lst [V.bl false,V.bl false,V.bl true])=G0 at s0 l0 ⊢
 have h0:=s0 _ _ hr
 refine isV rfl h0 I.ec I.k_NoKind ?_
 refine isV rfl h0 I.ec I.k_TooGreat ?_
 refine isV rfl h0 I.ec I.k_NoTree ?_
 refine ⟨by decide,fun p1 n1=>?_⟩
 have s1:=zaA n1 (.lst [V.bl false,V.bl false,V.bl false])
 have l1:(L2.upd G0 p1 (.lst [V.bl false,V.bl false,V.bl false])) p1=some (.lst [V.bl false,V.bl false,V.bl false]):=zae
 generalize L2.upd G0 p1 (.lst [V.bl false,V.bl false,V.bl false])=G1 at s1 l1 ⊢
 refine ⟨_,s1 _ _ l0,_,l1,by decide,fun u1 m1=>?_⟩
 simp only [List.cons_append,List.nil_append]
 have t1:=zaA m1 (.lst [V.bl false,V.bl false,V.bl true,V.bl false,V.bl false,V.bl false])
 have k1:(L2.upd G1 u1 (.lst [V.bl false,V.bl false,V.bl true,V.bl false,V.bl false,V.bl false])) u1=some (.lst [V.bl false,V.bl false,V.bl true,V.bl false,V.bl false,V.bl false]):=zae
 generalize L2.upd G1 u1 (.lst [V.bl false,V.bl false,V.bl true,V.bl false,V.bl false,V.bl false])=F1 at t1 k1 ⊢
 have z1:=(s0.trans s1).trans t1
 have h1:=z1 _ _ hr
 refine isV rfl h1 I.ec I.k_NoWeights ?_
 refine isV rfl h1 I.ec I.k_NoTurns ?_
 refine isV rfl h1 I.ec I.k_NoNumber ?_
 refine ⟨by decide,fun p2 n2=>?_⟩
 have s2:=zaA n2 (.lst [V.bl false,V.bl false,V.bl false])
 have l2:(L2.upd F1 p2 (.lst [V.bl false,V.bl false,V.bl false])) p2=some (.lst [V.bl false,V.bl false,V.bl false]):=zae
 generalize L2.upd F1 p2 (.lst [V.bl false,V.bl false,V.bl false])=G2 at s2 l2 ⊢
 refine ⟨_,s2 _ _ k1,_,l2,by decide,fun u2 m2=>?_⟩
 simp only [List.cons_append,List.nil_append]
 have t2:=zaA m2 (.lst [V.bl false,V.bl false,V.bl true,V.bl false,V.bl false,V.bl false,V.bl false,V.bl false,V.bl false])
 have k2:(L2.upd G2 u2 (.lst [V.bl false,V.bl false,V.bl true,V.bl false,V.bl false,V.bl false,V.bl false,V.bl false,V.bl false])) u2=some (.lst [V.bl false,V.bl false,V.bl true,V.bl false,V.bl false,V.bl false,V.bl false,V.bl false,V.bl false]):=zae
 generalize L2.upd G2 u2 (.lst [V.bl false,V.bl false,V.bl true,V.bl false,V.bl false,V.bl false,V.bl false,V.bl false,V.bl false])=F2 at t2 k2 ⊢
 have z2:=(z1.trans s2).trans t2
 have h2:=z2 _ _ hr
 refine isV rfl h2 I.ec I.k_NoBoxes ?_
 refine isV rfl h2 I.ec I.k_NoBudget ?_
 refine isV rfl h2 I.ec I.k_NoName ?_
 refine ⟨by decide,fun p3 n3=>?_⟩
 have s3:=zaA n3 (.lst [V.bl false,V.bl false,V.bl false])
 have l3:(L2.upd F2 p3 (.lst [V.bl false,V.bl false,V.bl false])) p3=some (.lst [V.bl false,V.bl false,V.bl false]):=zae
 generalize L2.upd F2 p3 (.lst [V.bl false,V.bl false,V.bl false])=G3 at s3 l3 ⊢
 refine ⟨_,s3 _ _ k2,_,l3,by decide,fun u3 m3=>?_⟩
 simp only [List.cons_append,List.nil_append]
 have t3:=zaA m3 (.lst [V.bl false,V.bl false,V.bl true,V.bl false,V.bl false,V.bl false,V.bl false,V.bl false,V.bl false,V.bl false,V.bl false,V.bl false])
 have k3:(L2.upd G3 u3 (.lst [V.bl false,V.bl false,V.bl true,V.bl false,V.bl false,V.bl false,V.bl false,V.bl false,V.bl false,V.bl false,V.bl false,V.bl false])) u3=some (.lst [V.bl false,V.bl false,V.bl true,V.bl false,V.bl false,V.bl false,V.bl false,V.bl false,V.bl false,V.bl false,V.bl false,V.bl false]):=zae
 generalize L2.upd G3 u3 (.lst [V.bl false,V.bl false,V.bl true,V.bl false,V.bl false,V.bl false,V.bl false,V.bl false,V.bl false,V.bl false,V.bl false,V.bl false])=F3 at t3 k3 ⊢
 have z3:=(z2.trans s3).trans t3
 have h3:=z3 _ _ hr
 refine isV rfl h3 I.ec I.k_NoOrder ?_
 refine isV rfl h3 I.ec I.k_NoPlay ?_
 refine isV rfl h3 I.ec I.k_NoRoad ?_
 refine ⟨by decide,fun p4 n4=>?_⟩
 have s4:=zaA n4 (.lst [V.bl false,V.bl false,V.bl false])
 have l4:(L2.upd F3 p4 (.lst [V.bl false,V.bl false,V.bl false])) p4=some (.lst [V.bl false,V.bl false,V.bl false]):=zae
 generalize L2.upd F3 p4 (.lst [V.bl false,V.bl false,V.bl false])=G4 at s4 l4 ⊢
 refine ⟨_,s4 _ _ k3,_,l4,by decide,fun u4 m4=>?_⟩
 simp only [List.cons_append,List.nil_append]
 have t4:=zaA m4 (.lst [V.bl false,V.bl false,V.bl true,V.bl false,V.bl false,V.bl false,V.bl false,V.bl false,V.bl false,V.bl false,V.bl false,V.bl false,V.bl false,V.bl false,V.bl false])
 have k4:(L2.upd G4 u4 (.lst [V.bl false,V.bl false,V.bl true,V.bl false,V.bl false,V.bl false,V.bl false,V.bl false,V.bl false,V.bl false,V.bl false,V.bl false,V.bl false,V.bl false,V.bl false])) u4=some (.lst [V.bl false,V.bl false,V.bl true,V.bl false,V.bl false,V.bl false,V.bl false,V.bl false,V.bl false,V.bl false,V.bl false,V.bl false,V.bl false,V.bl false,V.bl false]):=zae
 generalize L2.upd G4 u4 (.lst [V.bl false,V.bl false,V.bl true,V.bl false,V.bl false,V.bl false,V.bl false,V.bl false,V.bl false,V.bl false,V.bl false,V.bl false,V.bl false,V.bl false,V.bl false])=F4 at t4 k4 ⊢
 have z4:=(z3.trans s4).trans t4
 have h4:=z4 _ _ hr
 refine isV rfl h4 I.ec I.k_NoRow ?_
 refine isV rfl h4 I.ec I.k_NoTable ?_
 refine isV rfl h4 I.ec I.k_NoPaper ?_
 refine ⟨by decide,fun p5 n5=>?_⟩
 have s5:=zaA n5 (.lst [V.bl false,V.bl false,V.bl false])
 have l5:(L2.upd F4 p5 (.lst [V.bl false,V.bl false,V.bl false])) p5=some (.lst [V.bl false,V.bl false,V.bl false]):=zae
 generalize L2.upd F4 p5 (.lst [V.bl false,V.bl false,V.bl false])=G5 at s5 l5 ⊢
 refine ⟨_,s5 _ _ k4,_,l5,by decide,fun u5 m5=>?_⟩
 simp only [List.cons_append,List.nil_append]
 have t5:=zaA m5 (.lst [V.bl false,V.bl false,V.bl true,V.bl false,V.bl false,V.bl false,V.bl false,V.bl false,V.bl false,V.bl false,V.bl false,V.bl false,V.bl false,V.bl false,V.bl false,V.bl false,V.bl false,V.bl false])
 have k5:(L2.upd G5 u5 (.lst [V.bl false,V.bl false,V.bl true,V.bl false,V.bl false,V.bl false,V.bl false,V.bl false,V.bl false,V.bl false,V.bl false,V.bl false,V.bl false,V.bl false,V.bl false,V.bl false,V.bl false,V.bl false])) u5=some (.lst [V.bl false,V.bl false,V.bl true,V.bl false,V.bl false,V.bl false,V.bl false,V.bl false,V.bl false,V.bl false,V.bl false,V.bl false,V.bl false,V.bl false,V.bl false,V.bl false,V.bl false,V.bl false]):=zae
 generalize L2.upd G5 u5 (.lst [V.bl false,V.bl false,V.bl true,V.bl false,V.bl false,V.bl false,V.bl false,V.bl false,V.bl false,V.bl false,V.bl false,V.bl false,V.bl false,V.bl false,V.bl false,V.bl false,V.bl false,V.bl false])=F5 at t5 k5 ⊢
 have z5:=(z4.trans s5).trans t5
 have h5:=z5 _ _ hr
 refine ⟨fun σ H'=>H'=F5∧σ=[some (.ref r),some (.ref u5)],?_,?_⟩
 ·simp_all only [zbL,zbK,zbJ,zac]
  refine ⟨.inl ⟨rfl,_,SqL.of k5⟩,_,SqL.of k5,rfl,rfl,?_⟩
  refine ziI (fun z=>absurd rfl z) (fun _=>?_)
  exact isV rfl h5 I.ec I.k_ValueError ⟨true,rfl,ziI (fun z=>absurd z (by decide)) (fun _=>rfl)⟩
 rintro σ H' ⟨e,rfl⟩
 rw [e]
 simp_all only [zbL,zbK,zbJ,zac]
 exact ⟨.inl ⟨rfl,_,SqL.of k5⟩,_,_,_,2,rfl,rfl,SqL.of k5,rfl,rfl,rfl,by decide,q _ z5⟩
theorem zbQ:zbo ["_law_caught","_law_tests"] ["_law_caught"] (zaI zdQ):=⟨rfl,rfl,rfl,by decide +kernel,rfl,by decide +kernel,by decide +kernel⟩
theorem zg2 (T:Txt K mg base a):zdD P w K mg base CX0 1 a.f__law_class a.d__law_class ["_law_caught"] (zi7 a):=by
 refine T.F__law_class.ok zbQ (fun vs H Q E h=>?_) (fun cdv A outer s H vs Q E hr h=>?_)
 ·obtain ⟨r,od,rfl,h,q⟩:=h
  rfl
 obtain ⟨r,od,rfl,h,q⟩:=h
 exact ⟨zdA K a,(zaf (zbj (zbW (zaJ zd4 (pv 0) zbC (zaQ _)) (zaD (zaZ (zmt zjG zaz))) zaW))
 (zaf (zaR (i:=1) zbQ.nd rfl (Or.inl rfl) (zb3 (zaa (zaF zaP rfl T.z_isinstance PyProof.Rows.boot_isinstance (zaa (pv 0) (zaa (zbB rfl T.m_NoWeb rfl) zag))) (zaa (zaF zaP rfl T.z_isinstance PyProof.Rows.boot_isinstance (zaa (pv 0) (zaa (zbB rfl T.m_NoPlan rfl) zag))) (zaa (zaF zaP rfl T.z_isinstance PyProof.Rows.boot_isinstance (zaa (pv 0) (zaa (zbB rfl T.m_NoText rfl) zag))) zag)))))
 (zaf (zaR (i:=1) zbQ.nd rfl (Or.inl rfl) (zaK zc3 (pv 1) (zb3 (zaa (zaF zaP rfl T.z_isinstance PyProof.Rows.boot_isinstance (zaa (pv 0) (zaa (zbB rfl T.m_NoKind rfl) zag))) (zaa (zaF zaP rfl T.z_isinstance PyProof.Rows.boot_isinstance (zaa (pv 0) (zaa (zbB rfl T.m_TooGreat rfl) zag))) (zaa (zaF zaP rfl T.z_isinstance PyProof.Rows.boot_isinstance (zaa (pv 0) (zaa (zbB rfl T.m_NoTree rfl) zag))) zag))))))
 (zaf (zaR (i:=1) zbQ.nd rfl (Or.inl rfl) (zaK zc3 (pv 1) (zb3 (zaa (zaF zaP rfl T.z_isinstance PyProof.Rows.boot_isinstance (zaa (pv 0) (zaa (zbB rfl T.m_NoWeights rfl) zag))) (zaa (zaF zaP rfl T.z_isinstance PyProof.Rows.boot_isinstance (zaa (pv 0) (zaa (zbB rfl T.m_NoTurns rfl) zag))) (zaa (zaF zaP rfl T.z_isinstance PyProof.Rows.boot_isinstance (zaa (pv 0) (zaa (zbB rfl T.m_NoNumber rfl) zag))) zag))))))
 (zaf (zaR (i:=1) zbQ.nd rfl (Or.inl rfl) (zaK zc3 (pv 1) (zb3 (zaa (zaF zaP rfl T.z_isinstance PyProof.Rows.boot_isinstance (zaa (pv 0) (zaa (zbB rfl T.m_NoBoxes rfl) zag))) (zaa (zaF zaP rfl T.z_isinstance PyProof.Rows.boot_isinstance (zaa (pv 0) (zaa (zbB rfl T.m_NoBudget rfl) zag))) (zaa (zaF zaP rfl T.z_isinstance PyProof.Rows.boot_isinstance (zaa (pv 0) (zaa (zbB rfl T.m_NoName rfl) zag))) zag))))))
 (zaf (zaR (i:=1) zbQ.nd rfl (Or.inl rfl) (zaK zc3 (pv 1) (zb3 (zaa (zaF zaP rfl T.z_isinstance PyProof.Rows.boot_isinstance (zaa (pv 0) (zaa (zbB rfl T.m_NoOrder rfl) zag))) (zaa (zaF zaP rfl T.z_isinstance PyProof.Rows.boot_isinstance (zaa (pv 0) (zaa (zbB rfl T.m_NoPlay rfl) zag))) (zaa (zaF zaP rfl T.z_isinstance PyProof.Rows.boot_isinstance (zaa (pv 0) (zaa (zbB rfl T.m_NoRoad rfl) zag))) zag))))))
 (zaf (zaR (i:=1) zbQ.nd rfl (Or.inl rfl) (zaK zc3 (pv 1) (zb3 (zaa (zaF zaP rfl T.z_isinstance PyProof.Rows.boot_isinstance (zaa (pv 0) (zaa (zbB rfl T.m_NoRow rfl) zag))) (zaa (zaF zaP rfl T.z_isinstance PyProof.Rows.boot_isinstance (zaa (pv 0) (zaa (zbB rfl T.m_NoTable rfl) zag))) (zaa (zaF zaP rfl T.z_isinstance PyProof.Rows.boot_isinstance (zaa (pv 0) (zaa (zbB rfl T.m_NoPaper rfl) zag))) zag))))))
 (zaf (zbj (zbW (PW.pt (zd0 (zaJ zeJ (zda PySem.F.plainAttrs_list PySem.F.slot_list_count PySem.F.type_list_count zmK (pv 1) (zaa zkc zag)) zaz (zaQ _)) (zdd (zim (zeX (zaF zaP rfl T.z_isinstance PyProof.Rows.boot_isinstance (zaa (pv 0) (zaa (zb4 rfl T.z_ValueError zfX rfl) zag)))))))) (zaD (zaZ (zmt zjG zaz))) zaW))
 (zaD (zaZ (zda PySem.F.plainAttrs_list PySem.F.slot_list_index PySem.F.type_list_index zl7 (pv 1) (zaa zkc zag)))))))))))),
  zg3 T.I h q⟩
inductive ShT (H:Hp):Nat→Tr→V→Prop where
 | int {n:Nat} (i:Int):ShT H n (.int i) (.int i)
 | str {n:Nat} (x:Str):ShT H n (.str x) (.str x)
 | lst {n:Nat} {p:Addr} {xs:List V} {ts:List Tr} (h:H p=some (.lst xs)) (l:xs.length=ts.length) (e:∀ (i:Nat) x t,xs[i]?=some x→ts[i]?=some t→ShT H n t x):ShT H (n+1) (.lst ts) (.ref p)
 | tup {n:Nat} {p:Addr} {xs:List V} {ts:List Tr} (h:H p=some (.tup xs)) (l:xs.length=ts.length) (e:∀ (i:Nat) x t,xs[i]?=some x→ts[i]?=some t→ShT H n t x):ShT H (n+1) (.tup ts) (.ref p)
def zjs (n:Nat):Sp:=fun vs H Q _=>∃ (x y:V) (t:Tr),vs=[x,y]∧ShT H n t x∧ShT H n t y∧∀ H',za3 H H'→Q (.bl true) H'
def zjf:Nat→Sp
 | 0=>zkQ
 | n+1=>zjs n
theorem ShT.same {H H':Hp} (s:za3 H H') {n:Nat} {t:Tr} {x:V} (h:ShT H n t x):ShT H' n t x:=by
 induction h with
 | int i=>exact .int i
 | str x=>exact .str x
 | lst h l _ ih=>exact .lst (s _ _ h) l ih
 | tup h l _ ih=>exact .tup (s _ _ h) l ih
def zeT:TS :=
 (zbU (zdi (tOp (fun x y H Q=>y=.non∧Q (.bl (decide (x=.non))) H) (zac 1) (tC .non)) (tOp (fun x y H Q=>y=.non∧Q (.bl (decide (x=.non))) H) (zac 0) (tC .non))))
theorem zah (D:zcd) (σ:St) (H:Hp):zeT D σ H=(zbU (zdi (tOp (fun x y H Q=>y=.non∧Q (.bl (decide (x=.non))) H) (zac 1) (tC .non)) (tOp (fun x y H Q=>y=.non∧Q (.bl (decide (x=.non))) H) (zac 0) (tC .non)))) D σ H:=rfl
def zeD (K:PySem.W.Frag):TS :=
 (zb2 (tB (tCB (zdT K) (zab (zac 1) (zab (tC (.ty "str")) zaE)))) (zbU (zdi (tCB (zdT K) (zab (zac 0) (zab (tC (.ty "str")) zaE))) (tOp rEq (zac 0) (zac 1)))) za1)
theorem zak (K:PySem.W.Frag) (D:zcd) (σ:St) (H:Hp):zeD K D σ H=(zb2 (tB (tCB (zdT K) (zab (zac 1) (zab (tC (.ty "str")) zaE)))) (zbU (zdi (tCB (zdT K) (zab (zac 0) (zab (tC (.ty "str")) zaE))) (tOp rEq (zac 0) (zac 1)))) za1) D σ H:=rfl
def zeY (K:PySem.W.Frag):TS :=
 (zb2 (tB (tCB (zdT K) (zab (zac 1) (zab (tC (.ty "int")) zaE)))) (zbU (zdi (tCB (zdT K) (zab (zac 0) (zab (tC (.ty "int")) zaE))) (zdi (zlj (tCB (zdT K) (zab (zac 0) (zab (tC (.ty "bool")) zaE)))) (tOp rEq (zac 0) (zac 1))))) za1)
theorem zaj (K:PySem.W.Frag) (D:zcd) (σ:St) (H:Hp):zeY K D σ H=(zb2 (tB (tCB (zdT K) (zab (zac 1) (zab (tC (.ty "int")) zaE)))) (zbU (zdi (tCB (zdT K) (zab (zac 0) (zab (tC (.ty "int")) zaE))) (zdi (zlj (tCB (zdT K) (zab (zac 0) (zab (tC (.ty "bool")) zaE)))) (tOp rEq (zac 0) (zac 1))))) za1) D σ H:=rfl
def ze1 (K:PySem.W.Frag):TS :=
 (zb2 (tB (tCB (zdT K) (zab (zac 1) (zab (tC (.ty "bool")) zaE)))) (zbU (zdi (tCB (zdT K) (zab (zac 0) (zab (tC (.ty "bool")) zaE))) (tOp rEq (zac 0) (zac 1)))) za1)
theorem zan (K:PySem.W.Frag) (D:zcd) (σ:St) (H:Hp):ze1 K D σ H=(zb2 (tB (tCB (zdT K) (zab (zac 1) (zab (tC (.ty "bool")) zaE)))) (zbU (zdi (tCB (zdT K) (zab (zac 0) (zab (tC (.ty "bool")) zaE))) (tOp rEq (zac 0) (zac 1)))) za1) D σ H:=rfl
def zdk (K:PySem.W.Frag) (nRec:Nat):TS :=
 (zaV (zgP (zmk K (zab (zac 0) (zab (zac 1) zaE))) (zlP K 2 (zdw (zaC 2) (zdw (zaC 3) zlU)))
 (zb2 (zkl (tB (zbz (zjf nRec) [] E0 (zab (zac 2) (zab (zac 3) zaE))))) (zbU (tC (.bl false))) za1))
 (zbU (tC (.bl true))))
theorem zao (K:PySem.W.Frag) (nRec:Nat) (D:zcd) (σ:St) (H:Hp):zdk K nRec D σ H=(zaV (zgP (zmk K (zab (zac 0) (zab (zac 1) zaE))) (zlP K 2 (zdw (zaC 2) (zdw (zaC 3) zlU)))
 (zb2 (zkl (tB (zbz (zjf nRec) [] E0 (zab (zac 2) (zab (zac 3) zaE))))) (zbU (tC (.bl false))) za1))
 (zbU (tC (.bl true)))) D σ H:=rfl
def zdj (K:PySem.W.Frag):TS :=
 (zb2 (zaM (tOp rNe (tCB (fun xs H Q=>∃ p ys,xs=[.ref p]∧(SqL K H p ys∨SqT K H p ys)∧Q (.int ys.length) H) (zab (zac 0) zaE)) (tCB (fun xs H Q=>∃ p ys,xs=[.ref p]∧(SqL K H p ys∨SqT K H p ys)∧Q (.int ys.length) H) (zab (zac 1) zaE)))) (zbU (tC (.bl false))) za1)
theorem zai (K:PySem.W.Frag) (D:zcd) (σ:St) (H:Hp):zdj K D σ H=(zb2 (zaM (tOp rNe (tCB (fun xs H Q=>∃ p ys,xs=[.ref p]∧(SqL K H p ys∨SqT K H p ys)∧Q (.int ys.length) H) (zab (zac 0) zaE)) (tCB (fun xs H Q=>∃ p ys,xs=[.ref p]∧(SqL K H p ys∨SqT K H p ys)∧Q (.int ys.length) H) (zab (zac 1) zaE)))) (zbU (tC (.bl false))) za1) D σ H:=rfl
def zdq (K:PySem.W.Frag):TS :=
 (zb2 (tOr (zaM (tOp rNe (tCB (zdT K) (zab (zac 0) (zab (tC (.ty "tuple")) zaE))) (tCB (zdT K) (zab (zac 1) (zab (tC (.ty "tuple")) zaE))))) (zaM (tOp rNe (tCB (zdT K) (zab (zac 0) (zab (tC (.ty "list")) zaE))) (tCB (zdT K) (zab (zac 1) (zab (tC (.ty "list")) zaE)))))) (zbU (tC (.bl false))) za1)
theorem zam (K:PySem.W.Frag) (D:zcd) (σ:St) (H:Hp):zdq K D σ H=(zb2 (tOr (zaM (tOp rNe (tCB (zdT K) (zab (zac 0) (zab (tC (.ty "tuple")) zaE))) (tCB (zdT K) (zab (zac 1) (zab (tC (.ty "tuple")) zaE))))) (zaM (tOp rNe (tCB (zdT K) (zab (zac 0) (zab (tC (.ty "list")) zaE))) (tCB (zdT K) (zab (zac 1) (zab (tC (.ty "list")) zaE)))))) (zbU (tC (.bl false))) za1) D σ H:=rfl
def zeU (K:PySem.W.Frag) (nRec:Nat):TS :=
 (zb2 (tOr (tB (tCB (zdT K) (zab (zac 1) (zab (tC (.ty "tuple")) zaE)))) (tB (tCB (zdT K) (zab (zac 1) (zab (tC (.ty "list")) zaE))))) (zaV (zcV (zdq K))
 (zaV (zcV (zdj K))
 (zdk K nRec))) za1)
theorem zal (K:PySem.W.Frag) (nRec:Nat) (D:zcd) (σ:St) (H:Hp):zeU K nRec D σ H=(zb2 (tOr (tB (tCB (zdT K) (zab (zac 1) (zab (tC (.ty "tuple")) zaE)))) (tB (tCB (zdT K) (zab (zac 1) (zab (tC (.ty "list")) zaE))))) (zaV (zcV (zdq K))
 (zaV (zcV (zdj K))
 (zdk K nRec))) za1) D σ H:=rfl
def zem (K:PySem.W.Frag) (nRec:Nat):TS :=
 (zaV (zcV (zeU K nRec))
 (zaV (zcV (ze1 K))
 (zaV (zcV (zeY K))
 (zaV (zcV (zeD K))
 (zeT)))))
theorem zih {n:Nat} {x y:V} {t:Tr} (h1:ShT H n t x) (h2:ShT H n t y) (q:∀ H',za3 H H'→Q (.bl true) H') :
  zem K n { nx:=fun _ H'=>Q .non H',rt:=Q } (L2.zci ["_law_told_here","_law_due","_law_one","_law_other"] [x,y]) H:=by
 unfold zem
 simp_all only [zah,zak,zaj,zan,zao,zai,zam,zal,zac]
 have q0:=q H (.refl _)
 cases h1 with
 | int i =>
  cases h2
  refine ⟨fun σ H'=>H'=H∧σ=[some (.int i),some (.int i),none,none],?_,?_⟩
  ·simp_all only [zah,zak,zaj,zan,zao,zai,zam,zal,zac]
   refine zcZ (.int i) (zhf K) ⟨false,rfl,zm6 ?_⟩
   refine zcZ (.int i) (zhO K) ⟨false,rfl,zm6 ?_⟩
   first | rfl | trivial
  rintro σ H1 ⟨rfl,rfl⟩
  simp_all only [zah,zak,zaj,zan,zao,zai,zam,zal,zac]
  refine ⟨fun σ H'=>H'=H1∧σ=[some (.int i),some (.int i),none,none],?_,?_⟩
  ·simp_all only [zah,zak,zaj,zan,zao,zai,zam,zal,zac]
   refine zcZ (.int i) (zfk K) ⟨false,rfl,zm6 ?_⟩
   first | rfl | trivial
  rintro σ H2 ⟨rfl,rfl⟩
  simp_all only [zah,zak,zaj,zan,zao,zai,zam,zal,zac]
  refine ⟨fun σ H'=>False,?_,fun _ _ z=>z.elim⟩
  simp_all only [zah,zak,zaj,zan,zao,zai,zam,zal,zac]
  refine zet ⟨true,rfl,zov ?_⟩
  refine zet ⟨true,rfl,zov ?_⟩
  refine zfj ⟨_,rfl,?_⟩
  exact ziI (fun _=>by simpa using q0) (fun z=>absurd rfl z)
 | str z =>
  cases h2
  refine ⟨fun σ H'=>H'=H∧σ=[some (.str z),some (.str z),none,none],?_,?_⟩
  ·simp_all only [zah,zak,zaj,zan,zao,zai,zam,zal,zac]
   refine zcZ (.str z) (zhe K) ⟨false,rfl,zm6 ?_⟩
   refine zcZ (.str z) (zig K) ⟨false,rfl,zm6 ?_⟩
   first | rfl | trivial
  rintro σ H1 ⟨rfl,rfl⟩
  simp_all only [zah,zak,zaj,zan,zao,zai,zam,zal,zac]
  refine ⟨fun σ H'=>H'=H1∧σ=[some (.str z),some (.str z),none,none],?_,?_⟩
  ·simp_all only [zah,zak,zaj,zan,zao,zai,zam,zal,zac]
   refine zcZ (.str z) (zhB K) ⟨false,rfl,zm6 ?_⟩
   first | rfl | trivial
  rintro σ H2 ⟨rfl,rfl⟩
  simp_all only [zah,zak,zaj,zan,zao,zai,zam,zal,zac]
  refine ⟨fun σ H'=>H'=H2∧σ=[some (.str z),some (.str z),none,none],?_,?_⟩
  ·simp_all only [zah,zak,zaj,zan,zao,zai,zam,zal,zac]
   refine zcZ (.str z) (zjh K) ⟨false,rfl,zm6 ?_⟩
   first | rfl | trivial
  rintro σ H3 ⟨rfl,rfl⟩
  simp_all only [zah,zak,zaj,zan,zao,zai,zam,zal,zac]
  refine ⟨fun σ H'=>False,?_,fun _ _ z=>z.elim⟩
  simp_all only [zah,zak,zaj,zan,zao,zai,zam,zal,zac]
  refine zcZ (.str z) rfl ⟨true,rfl,zov ?_⟩
  refine zcZ (.str z) rfl ⟨true,rfl,zov ?_⟩
  exact ⟨rfl,by simpa using q0⟩
 | @lst n p xs ts h l e =>
  cases h2 with
  | @lst _ p2 ys _ h' l' e' =>
   refine ⟨fun σ H'=>False,?_,fun _ _ z=>z.elim⟩
   simp_all only [zah,zak,zaj,zan,zao,zai,zam,zal,zac]
   refine zcZ (.lst h') (zc4 K) ⟨false,rfl,zm6 ?_⟩
   refine zek h' ⟨true,rfl,zov ?_⟩
   refine ⟨fun σ H'=>H'=H∧σ=[some (.ref p),some (.ref p2),none,none],?_,?_⟩
   ·simp_all only [zah,zak,zaj,zan,zao,zai,zam,zal,zac]
    refine zcZ (.lst h) (zc4 K) ?_
    refine zcZ (.lst h') (zc4 K) ?_
    refine ⟨rfl,ziI (fun z=>absurd rfl z) (fun _=>?_)⟩
    refine zek h ?_
    refine zek h' ?_
    refine ⟨rfl,ziI (fun z=>absurd rfl z) (fun _=>?_)⟩
    first | rfl | trivial
   rintro σ H1 ⟨rfl,rfl⟩
   simp_all only [zah,zak,zaj,zan,zao,zai,zam,zal,zac]
   refine ⟨fun σ H'=>H'=H1∧σ=[some (.ref p),some (.ref p2),none,none],?_,?_⟩
   ·simp_all only [zah,zak,zaj,zan,zao,zai,zam,zal,zac]
    refine ⟨_,.inl (SqL.of h),_,.inl (SqL.of h'),?_⟩
    rw [l,l']
    exact ziI (fun z=>absurd rfl z) (fun _=>by first | rfl | trivial)
   rintro σ H2 ⟨rfl,rfl⟩
   simp_all only [zah,zak,zaj,zan,zao,zai,zam,zal,zac]
   refine .inl ⟨⟨_,SqL.of h⟩,⟨_,SqL.of h'⟩,?_⟩
   refine zmM (K:=K) (xs:=xs) (ys:=ys) (fun i σ H'=>za3 H2 H'∧∃ z1 z2,σ=[some (.ref p),some (.ref p2),z1,z2]) ⟨.refl _,_,_,rfl⟩ ?_ ?_ ?_
   ·rintro i σ H' _ ⟨s,_⟩
    exact ⟨SqL.of (s _ _ h),SqL.of (s _ _ h')⟩
   ·rintro i x y u σ H3 hx hy ⟨s3,z1,z2,rfl⟩ hu
    have lx:=(List.getElem?_eq_some_iff.mp hx).1
    have et:ts[i]?=some ts[i]:=List.getElem?_eq_getElem (by omega)
    simp_all only [zah,zak,zaj,zan,zao,zai,zam,zal,zac]
    refine ⟨_,SqT.of zae,rfl,_,_,rfl,_,_,rfl,rfl,?_⟩
    have s4:=s3.add hu (o:=.tup [x,y])
    refine ⟨x,y,ts[i],rfl,(e i x _ hx et).same s4,(e' i y _ hy et).same s4,fun H5 s5=>?_⟩
    exact ⟨true,rfl,ziI (fun z=>absurd z (by decide)) (fun _=>s4.trans s5)⟩
   ·rintro σ H3 ⟨s3,z1,z2,rfl⟩
    simp_all only [zah,zak,zaj,zan,zao,zai,zam,zal,zac]
    exact q _ s3
 | @tup n p xs ts h l e =>
  cases h2 with
  | @tup _ p2 ys _ h' l' e' =>
   refine ⟨fun σ H'=>False,?_,fun _ _ z=>z.elim⟩
   simp_all only [zah,zak,zaj,zan,zao,zai,zam,zal,zac]
   refine zev h' ⟨true,rfl,zov ?_⟩
   refine ⟨fun σ H'=>H'=H∧σ=[some (.ref p),some (.ref p2),none,none],?_,?_⟩
   ·simp_all only [zah,zak,zaj,zan,zao,zai,zam,zal,zac]
    refine zev h ?_
    refine zev h' ?_
    refine ⟨rfl,ziI (fun z=>absurd rfl z) (fun _=>?_)⟩
    refine zcZ (.tup h) (zd9 K) ?_
    refine zcZ (.tup h') (zd9 K) ?_
    refine ⟨rfl,ziI (fun z=>absurd rfl z) (fun _=>?_)⟩
    first | rfl | trivial
   rintro σ H1 ⟨rfl,rfl⟩
   simp_all only [zah,zak,zaj,zan,zao,zai,zam,zal,zac]
   refine ⟨fun σ H'=>H'=H1∧σ=[some (.ref p),some (.ref p2),none,none],?_,?_⟩
   ·simp_all only [zah,zak,zaj,zan,zao,zai,zam,zal,zac]
    refine ⟨_,.inr (SqT.of h),_,.inr (SqT.of h'),?_⟩
    rw [l,l']
    exact ziI (fun z=>absurd rfl z) (fun _=>by first | rfl | trivial)
   rintro σ H2 ⟨rfl,rfl⟩
   simp_all only [zah,zak,zaj,zan,zao,zai,zam,zal,zac]
   refine .inr ⟨⟨_,SqT.of h⟩,⟨_,SqT.of h'⟩,?_⟩
   refine zks (K:=K) (xs:=xs) (ys:=ys) (fun i σ H'=>za3 H2 H'∧∃ z1 z2,σ=[some (.ref p),some (.ref p2),z1,z2]) ⟨.refl _,_,_,rfl⟩ ?_ ?_ ?_
   ·rintro i σ H' _ ⟨s,_⟩
    exact ⟨SqT.of (s _ _ h),SqT.of (s _ _ h')⟩
   ·rintro i x y u σ H3 hx hy ⟨s3,z1,z2,rfl⟩ hu
    have lx:=(List.getElem?_eq_some_iff.mp hx).1
    have et:ts[i]?=some ts[i]:=List.getElem?_eq_getElem (by omega)
    simp_all only [zah,zak,zaj,zan,zao,zai,zam,zal,zac]
    refine ⟨_,SqT.of zae,rfl,_,_,rfl,_,_,rfl,rfl,?_⟩
    have s4:=s3.add hu (o:=.tup [x,y])
    refine ⟨x,y,ts[i],rfl,(e i x _ hx et).same s4,(e' i y _ hy et).same s4,fun H5 s5=>?_⟩
    exact ⟨true,rfl,ziI (fun z=>absurd z (by decide)) (fun _=>s4.trans s5)⟩
   ·rintro σ H3 ⟨s3,z1,z2,rfl⟩
    simp_all only [zah,zak,zaj,zan,zao,zai,zam,zal,zac]
    exact q _ s3
theorem zdx:zbo ["_law_told_here","_law_due","_law_one","_law_other"] ["_law_told_here","_law_due"] (zaI zei):=⟨rfl,rfl,rfl,by decide +kernel,rfl,by decide +kernel,by decide +kernel⟩
theorem zd8 (T:Txt K mg base a):∀ n,zdD P w K mg base CX0 n a.f__law_same a.d__law_same ["_law_told_here","_law_due"] (zjf n)
 | 0=>zmE
 | n+1=>by
  have G__law_same:=zd8 T n
  refine T.F__law_same.ok zdx (fun vs H Q E h=>?_) (fun cdv A outer s H vs Q E hr h=>?_)
  ·obtain ⟨x,y,t,rfl,h1,h2,q⟩:=h
   rfl
  obtain ⟨x,y,t,rfl,h1,h2,q⟩:=h
  exact ⟨zem K n,(zaf (zbj (zbW (PW.pt (zd0 (zeX (zaF za4 rfl T.z_isinstance PyProof.Rows.boot_isinstance (zaa (pv 1) (zaa (zb4 rfl T.z_tuple zdg rfl) zag)))) (zdd (zeX (zaF za4 rfl T.z_isinstance PyProof.Rows.boot_isinstance (zaa (pv 1) (zaa (zb4 rfl T.z_list zfR rfl) zag))))))) (zaf (zbj (zbW (PW.pt (zd0 (zaJ zeJ (zaF za4 rfl T.z_isinstance PyProof.Rows.boot_isinstance (zaa (pv 0) (zaa (zb4 rfl T.z_tuple zdg rfl) zag))) (zaF za4 rfl T.z_isinstance PyProof.Rows.boot_isinstance (zaa (pv 1) (zaa (zb4 rfl T.z_tuple zdg rfl) zag))) (zaQ _)) (zdd (zaJ zeJ (zaF za4 rfl T.z_isinstance PyProof.Rows.boot_isinstance (zaa (pv 0) (zaa (zb4 rfl T.z_list zfR rfl) zag))) (zaF za4 rfl T.z_isinstance PyProof.Rows.boot_isinstance (zaa (pv 1) (zaa (zb4 rfl T.z_list zfR rfl) zag))) (zaQ _))))) (zaD (zaZ zkc)) zaW))
 (zaf (zbj (zbW (zaJ zeJ (zaF zaY rfl T.z_len PySem.boot_len (zaa (pv 0) zag)) (zaF zaY rfl T.z_len PySem.boot_len (zaa (pv 1) zag)) (zaQ _)) (zaD (zaZ zkc)) zaW))
 (zaf (zdJ PassesOwn.never rfl (zob rfl T.z_zip (zaa (pv 0) (zaa (pv 1) zag))) (zh4 rfl (zcC (zbm (i:=2) zdx.nd rfl (Or.inl rfl)) (zcC (zbm (i:=3) zdx.nd rfl (Or.inl rfl)) zfG)))
 (zaD (zbW (zim (zeX (zbh G__law_same (hr.mono (by omega)) rfl T.m__law_same T.F__law_same.kp T.b__law_same .nil zcp (zaa (pv 2) (zaa (pv 3) zag))))) (zaD (zaZ zkc)) zaW)))
 (zaD (zaZ zkc))))) zaW))
 (zaf (zbj (zbW (zeX (zaF za4 rfl T.z_isinstance PyProof.Rows.boot_isinstance (zaa (pv 1) (zaa (zb4 rfl T.z_bool zeV rfl) zag)))) (zaD (zaZ (ze0 (zaF za4 rfl T.z_isinstance PyProof.Rows.boot_isinstance (zaa (pv 0) (zaa (zb4 rfl T.z_bool zeV rfl) zag))) (zfN (zcu zcD (pv 0) (pv 1) (zaQ _)))))) zaW))
 (zaf (zbj (zbW (zeX (zaF za4 rfl T.z_isinstance PyProof.Rows.boot_isinstance (zaa (pv 1) (zaa (zb4 rfl T.z_int zcK rfl) zag)))) (zaD (zaZ (ze0 (zaF za4 rfl T.z_isinstance PyProof.Rows.boot_isinstance (zaa (pv 0) (zaa (zb4 rfl T.z_int zcK rfl) zag))) (ze0 (zne (zaF za4 rfl T.z_isinstance PyProof.Rows.boot_isinstance (zaa (pv 0) (zaa (zb4 rfl T.z_bool zeV rfl) zag)))) (zfN (zcu zcD (pv 0) (pv 1) (zaQ _))))))) zaW))
 (zaf (zbj (zbW (zeX (zaF za4 rfl T.z_isinstance PyProof.Rows.boot_isinstance (zaa (pv 1) (zaa (zb4 rfl T.z_str zdR rfl) zag)))) (zaD (zaZ (ze0 (zaF za4 rfl T.z_isinstance PyProof.Rows.boot_isinstance (zaa (pv 0) (zaa (zb4 rfl T.z_str zdR rfl) zag))) (zfN (zcu zcD (pv 0) (pv 1) (zaQ _)))))) zaW))
 (zaD (zaZ (ze0 (zcu zd4 (pv 1) zbC (zaQ _)) (zfN (zcu zd4 (pv 0) zbC (zaQ _)))))))))),zih h1 h2 q⟩
theorem zhC (T:Txt K mg base a):zdD P w K mg base CX0 6 a.f__law_same a.d__law_same ["_law_told_here","_law_due"] (zjs 5):=zd8 T 6
def zb7 (K:PySem.W.Frag):TS :=
 (zb2 (tOr (zaM (tOp rEq (zac 0) (tC (.str "")))) (tOr (zaM (tOp (rNeE K) (zeK (zpA (zac 0)) (zaC 0) (zaM (tOp zhm (zac 0) (tC (.str "0123456789")))) (zac 0) [none]) (zdu zaE))) (zlO (zaM (tOp rEq (tOp zql (zac 0) (tC (.int 0))) (tC (.str "0")))) (zaM (tOp rNe (zac 0) (tC (.str "0"))))))) (zbU (tC .non)) za1)
theorem zbN (K:PySem.W.Frag) (D:zcd) (σ:St) (H:Hp):zb7 K D σ H=(zb2 (tOr (zaM (tOp rEq (zac 0) (tC (.str "")))) (tOr (zaM (tOp (rNeE K) (zeK (zpA (zac 0)) (zaC 0) (zaM (tOp zhm (zac 0) (tC (.str "0123456789")))) (zac 0) [none]) (zdu zaE))) (zlO (zaM (tOp rEq (tOp zql (zac 0) (tC (.int 0))) (tC (.str "0")))) (zaM (tOp rNe (zac 0) (tC (.str "0"))))))) (zbU (tC .non)) za1) D σ H:=rfl
def zck (K:PySem.W.Frag):TS :=
 (zaV (zcV (zb7 K))
 (zbU (tCB zkO (zab (zac 0) zaE))))
theorem zes {w:Str} (l:w.length≤640) (q:∀ H',za3 H H'→Q (zhs (zcY w)) H'):zck K { nx:=fun _ H'=>Q .non H',rt:=Q } (L2.zci ["_law_word"] [.str w]) H:=by
 unfold zck
 simp_all only [zbN,zac]
 have qn:okW w=false→∀ H',za3 H H'→Q .non H':=fun e H' s=>by
  have:=q H' s
  unfold zcY at this
  rw [if_neg (by rw [e];exact Bool.false_ne_true)] at this
  exact this
 have lw:w.length=w.cps.toList.length:=by simp [Str.length]
 refine ⟨fun σ H'=>za3 H H'∧okW w=true∧σ=[some (.str w)],?_,?_⟩
 ·unfold zb7
  simp_all only [zbN,zac]
  refine ⟨rfl,?_⟩
  by_cases he:w=Str.ofString ""
  ·rw [if_pos he]
   refine qn ?_ H (.refl _)
   unfold okW
   rw [decide_eq_false (by rw [he];decide +kernel),Bool.false_and,Bool.false_and]
  ·rw [if_neg he]
   intro D hD
   have l1:1≤w.length:=by
    cases hl:w.length with
    | zero =>
     refine absurd (ziU ?_) he
     rw [zdn] at hl
     rw [List.eq_nil_of_length_eq_zero hl]
     rfl
    | succ n=>omega
   obtain ⟨c0,cr,ec⟩:∃ c0 cr,w.cps.toList=c0::cr:=by
    cases h:w.cps.toList with
    | nil=>rw [lw,h] at l1;exact absurd l1 (by decide)
    | cons a b=>exact ⟨a,b,rfl⟩
   refine zke (fun c=>!dg c) (by omega) hD ?_ (by decide) ?_
   ·intro i c H' R hc s r
    refine ⟨_,rfl,_,_,rfl,rfl,?_⟩
    rw [zmZ]
    exact ⟨_,rfl,r H' (.refl _)⟩
   ·intro H1 s1 hD1
    refine ⟨by decide,fun p hp=>?_⟩
    have s2:za3 H (L2.upd H1 p (.lst [])):=s1.add hp
    refine ⟨D,rfl,_,SqL.of ((zaA hp _) _ _ hD1),SqL.of zae,?_⟩
    have el:(w.cps.toList.filter fun c=>!dg c)=[]↔w.cps.toList.all dg=true:=by
     rw [List.filter_eq_nil_iff,List.all_eq_true]
     constructor
     ·intro h c hc
      have:=h c hc
      simpa using this
     ·intro h c hc
      simp [h c hc]
    cases hd:w.cps.toList.all dg with
    | false =>
     rw [if_pos]
     ·refine qn ?_ _ s2
      unfold okW
      rw [hd,Bool.and_false,Bool.false_and]
     ·cases hf:(w.cps.toList.filter fun c=>!dg c) with
      | nil=>rw [el.mp hf] at hd;cases hd
      | cons a b=>rfl
    | true =>
     rw [el.mpr hd,if_neg (show ¬ (List.map (fun c=>V.str ⟨#[c]⟩) ([]:List Nat)).isEmpty=false from fun z=>Bool.noConfusion z)]
     have e0:okW w=!(decide (c0=48)&&!decide (w=Str.ofString "0")):=by
      unfold okW
      rw [hd,decide_eq_true l1,Bool.true_and,Bool.true_and,ec]
      congr 2
      rw [Bool.eq_iff_iff,decide_eq_true_eq,decide_eq_true_eq]
      exact ⟨fun z=>Option.some.inj z,fun z=>by rw [z];rfl⟩
     refine ⟨zdY (by omega),c0,by rw [ec];exact za0 (j:=0) rfl,rfl,?_⟩
     have e1:((⟨#[c0]⟩:Str)=Str.ofString "0")↔c0=48:=by
      constructor
      ·intro h
       have h2:=congrArg sgn h
       have h3:sgn (Str.ofString "0")=[48]:=zfg
       rw [h3] at h2
       exact (List.cons.inj h2).1
      ·intro h
       exact ziU (by rw [h];exact zfg.symm)
     by_cases h48:c0=48
     ·rw [if_pos (e1.mpr h48)]
      refine ⟨rfl,?_⟩
      by_cases h2:w=Str.ofString "0"
      ·rw [if_neg (fun z=>z h2)]
       exact ⟨s2,by rw [e0,decide_eq_true h48,decide_eq_true h2];rfl⟩
      ·rw [if_pos h2]
       exact qn (by rw [e0,decide_eq_true h48,decide_eq_false h2];rfl) _ s2
     ·rw [if_neg (fun z=>h48 (e1.mp z))]
      exact ⟨s2,by rw [e0,decide_eq_false h48];rfl⟩
 ·rintro σ H2 ⟨s2,hk,rfl⟩
  have hd:w.cps.toList.all dg=true∧1≤w.length:=by
   unfold okW at hk
   simp only [Bool.and_eq_true,decide_eq_true_eq] at hk
   exact ⟨hk.1.2,hk.1.1⟩
  obtain ⟨n,hn,_⟩:=zjC hd.1 hd.2 (by omega)
  have q2:=q H2 s2
  unfold zcY at q2
  rw [if_pos hk,hn] at q2
  simp_all only [zbN,zac]
  exact ⟨l,n,hn,q2⟩
theorem zee:zbo ["_law_word"] ["_law_word"] (zaI zb0):=⟨rfl,rfl,rfl,by decide +kernel,rfl,by decide +kernel,by decide +kernel⟩
theorem zeq (T:Txt K mg base a):zdD P w K mg base CX0 1 a.f__law_word_number a.d__law_word_number ["_law_word"] zgh:=by
 refine T.F__law_word_number.ok zee (fun vs H Q E h=>?_) (fun cdv A outer s H vs Q E hr h=>?_)
 ·obtain ⟨w,rfl,l,q⟩:=h
  rfl
 obtain ⟨w,rfl,l,q⟩:=h
 exact ⟨zck K,(zaf (zbj (zbW (PW.pt (zd0 (zaJ zcD (pv 0) zaS (zaQ _)) (zd0 (zaJ (zqG hr.units) (ziR (sc:=zaI zb0) (N:=["_law_word"]) (Nc:=["_law_sign"]) (cap:=[none]) rfl rfl rfl (.of (by decide +kernel)) (zm5 (pv 0)) (fun _ _ _ _=>(zbm (i:=0) (show List.Nodup (["_law_sign"]:List Str) from by decide) rfl (Or.inl rfl))) (fun _ _ _ _=>(zpb (zaJ zkH (pv 0) zaS (by with_unfolding_all rfl)))) (fun _ _ _ _=>(pv 0))) (zb3 zag) (zaQ _)) (zdd (PW.pt (zjr (zaJ zcD (zch zno (pv 0) zaz (fun _ _=>rfl)) zaS (zaQ _)) (zgI (zaJ zeJ (pv 0) zaS (zaQ _))))))))) (zaD (zaZ zbC)) zaW))
 (zaD (zaZ (zbT zh9 rfl T.z_int zcK (zaa (pv 0) zag))))),
  zes l q⟩
theorem zoT (w:Str):thO false w=match zcE (Txt.split w (Str.ofString "-")) with
  | some [x]=>some (.int x)
  | _=>none:=by
 show (zcY w).map Tr.int=_
 rw [zlg]
 cases e:Txt.split w ⟨#[45]⟩ with
 | nil=>exact absurd e (zcM _ _)
 | cons x l =>
  obtain ⟨h1,h2,h3⟩:=zfc e
  cases l with
  | nil =>
   have:=h2 rfl
   subst this
   rw [zdc]
   cases zcY w <;> rfl
  | cons y l =>
   obtain ⟨z,hz⟩:=h3 (List.cons_ne_nil _ _)
   have hn:zcY w=none:=by
    unfold zcY
    rw [if_neg]
    unfold okW
    have:w.cps.toList.all dg=false:=by
     have hz:w.cps.toList=x.cps.toList++45::z:=hz
     rw [hz,List.all_append,List.all_cons]
     have:dg 45=false:=by decide
     rw [this,Bool.false_and,Bool.and_false]
    rw [this,Bool.and_false,Bool.false_and]
    exact Bool.false_ne_true
   rw [hn,zdc,zdc]
   cases zcY x with
   | none=>rfl
   | some a =>
    cases zcY y with
    | none=>rfl
    | some b =>
     cases zcE l with
     | none=>rfl
     | some m=>rfl
theorem zjB {sp:Bool}:∀ {ws:List Str} {w:Str},w∈ws→thO sp w=none→plO sp ws=none
 | u::ws,w,m,h=>by
  rw [zfy]
  rcases List.mem_cons.mp m with rfl | m
  ·rw [h];rfl
  ·rw [zjB m h]
   cases thO sp u <;> rfl
theorem zjk {sp:Bool}:∀ {ws:List Str},(∀ w∈ws,thO sp w≠none)→plO sp ws=some (ws.filterMap (thO sp))
 | [],_=>rfl
 | u::ws,h=>by
  rw [zfy,zjk fun w m=>h w (List.mem_cons_of_mem _ m),List.filterMap_cons]
  cases e:thO sp u with
  | none=>exact absurd e (h u (List.mem_cons_self ..))
  | some t=>rfl
def lwO (rows:List Str):Nat ⊕ (Bool×List Tr):=zjE ((Txt.split (rows.headD "") " ").headD "") rows
theorem zeP {rows:List Str} {kd:Str} (h:∀ sp,zfn sp rows=.inl 0):zjE kd rows=.inl 0:=by
 unfold zjE
 rw [h,h]
 split
 ·rfl
 ·split <;> rfl
theorem zlB {rows:List Str} {sp:Bool}:zjE (kdS sp) rows=match zfn sp rows with | .inl k=>.inl k | .inr ts=>.inr (sp,ts):=by
 unfold zjE
 cases sp
 ·exact (if_pos rfl).trans (by cases zfn false rows <;> rfl)
 ·exact (if_neg (by rw [zl3];exact zd1)).trans ((if_pos rfl).trans (by cases zfn true rows <;> rfl))
theorem znr {rows:List Str} {kd:Str} (h:∀ sp,kd≠kdS sp):zjE kd rows=.inl 0:=by
 unfold zjE
 rw [if_neg (h false),if_neg (h true)]
theorem ziV (sp:Bool) (r:Str):zfn sp [r]=.inl 0:=rfl
theorem zpU {p:Nat→Bool}:∀ (a b:List Nat),(∀ x∈a,p x=true)→(a++b).takeWhile p=a++b.takeWhile p:=fun a b h=>List.takeWhile_append_of_pos h
theorem zk4 {sp:Bool} {r w:Str} (e:Txt.split r (Str.ofString " ")=[w]):shO sp r=none:=by
 unfold shO
 show (if (Txt.split r (Str.ofString " ")).getD 0 ""=kdS sp∧(if sp then 2 else 3)≤(Txt.split r (Str.ofString " ")).length then _ else none)=none
 rw [if_neg]
 rintro ⟨_,h⟩
 rw [e,List.length_singleton] at h
 cases sp <;> exact absurd h (by decide)
theorem zp1 (text:Str):zf2 text=lwO (Txt.split text (Str.ofString "\n")):=by
 show zjE (Txt.partition text (Str.ofString " ")).1 (Txt.split text (Str.ofString "\n"))=zjE ((Txt.split ((Txt.split text (Str.ofString "\n")).headD "") (Str.ofString " ")).headD "") (Txt.split text (Str.ofString "\n"))
 have hp:=parti text 32
 rw [← zhM] at hp
 cases e:Txt.split text (Str.ofString "\n") with
 | nil=>exact absurd e (zcM _ _)
 | cons r0 zfq =>
  rw [show (r0::zfq).headD ""=r0 from rfl]
  rw [zgf] at e
  obtain ⟨h1,h2,h3⟩:=zfc e
  have f0:=StrLaws.split_free text 10 r0 (by rw [e];exact List.mem_cons_self ..)
  cases e2:Txt.split r0 (Str.ofString " ") with
  | nil=>exact absurd e2 (zcM _ _)
  | cons w0 wr =>
   rw [show (w0::wr).headD ""=w0 from rfl]
   have e2':=e2
   rw [zhM] at e2'
   obtain ⟨g1,g2,g3⟩:=zfc e2'
   have fw:=StrLaws.split_free r0 32 w0 (by rw [e2'];exact List.mem_cons_self ..)
   cases wr with
   | cons w1 wt =>
    obtain ⟨z,hz⟩:=g3 (List.cons_ne_nil _ _)
    have key:∃ z2,sgn text=sgn w0++32::z2:=by
     cases zfq with
     | nil =>
      rw [h2 rfl]
      exact ⟨z,hz⟩
     | cons r1 zfq =>
      obtain ⟨z3,hz3⟩:=h3 (List.cons_ne_nil _ _)
      exact ⟨z++10::z3,by rw [hz3,hz,List.append_assoc];rfl⟩
    obtain ⟨z2,hz2⟩:=key
    have ek:(Txt.partition text (Str.ofString " ")).1=w0:=by
     apply ziU
     rw [hp,hz2,zpU (p:=fun d=>decide (d≠32)) (sgn w0) _ fun x hx=>decide_eq_true (fun (y:x=32)=>fw (y ▸ hx)),List.takeWhile_cons_of_neg (by simp),List.append_nil]
    rw [ek]
   | nil =>
    have er:r0=w0:=g2 rfl
    subst er
    cases zfq with
    | nil =>
     rw [zeP (fun sp=>ziV sp r0),zeP (fun sp=>ziV sp r0)]
    | cons r1 zfq =>
     have ob:∀ sp,zfn sp (r0::r1::zfq)=.inl 0:=fun sp=>zi6 (k:=0) (r:=r0) rfl (zk4 e2) (fun i r h=>absurd h (Nat.not_lt_zero _))
     rw [zeP ob,zeP ob]
def zi4 (K:PySem.W.Frag):Sp:=fun vs H Q _=>∃ text:Str,vs=[.str text]∧Rn 640 text∧text.length≤80000 ∧
 (∀ (k:Nat) t H',zf2 text=.inl k→za3 H H'→H' t=some (.tup [.int k,.non])→Q (.ref t) H') ∧
 ∀ sp ts t d H',zf2 text=.inr (sp,ts)→za3 H H'→H' t=some (.tup [.non,d])→Sh H' (.tup [.str (kdS sp),.lst ts]) d→Q (.ref t) H'
def zbH:TS :=
 (zb2 (tOr (zaM (tOp (fun x y H Q=>y=.non∧Q (.bl (decide (x=.non))) H) (zac 6) (tC .non))) (zaM (tOp (rI0 fun i j=>.bl (decide (i<j))) (zac 6) (tC (.int 1))))) (zbU (zf3 (zab (zac 4) (zab (tC .non) zaE)))) za1)
theorem zas (D:zcd) (σ:St) (H:Hp):zbH D σ H=(zb2 (tOr (zaM (tOp (fun x y H Q=>y=.non∧Q (.bl (decide (x=.non))) H) (zac 6) (tC .non))) (zaM (tOp (rI0 fun i j=>.bl (decide (i<j))) (zac 6) (tC (.int 1))))) (zbU (zf3 (zab (zac 4) (zab (tC .non) zaE)))) za1) D σ H:=rfl
def zbI (K:PySem.W.Frag):TS :=
 (zdZ (tBM K "list" zbr (zac 7) (zab (tOp (zcP K) (zdu (zab (tOp (zcP K) (zac 9) (tC (.int 0))) (zab (tCB (fun xs H Q=>∃ p ys,xs=[.ref p]∧((SqL K H p ys∧∀ l,H l=none→Q (.ref l) (upd H l (.tup ys)))∨(SqT K H p ys∧Q (.ref p) H))) (zab (zac 9) zaE)) zaE))) (tCB (fun xs H Q=>(∃ i,xs=[.int i]∧Q (.int i) H)∨∃ k,xs=[.bl k]∧Q (.int (if k then 1 else 0)) H) (zab (tOp rEq (zac 2) (tC (.str "spread"))) zaE))) zaE)))
theorem zat (K:PySem.W.Frag) (D:zcd) (σ:St) (H:Hp):zbI K D σ H=(zdZ (tBM K "list" zbr (zac 7) (zab (tOp (zcP K) (zdu (zab (tOp (zcP K) (zac 9) (tC (.int 0))) (zab (tCB (fun xs H Q=>∃ p ys,xs=[.ref p]∧((SqL K H p ys∧∀ l,H l=none→Q (.ref l) (upd H l (.tup ys)))∨(SqT K H p ys∧Q (.ref p) H))) (zab (zac 9) zaE)) zaE))) (tCB (fun xs H Q=>(∃ i,xs=[.int i]∧Q (.int i) H)∨∃ k,xs=[.bl k]∧Q (.int (if k then 1 else 0)) H) (zab (tOp rEq (zac 2) (tC (.str "spread"))) zaE))) zaE))) D σ H:=rfl
def zbD (K:PySem.W.Frag):TS :=
 (zb2 (tOr (zaM (tOp (rIn K false) (tC .non) (zac 9))) (zaM (tOp rNe (tCB (fun xs H Q=>∃ p ys,xs=[.ref p]∧(SqL K H p ys∨SqT K H p ys)∧Q (.int ys.length) H) (zab (zac 9) zaE)) (tOp (rI0 fun i j=>.int (i+j)) (tC (.int 1)) (tCB (fun xs H Q=>(∃ i,xs=[.int i]∧Q (.int i) H)∨∃ k,xs=[.bl k]∧Q (.int (if k then 1 else 0)) H) (zab (tOp rEq (zac 2) (tC (.str "spread"))) zaE)))))) (zbU (zf3 (zab (zac 4) (zab (tC .non) zaE)))) za1)
theorem zau (K:PySem.W.Frag) (D:zcd) (σ:St) (H:Hp):zbD K D σ H=(zb2 (tOr (zaM (tOp (rIn K false) (tC .non) (zac 9))) (zaM (tOp rNe (tCB (fun xs H Q=>∃ p ys,xs=[.ref p]∧(SqL K H p ys∨SqT K H p ys)∧Q (.int ys.length) H) (zab (zac 9) zaE)) (tOp (rI0 fun i j=>.int (i+j)) (tC (.int 1)) (tCB (fun xs H Q=>(∃ i,xs=[.int i]∧Q (.int i) H)∨∃ k,xs=[.bl k]∧Q (.int (if k then 1 else 0)) H) (zab (tOp rEq (zac 2) (tC (.str "spread"))) zaE)))))) (zbU (zf3 (zab (zac 4) (zab (tC .non) zaE)))) za1) D σ H:=rfl
def za9 (K:PySem.W.Frag):TS :=
 (zaV (zbi (zeK (zfK K (tBM K "str" zdt (zac 8) (zab (tC (.str "-")) zaE))) (zaC 0) zcz (zbz zgh [] E0 (zab (zac 0) zaE)) [none]) (zaC 9))
 (zaV (zcV (zbD K))
 (zbI K)))
theorem zay (K:PySem.W.Frag) (D:zcd) (σ:St) (H:Hp):za9 K D σ H=(zaV (zbi (zeK (zfK K (tBM K "str" zdt (zac 8) (zab (tC (.str "-")) zaE))) (zaC 0) zcz (zbz zgh [] E0 (zab (zac 0) zaE)) [none]) (zaC 9))
 (zaV (zcV (zbD K))
 (zbI K))) D σ H:=rfl
def zbl (K:PySem.W.Frag):TS :=
 (zaV (zbi (zbz zgh [] E0 (zab (tOp (zcP K) (zac 5) (tC (.int 1))) zaE)) (zaC 6))
 (zaV (zbi (zdu zaE) (zaC 7))
 (zaV (zgP (zfK K (tSl (ziz K) (zac 5) (zco (tC (.int 2))) zbs)) (zaC 8)
 (za9 K))
 (zaV (zcV (zbH))
 (zdZ (tBM K "list" zbr (zac 3) (zab (zf3 (zab (zac 7) (zab (zac 6) zaE))) zaE)))))))
theorem zaw (K:PySem.W.Frag) (D:zcd) (σ:St) (H:Hp):zbl K D σ H=(zaV (zbi (zbz zgh [] E0 (zab (tOp (zcP K) (zac 5) (tC (.int 1))) zaE)) (zaC 6))
 (zaV (zbi (zdu zaE) (zaC 7))
 (zaV (zgP (zfK K (tSl (ziz K) (zac 5) (zco (tC (.int 2))) zbs)) (zaC 8)
 (za9 K))
 (zaV (zcV (zbH))
 (zdZ (tBM K "list" zbr (zac 3) (zab (zf3 (zab (zac 7) (zab (zac 6) zaE))) zaE))))))) D σ H:=rfl
def zbF (K:PySem.W.Frag):TS :=
 (zb2 (tOr (zlO (zaM (tOp rNe (zac 2) (tC (.str "walk")))) (zaM (tOp rNe (zac 2) (tC (.str "spread"))))) (tOr (zaM (tOp rNe (tOp (zcP K) (zac 5) (tC (.int 0))) (zac 2))) (zaM (tOp (rI0 fun i j=>.bl (decide (i<j))) (tCB (fun xs H Q=>∃ p ys,xs=[.ref p]∧(SqL K H p ys∨SqT K H p ys)∧Q (.int ys.length) H) (zab (zac 5) zaE)) (tOp (rI0 fun i j=>.int (i+j)) (tC (.int 2)) (tCB (fun xs H Q=>(∃ i,xs=[.int i]∧Q (.int i) H)∨∃ k,xs=[.bl k]∧Q (.int (if k then 1 else 0)) H) (zab (tOp rEq (zac 2) (tC (.str "walk"))) zaE))))))) (zbU (zf3 (zab (zac 4) (zab (tC .non) zaE)))) za1)
theorem zar (K:PySem.W.Frag) (D:zcd) (σ:St) (H:Hp):zbF K D σ H=(zb2 (tOr (zlO (zaM (tOp rNe (zac 2) (tC (.str "walk")))) (zaM (tOp rNe (zac 2) (tC (.str "spread"))))) (tOr (zaM (tOp rNe (tOp (zcP K) (zac 5) (tC (.int 0))) (zac 2))) (zaM (tOp (rI0 fun i j=>.bl (decide (i<j))) (tCB (fun xs H Q=>∃ p ys,xs=[.ref p]∧(SqL K H p ys∨SqT K H p ys)∧Q (.int ys.length) H) (zab (zac 5) zaE)) (tOp (rI0 fun i j=>.int (i+j)) (tC (.int 2)) (tCB (fun xs H Q=>(∃ i,xs=[.int i]∧Q (.int i) H)∨∃ k,xs=[.bl k]∧Q (.int (if k then 1 else 0)) H) (zab (tOp rEq (zac 2) (tC (.str "walk"))) zaE))))))) (zbU (zf3 (zab (zac 4) (zab (tC .non) zaE)))) za1) D σ H:=rfl
def zbG (K:PySem.W.Frag):TS :=
 (zb2 (tOr (zaM (tOp rNe (tOp (zcP K) (zac 1) (zac 4)) (tC (.str "")))) (zaM (tOp rEq (zac 4) (tC (.int 0))))) (zbU (zf3 (zab (zac 4) (zab (tC .non) zaE)))) za1)
theorem zav (K:PySem.W.Frag) (D:zcd) (σ:St) (H:Hp):zbG K D σ H=(zb2 (tOr (zaM (tOp rNe (tOp (zcP K) (zac 1) (zac 4)) (tC (.str "")))) (zaM (tOp rEq (zac 4) (tC (.int 0))))) (zbU (zf3 (zab (zac 4) (zab (tC .non) zaE)))) za1) D σ H:=rfl
def zb5 (K:PySem.W.Frag):TS :=
 (zaV (zbi (tBM K "str" zdt (tOp (zcP K) (zac 1) (zac 4)) (zab (tC (.str " ")) zaE)) (zaC 5))
 (zaV (zcV (zb2 (zaM (tOp rEq (zac 4) (tC (.int 0)))) (zbi (tOp (zcP K) (zac 5) (tC (.int 0))) (zaC 2)) za1))
 (zaV (zcV (zbF K))
 (zbl K))))
theorem zaq (K:PySem.W.Frag) (D:zcd) (σ:St) (H:Hp):zb5 K D σ H=(zaV (zbi (tBM K "str" zdt (tOp (zcP K) (zac 1) (zac 4)) (zab (tC (.str " ")) zaE)) (zaC 5))
 (zaV (zcV (zb2 (zaM (tOp rEq (zac 4) (tC (.int 0)))) (zbi (tOp (zcP K) (zac 5) (tC (.int 0))) (zaC 2)) za1))
 (zaV (zcV (zbF K))
 (zbl K)))) D σ H:=rfl
def zb8 (K:PySem.W.Frag):TS :=
 (zb2 (zaM (tOp rEq (zac 4) (tOp (rI0 fun i j=>.int (i - j)) (tCB (fun xs H Q=>∃ p ys,xs=[.ref p]∧(SqL K H p ys∨SqT K H p ys)∧Q (.int ys.length) H) (zab (zac 1) zaE)) (tC (.int 1))))) (zaV (zcV (zbG K))
 zoy) za1)
theorem zax (K:PySem.W.Frag) (D:zcd) (σ:St) (H:Hp):zb8 K D σ H=(zb2 (zaM (tOp rEq (zac 4) (tOp (rI0 fun i j=>.int (i - j)) (tCB (fun xs H Q=>∃ p ys,xs=[.ref p]∧(SqL K H p ys∨SqT K H p ys)∧Q (.int ys.length) H) (zab (zac 1) zaE)) (tC (.int 1))))) (zaV (zcV (zbG K))
 zoy) za1) D σ H:=rfl
def zcn (K:PySem.W.Frag):TS :=
 (zaV (zbi (tBM K "str" zdt (zac 0) (zab (tC (.str "\n")) zaE)) (zaC 1))
 (zaV (zbi (tC (.str "")) (zaC 2))
 (zaV (zbi (zdu zaE) (zaC 3))
 (zaV (zgP (ze4 (zab (tCB (fun xs H Q=>∃ p ys,xs=[.ref p]∧(SqL K H p ys∨SqT K H p ys)∧Q (.int ys.length) H) (zab (zac 1) zaE)) zaE)) (zaC 4)
 (zaV (zcV (zb8 K))
 (zb5 K)))
 (zbU (zf3 (zab (tC .non) (zab (zf3 (zab (zac 2) (zab (zac 3) zaE))) zaE))))))))
def thN (sp:Bool) (ns:List Int):Option Tr:=if sp then (match ns with | [x,y]=>some (.tup [.int x,.int y]) | _=>none) else (match ns with | [x]=>some (.int x) | _=>none)
theorem zp7 (sp:Bool) (w:Str):thO sp w=(zcE (Txt.split w (Str.ofString "-"))).bind (thN sp):=by
 cases sp
 ·rw [zoT]
  cases zcE (Txt.split w (Str.ofString "-")) with
  | none=>rfl
  | some ns =>
   match ns with
   | []=>rfl
   | [_]=>rfl
   | _::_::_=>rfl
 ·show (match zcE (Txt.split w (Str.ofString "-")) with | some [x,y]=>some (Tr.tup [.int x,.int y]) | _=>none)=_
  cases zcE (Txt.split w (Str.ofString "-")) with
  | none=>rfl
  | some ns =>
   match ns with
   | []=>rfl
   | [_]=>rfl
   | [_,_]=>rfl
   | _::_::_::_=>rfl
theorem znT {sp:Bool} {ns:List Int} (h:¬ (ns.length:Int)=1+(if sp then 1 else 0)):thN sp ns=none:=by
 unfold thN
 cases sp
 ·rw [if_neg Bool.false_ne_true]
  match ns,h with
  | [],_=>rfl
  | [x],h=>exact absurd rfl h
  | _::_::_,_=>rfl
 ·rw [if_pos rfl]
  match ns,h with
  | [],_=>rfl
  | [_],_=>rfl
  | [_,_],h=>exact absurd rfl h
  | _::_::_::_,_=>rfl
theorem zm7 (sp:Bool):(kdS sp=Str.ofString "spread")↔sp=true:=by
 cases sp
 ·exact ⟨fun z=>absurd z.symm zd1,fun z=>by cases z⟩
 ·exact ⟨fun _=>rfl,fun _=>rfl⟩
theorem znc (sp:Bool):(kdS sp=Str.ofString "walk")↔sp=false:=by
 cases sp
 ·exact ⟨fun _=>rfl,fun _=>rfl⟩
 ·exact ⟨fun z=>absurd z zd1,fun z=>by cases z⟩
theorem zm8 (sp:Bool):(if kdS sp=Str.ofString "spread" then (1:Int) else 0)=(if sp=true then 1 else 0):=by
 by_cases h:kdS sp=Str.ofString "spread"
 ·rw [if_pos h,if_pos ((zm7 sp).mp h)]
 ·rw [if_neg h,if_neg (fun z=>h ((zm7 sp).mpr z))]
theorem znp (sp:Bool):(if kdS sp=Str.ofString "walk" then (1:Int) else 0)=(if sp=true then 0 else 1):=by
 cases sp
 ·rw [if_pos ((znc false).mpr rfl),if_neg Bool.false_ne_true]
 ·rw [if_neg (fun z=>by cases (znc true).mp z),if_pos rfl]
theorem zo5 {D:zcd} {sp:Bool} {w:Str} {pl:Addr} {xs:List V} {x0 x1 x3 x5 x6 z9:Option V} {vk:V} (hpl:H pl=some (.lst xs)) (lx:xs.length<99999) (lw:w.length≤640)
  (bad:thO sp w=none→∀ t H',za3 H H'→H' t=some (.tup [vk,.non])→D.rt (.ref t) H')
  (good:∀ th v z9 H',thO sp w=some th→Bar pl H H'→H' pl=some (.lst (xs++[v]))→Sh (NwH H H') th v→D.nx [x0,x1,some (.str (kdS sp)),x3,some vk,x5,x6,some (.ref pl),some (.str w),z9] H') :
  za9 K D [x0,x1,some (.str (kdS sp)),x3,some vk,x5,x6,some (.ref pl),some (.str w),z9] H:=by
 unfold za9
 simp_all only [zas,zat,zau,zay,zaw,zar,zav,zaq,zax,zac]
 have lp:∀ x∈Txt.split w (Str.ofString "-"),x.length≤w.length:=by rw [zlg];exact zdU w 45
 have lq:(Txt.split w (Str.ofString "-")).length≤w.length+1:=by rw [zlg];exact zde w 45
 refine ⟨rfl,by decide +kernel,by omega,fun p1 hp1=>⟨⟨_,SqL.of zae⟩,fun D1 hD1=>zhK (SqL.of zae) hD1 (by omega) ?_ ?_⟩⟩
 ·intro i u H' R e s r
  exact ⟨_,rfl,u,rfl,Nat.le_trans (lp u (zc0 e)) lw,r⟩
 intro H1 s1' h1
 have s1:za3 H H1:=(zaA hp1 _).trans s1'
 have et:=zp7 sp w
 generalize Txt.split w (Str.ofString "-")=ws at *
 refine ⟨fun σ H'=>H'=H1∧(∃ ns:List Int,H1 D1=some (.lst (ns.map V.int))∧thO sp w=thN sp ns∧(ns.length:Int)=1+(if sp then 1 else 0))∧σ=[x0,x1,some (.str (kdS sp)),x3,some vk,x5,x6,some (.ref pl),some (.str w),some (.ref D1)],?_,?_⟩
 ·unfold zbD
  simp_all only [zas,zat,zau,zay,zaw,zar,zav,zaq,zax,zac]
  refine ⟨_,.inl (SqL.of h1),rfl,zh0 ws,?_⟩
  have ei:=zm8 sp
  cases hn:zcE ws with
  | none =>
   rw [if_pos (zdf.mp hn)]
   exact ⟨by decide,fun p hp=>bad (by rw [et,hn];rfl) p _ (s1.add hp) zae⟩
  | some ns =>
   rw [if_neg (fun z=>by rw [zdf.mpr z] at hn;cases hn)]
   rw [ze6 hn] at h1
   refine ⟨_,.inl (SqL.of h1),rfl,.inr ?_⟩
   rw [List.length_map,ei]
   by_cases ln:(ns.length:Int)=1+(if sp=true then 1 else 0)
   ·rw [if_neg (fun z=>z ln)]
    exact ⟨ns,h1,by rw [et,hn];rfl,ln⟩
   ·rw [if_pos ln]
    exact ⟨by decide,fun p hp=>bad (by rw [et,hn];exact znT ln) p _ (s1.add hp) zae⟩
 ·rintro σ H2 ⟨rfl,⟨ns,hns,eth,ln⟩,rfl⟩
  unfold zbI
  simp_all only [zas,zat,zau,zay,zaw,zar,zav,zaq,zax,zac]
  have ei:=zm8 sp
  have hpl2:=s1 _ _ hpl
  refine ⟨.inl ⟨rfl,_,SqL.of hpl2⟩,_,SqL.of hns,?_⟩
  rw [ei]
  have fin:∀ (l p:Addr) (us:List V) (v0 v1:V) (th:Tr),H2 l=none→L2.upd H2 l (.tup us) p=none→thO sp w=some th→Sh (NwH H (L2.upd (L2.upd (L2.upd H2 l (.tup us)) p (.lst [v0,.ref l])) pl (.lst (xs++[v1])))) th v1 →
    ∃ x_1,L2.upd (L2.upd H2 l (.tup us)) p (.lst [v0,.ref l]) pl=some (.lst x_1)∧x_1.length<sizeLine∧D.nx [x0,x1,some (.str (kdS sp)),x3,some vk,x5,x6,some (.ref pl),some (.str w),some (.ref D1)] (L2.upd (L2.upd (L2.upd H2 l (.tup us)) p (.lst [v0,.ref l])) pl (.lst (x_1++[v1]))):=fun l p us v0 v1 th hl hp e hs =>
   ⟨xs,((zaA hl _).add hp) _ _ hpl2,zc5 (by omega),good th v1 _ _ e (fun b o n e=>by rw [zap n];exact ((zaA hl _).add hp) _ _ (s1 _ _ e)) zae hs⟩
  cases sp
  ·obtain ⟨x,rfl⟩:∃ x,ns=[x]:=by
    match ns,ln with
    | [x],_=>exact ⟨x,rfl⟩
    | [],h=>exact absurd h (by decide)
    | _::_::l,h=>rw [if_neg Bool.false_ne_true,List.length_cons,List.length_cons] at h;omega
   refine ⟨.int x,za0 (j:=0) rfl,_,.inl ⟨SqL.of hns,fun l hl=>⟨by decide,fun p hp=>⟨rfl,.inr ⟨_,SqL.of zae,.int x,za0 (j:=0) rfl,fin l p _ _ _ (.int x) hl hp eth (.int x)⟩⟩⟩⟩⟩
  ·obtain ⟨x,y,rfl⟩:∃ x y,ns=[x,y]:=by
    match ns,ln with
    | [x,y],_=>exact ⟨x,y,rfl⟩
    | [],h=>exact absurd h (by decide)
    | [_],h=>rw [if_pos rfl,List.length_singleton] at h;omega
    | _::_::_::l,h=>rw [if_pos rfl,List.length_cons,List.length_cons,List.length_cons] at h;omega
   refine ⟨.int x,za0 (j:=0) rfl,_,.inl ⟨SqL.of hns,fun l hl=>⟨by decide,fun p hp=>⟨rfl,.inr ⟨_,SqL.of zae,.ref l,za0 (j:=1) rfl,fin l p _ _ _ (.tup [.int x,.int y]) hl hp eth (ShL.tp (ShL.ints [x,y]) (zcl.mpr ⟨s1.free hl,?_⟩))⟩⟩⟩⟩⟩
   have n1:l≠pl:=fun z=>by rw [z,hpl2] at hl;cases hl
   have n2:l≠p:=fun z=>by rw [← z,zae] at hp;cases hp
   rw [zap n1,zap n2]
   exact zae
def shT (sp:Bool) (w1:Str) (wt:List Str):Option Tr:=(zcY w1).bind fun n=>if n<1 then none else (plO sp wt).map fun p=>.tup [.lst p,.int n]
theorem zp4 {sp:Bool} {w1:Str} {wt:List Str} (h:plO sp wt=none):shT sp w1 wt=none:=by
 unfold shT
 rw [h]
 cases zcY w1 with
 | none=>rfl
 | some n =>
  show (if n<1 then none else none)=none
  split <;> rfl
theorem zqL {D:zcd} {sp:Bool} {w0 w1:Str} {wt:List Str} {pp pw:Addr} {ys:List V} {x0 x1 x6 x7 x8 x9:Option V} {vk:V} (hpp:H pp=some (.lst ys)) (hpw:H pw=some (.lst ((w0::w1::wt).map V.str))) (ly:ys.length<99999) (lt:wt.length≤90000) (lw:∀ w∈w1::wt,w.length≤640)
  (bad:shT sp w1 wt=none→∀ t H',Bar pp H H'→H' t=some (.tup [vk,.non])→D.rt (.ref t) H')
  (good:∀ th v z6 z7 z8 z9 H',shT sp w1 wt=some th→Bar pp H H'→H' pp=some (.lst (ys++[v]))→Sh (NwH H H') th v→D.nx [x0,x1,some (.str (kdS sp)),some (.ref pp),some vk,some (.ref pw),z6,z7,z8,z9] H') :
  zbl K D [x0,x1,some (.str (kdS sp)),some (.ref pp),some vk,some (.ref pw),x6,x7,x8,x9] H:=by
 unfold zbl
 simp_all only [zas,zat,zau,zay,zaw,zar,zav,zaq,zax,zac]
 refine ⟨_,SqL.of hpw,.str w1,za0 (j:=1) rfl,w1,rfl,lw w1 (List.mem_cons_self ..),fun Ha sa=>⟨by decide,fun pl hpl=>⟨_,SqL.of ((sa.add hpl) _ _ hpw),fun sl hsl=>?_⟩⟩⟩
 have ec:zko ((w0::w1::wt).map V.str) (some 2) none=wt.map V.str:=zm4 _ 2
 rw [ec]
 generalize eH:L2.upd (L2.upd Ha pl (.lst [])) sl (.lst (wt.map V.str))=H1
 have nps:pl≠sl:=fun z=>by rw [← z,zae] at hsl;cases hsl
 have s1:za3 H H1:=by rw [← eH];exact (sa.add hpl).add hsl
 have h1p:H1 pl=some (.lst []):=by rw [← eH,zap nps,zae]
 have h1s:H1 sl=some (.lst (wt.map V.str)):=by rw [← eH,zae]
 have hHpl:H pl=none:=sa.free hpl
 have npp:pp≠pl:=fun z=>by rw [z,hHpl] at hpp;cases hpp
 have toB:∀ H',Bar pl H1 H'→Bar pp H H':=fun H' b b' o n e=>b _ _ (fun z=>by rw [z,hHpl] at e;cases e) (s1 _ _ e)
 refine ⟨⟨_,SqL.of h1s⟩,?_⟩
 refine zfM (xs:=wt.map V.str) (fun j σ H'=>Bar pl H1 H'∧(∀ (i:Nat) w,i<j→wt[i]?=some w→thO sp w≠none)∧(∃ xs,H' pl=some (.lst xs)∧xs.length=j∧ShL (NwH H1 H') ((wt.take j).filterMap (thO sp)) xs)∧∃ z8 z9,σ=[x0,x1,some (.str (kdS sp)),some (.ref pp),some vk,some (.ref pw),some (zhs (zcY w1)),some (.ref pl),z8,z9]) ⟨fun _ _ _ e=>e,fun i w h=>absurd h (Nat.not_lt_zero _),⟨[],h1p,rfl,.nil⟩,_,_,rfl⟩ ?_ ?_ ?_
 ·rintro j σ H' _ ⟨b,_⟩
  exact SqL.of (b _ _ nps.symm h1s)
 ·rintro j x σ H' e ⟨b,hb,⟨xs,hx,lx,sx⟩,z8,z9,rfl⟩
  obtain ⟨w,ew,rfl⟩:=zgu e
  have lj:=(List.getElem?_eq_some_iff.mp ew).1
  show za9 K _ [x0,x1,some (.str (kdS sp)),some (.ref pp),some vk,some (.ref pw),some (zhs (zcY w1)),some (.ref pl),some (.str w),z9] H'
  refine zo5 hx (by omega) (lw w (List.mem_cons_of_mem _ (zc0 ew))) (fun hn t H2 s2 ht=>?_) (fun th v z9 H2 hth b2 h2 sh2=>?_)
  ·exact bad (zp4 (zjB (zc0 ew) hn)) t H2 (fun b' o n e=>s2 _ _ (toB H' b b' o n e)) ht
  ·refine ⟨fun b' o n e=>b2 _ _ n (b _ _ n e),fun i u hi eu=>?_,⟨xs++[v],h2,by rw [List.length_append,lx];rfl,?_⟩,_,_,rfl⟩
   ·by_cases z:i<j
    ·exact hb i u z eu
    ·have:i=j:=by omega
     subst this
     rw [ew] at eu
     cases eu
     rw [hth]
     exact fun z=>by cases z
   ·have nb:∀ b',H1 b'=none→b'≠pl:=fun b' h z=>by rw [z,h1p] at h;cases h
    rw [List.take_add_one,ew,List.filterMap_append]
    refine ShL.append (sx.same (zbE fun b' o e1 e2=>⟨e1,b2 _ _ (nb b' e1) e2⟩)) ?_
    have:List.filterMap (thO sp) (some w).toList=[th]:=by simp [hth]
    rw [this]
    refine .one (sh2.same (zbE fun b' o e1 e2=>⟨?_,e2⟩))
    cases h0:H1 b' with
    | none=>rfl
    | some o' =>
     have n:b'≠pl:=fun z=>by rw [z,hx] at e1;cases e1
     rw [b _ _ n h0] at e1
     cases e1
 ·rintro σ H' ⟨b,hb,⟨xs,hx,lx,sx⟩,z8,z9,rfl⟩
  rw [List.length_map] at hb lx sx
  rw [List.take_of_length_le (Nat.le_refl _)] at sx
  have epl:plO sp wt=some (wt.filterMap (thO sp)):=zjk fun w hw=>by
   obtain ⟨i,hi⟩:=List.mem_iff_getElem?.mp hw
   exact hb i w (List.getElem?_eq_some_iff.mp hi).1 hi
  unfold zbH
  simp_all only [zas,zat,zau,zay,zaw,zar,zav,zaq,zax,zac]
  have badp:shT sp w1 wt=none→2≤sizeLine∧∀ p,H' p=none→D.rt (.ref p) (L2.upd H' p (.tup [vk,.non])):=fun e=>⟨by decide,fun p hp=>bad e p _ (fun b' o n e=>((zaA hp _) _ _ (toB H' b b' o n e))) zae⟩
  refine ⟨fun σ H2=>H2=H'∧(∃ n,zcY w1=some n∧¬ n<1)∧σ=[x0,x1,some (.str (kdS sp)),some (.ref pp),some vk,some (.ref pw),some (zhs (zcY w1)),some (.ref pl),z8,z9],?_,?_⟩
  ·simp_all only [zas,zat,zau,zay,zaw,zar,zav,zaq,zax,zac]
   cases hn:zcY w1 with
   | none =>
    show ite (V.non=V.non) _ _
    rw [if_pos rfl]
    exact badp (by unfold shT;rw [hn];rfl)
   | some n =>
    show ite (V.int n=V.non) _ _
    rw [if_neg (fun z=>V.noConfusion z)]
    refine ⟨n,rfl,?_⟩
    by_cases n1:n<1
    ·rw [if_pos n1]
     refine badp ?_
     unfold shT
     rw [hn]
     exact if_pos n1
    ·rw [if_neg n1]
     exact ⟨n,rfl,n1⟩
  ·rintro σ H2 ⟨rfl,⟨n,hn,n1⟩,rfl⟩
   have hpp2:=b _ _ npp (s1 _ _ hpp)
   have esh:shT sp w1 wt=some (.tup [.lst (wt.filterMap (thO sp)),.int n]):=by
    unfold shT
    rw [hn,epl]
    exact if_neg n1
   rw [hn]
   simp_all only [zas,zat,zau,zay,zaw,zar,zav,zaq,zax,zac]
   refine ⟨.inl ⟨rfl,_,SqL.of hpp2⟩,by decide,fun tp htp=>⟨ys,(zaA htp _) _ _ hpp2,zc5 (by omega),?_⟩⟩
   have nt1:tp≠pp:=fun z=>by rw [z,hpp2] at htp;cases htp
   have nt2:tp≠pl:=fun z=>by rw [z,hx] at htp;cases htp
   have bb:Bar pp H (L2.upd (L2.upd H2 tp (.tup [.ref pl,.int n])) pp (.lst (ys++[.ref tp]))):=fun b' o n e=>by
    rw [zap n]
    exact (zaA htp _) _ _ (toB H2 b b' o n e)
   have hHt:H tp=none:=by
    cases h:H tp with
    | none=>rfl
    | some o=>rw [toB H2 b tp o nt1 h] at htp;cases htp
   refine good _ (.ref tp) _ _ _ _ _ esh bb zae (ShL.tp (.cons (ShL.sh (p:=pl) (xs:=xs) (sx.same (zbE fun b' o e1 e2=>?_)) (zcl.mpr ⟨hHpl,?_⟩)) (.one (.int n))) (zcl.mpr ⟨hHt,?_⟩))
   ·have m1:b'≠pp:=fun z=>by rw [z,s1 _ _ hpp] at e1;cases e1
    have m2:b'≠tp:=fun z=>by rw [z,htp] at e2;cases e2
    exact ⟨s1.free e1,by rw [zap m1,zap m2];exact e2⟩
   ·rw [zap npp.symm,zap nt2.symm]
    exact hx
   ·rw [zap nt1,zae]
    rfl
theorem zk9 {sp:Bool} {r w0 w1:Str} {wt:List Str} (e:Txt.split r (Str.ofString " ")=w0::w1::wt) (h0:w0=kdS sp) (l:(if sp then 2 else 3)≤(w1::wt).length+1):shO sp r=shT sp w1 wt:=by
 unfold shO
 show (if (Txt.split r (Str.ofString " ")).getD 0 ""=kdS sp∧(if sp then 2 else 3)≤(Txt.split r (Str.ofString " ")).length then _ else none)=_
 rw [if_pos ⟨by rw [e];exact h0,by rw [e];exact l⟩,e]
 rfl
theorem znd {sp:Bool} {r w0:Str} {wr:List Str} (e:Txt.split r (Str.ofString " ")=w0::wr) (h:w0≠kdS sp∨wr.length+1<(if sp then 2 else 3)):shO sp r=none:=by
 unfold shO
 show (if (Txt.split r (Str.ofString " ")).getD 0 ""=kdS sp∧(if sp then 2 else 3)≤(Txt.split r (Str.ofString " ")).length then _ else none)=_
 rw [if_neg]
 rw [e]
 rintro ⟨h1,h2⟩
 rcases h with h | h
 ·exact h h1
 ·rw [List.length_cons] at h2
  omega
def WrI (H0:Hp) (text u0:Str) (rows:List Str) (p pp:Addr) (i:Nat) (σ:St) (H':Hp):Prop:=Bar pp H0 H'∧i≤rows.length∧∃ (sp:Bool) (kv:Str),((i=0∧kv=Str.ofString "")∨(0<i∧u0=kdS sp∧kv=kdS sp))∧(∀ (j:Nat) r,j<i→rows.dropLast[j]?=some r→shO sp r≠none)∧(∃ ys,H' pp=some (.lst ys)∧ys.length=min i (rows.length - 1)∧ShL (NwH H0 H') ((rows.dropLast.take i).filterMap (shO sp)) ys)∧(i=rows.length→rows.length - 1≠0∧rows.getLastD ""="")∧∃ z4 z5 z6 z7 z8 z9,σ=[some (.str text),some (.ref p),some (.str kv),some (.ref pp),z4,z5,z6,z7,z8,z9]
theorem zef {text:Str} (hr:Rn 640 text) (lt:text.length≤80000) (q1:∀ (k:Nat) t H',zf2 text=.inl k→za3 H H'→H' t=some (.tup [.int k,.non])→Q (.ref t) H')
  (q2:∀ sp ts t d H',zf2 text=.inr (sp,ts)→za3 H H'→H' t=some (.tup [.non,d])→Sh H' (.tup [.str (kdS sp),.lst ts]) d→Q (.ref t) H'):zcn K { nx:=fun _ H'=>Q .non H',rt:=Q } (L2.zci ["_law_text","_law_rows","_law_kind","_law_paper_here","_law_k","_law_words","_law_weight","_law_plan","_law_word","_law_numbers"] [.str text]) H:=by
 unfold zcn
 simp_all only [zas,zat,zau,zay,zaw,zar,zav,zaq,zax,zac]
 refine ⟨rfl,by decide +kernel,by omega,fun p hp=>⟨by decide,fun pp hpp=>?_⟩⟩
 have et:=zp1 text
 generalize eR:Txt.split text (Str.ofString "\n")=rows at *
 have rln:rows.length≤80001:=by
  rw [← eR,zgf]
  have:=zde text 10
  omega
 have rok:∀ r∈rows,Rn 640 r∧10∉sgn r∧r.length≤80000:=fun r h=>by
  rw [← eR,zgf] at h
  exact ⟨zfv hr r h,StrLaws.split_free text 10 r h,Nat.le_trans (zdU text 10 r h) (by omega)⟩
 obtain ⟨r0,zfq,er⟩:∃ r0 zfq,rows=r0::zfq:=by
  cases h:rows with
  | nil=>rw [h] at eR;exact absurd eR (zcM _ _)
  | cons a l=>exact ⟨a,l,rfl⟩
 obtain ⟨u0,ur,eu⟩:∃ u0 ur,Txt.split r0 (Str.ofString " ")=u0::ur:=by
  cases h:Txt.split r0 (Str.ofString " ") with
  | nil=>exact absurd h (zcM _ _)
  | cons a l=>exact ⟨a,l,rfl⟩
 have et2:zf2 text=zjE u0 rows:=by
  rw [et]
  show zjE ((Txt.split (rows.headD "") (Str.ofString " ")).headD "") rows=_
  rw [er,show (r0::zfq).headD ""=r0 from rfl,eu]
  rfl
 have l1:1≤rows.length:=by rw [er,List.length_cons];omega
 have npp:p≠pp:=fun z=>by rw [z,zae] at hpp;cases hpp
 generalize eH:L2.upd (L2.upd H p (.lst (rows.map V.str))) pp (.lst [])=H0
 have s0:za3 H H0:=by rw [← eH];exact (zaA hp _).add hpp
 have h0p:H0 p=some (.lst (rows.map V.str)):=by rw [← eH,zap npp,zae]
 have h0q:H0 pp=some (.lst []):=by rw [← eH,zae]
 have hHq:H pp=none:=(zaA hp _).free hpp
 refine ⟨_,.inl (SqL.of h0p),by omega,by rw [List.length_map];omega,?_⟩
 have en:(((rows.map V.str).length:Nat):Int).toNat=rows.length:=by rw [Int.toNat_natCast,List.length_map]
 rw [en]
 have ldl:rows.dropLast.length=rows.length - 1:=List.length_dropLast
 have toS:∀ H',Bar pp H0 H'→za3 H H':=fun H' b b' o e=>b _ _ (zaL e hHq) (s0 _ _ e)
 refine zcO (WrI H0 text u0 rows p pp)
  ⟨fun _ _ _ e=>e,Nat.zero_le _,false,_,.inl ⟨rfl,rfl⟩,fun j r h=>absurd h (Nat.not_lt_zero _),⟨[],h0q,by rw [Nat.zero_min];rfl,.nil⟩,fun z=>absurd z (by omega),_,_,_,_,_,_,rfl⟩ ?_ ?_
 ·rintro i σ H' hi ⟨b,_,sp,kv,hk,hb,⟨ys,hy,ly,sy⟩,_,z4,z5,z6,z7,z8,z9,rfl⟩
  obtain ⟨r,hri⟩:∃ r,rows[i]?=some r:=⟨_,List.getElem?_eq_getElem hi⟩
  have e0i:((0:Int)+(i:Int))=(i:Int):=Int.zero_add _
  have badp:∀ H2,Bar pp H0 H2→zf2 text=.inl i→2≤sizeLine∧∀ t,H2 t=none→Q (.ref t) (L2.upd H2 t (.tup [.int i,.non])):=fun H2 b2 e=>⟨by decide,fun t ht=>q1 i t _ e ((toS H2 b2).add ht) zae⟩
  simp_all only [zas,zat,zau,zay,zaw,zar,zav,zaq,zax,zac]
  rw [e0i]
  refine ⟨fun σ H2=>H2=H'∧i<rows.length - 1∧σ=[some (.str text),some (.ref p),some (.str kv),some (.ref pp),some (.int i),z5,z6,z7,z8,z9],?_,?_⟩
  ·unfold zb8
   simp_all only [zas,zat,zau,zay,zaw,zar,zav,zaq,zax,zac]
   refine ⟨_,.inl (SqL.of (b _ _ npp h0p)),?_⟩
   rw [List.length_map]
   by_cases z:(i:Int)=(rows.length:Int) - 1
   ·rw [if_pos z]
    have hil:i=rows.length - 1:=by omega
    have hl0:rows.getLastD ""=r:=by
     rw [List.getLastD_eq_getLast?,List.getLast?_eq_getElem?,← hil,hri]
     rfl
    have hall:∀ (j:Nat) r,rows.dropLast[j]?=some r→shO sp r≠none:=fun j r e=>hb j r (by have:=(List.getElem?_eq_some_iff.mp e).1;omega) e
    have e1:i=0→zf2 text=.inl i:=fun h0=>by
     have:zfq=[]:=by
      rw [h0,er,List.length_cons] at hil
      exact List.eq_nil_of_length_eq_zero (by omega)
     rw [et2,er,this,h0]
     exact zeP fun sp=>ziV sp r0
    have e2:r≠Str.ofString ""→zf2 text=.inl i:=fun hne=>by
     rcases hk with ⟨h0,_⟩ | ⟨h0,hu,_⟩
     ·exact e1 h0
     ·rw [et2,hu,zlB,zi0 hall,if_pos (.inr (by rw [hl0];exact hne)),← hil]
    refine ⟨fun σ H2=>H2=H'∧i≠0∧r=Str.ofString ""∧σ=[some (.str text),some (.ref p),some (.str kv),some (.ref pp),some (.int i),z5,z6,z7,z8,z9],?_,?_⟩
    ·unfold zbG
     simp_all only [zas,zat,zau,zay,zaw,zar,zav,zaq,zax,zac]
     refine ⟨_,SqL.of (b _ _ npp h0p),.str r,za0 (by rw [List.getElem?_map,hri];rfl),rfl,?_⟩
     by_cases hne:r=Str.ofString ""
     ·rw [if_neg (fun z=>z (by rw [hne]))]
      by_cases h0:i=0
      ·rw [if_pos (by omega)]
       exact badp H' b (e1 h0)
      ·rw [if_neg (by omega)]
       exact ⟨h0,hne⟩
     ·rw [if_pos (fun z=>hne (V.str.inj z))]
      exact badp H' b (e2 hne)
    ·rintro σ H2 ⟨rfl,h0,hne,rfl⟩
     rcases hk with ⟨h0',_⟩ | ⟨h0',hu,hkv⟩
     ·exact absurd h0' h0
     ·show WrI H0 text u0 rows p pp (i+1) _ _
      refine ⟨b,by omega,sp,kv,.inr ⟨by omega,hu,hkv⟩,fun j r _ e=>hall j r e,⟨ys,hy,by omega,?_⟩,fun _=>⟨by omega,by rw [hl0,hne]⟩,_,_,_,_,_,_,rfl⟩
      rw [List.take_of_length_le (by omega)] at sy ⊢
      exact sy
   ·rw [if_neg z]
    omega
  ·rintro σ H2 ⟨rfl,hi2,rfl⟩
   unfold zb5
   simp_all only [zas,zat,zau,zay,zaw,zar,zav,zaq,zax,zac]
   obtain ⟨k1,k2,k3⟩:=rok r (zc0 hri)
   refine ⟨_,SqL.of (b _ _ npp h0p),.str r,za0 (by rw [List.getElem?_map,hri];rfl),rfl,r,rfl,by decide +kernel,by omega,fun pw hpw=>?_⟩
   have lws:=zjK k1 k2
   have lwn:(Txt.split r (Str.ofString " ")).length≤80001:=by
    rw [zhM]
    have:=zde r 32
    omega
   obtain ⟨w0,wr,ew⟩:∃ w0 wr,Txt.split r (Str.ofString " ")=w0::wr:=by
    cases h:Txt.split r (Str.ofString " ") with
    | nil=>exact absurd h (zcM _ _)
    | cons a l=>exact ⟨a,l,rfl⟩
   rw [ew] at lws lwn ⊢
   have hdl:rows.dropLast[i]?=some r:=by rw [List.getElem?_dropLast,if_pos hi2];exact hri
   generalize eH3:L2.upd H2 pw (.lst ((w0::wr).map V.str))=H3
   have s3:za3 H2 H3:=by rw [← eH3];exact zaA hpw _
   have h3w:H3 pw=some (.lst ((w0::wr).map V.str)):=by rw [← eH3,zae]
   have b3:Bar pp H0 H3:=fun b' o n e=>s3 _ _ (b b' o n e)
   have h3y:=s3 _ _ hy
   refine ⟨fun σ H4=>H4=H3∧σ=[some (.str text),some (.ref p),some (.str u0),some (.ref pp),some (.int i),some (.ref pw),z6,z7,z8,z9],?_,?_⟩
   ·simp_all only [zas,zat,zau,zay,zaw,zar,zav,zaq,zax,zac]
    by_cases h0:(i:Int)=0
    ·rw [if_pos h0]
     refine ⟨_,SqL.of h3w,.str w0,za0 (j:=0) rfl,?_⟩
     have:i=0:=by omega
     rw [this,er] at hri
     have e0:r0=r:=Option.some.inj hri
     rw [e0,ew] at eu
     rw [(List.cons.inj eu).1]
    ·rw [if_neg h0]
     rcases hk with ⟨h0',_⟩ | ⟨_,hu,hkv⟩
     ·omega
     ·rw [hu,hkv]
   ·rintro σ H4 ⟨rfl,rfl⟩
    simp_all only [zas,zat,zau,zay,zaw,zar,zav,zaq,zax,zac]
    have fits:∀ sp',u0=kdS sp'→(∀ (j:Nat) r,j<i→rows.dropLast[j]?=some r→shO sp' r≠none)∧ShL (NwH H0 H4) ((rows.dropLast.take i).filterMap (shO sp')) ys:=fun sp' hu=>by
     rcases hk with ⟨h0,_⟩ | ⟨h0,hu2,_⟩
     ·subst h0
      have:ys=[]:=List.eq_nil_of_length_eq_zero (by omega)
      rw [this]
      exact ⟨fun j r h=>absurd h (Nat.not_lt_zero _),.nil⟩
     ·have:sp=sp':=by
       rw [hu2] at hu
       cases sp <;> cases sp'
       ·rfl
       ·exact absurd hu.symm zd1
       ·exact absurd hu zd1
       ·rfl
      subst this
      exact ⟨hb,sy.same (zeE (.refl _) s3)⟩
    have bad2:∀ sp',u0=kdS sp'→shO sp' r=none→zf2 text=.inl i:=fun sp' hu hn=>by
     rw [et2,hu,zlB,zi6 hdl hn (fits sp' hu).1]
    refine ⟨fun σ H5=>H5=H4∧(∃ sp' w1 wt,u0=kdS sp'∧wr=w1::wt∧shO sp' r=shT sp' w1 wt)∧σ=[some (.str text),some (.ref p),some (.str u0),some (.ref pp),some (.int i),some (.ref pw),z6,z7,z8,z9],?_,?_⟩
    ·unfold zbF
     simp_all only [zas,zat,zau,zay,zaw,zar,zav,zaq,zax,zac]
     have rst:∀ sp',u0=kdS sp'→∃ xs,SqL K H4 pw xs∧∃ v,atI xs 0=some v∧zpK v (V.str u0)=true∧if ¬v=V.str u0 then 2≤sizeLine∧∀ p,H4 p=none→Q (V.ref p) (L2.upd H4 p (HO.tup [V.int ↑i,V.non])) else ∃ x,(SqL K H4 pw x∨SqT K H4 pw x)∧zpK (V.str u0) (V.str (Str.ofString "walk"))=true ∧
       ((False∧∃ x_1:Int,if (x.length:Int)<2+x_1 then 2≤sizeLine∧∀ p,H4 p=none→Q (V.ref p) (L2.upd H4 p (HO.tup [V.int ↑i,V.non])) else ∃ sp',u0=kdS sp'∧∃ x x_2,wr=x::x_2∧shO sp' r=shT sp' x x_2) ∨
        if (x.length:Int)<2+(if u0=Str.ofString "walk" then 1 else 0) then 2≤sizeLine∧∀ p,H4 p=none→Q (V.ref p) (L2.upd H4 p (HO.tup [V.int ↑i,V.non])) else ∃ sp',u0=kdS sp'∧∃ x x_1,wr=x::x_1∧shO sp' r=shT sp' x x_1):=fun sp' hu=>by
      refine ⟨_,SqL.of h3w,.str w0,za0 (j:=0) rfl,rfl,?_⟩
      by_cases hw:w0=u0
      ·rw [if_neg (fun z=>z (by rw [hw]))]
       refine ⟨_,.inl (SqL.of h3w),rfl,.inr ?_⟩
       have ei:=znp sp'
       rw [← hu] at ei
       rw [ei,List.length_map,List.length_cons]
       by_cases ln:((wr.length+1:Nat):Int)<2+(if sp'=true then 0 else 1)
       ·rw [if_pos ln]
        refine badp _ b3 (bad2 sp' hu (znd ew (.inr ?_)))
        cases sp'
        ·rw [if_neg Bool.false_ne_true] at ln ⊢
         omega
        ·rw [if_pos rfl] at ln ⊢
         omega
       ·rw [if_neg ln]
        have ln2:(if sp' then 2 else 3)≤wr.length+1:=by
         cases sp'
         ·rw [if_neg Bool.false_ne_true] at ln ⊢
          omega
         ·rw [if_pos rfl] at ln ⊢
          omega
        obtain ⟨w1,wt,rfl⟩:∃ w1 wt,wr=w1::wt:=by
         cases wr with
         | nil=>cases sp' <;> exact absurd ln2 (by decide)
         | cons a l=>exact ⟨a,l,rfl⟩
        exact ⟨sp',hu,w1,wt,rfl,zk9 ew (hw.trans hu) ln2⟩
      ·rw [if_pos (fun z=>hw (V.str.inj z))]
       exact badp _ b3 (bad2 sp' hu (znd ew (.inl (fun z=>hw (z.trans hu.symm)))))
     refine ⟨rfl,?_⟩
     by_cases hw:u0=Str.ofString "walk"
     ·rw [if_neg (fun z=>z hw)]
      exact rst false hw
     ·rw [if_pos hw]
      refine ⟨rfl,?_⟩
      by_cases hs:u0=Str.ofString "spread"
      ·rw [if_neg (fun z=>z hs)]
       exact rst true hs
      ·rw [if_pos hs]
       have hnk:∀ sp,u0≠kdS sp:=fun sp z=>by
        cases sp
        ·exact hw z
        ·exact hs z
       refine badp _ b3 ?_
       rcases hk with ⟨h0,_⟩ | ⟨_,hu,_⟩
       ·rw [et2,znr hnk,h0]
       ·exact absurd hu (hnk sp)
    ·rintro σ H5 ⟨rfl,⟨sp',w1,wt,hu,rfl,esh⟩,rfl⟩
     have lyy:ys.length≤i:=by omega
     subst hu
     refine zqL (sp:=sp') h3y h3w (by omega) (by rw [List.length_cons,List.length_cons] at lwn;omega) (fun w hw=>lws w (List.mem_cons_of_mem _ hw)) (fun hn t H6 b6 ht=>?_) (fun th v z6 z7 z8 z9 H6 hth b6 h6 sh6=>?_)
     ·exact q1 i t H6 (bad2 sp' rfl (by rw [esh,hn])) (fun b' o e=>b6 _ _ (zaL e hHq) (toS _ b3 _ _ e)) ht
     ·obtain ⟨f1,f2⟩:=fits sp' rfl
      show WrI H0 text (kdS sp') rows p pp (i+1) _ _
      refine ⟨fun b' o n e=>b6 _ _ n (b3 b' o n e),by omega,sp',kdS sp',.inr ⟨by omega,rfl,rfl⟩,fun j r' hj e'=>?_,⟨ys++[v],h6,by rw [List.length_append,List.length_singleton];omega,?_⟩,fun z=>absurd z (by omega),_,_,_,_,_,_,rfl⟩
      ·by_cases z:j<i
       ·exact f1 j r' z e'
       ·have:j=i:=by omega
        subst this
        rw [hdl] at e'
        cases e'
        rw [esh,hth]
        exact fun z=>by cases z
      ·have nr:∀ b',H0 b'=none→b'≠pp:=fun b' h z=>by rw [z,h0q] at h;cases h
       rw [List.take_add_one,hdl,List.filterMap_append]
       refine ShL.append (f2.same (zbE fun b' o e1 e2=>⟨e1,b6 _ _ (nr b' e1) e2⟩)) ?_
       have:List.filterMap (shO sp') (some r).toList=[th]:=by simp [esh,hth]
       rw [this]
       refine .one (sh6.same (zbE fun b' o e1 e2=>⟨?_,e2⟩))
       cases h0:H0 b' with
       | none=>rfl
       | some o' =>
        have n:b'≠pp:=fun z=>by rw [z,h3y] at e1;cases e1
        rw [b3 _ _ n h0] at e1
        cases e1
 ·rintro σ H' ⟨b,_,sp,kv,hk,hb,⟨ys,hy,ly,sy⟩,hlast,z4,z5,z6,z7,z8,z9,rfl⟩
  simp_all only [zas,zat,zau,zay,zaw,zar,zav,zaq,zax,zac]
  rcases hk with ⟨h0,_⟩ | ⟨h0,hu,hkv⟩
  ·omega
  obtain ⟨l2,hle⟩:=hlast rfl
  have hall:∀ (j:Nat) r,rows.dropLast[j]?=some r→shO sp r≠none:=fun j r e=>hb j r (by have:=(List.getElem?_eq_some_iff.mp e).1;omega) e
  rw [List.take_of_length_le (by omega)] at sy
  have eo:zf2 text=.inr (sp,rows.dropLast.filterMap (shO sp)):=by
   rw [et2,hu,zlB,zi0 hall,if_neg]
   rintro (z | z)
   ·rw [z] at ldl
    exact l2 ldl.symm
   ·exact z hle
  refine ⟨by decide,fun d hd=>⟨by decide,fun t ht=>?_⟩⟩
  refine q2 sp _ t (.ref d) _ eo (((toS H' b).add hd).add ht) zae ?_
  have ndt:d≠t:=fun z=>by rw [← z,zae] at ht;cases ht
  refine ShL.tp (xs:=[.str kv,.ref pp]) (.cons (by rw [hkv];exact .str _) (.one (ShL.sh (xs:=ys) (sy.same ?_) ?_))) (by rw [zap ndt,zae])
  ·exact zjp.trans ((zaA hd _).add ht)
  ·exact ((zaA hd _).add ht) _ _ hy
theorem zaO:zbo ["_law_text","_law_rows","_law_kind","_law_paper_here","_law_k","_law_words","_law_weight","_law_plan","_law_word","_law_numbers"] ["_law_text"] (zaI zbY):=⟨rfl,rfl,rfl,by decide +kernel,rfl,by decide +kernel,by decide +kernel⟩
theorem zer (T:Txt K mg base a):zdD P w K mg base CX0 2 a.f__law_paper_wrong a.d__law_paper_wrong ["_law_text"] (zi4 K):=by
 have G__law_word_number:=zeq (P:=P) (w:=w) (base:=base) T
 refine T.F__law_paper_wrong.ok zaO (fun vs H Q E h=>?_) (fun cdv A outer s H vs Q E hr h=>?_)
 ·obtain ⟨text,rfl,hR,lt,q1,q2⟩:=h
  rfl
 obtain ⟨text,rfl,hR,lt,q1,q2⟩:=h
 exact ⟨zcn K,(zaf (zaR (i:=1) zaO.nd rfl (Or.inl rfl) (zda PySem.F.plainAttrs_str PySem.F.slot_str_split PySem.F.type_str_split zds (pv 0) (zaa zaS zag)))
 (zaf (zaR (i:=2) zaO.nd rfl (Or.inl rfl) zaS)
 (zaf (zaR (i:=3) zaO.nd rfl (Or.inl rfl) (zb3 zag))
 (zaf (zdJ PassesOwn.never rfl (zcS rfl T.z_range (zaa (zaF zaY rfl T.z_len PySem.boot_len (zaa (pv 1) zag)) zag)) (zbm (i:=4) zaO.nd rfl (Or.inl rfl))
 (zaf (zbj (zbW (zaJ zcD (pv 4) (zaK zk3 (zaF zaY rfl T.z_len PySem.boot_len (zaa (pv 1) zag)) zaz) (zaQ _)) (zaf (zbj (zbW (PW.pt (zd0 (zaJ zeJ (zch zbg (pv 1) (pv 4) (fun _ _=>rfl)) zaS (zaQ _)) (zdd (zaJ zcD (pv 4) zaz (zaQ _))))) (zaD (zaZ (zdv (zaa (pv 4) (zaa zbC zag))))) zaW))
 (zaD ziH)) zaW))
 (zaf (zaR (i:=5) zaO.nd rfl (Or.inl rfl) (zda PySem.F.plainAttrs_str PySem.F.slot_str_split PySem.F.type_str_split zds (zch zbg (pv 1) (pv 4) (fun _ _=>rfl)) (zaa zaS zag)))
 (zaf (zbj (zbW (zaJ zcD (pv 4) zaz (zaQ _)) (zaD (zaR (i:=2) zaO.nd rfl (Or.inl rfl) (zch zbg (pv 5) zaz (fun _ _=>rfl)))) zaW))
 (zaf (zbj (zbW (PW.pt (zd0 (PW.pt (zjr (zaJ zeJ (pv 2) zaS (zaQ _)) (zgI (zaJ zeJ (pv 2) zaS (zaQ _))))) (zd0 (zaJ zeJ (zch zbg (pv 5) zaz (fun _ _=>rfl)) (pv 2) (zaQ _)) (zdd (zaJ zlF (zaF zaY rfl T.z_len PySem.boot_len (zaa (pv 5) zag)) (zaK zb1 zaz (zbT ze2 rfl T.z_int zcK (zaa (zcu zcD (pv 2) zaS (zaQ _)) zag))) (zaQ _)))))) (zaD (zaZ (zdv (zaa (pv 4) (zaa zbC zag))))) zaW))
 (zaf (zaR (i:=6) zaO.nd rfl (Or.inl rfl) (zbh G__law_word_number (hr.mono (by decide)) rfl T.m__law_word_number T.F__law_word_number.kp T.b__law_word_number .nil zcp (zaa (zch zbg (pv 5) zaz (fun _ _=>rfl)) zag)))
 (zaf (zaR (i:=7) zaO.nd rfl (Or.inl rfl) (zb3 zag))
 (zaf (zdJ PassesOwn.never rfl (ze9 (zbv zcW (pv 5) (zbX zaz) zbV)) (zbm (i:=8) zaO.nd rfl (Or.inl rfl))
 (zaf (zff (i:=9) zaO.nd rfl rfl (sc:=zaI zbY) (N:=["_law_text","_law_rows","_law_kind","_law_paper_here","_law_k","_law_words","_law_weight","_law_plan","_law_word","_law_numbers"]) (Nc:=["_law_part"]) (cap:=[none]) rfl rfl rfl (.of (by decide +kernel)) (ze9 (zda PySem.F.plainAttrs_str PySem.F.slot_str_split PySem.F.type_str_split zds (pv 8) (zaa zaS zag))) (fun _ _ _ _=>(zbm (i:=0) (show List.Nodup (["_law_part"]:List Str) from by decide) rfl (Or.inl rfl))) (fun _ _ _ _=>zfQ) (fun _ _ _ _=>(zbh G__law_word_number (hr.mono (by decide)) rfl T.m__law_word_number T.F__law_word_number.kp T.b__law_word_number .nil zcp (zaa (pv 0) zag))))
 (zaf (zbj (zbW (PW.pt (zd0 (zaJ zif zbC (pv 9) (by with_unfolding_all rfl)) (zdd (zaJ zeJ (zaF zaY rfl T.z_len PySem.boot_len (zaa (pv 9) zag)) (zaK zb1 zaz (zbT ze2 rfl T.z_int zcK (zaa (zcu zcD (pv 2) zaS (zaQ _)) zag))) (zaQ _))))) (zaD (zaZ (zdv (zaa (pv 4) (zaa zbC zag))))) zaW))
 (zaD (zen (zda PySem.F.plainAttrs_list PySem.F.slot_list_append PySem.F.type_list_append zcU (pv 7) (zaa (zch zbg (zb3 (zaa (zch zbg (pv 9) zaz (fun _ _=>rfl)) (zaa (zbT zeQ rfl T.z_tuple zdg (zaa (pv 9) zag)) zag))) (zbT ze2 rfl T.z_int zcK (zaa (zcu zcD (pv 2) zaS (zaQ _)) zag)) (fun _ _=>rfl)) zag)))))))
 (zaf (zbj (zbW (PW.pt (zd0 (zaJ zd4 (pv 6) zbC (zaQ _)) (zdd (zaJ zlF (pv 6) zaz (zaQ _))))) (zaD (zaZ (zdv (zaa (pv 4) (zaa zbC zag))))) zaW))
 (zaD (zen (zda PySem.F.plainAttrs_list PySem.F.slot_list_append PySem.F.type_list_append zcU (pv 3) (zaa (zdv (zaa (pv 7) (zaa (pv 6) zag))) zag)))))))))))))
 (zaD (zaZ (zdv (zaa zbC (zaa (zdv (zaa (pv 2) (zaa (pv 3) zag))) zag))))))))),
  zef hR lt q1 q2⟩
def big:Int:=1000000000000000000000000000000
def PTh (sp:Bool) (H:Hp) (y:V):Prop:=if sp then ∃ u a b,y=.ref u∧H u=some (.tup [.int a,.int b])∧0≤a∧a<big∧0≤b∧b<big else ∃ n,y=.int n∧0≤n∧n<big
theorem PTh.same {sp:Bool} {H H':Hp} {y:V} (h:PTh sp H y) (s:za3 H H'):PTh sp H' y:=by
 unfold PTh at h ⊢
 cases sp
 ·exact h
 ·rw [if_pos rfl] at h ⊢
  obtain ⟨u,a,b,e,h1,h2⟩:=h
  exact ⟨u,a,b,e,s _ _ h1,h2⟩
def PSh (sp:Bool) (H:Hp) (x:V):Prop:=∃ (t l:Addr) (w:Int) (ys:List V),x=.ref t∧H t=some (.tup [.ref l,.int w])∧0≤w∧w<big∧H l=some (.lst ys)∧ys.length≤9∧∀ y∈ys,PTh sp H y
theorem PSh.same {sp:Bool} {H H':Hp} {x:V} (h:PSh sp H x) (s:za3 H H'):PSh sp H' x:=by
 obtain ⟨t,l,w,ys,e,h1,h2,h3,h4,h5,h6⟩:=h
 exact ⟨t,l,w,ys,e,s _ _ h1,h2,h3,s _ _ h4,h5,fun y hy=>(h6 y hy).same s⟩
def zkG (K:PySem.W.Frag):Sp:=fun vs H Q _=>∃ (p:Addr) (ns:List Int) (sp:Bool),vs=[.ref p,.int 0,.str (kdS sp)]∧SqL K H p (ns.map V.int)∧ns.length≤63∧∀ r xs H',za3 H H'→H' r=some (.lst xs)→xs.length≤4→(∀ x∈xs,PSh sp H' x)→Q (.ref r) H'
def zca (K:PySem.W.Frag):TS :=
 (zaV (zbi (zbz (zcG K) [] E0 (zab (zac 0) (zab (tOp (rI0 fun i j=>.int (i+j)) (tOp (rI0 fun i j=>.int (i+j)) (tOp (rI0 fun i j=>.int (i+j)) (zac 1) (tC (.int 10))) (tOp (rI IntMulOk fun i j=>.int (i*j)) (tC (.int 10)) (zac 4))) (zac 7)) zaE))) (zaC 10))
 (zaV (zbi (tOp (zcP K) (zdu (zab (tOp (rI (fun _ j=>0<j) fun i j=>.int (i % j)) (tOp (rI (fun _ j=>0<j∧j.natAbs.log2<9000) fun i j=>.int (i / j)) (zac 10) (tC (.int 3))) (tC (.int 8))) (zab (tOp (rI (fun _ j=>0<j) fun i j=>.int (i % j)) (tOp (rI (fun _ j=>0<j∧j.natAbs.log2<9000) fun i j=>.int (i / j)) (zac 10) (tC (.int 3))) (tC (.int 100))) (zab (tOp (rI0 fun i j=>.int (i - j)) (tOp (rI zjR fun i j=>.int (i ^ j.toNat)) (tC (.int 10)) (tC (.int 29))) (zac 10)) zaE)))) (tOp (rI (fun _ j=>0<j) fun i j=>.int (i % j)) (zac 10) (tC (.int 3)))) (zaC 11))
 (zb2 (zaM (tOp rEq (zac 2) (tC (.str "walk")))) (zdZ (tBM K "list" zbr (zac 9) (zab (zac 11) zaE))) (zdZ (tBM K "list" zbr (zac 9) (zab (zf3 (zab (zac 11) (zab (tOp (rI (fun _ j=>0<j) fun i j=>.int (i % j)) (tOp (rI (fun _ j=>0<j∧j.natAbs.log2<9000) fun i j=>.int (i / j)) (zac 10) (tC (.int 24))) (tC (.int 60))) zaE))) zaE))))))
theorem zbe (K:PySem.W.Frag) (D:zcd) (σ:St) (H:Hp):zca K D σ H=(zaV (zbi (zbz (zcG K) [] E0 (zab (zac 0) (zab (tOp (rI0 fun i j=>.int (i+j)) (tOp (rI0 fun i j=>.int (i+j)) (tOp (rI0 fun i j=>.int (i+j)) (zac 1) (tC (.int 10))) (tOp (rI IntMulOk fun i j=>.int (i*j)) (tC (.int 10)) (zac 4))) (zac 7)) zaE))) (zaC 10))
 (zaV (zbi (tOp (zcP K) (zdu (zab (tOp (rI (fun _ j=>0<j) fun i j=>.int (i % j)) (tOp (rI (fun _ j=>0<j∧j.natAbs.log2<9000) fun i j=>.int (i / j)) (zac 10) (tC (.int 3))) (tC (.int 8))) (zab (tOp (rI (fun _ j=>0<j) fun i j=>.int (i % j)) (tOp (rI (fun _ j=>0<j∧j.natAbs.log2<9000) fun i j=>.int (i / j)) (zac 10) (tC (.int 3))) (tC (.int 100))) (zab (tOp (rI0 fun i j=>.int (i - j)) (tOp (rI zjR fun i j=>.int (i ^ j.toNat)) (tC (.int 10)) (tC (.int 29))) (zac 10)) zaE)))) (tOp (rI (fun _ j=>0<j) fun i j=>.int (i % j)) (zac 10) (tC (.int 3)))) (zaC 11))
 (zb2 (zaM (tOp rEq (zac 2) (tC (.str "walk")))) (zdZ (tBM K "list" zbr (zac 9) (zab (zac 11) zaE))) (zdZ (tBM K "list" zbr (zac 9) (zab (zf3 (zab (zac 11) (zab (tOp (rI (fun _ j=>0<j) fun i j=>.int (i % j)) (tOp (rI (fun _ j=>0<j∧j.natAbs.log2<9000) fun i j=>.int (i / j)) (zac 10) (tC (.int 24))) (tC (.int 60))) zaE))) zaE)))))) D σ H:=rfl
def zcB (K:PySem.W.Frag):TS :=
 (zaV (zbi (tOp (zcP K) (zdu (zab (tOp (rI0 fun i j=>.int (i+j)) (tC (.int 1)) (tOp (rI (fun _ j=>0<j) fun i j=>.int (i % j)) (tOp (rI (fun _ j=>0<j∧j.natAbs.log2<9000) fun i j=>.int (i / j)) (zac 5) (tC (.int 4))) (tC (.int 9)))) (zab (tOp (rI0 fun i j=>.int (i - j)) (tOp (rI zjR fun i j=>.int (i ^ j.toNat)) (tC (.int 10)) (tC (.int 29))) (zac 5)) (zab (tOp (rI0 fun i j=>.int (i+j)) (tC (.int 1)) (tOp (rI (fun _ j=>0<j∧j.natAbs.log2<9000) fun i j=>.int (i / j)) (zac 5) (tC (.int 4)))) (zab (zac 6) zaE))))) (tOp (rI (fun _ j=>0<j) fun i j=>.int (i % j)) (zac 5) (tC (.int 4)))) (zaC 8))
 (zaV (zbi (zdu zaE) (zaC 9))
 (zaV (zgP (ze4 (zab (tOp (rI0 fun i j=>.int (i+j)) (tOp (rI (fun _ j=>0<j) fun i j=>.int (i % j)) (zbz (zcG K) [] E0 (zab (zac 0) (zab (tOp (rI0 fun i j=>.int (i+j)) (tOp (rI0 fun i j=>.int (i+j)) (zac 1) (tC (.int 5))) (zac 4)) zaE))) (tC (.int 9))) (tCB (fun xs H Q=>(∃ i,xs=[.int i]∧Q (.int i) H)∨∃ k,xs=[.bl k]∧Q (.int (if k then 1 else 0)) H) (zab (tOp rEq (zac 2) (tC (.str "walk"))) zaE))) zaE)) (zaC 7)
 (zca K))
 (zdZ (tBM K "list" zbr (zac 3) (zab (zf3 (zab (zac 9) (zab (zac 8) zaE))) zaE))))))
theorem zbd (K:PySem.W.Frag) (D:zcd) (σ:St) (H:Hp):zcB K D σ H=(zaV (zbi (tOp (zcP K) (zdu (zab (tOp (rI0 fun i j=>.int (i+j)) (tC (.int 1)) (tOp (rI (fun _ j=>0<j) fun i j=>.int (i % j)) (tOp (rI (fun _ j=>0<j∧j.natAbs.log2<9000) fun i j=>.int (i / j)) (zac 5) (tC (.int 4))) (tC (.int 9)))) (zab (tOp (rI0 fun i j=>.int (i - j)) (tOp (rI zjR fun i j=>.int (i ^ j.toNat)) (tC (.int 10)) (tC (.int 29))) (zac 5)) (zab (tOp (rI0 fun i j=>.int (i+j)) (tC (.int 1)) (tOp (rI (fun _ j=>0<j∧j.natAbs.log2<9000) fun i j=>.int (i / j)) (zac 5) (tC (.int 4)))) (zab (zac 6) zaE))))) (tOp (rI (fun _ j=>0<j) fun i j=>.int (i % j)) (zac 5) (tC (.int 4)))) (zaC 8))
 (zaV (zbi (zdu zaE) (zaC 9))
 (zaV (zgP (ze4 (zab (tOp (rI0 fun i j=>.int (i+j)) (tOp (rI (fun _ j=>0<j) fun i j=>.int (i % j)) (zbz (zcG K) [] E0 (zab (zac 0) (zab (tOp (rI0 fun i j=>.int (i+j)) (tOp (rI0 fun i j=>.int (i+j)) (zac 1) (tC (.int 5))) (zac 4)) zaE))) (tC (.int 9))) (tCB (fun xs H Q=>(∃ i,xs=[.int i]∧Q (.int i) H)∨∃ k,xs=[.bl k]∧Q (.int (if k then 1 else 0)) H) (zab (tOp rEq (zac 2) (tC (.str "walk"))) zaE))) zaE)) (zaC 7)
 (zca K))
 (zdZ (tBM K "list" zbr (zac 3) (zab (zf3 (zab (zac 9) (zab (zac 8) zaE))) zaE)))))) D σ H:=rfl
def zc7 (K:PySem.W.Frag):TS :=
 (zaV (zbi (zbz (zcG K) [] E0 (zab (zac 0) (zab (tOp (rI0 fun i j=>.int (i+j)) (tOp (rI0 fun i j=>.int (i+j)) (zac 1) (tC (.int 1))) (zac 4)) zaE))) (zaC 5))
 (zaV (zbi (tC (.int 1)) (zaC 6))
 (zaV (zgP (ze4 (zab (tOp (rI (fun _ j=>0<j) fun i j=>.int (i % j)) (tOp (rI (fun _ j=>0<j∧j.natAbs.log2<9000) fun i j=>.int (i / j)) (zac 5) (tC (.int 4))) (tC (.int 30))) zaE)) (zaC 7)
 (zbi (tOp (rI IntMulOk fun i j=>.int (i*j)) (tC (.int 10)) (zac 6)) (zaC 6)))
 (zcB K))))
theorem zbc (K:PySem.W.Frag) (D:zcd) (σ:St) (H:Hp):zc7 K D σ H=(zaV (zbi (zbz (zcG K) [] E0 (zab (zac 0) (zab (tOp (rI0 fun i j=>.int (i+j)) (tOp (rI0 fun i j=>.int (i+j)) (zac 1) (tC (.int 1))) (zac 4)) zaE))) (zaC 5))
 (zaV (zbi (tC (.int 1)) (zaC 6))
 (zaV (zgP (ze4 (zab (tOp (rI (fun _ j=>0<j) fun i j=>.int (i % j)) (tOp (rI (fun _ j=>0<j∧j.natAbs.log2<9000) fun i j=>.int (i / j)) (zac 5) (tC (.int 4))) (tC (.int 30))) zaE)) (zaC 7)
 (zbi (tOp (rI IntMulOk fun i j=>.int (i*j)) (tC (.int 10)) (zac 6)) (zaC 6)))
 (zcB K)))) D σ H:=rfl
def zdF (K:PySem.W.Frag):TS :=
 (zaV (zbi (zdu zaE) (zaC 3))
 (zaV (zgP (ze4 (zab (tOp (rI0 fun i j=>.int (i+j)) (tC (.int 1)) (tOp (rI (fun _ j=>0<j) fun i j=>.int (i % j)) (zbz (zcG K) [] E0 (zab (zac 0) (zab (zac 1) zaE))) (tC (.int 4)))) zaE)) (zaC 4)
 (zc7 K))
 (zbU (zac 3))))
theorem PTh.int {n:Int} (h0:0≤n) (h1:n<big):PTh false H (.int n):=by
 unfold PTh
 rw [if_neg Bool.false_ne_true]
 exact ⟨n,rfl,h0,h1⟩
theorem PTh.tup {a b:Int} {u:Addr} (h:H u=some (.tup [.int a,.int b])) (a0:0≤a) (a1:a<big) (b0:0≤b) (b1:b<big):PTh true H (.ref u):=by
 unfold PTh
 rw [if_pos rfl]
 exact ⟨u,a,b,rfl,h,a0,a1,b0,b1⟩
theorem pick3 {i a b c:Int} (h:∀ x,x=a∨x=b∨x=c→0≤x∧x<big):∃ v:Int,atI [V.int a,V.int b,V.int c] (i % 3)=some (.int v)∧0≤v∧v<big:=by
 have:i % 3=0∨i % 3=1∨i % 3=2:=by omega
 rcases this with e | e | e
 ·exact ⟨a,by rw [e];exact za0 (j:=0) rfl,h a (.inl rfl)⟩
 ·exact ⟨b,by rw [e];exact za0 (j:=1) rfl,h b (.inr (.inl rfl))⟩
 ·exact ⟨c,by rw [e];exact za0 (j:=2) rfl,h c (.inr (.inr rfl))⟩
theorem pick4 {i a b c d:Int} (h:∀ x,x=a∨x=b∨x=c∨x=d→0≤x∧x<big):∃ v:Int,atI [V.int a,V.int b,V.int c,V.int d] (i % 4)=some (.int v)∧0≤v∧v<big:=by
 have:i % 4=0∨i % 4=1∨i % 4=2∨i % 4=3:=by omega
 rcases this with e | e | e | e
 ·exact ⟨a,by rw [e];exact za0 (j:=0) rfl,h a (.inl rfl)⟩
 ·exact ⟨b,by rw [e];exact za0 (j:=1) rfl,h b (.inr (.inl rfl))⟩
 ·exact ⟨c,by rw [e];exact za0 (j:=2) rfl,h c (.inr (.inr (.inl rfl)))⟩
 ·exact ⟨d,by rw [e];exact za0 (j:=3) rfl,h d (.inr (.inr (.inr rfl)))⟩
theorem zp0:zjR 10 29:=⟨by decide,by decide,by decide⟩
theorem zos {D:zcd} {p pl:Addr} {ns:List Int} {sp:Bool} {i j:Int} {ys:List V} {x3 x5 x6 x8 x10 x11:Option V} (hS:SqL K H p (ns.map V.int)) (hl:ns.length≤63) (i0:0≤i) (i4:i<4) (j0:0≤j) (j9:j<10) (hpl:H pl=some (.lst ys)) (ly:ys.length≤9)
  (good:∀ y H' z10 z11,Bar pl H H'→H' pl=some (.lst (ys++[y]))→PTh sp (NwH H H') y→D.nx [some (.ref p),some (.int 0),some (.str (kdS sp)),x3,some (.int i),x5,x6,some (.int j),x8,some (.ref pl),z10,z11] H') :
  zca K D [some (.ref p),some (.int 0),some (.str (kdS sp)),x3,some (.int i),x5,x6,some (.int j),x8,some (.ref pl),x10,x11] H:=by
 unfold zca
 simp_all only [zbe,zbd,zbc,zac]
 refine ⟨zqg (by decide) (by decide),p,ns,_,rfl,hS,hl,by omega,by omega,fun r r0 r1=>⟨r,rfl,by decide,by decide +kernel,by decide,r,rfl,by decide,by decide +kernel,by decide,zp0,r,rfl,by decide,fun tp htp=>⟨r,rfl,by decide,_,SqL.of zae,?_⟩⟩⟩
 obtain ⟨v,hv,v0,v1⟩:=pick3 (i:=r) (a:=r / 3 % 8) (b:=r / 3 % 100) (c:=100000000000000000000000000000 - r) fun x hx=>by
  unfold big
  rcases hx with rfl | rfl | rfl <;> omega
 refine ⟨.int v,hv,rfl,?_⟩
 generalize eH:L2.upd H tp (.lst [.int (r / 3 % 8),.int (r / 3 % 100),.int (100000000000000000000000000000 - r)])=H1
 have s1:za3 H H1:=by rw [← eH];exact zaA htp _
 have h1:=s1 _ _ hpl
 cases sp
 ·rw [if_pos zmG]
  refine ⟨.inl ⟨rfl,_,SqL.of h1⟩,ys,h1,zc5 (by omega),good _ _ _ _ (fun b o n e=>by rw [zap n];exact s1 _ _ e) zae (.int v0 v1)⟩
 ·rw [if_neg (show ¬ kdS true=Str.ofString "walk" from zd1)]
  refine ⟨.inl ⟨rfl,_,SqL.of h1⟩,r,rfl,by decide,by decide +kernel,by decide,by decide,fun u hu=>⟨ys,(zaA hu _) _ _ h1,zc5 (by omega),good _ _ _ _ (fun b o n e=>by rw [zap n];exact (zaA hu _) _ _ (s1 _ _ e)) zae (.tup (a:=v) (b:=r / 24 % 60) (zcl.mpr ⟨s1.free hu,?_⟩) v0 v1 (by omega) (by unfold big;omega))⟩⟩
  have n1:u≠pl:=fun z=>by rw [z,h1] at hu;cases hu
  rw [zap n1,zae]
theorem zgV {p:Addr} {ns:List Int} {sp:Bool} (hS:SqL K H p (ns.map V.int)) (hl:ns.length≤63) (q:∀ r xs H',za3 H H'→H' r=some (.lst xs)→xs.length≤4→(∀ x∈xs,PSh sp H' x)→Q (.ref r) H'):zdF K { nx:=fun _ H'=>Q .non H',rt:=Q } (L2.zci ["_law_script","_law_start","_law_kind","_law_paper_here","_law_k","_law_number","_law_ten","_law_j","_law_weight","_law_plan","_law_draw","_law_place"] [.ref p,.int 0,.str (kdS sp)]) H:=by
 unfold zdF
 simp_all only [zbe,zbd,zbc,zac]
 refine ⟨by decide,fun pp hpp=>⟨p,ns,0,rfl,(zaA hpp _).seq hS,hl,by decide,by decide,fun r r0 r1=>⟨r,rfl,by decide,by omega,by omega,?_⟩⟩⟩
 generalize eH:L2.upd H pp (.lst [])=H0
 have s0:za3 H H0:=by rw [← eH];exact zaA hpp _
 have h0:H0 pp=some (.lst []):=by rw [← eH,zae]
 have toS:∀ H',Bar pp H0 H'→za3 H H':=fun H' b b' o e=>b _ _ (zaL e hpp) (s0 _ _ e)
 refine zcO (fun i σ H'=>Bar pp H0 H'∧(∃ xs,H' pp=some (.lst xs)∧xs.length=i∧∀ x∈xs,PSh sp (NwH H0 H') x)∧∃ z4 z5 z6 z7 z8 z9 z10 z11,σ=[some (.ref p),some (.int 0),some (.str (kdS sp)),some (.ref pp),z4,z5,z6,z7,z8,z9,z10,z11]) ⟨fun _ _ _ e=>e,⟨[],h0,rfl,fun x h=>by cases h⟩,_,_,_,_,_,_,_,_,rfl⟩ ?_ ?_
 ·rintro i σ H' hi ⟨b,⟨xs,hx,lx,sx⟩,z4,z5,z6,z7,z8,z9,z10,z11,rfl⟩
  have hi4:i<4:=by omega
  rw [Int.zero_add]
  unfold zc7
  simp_all only [zbe,zbd,zbc,zac]
  refine ⟨p,ns,_,rfl,(toS H' b).seq hS,hl,by omega,by omega,fun r r0 r1=>⟨r,rfl,by decide,by decide +kernel,by decide,by omega,by omega,?_⟩⟩
  refine zcO (fun j σ H2=>H2=H'∧∃ (c:Nat) (z7:Option V),c≤10 ^ j∧σ=[some (.ref p),some (.int 0),some (.str (kdS sp)),some (.ref pp),some (.int i),some (.int r),some (.int c),z7,z8,z9,z10,z11]) ⟨rfl,1,_,Nat.le_refl _,rfl⟩ ?_ ?_
  ·rintro j σ H2 hj ⟨rfl,c,z7,hc,rfl⟩
   simp_all only [zbe,zbd,zbc,zac]
   refine ⟨zqg (by decide) (by decide),10*c,?_,rfl⟩
   rw [Nat.pow_succ]
   omega
  rintro σ H2 ⟨rfl,c,z7,hc,rfl⟩
  have hc2:c≤10 ^ 29:=Nat.le_trans hc (Nat.pow_le_pow_right (by decide) (by omega))
  unfold zcB
  simp_all only [zbe,zbd,zbc,zac]
  have hc3:(c:Int)<big:=by
   have:(10:Nat) ^ 29=100000000000000000000000000000:=by decide
   unfold big
   omega
  refine ⟨by decide,by decide +kernel,by decide,zp0,by decide,by decide +kernel,by decide,fun tq htq=>⟨by decide,_,SqL.of zae,?_⟩⟩
  obtain ⟨wg,hw,w0,w1⟩:=pick4 (i:=r) (a:=1+r / 4 % 9) (b:=100000000000000000000000000000 - r) (c:=1+r / 4) (d:=(c:Int)) fun x hx=>by
   rcases hx with rfl | rfl | rfl | rfl
   ·unfold big;omega
   ·unfold big;omega
   ·unfold big;omega
   ·exact ⟨Int.natCast_nonneg _,hc3⟩
  refine ⟨.int wg,hw,by decide,fun pl hpl=>?_⟩
  have npl:pl≠pp:=fun z=>by
   have:=(zaA htq (.lst [.int (1+r / 4 % 9),.int (100000000000000000000000000000 - r),.int (1+r / 4),.int (c:Int)])) _ _ hx
   rw [z,this] at hpl
   cases hpl
  have hHpl:H2 pl=none:=(zaA htq _).free hpl
  generalize eH3:L2.upd (L2.upd H2 tq (.lst [.int (1+r / 4 % 9),.int (100000000000000000000000000000 - r),.int (1+r / 4),.int (c:Int)])) pl (.lst [])=H3
  have s3:za3 H2 H3:=by rw [← eH3];exact (zaA htq _).add hpl
  have h3l:H3 pl=some (.lst []):=by rw [← eH3,zae]
  have ei:=znp sp
  have hb2:0≤(if sp=true then (0:Int) else 1)∧(if sp=true then (0:Int) else 1)≤1:=by cases sp <;> decide
  have sHs:∀ H4,Bar pl H3 H4→za3 H H4:=fun H4 b4 b' o e=>b4 _ _ (fun z=>by rw [z] at e;rw [toS H2 b _ _ e] at hHpl;cases hHpl) (s3 _ _ (toS H2 b _ _ e))
  refine ⟨p,ns,_,rfl,s3.seq ((toS H2 b).seq hS),hl,by omega,by omega,fun m m0 m1=>⟨m,rfl,by decide,rfl,.inr ?_⟩⟩
  rw [ei]
  refine ⟨by omega,by omega,?_⟩
  refine zcO (fun j σ H4=>Bar pl H3 H4∧(∃ ys,H4 pl=some (.lst ys)∧ys.length=j∧∀ y∈ys,PTh sp (NwH H3 H4) y)∧∃ z7 z10 z11,σ=[some (.ref p),some (.int 0),some (.str (kdS sp)),some (.ref pp),some (.int i),some (.int r),some (.int c),z7,some (.int wg),some (.ref pl),z10,z11]) ⟨fun _ _ _ e=>e,⟨[],h3l,rfl,fun y h=>by cases h⟩,_,_,_,rfl⟩ ?_ ?_
  ·rintro j σ H4 hj ⟨b4,⟨ys,hy,ly,sy⟩,y7,y10,y11,rfl⟩
   rw [Int.zero_add]
   refine zos (sp:=sp) ((sHs H4 b4).seq hS) hl (by omega) (by omega) (by omega) (by omega) hy (by omega) fun y H5 z10 z11 b5 h5 sh5=>?_
   refine ⟨fun b' o n e=>b5 _ _ n (b4 b' o n e),⟨ys++[y],h5,by rw [List.length_append,ly];rfl,fun z hz=>?_⟩,_,_,_,rfl⟩
   have nb:∀ b',H3 b'=none→b'≠pl:=fun b' h z=>by rw [z,h3l] at h;cases h
   rcases List.mem_append.mp hz with hz | hz
   ·exact (sy z hz).same (zbE fun b' o e1 e2=>⟨e1,b5 _ _ (nb b' e1) e2⟩)
   ·rw [List.mem_singleton.mp hz]
    refine sh5.same (zbE fun b' o e1 e2=>⟨?_,e2⟩)
    cases h0:H3 b' with
    | none=>rfl
    | some o' =>
     have n:b'≠pl:=fun z=>by rw [z,hy] at e1;cases e1
     rw [b4 _ _ n h0] at e1
     cases e1
  ·rintro σ H4 ⟨b4,⟨ys,hy,ly,sy⟩,y7,y10,y11,rfl⟩
   have hx4:H4 pp=some (.lst xs):=b4 _ _ npl.symm (s3 _ _ hx)
   have b04:Bar pp H0 H4:=fun b' o n e=>b4 _ _ (fun z=>by rw [z] at e;rw [b _ _ (z ▸ n) e] at hHpl;cases hHpl) (s3 _ _ (b b' o n e))
   simp_all only [zbe,zbd,zbc,zac]
   refine ⟨.inl ⟨rfl,_,SqL.of hx4⟩,by decide,fun tt htt=>⟨xs,(zaA htt _) _ _ hx4,zc5 (by omega),?_⟩⟩
   have nt1:tt≠pp:=fun z=>by rw [z,hx4] at htt;cases htt
   have nt2:tt≠pl:=fun z=>by rw [z,hy] at htt;cases htt
   have no0:∀ b',H4 b'=none→b'≠pp→H0 b'=none:=fun b' h n=>by
    cases h0:H0 b' with
    | none=>rfl
    | some o=>rw [b04 _ _ n h0] at h;cases h
   refine ⟨fun b' o n e=>by rw [zap n];exact (zaA htt _) _ _ (b04 b' o n e),⟨xs++[.ref tt],zae,by rw [List.length_append,lx];rfl,fun x hxx=>?_⟩⟩
   have n0:∀ b',H0 b'=none→b'≠pp:=fun b' h z=>by rw [z,h0] at h;cases h
   rcases List.mem_append.mp hxx with hxx | hxx
   ·refine (sx x hxx).same (zbE fun b' o e1 e2=>⟨e1,?_⟩)
    have e3:=b4 _ _ (fun z=>by rw [z,hHpl] at e2;cases e2) (s3 _ _ e2)
    rw [zap (n0 b' e1),zap (zaL e3 htt)]
    exact e3
   ·rw [List.mem_singleton.mp hxx]
    have hl0:H0 pl=none:=by
     cases h0:H0 pl with
     | none=>rfl
     | some o=>rw [b _ _ npl h0] at hHpl;cases hHpl
    refine ⟨tt,pl,wg,ys,rfl,zcl.mpr ⟨no0 tt htt nt1,by rw [zap nt1,zae]⟩,w0,w1,zcl.mpr ⟨hl0,?_⟩,by omega,fun y hyy=>(sy y hyy).same (zbE fun b' o e1 e2=>?_)⟩
    ·rw [zap npl,zap nt2.symm]
     exact hy
    ·have m1:b'≠pp:=fun z=>by rw [z,s3 _ _ hx] at e1;cases e1
     have m2:b'≠tt:=zaL e2 htt
     refine ⟨?_,by rw [zap m1,zap m2];exact e2⟩
     cases h0:H0 b' with
     | none=>rfl
     | some o'=>rw [s3 _ _ (b _ _ m1 h0)] at e1;cases e1
 ·rintro σ H' ⟨b,⟨xs,hx,lx,sx⟩,z4,z5,z6,z7,z8,z9,z10,z11,rfl⟩
  simp_all only [zbe,zbd,zbc,zac]
  exact q pp xs H' (toS H' b) hx (by omega) fun x hx=>(sx x hx).same zjp
theorem za2:zbo ["_law_script","_law_start","_law_kind","_law_paper_here","_law_k","_law_number","_law_ten","_law_j","_law_weight","_law_plan","_law_draw","_law_place"] ["_law_script","_law_start","_law_kind"] (zaI zdB):=⟨rfl,rfl,rfl,by decide +kernel,rfl,by decide +kernel,by decide +kernel⟩
theorem zhl (T:Txt K mg base a):zdD P w K mg base CX0 2 a.f__law_paper a.d__law_paper ["_law_script","_law_start","_law_kind"] (zkG K):=by
 have G__law_mixed:=zeL (P:=P) (w:=w) (base:=base) T
 refine T.F__law_paper.ok za2 (fun vs H Q E h=>?_) (fun cdv A outer s H vs Q E hr h=>?_)
 ·obtain ⟨p,ns,sp,rfl,hS,hl,q⟩:=h
  rfl
 obtain ⟨p,ns,sp,rfl,hS,hl,q⟩:=h
 exact ⟨zdF K,(zaf (zaR (i:=3) za2.nd rfl (Or.inl rfl) (zb3 zag))
 (zaf (zdJ PassesOwn.never rfl (zcS rfl T.z_range (zaa (zaK zb1 zaz (zaK zbZ (zbh G__law_mixed (hr.mono (by decide)) rfl T.m__law_mixed T.F__law_mixed.kp T.b__law_mixed .nil zcp (zaa (pv 0) (zaa (pv 1) zag))) zaz)) zag)) (zbm (i:=4) za2.nd rfl (Or.inl rfl))
 (zaf (zaR (i:=5) za2.nd rfl (Or.inl rfl) (zbh G__law_mixed (hr.mono (by decide)) rfl T.m__law_mixed T.F__law_mixed.kp T.b__law_mixed .nil zcp (zaa (pv 0) (zaa (zaK zb1 (zaK zb1 (pv 1) zaz) (pv 4)) zag))))
 (zaf (zaR (i:=6) za2.nd rfl (Or.inl rfl) zaz)
 (zaf (zdJ PassesOwn.never rfl (zcS rfl T.z_range (zaa (zaK zbZ (zaK zcL (pv 5) zaz) zaz) zag)) (zbm (i:=7) za2.nd rfl (Or.inl rfl))
 (zaD (zaR (i:=6) za2.nd rfl (Or.inl rfl) (zaK zed zaz (pv 6)))))
 (zaf (zaR (i:=8) za2.nd rfl (Or.inl rfl) (zch zbg (zb3 (zaa (zaK zb1 zaz (zaK zbZ (zaK zcL (pv 5) zaz) zaz)) (zaa (zaK zk3 (zaK zir zaz zaz) (pv 5)) (zaa (zaK zb1 zaz (zaK zcL (pv 5) zaz)) (zaa (pv 6) zag))))) (zaK zbZ (pv 5) zaz) (fun _ _=>rfl)))
 (zaf (zaR (i:=9) za2.nd rfl (Or.inl rfl) (zb3 zag))
 (zaf (zdJ PassesOwn.never rfl (zcS rfl T.z_range (zaa (zaK zb1 (zaK zbZ (zbh G__law_mixed (hr.mono (by decide)) rfl T.m__law_mixed T.F__law_mixed.kp T.b__law_mixed .nil zcp (zaa (pv 0) (zaa (zaK zb1 (zaK zb1 (pv 1) zaz) (pv 4)) zag))) zaz) (zbT ze2 rfl T.z_int zcK (zaa (zcu zcD (pv 2) zaS (zaQ _)) zag))) zag)) (zbm (i:=7) za2.nd rfl (Or.inl rfl))
 (zaf (zaR (i:=10) za2.nd rfl (Or.inl rfl) (zbh G__law_mixed (hr.mono (by decide)) rfl T.m__law_mixed T.F__law_mixed.kp T.b__law_mixed .nil zcp (zaa (pv 0) (zaa (zaK zb1 (zaK zb1 (zaK zb1 (pv 1) zaz) (zaK zed zaz (pv 4))) (pv 7)) zag))))
 (zaf (zaR (i:=11) za2.nd rfl (Or.inl rfl) (zch zbg (zb3 (zaa (zaK zbZ (zaK zcL (pv 10) zaz) zaz) (zaa (zaK zbZ (zaK zcL (pv 10) zaz) zaz) (zaa (zaK zk3 (zaK zir zaz zaz) (pv 10)) zag)))) (zaK zbZ (pv 10) zaz) (fun _ _=>rfl)))
 (zaD (zbW (zaJ zcD (pv 2) zaS (zaQ _)) (zaD (zen (zda PySem.F.plainAttrs_list PySem.F.slot_list_append PySem.F.type_list_append zcU (pv 9) (zaa (pv 11) zag)))) (zaD (zen (zda PySem.F.plainAttrs_list PySem.F.slot_list_append PySem.F.type_list_append zcU (pv 9) (zaa (zdv (zaa (pv 11) (zaa (zaK zbZ (zaK zcL (pv 10) zaz) zaz) zag))) zag)))))))))
 (zaD (zen (zda PySem.F.plainAttrs_list PySem.F.slot_list_append PySem.F.type_list_append zcU (pv 3) (zaa (zdv (zaa (pv 9) (zaa (pv 8) zag))) zag)))))))))))
 (zaD (zaZ (pv 3))))),
  zgV hS hl q⟩
theorem ziO:∀ (u b:List Nat) (k:Nat),lr k (u++b)≤lr (k+u.length) b
 | [],b,k=>Nat.le_refl _
 | c::u,b,k=>by
  rw [List.cons_append,zcc,List.length_cons]
  by_cases h:c=32∨c=10
  ·rw [if_pos h]
   have h1:=ziO u b 0
   have h2:=(zfE b (k+(u.length+1))).1
   have h3:lr (0+u.length) b≤lr (k+(u.length+1)) b:=zfE.lr_mono b (by omega)
   omega
  ·rw [if_neg h]
   have:=ziO u b (k+1)
   rw [show k+(u.length+1)=k+1+u.length by omega]
   exact this
def StR (L k:Nat) (s:Str):Prop:=∀ b,lr 0 (sgn s++b)≤max L (lr k b)
theorem StR.nil {L:Nat}:StR L 0 (Str.ofString ""):=fun b=>by
 show lr 0 ([]++b)≤_
 rw [List.nil_append]
 omega
theorem StR.add {L k m:Nat} {s u:Str} (h:StR L k s) (l:u.length≤m):StR L (k+m) (s++u):=fun b=>by
 rw [zfd,List.append_assoc]
 have h1:=h (sgn u++b)
 have h2:=ziO (sgn u) b k
 rw [zdn] at l
 have h3:lr (k+(sgn u).length) b≤lr (k+m) b:=zfE.lr_mono b (by omega)
 omega
theorem StR.sep {L k c:Nat} {s u:Str} (h:StR L k s) (hc:c=32∨c=10) (e:u=⟨#[c]⟩) (l:k≤L):StR L 0 (s++u):=fun b=>by
 rw [zfd,List.append_assoc,e]
 have h1:=h (c::b)
 rw [zcc,if_pos hc] at h1
 show lr 0 (sgn s++c::b)≤_
 omega
theorem StR.mono {L j k:Nat} {s:Str} (h:StR L j s) (l:j≤k):StR L k s:=fun b=>by
 have h1:=h b
 have h2:lr j b≤lr k b:=zfE.lr_mono b l
 omega
theorem StR.rn {L k:Nat} {s:Str} (h:StR L k s) (l:k≤L):Rn L s:=by
 have h1:=h []
 rw [List.append_nil] at h1
 have:lr k []=k:=rfl
 unfold Rn
 omega
theorem zgM {n:Int} (h0:0≤n) (h1:n<big):(Str.ofString (toString n)).length≤30:=zpu h0 (by decide) h1
theorem zgG {n:Int} (h0:0≤n) (h1:n<big):n.natAbs.log2<1920:=by
 refine (Nat.log2_lt' (by decide)).mpr ?_
 unfold big at h1
 have:n.natAbs<1000000000000000000000000000000:=by omega
 exact Nat.lt_trans this (by decide)
where
 Nat.log2_lt' {n k:Nat} (h:k≠0):n.log2<k↔n<2 ^ k:=by
  by_cases z:n=0
  ·subst z
   rw [Nat.log2_zero]
   exact ⟨fun _=>Nat.two_pow_pos k,fun _=>by omega⟩
  ·exact Nat.log2_lt z
theorem zdb (s t:Str):(s++t).length=s.length+t.length:=by rw [zdn,zfd,List.length_append,← zdn,← zdn]
theorem znu (sp:Bool):(kdS sp).length≤6:=by cases sp <;> decide +kernel
def zlG (K:PySem.W.Frag):Sp:=fun vs H Q _=>∃ (sp:Bool) (r:Addr) (xs:List V),vs=[.str (kdS sp),.ref r]∧H r=some (.lst xs)∧xs.length≤4∧(∀ x∈xs,PSh sp H x)∧∀ s,Rn 64 s→s.length≤4000→Q (.str s) H
def zbR (K:PySem.W.Frag):TS :=
 (zb2 (zaM (tOp rEq (zac 0) (tC (.str "walk")))) (zbi (tOp zcm (tOp zcm (zac 2) (tC (.str " "))) (tCB zgj (zab (zac 5) zaE))) (zaC 2)) (zbi (tOp zcm (tOp zcm (tOp zcm (tOp zcm (zac 2) (tC (.str " "))) (tCB zgj (zab (tOp (zme K) (zac 5) (tC (.int 0))) zaE))) (tC (.str "-"))) (tCB zgj (zab (tOp (zme K) (zac 5) (tC (.int 1))) zaE))) (zaC 2)))
theorem zba (K:PySem.W.Frag) (D:zcd) (σ:St) (H:Hp):zbR K D σ H=(zb2 (zaM (tOp rEq (zac 0) (tC (.str "walk")))) (zbi (tOp zcm (tOp zcm (zac 2) (tC (.str " "))) (tCB zgj (zab (zac 5) zaE))) (zaC 2)) (zbi (tOp zcm (tOp zcm (tOp zcm (tOp zcm (zac 2) (tC (.str " "))) (tCB zgj (zab (tOp (zme K) (zac 5) (tC (.int 0))) zaE))) (tC (.str "-"))) (tCB zgj (zab (tOp (zme K) (zac 5) (tC (.int 1))) zaE))) (zaC 2))) D σ H:=rfl
def zcb (K:PySem.W.Frag):TS :=
 (zaV (zbi (tOp zcm (tOp zcm (tOp zcm (zac 2) (zac 0)) (tC (.str " "))) (tCB zgj (zab (zac 4) zaE))) (zaC 2))
 (zaV (zgP (zfK K (zac 3)) (zaC 5)
 (zbR K))
 (zbi (tOp zcm (zac 2) (tC (.str "\n"))) (zaC 2))))
theorem zbb (K:PySem.W.Frag) (D:zcd) (σ:St) (H:Hp):zcb K D σ H=(zaV (zbi (tOp zcm (tOp zcm (tOp zcm (zac 2) (zac 0)) (tC (.str " "))) (tCB zgj (zab (zac 4) zaE))) (zaC 2))
 (zaV (zgP (zfK K (zac 3)) (zaC 5)
 (zbR K))
 (zbi (tOp zcm (zac 2) (tC (.str "\n"))) (zaC 2)))) D σ H:=rfl
def zcv (K:PySem.W.Frag):TS :=
 (zaV (zbi (tC (.str "")) (zaC 2))
 (zaV (zgP (zfK K (zac 1)) (zlP K 2 (zdw (zaC 3) (zdw (zaC 4) zlU)))
 (zcb K))
 (zbU (zac 2))))
theorem zeZ {sp:Bool} {r:Addr} {xs:List V} (hr:H r=some (.lst xs)) (lx:xs.length≤4) (hx:∀ x∈xs,PSh sp H x) (q:∀ s,Rn 64 s→s.length≤4000→Q (.str s) H):zcv K { nx:=fun _ H'=>Q .non H',rt:=Q } (L2.zci ["_law_kind","_law_paper_here","_law_text","_law_plan","_law_weight","_law_thing"] [.str (kdS sp),.ref r]) H:=by
 unfold zcv
 simp_all only [zba,zbb,zac]
 refine ⟨⟨_,SqL.of hr⟩,?_⟩
 refine zfM (xs:=xs) (fun i σ H'=>H'=H∧∃ (s:Str) (z3 z4 z5:Option V),StR 64 0 s∧s.length≤700*i∧σ=[some (.str (kdS sp)),some (.ref r),some (.str s),z3,z4,z5]) ⟨rfl,_,_,_,_,StR.nil,(by decide +kernel),rfl⟩ ?_ ?_ ?_
 ·rintro i σ H' _ ⟨rfl,_⟩
  exact SqL.of hr
 ·rintro i x σ H' e ⟨rfl,s,z3,z4,z5,h1,h2,rfl⟩
  have li:=(List.getElem?_eq_some_iff.mp e).1
  obtain ⟨t,l,w,ys,rfl,ht,w0,w1,hl,ly,hys⟩:=hx x (zc0 e)
  unfold zcb
  simp_all only [zba,zbb,zac]
  have k6:=znu sp
  have hw:=zgM w0 w1
  have l1:(Str.ofString " ").length=1:=by decide +kernel
  have l2:(Str.ofString "\n").length=1:=by decide +kernel
  have l3:(Str.ofString "-").length=1:=by decide +kernel
  refine ⟨_,SqT.of ht,rfl,_,_,rfl,_,_,rfl,rfl,?_⟩
  have lx1:=zdb s (kdS sp)
  have lx2:=zdb (s++kdS sp) (Str.ofString " ")
  have lx3:=zdb (s++kdS sp++Str.ofString " ") (Str.ofString (toString w))
  have st1:StR 64 30 (s++kdS sp++Str.ofString " "++Str.ofString (toString w)):=((h1.add k6).sep (.inl rfl) zhM (by decide)).add hw
  refine ⟨zdY (by omega),zdY (by omega),w,rfl,zgG w0 w1,zdY (by omega),l,rfl,⟨_,SqL.of hl⟩,?_⟩
  generalize s++kdS sp++Str.ofString " "++Str.ofString (toString w)=s1 at lx3 st1
  refine zfM (xs:=ys) (fun j σ H2=>H2=H'∧∃ (s2:Str) (z5:Option V),StR 64 61 s2∧s2.length≤s1.length+62*j∧σ=[some (.str (kdS sp)),some (.ref r),some (.str s2),some (.ref l),some (.int w),z5]) ⟨rfl,s1,_,st1.mono (by decide),by omega,rfl⟩ ?_ ?_ ?_
  ·rintro j σ H2 _ ⟨rfl,_⟩
   exact SqL.of hl
  ·rintro j y σ H2 ey ⟨rfl,s2,z5,g1,g2,rfl⟩
   have lj:=(List.getElem?_eq_some_iff.mp ey).1
   have hy:=hys y (zc0 ey)
   have lx4:=zdb s2 (Str.ofString " ")
   unfold zbR
   simp_all only [zba,zbb,zac]
   refine ⟨rfl,?_⟩
   cases sp
   ·rw [if_pos zmG]
    unfold PTh at hy
    rw [if_neg Bool.false_ne_true] at hy
    obtain ⟨n,rfl,n0,n1⟩:=hy
    have hn:=zgM n0 n1
    have lx5:=zdb (s2++Str.ofString " ") (Str.ofString (toString n))
    exact ⟨zdY (by omega),n,rfl,zgG n0 n1,zdY (by omega),_,((g1.sep (.inl rfl) zhM (by decide)).add hn).mono (by decide),by omega,rfl⟩
   ·rw [if_neg (show ¬ kdS true=Str.ofString "walk" from zd1)]
    unfold PTh at hy
    rw [if_pos rfl] at hy
    obtain ⟨u,a,b,rfl,hu,a0,a1,b0,b1⟩:=hy
    have ha:=zgM a0 a1
    have hb:=zgM b0 b1
    have lx5:=zdb (s2++Str.ofString " ") (Str.ofString (toString a))
    have lx6:=zdb (s2++Str.ofString " "++Str.ofString (toString a)) (Str.ofString "-")
    have lx7:=zdb (s2++Str.ofString " "++Str.ofString (toString a)++Str.ofString "-") (Str.ofString (toString b))
    exact ⟨zdY (by omega),u,rfl,_,SqT.of hu,.int a,za0 (j:=0) rfl,a,rfl,zgG a0 a1,zdY (by omega),zdY (by omega),u,rfl,_,SqT.of hu,.int b,za0 (j:=1) rfl,b,rfl,zgG b0 b1,zdY (by omega),_,(((g1.sep (.inl rfl) zhM (by decide)).add ha).add (Nat.le_of_eq l3)).add hb,by omega,rfl⟩
  ·rintro σ H2 ⟨rfl,s2,z5,g1,g2,rfl⟩
   have lx4:=zdb s2 (Str.ofString "\n")
   simp_all only [zba,zbb,zac]
   exact ⟨zdY (by omega),_,g1.sep (.inr rfl) zgf (by decide),by omega,rfl⟩
 ·rintro σ H' ⟨rfl,s,z3,z4,z5,h1,h2,rfl⟩
  simp_all only [zba,zbb,zac]
  exact q s (h1.rn (by decide)) (by omega)
theorem zaT:zbo ["_law_kind","_law_paper_here","_law_text","_law_plan","_law_weight","_law_thing"] ["_law_kind","_law_paper_here"] (zaI zcy):=⟨rfl,rfl,rfl,by decide +kernel,rfl,by decide +kernel,by decide +kernel⟩
theorem zeN (T:Txt K mg base a):zdD P w K mg base CX0 1 a.f__law_paper_text a.d__law_paper_text ["_law_kind","_law_paper_here"] (zlG K):=by
 refine T.F__law_paper_text.ok zaT (fun vs H Q E h=>?_) (fun cdv A outer s H vs Q E hr h=>?_)
 ·obtain ⟨sp,r,xs,rfl,hR,lx,hx,q⟩:=h
  rfl
 obtain ⟨sp,r,xs,rfl,hR,lx,hx,q⟩:=h
 exact ⟨zcv K,(zaf (zaR (i:=2) zaT.nd rfl (Or.inl rfl) zaS)
 (zaf (zdJ PassesOwn.never rfl (ze9 (pv 1)) (zh4 rfl (zcC (zbm (i:=3) zaT.nd rfl (Or.inl rfl)) (zcC (zbm (i:=4) zaT.nd rfl (Or.inl rfl)) zfG)))
 (zaf (zaR (i:=2) zaT.nd rfl (Or.inl rfl) (zaK zb6 (zaK zb6 (zaK zb6 (pv 2) (pv 0)) zaS) (zbT zeM rfl T.z_str zdR (zaa (pv 4) zag))))
 (zaf (zdJ PassesOwn.never rfl (ze9 (pv 3)) (zbm (i:=5) zaT.nd rfl (Or.inl rfl))
 (zaD (zbW (zaJ zcD (pv 0) zaS (zaQ _)) (zaD (zaR (i:=2) zaT.nd rfl (Or.inl rfl) (zaK zb6 (zaK zb6 (pv 2) zaS) (zbT zeM rfl T.z_str zdR (zaa (pv 5) zag))))) (zaD (zaR (i:=2) zaT.nd rfl (Or.inl rfl) (zaK zb6 (zaK zb6 (zaK zb6 (zaK zb6 (pv 2) zaS) (zbT zeM rfl T.z_str zdR (zaa (zch zlx (pv 5) zaz (fun _ _=>rfl)) zag))) zaS) (zbT zeM rfl T.z_str zdR (zaa (zch zlx (pv 5) zaz (fun _ _=>rfl)) zag))))))))
 (zaD (zaR (i:=2) zaT.nd rfl (Or.inl rfl) (zaK zb6 (pv 2) zaS))))))
 (zaD (zaZ (pv 2))))),
  zeZ hR lx hx q⟩
def zhj (ts:List Str):Nat:=(ts.map (·.length)).sum+ts.length
theorem zg7 (a b:List Str):zhj (a++b)=zhj a+zhj b:=by
 unfold zhj
 rw [List.map_append,List.sum_append,List.length_append]
 omega
theorem zkB (a:List Str) (n:Nat):zhj (a.take n)≤zhj a:=by
 have:=zg7 (a.take n) (a.drop n)
 rw [List.take_append_drop] at this
 omega
theorem zik (a:List Str) (n:Nat):zhj (a.drop n)≤zhj a:=by
 have:=zg7 (a.take n) (a.drop n)
 rw [List.take_append_drop] at this
 omega
theorem zmu {a:List Str} {x:Str} (h:x∈a):x.length+1≤zhj a:=by
 obtain ⟨n,hn⟩:=List.mem_iff_getElem?.mp h
 have h1:=zik a n
 rw [List.drop_eq_getElem_cons (List.getElem?_eq_some_iff.mp hn).1,(List.getElem?_eq_some_iff.mp hn).2] at h1
 unfold zhj at h1
 rw [List.map_cons,List.sum_cons,List.length_cons] at h1
 unfold zhj
 omega
theorem zln (c:Nat) (ts:List Str):(Txt.join ⟨#[c]⟩ ts).length≤zhj ts:=by
 show (PySem.Builtin.Str.glued ⟨#[c]⟩ ts).length≤_
 rw [StrLaws.glued_eq_join]
 cases ts with
 | nil=>exact Nat.le_refl 0
 | cons a l =>
  rw [PyProof.Rows.len_join_cons]
  unfold zhj
  rw [List.length_cons]
  show _+l.length*1≤_
  omega
theorem zey {m n:Nat} {s:Str} (h:Rn m s) (l:m≤n):Rn n s:=Nat.le_trans h l
def EvT (te:TE) (σ:St) (H:Hp) (R N:Nat):Prop:=∀ (H1:Hp) (Q:VK),za3 H H1→(∀ s H',za3 H1 H'→Rn R s→s.length≤N→Q (.str s) H')→te σ H1 Q
def EvL (te:TE) (σ:St) (H:Hp) (R N:Nat):Prop:=∀ (H1:Hp) (Q:VK),za3 H H1→(∀ p ts H',za3 H1 H'→H' p=some (.lst (ts.map V.str))→(∀ x∈ts,Rn R x)→zhj ts≤N→Q (.ref p) H')→te σ H1 Q
section
variable {σ:St} {te ta tb:TE} {tl th:TO} {R N R2 N2:Nat} {o1 o2:Option Int}
theorem EvT.var {k:Nat} {s:Str} (h:σ[k]?=some (some (.str s))) (r:Rn R s) (l:s.length≤N):EvT (zac k) σ H R N:=fun H1 _ _ q=>⟨_,h,q s H1 (.refl _) r l⟩
theorem EvT.cat (a:EvT ta σ H R N) (b:EvT tb σ H R2 N2) (l:N+N2≤99999):EvT (tOp zcm ta tb) σ H (R+R2) (N+N2):=fun H1 _ s q=>a H1 _ s fun x H2 s2 rx lx=>b H2 _ (s.trans s2) fun y H3 s3 ry ly=>⟨x,y,rfl,rfl,zdY (by omega),q _ H3 (s2.trans s3) (by
  unfold Rn at rx ry ⊢
  rw [zfd]
  have:=(zfo (sgn x) (sgn y) 0).1
  omega) (by rw [zdb];omega)⟩
theorem EvT.sl (a:EvT ta σ H R N) (lo:EvO tl σ H o1) (hi:EvO th σ H o2) (l:N≤99999):EvT (tSl zlL ta tl th) σ H R N:=fun H1 _ s q=>a H1 _ s fun x H2 s2 rx lx=>lo H2 _ (s.trans s2) fun H3 s3=>hi H3 _ ((s.trans s2).trans s3) fun H4 s4=>⟨x,rfl,zdY (by omega),q _ H4 (s2.trans (s3.trans s4)) (by
  unfold Rn at rx ⊢
  rw [zmU]
  exact Nat.le_trans (znG _ _) (Nat.le_trans (zn2 _ _) rx)) (by
  rw [zdn,zmU,List.length_take,List.length_drop]
  have:=zdn x
  unfold sgn at this
  omega)⟩
theorem EvL.var {k:Nat} {p:Addr} {ts:List Str} (h:σ[k]?=some (some (.ref p))) (hp:H p=some (.lst (ts.map V.str))) (r:∀ x∈ts,Rn R x) (l:zhj ts≤N):EvL (zac k) σ H R N:=fun H1 _ s q=>⟨_,h,q p ts H1 (.refl _) (s _ _ hp) r l⟩
theorem EvL.sl (a:EvL ta σ H R N) (lo:EvO tl σ H o1) (hi:EvO th σ H o2):EvL (tSl (ziz K) ta tl th) σ H R N:=fun H1 _ s q=>a H1 _ s fun p ts H2 s2 hp r l=>lo H2 _ (s.trans s2) fun H3 s3=>hi H3 _ ((s.trans s2).trans s3) fun H4 s4=>⟨p,_,rfl,SqL.of ((s3.trans s4) _ _ hp),fun p2 hp2=>by
  have e:zko (ts.map V.str) o1 o2=(((ts.drop (HT.sIx ts.length 0 o1)).take (HT.sIx ts.length ts.length o2 - HT.sIx ts.length 0 o1))).map V.str:=by
   unfold zko
   rw [List.length_map,List.map_take,List.map_drop]
  rw [e]
  exact q p2 _ _ ((s2.trans (s3.trans s4)).add hp2) zae (fun x hx=>r x (List.mem_of_mem_drop (List.mem_of_mem_take hx))) (Nat.le_trans (zkB _ _) (Nat.le_trans (zik _ _) l))⟩
theorem EvL.cat (a:EvL ta σ H R N) (b:EvL tb σ H R N2) (l:N+N2≤999999):EvL (tOp zfU ta tb) σ H R (N+N2):=fun H1 _ s q=>a H1 _ s fun p ts H2 s2 hp r1 l1=>b H2 _ (s.trans s2) fun p2 us H3 s3 hp2 r2 l2=>⟨p,p2,_,_,rfl,rfl,s3 _ _ hp,hp2,by
  rw [List.length_map,List.length_map]
  unfold zhj at l1 l2
  exact Nat.le_trans (show ts.length+us.length≤999999 by omega) (by decide),fun p3 hp3=>by
  rw [← List.map_append]
  refine q p3 _ _ ((s2.trans s3).add hp3) zae (fun x hx=>?_) (by rw [zg7];omega)
  rcases List.mem_append.mp hx with hx | hx
  ·exact r1 x hx
  ·exact r2 x hx⟩
theorem EvL.one (a:EvT ta σ H R N):EvL (zdu (zab ta zaE)) σ H R (N+1):=fun H1 _ s q=>a H1 _ s fun x H2 s2 r l=>⟨zdY (show 1≤99999 by decide),fun p hp=>q p [x] _ (s2.add hp) zae (fun y hy=>by rw [List.mem_singleton.mp hy];exact r) (by
  show x.length+0+1≤_
  omega)⟩
theorem EvL.mono (a:EvL ta σ H R N) (h1:R≤R2) (h2:N≤N2):EvL ta σ H R2 N2:=fun H1 _ s q=>a H1 _ s fun p ts H2 s2 hp r l=>q p ts H2 s2 hp (fun x hx=>zey (r x hx) h1) (by omega)
theorem EvT.join (a:EvL ta σ H R N) (l:N≤999999):EvT (tBM K "str" (zjc K) (tC (.str (Str.ofString "\n"))) (zab ta zaE)) σ H R N:=fun H1 _ s q=>⟨rfl,a H1 _ s fun p ts H2 s2 hp r l1=>⟨_,p,ts,rfl,rfl,SqL.of hp,by
  rw [zgf]
  unfold zhj at l1
  show _+ts.length*1≤_
  exact Nat.le_trans (show (ts.map (·.length)).sum+ts.length*1≤999999 by omega) (by decide),by
  rw [zgf]
  refine q _ _ s2 ?_ (Nat.le_trans (zln 10 ts) l1)
  show Rn R (PySem.Builtin.Str.glued ⟨#[10]⟩ ts)
  rw [StrLaws.glued_eq_join]
  exact zk2 (.inr rfl) r⟩⟩
theorem EvT.ix {k j n:Nat} {p:Addr} {ts:List Str} (h:σ[k]?=some (some (.ref p))) (hp:H p=some (.lst (ts.map V.str))) (r:∀ x∈ts,Rn R x) (l:zhj ts≤N) (hj:σ[j]?=some (some (.int n))) (hn:n<ts.length):EvT (tOp (zcP K) (zac k) (zac j)) σ H R N:=fun H1 _ s q=>by
 have e:ts[n]?=some ts[n]:=List.getElem?_eq_getElem hn
 exact ⟨_,h,_,hj,p,_,_,.str ts[n],rfl,rfl,SqL.of (s _ _ hp),za0 (by rw [List.getElem?_map,e];rfl),q _ H1 (.refl _) (r _ (zc0 e)) (by have:=zmu (zc0 e);omega)⟩
theorem zkY {D:zcd} {n wy:Int} (h8:σ[8]?=some (some (.int wy))) (e:EvT te σ H R N) (q:∀ s H',za3 H H'→Rn R s→s.length≤N→D.rt (.str s) H') (k:D.nx σ H):zcV (zb2 (zaM (tOp rEq (zac 8) (tC (.int n)))) (zbU te) za1) D σ H:=by
 refine ⟨fun σ' H'=>σ'=σ∧H'=H,⟨_,h8,rfl,_,rfl,?_⟩,by rintro _ _ ⟨rfl,rfl⟩;exact k⟩
 show if decide (V.int wy=V.int n)=true then _ else _
 split
 ·exact e H _ (.refl _) q
 ·exact ⟨rfl,rfl⟩
theorem zdW {T:TS} {D:zcd} {n wy:Int} (h8:σ[8]?=some (some (.int wy))) (e:EvT te σ H R N) (q:∀ s H',za3 H H'→Rn R s→s.length≤N→D.rt (.str s) H') (k:T D σ H):zaV (zcV (zb2 (zaM (tOp rEq (zac 8) (tC (.int n)))) (zbU te) za1)) T D σ H:=zkY h8 e q k
end
theorem zit {σ:St} {s:Str}:EvS (tC (.str s)) σ H (.str s):=.con fun _=>.str s
theorem zof {ss:List Str} {v:V} (h:Sh H (.lst (ss.map Tr.str)) v):∃ u,v=.ref u∧H u=some (.lst (ss.map V.str)):=by
 cases h with
 | @lst u xs _ h l e =>
  refine ⟨u,rfl,?_⟩
  have:xs=ss.map V.str:=by
   refine List.ext_getElem? fun i=>?_
   rw [List.length_map] at l
   by_cases c:i<xs.length
   ·have es:ss[i]?=some (ss[i]'(by omega)):=List.getElem?_eq_getElem _
    have:=e i _ (.str (ss[i]'(by omega))) (List.getElem?_eq_getElem c) (by rw [List.getElem?_map,es];rfl)
    rw [List.getElem?_eq_getElem c,List.getElem?_map,es]
    generalize xs[i]=y at this
    cases this
    rfl
   ·rw [List.getElem?_eq_none (by omega),List.getElem?_eq_none (by rw [List.length_map];omega)]
  rw [← this]
  exact h
def zky (K:PySem.W.Frag):Sp:=fun vs H Q _=>∃ (text:Str) (p:Addr) (ds:List Int) (L:Nat),vs=[.str text,.ref p]∧H p=some (.lst (ds.map V.int))∧ds.length=5∧(∀ d∈ds,0≤d)∧Rn L text∧text.length≤20000∧∀ s H',za3 H H'→Rn (2*L+10) s→s.length≤3*text.length+40→Q (.str s) H'
def zgZ (K:PySem.W.Frag):TS :=
 (zb2 (zaM (tOp rEq (zac 8) (tC (.int 7)))) (zaV (zbi (zdu (zab (tC (.str "")) (zab (tC (.str "road 0 1 0")) (zab (tC (.str "road 0 0 5")) (zab (tC (.str "web 2")) (zab (tC (.str "walk 1 0")) (zab (tC (.str "spread 1 0-1")) (zab (tC (.str "road 00 1 5")) (zab (tC (.str "walk 0 0")) zaE))))))))) (zaC 9))
 (zaV (zbi (tOp zfU (zac 9) (zdu (zab (tC (.str "road 0 1 1000001")) (zab (tC (.str "walk 1")) (zab (tC (.str "spread 2")) (zab (tC (.str "road 0 1 5 ")) (zab (tC (.str "spread 1 0-")) (zab (tC (.str "walk 1  0")) zaE)))))))) (zaC 9))
 (zaV (zbi (tOp zfU (zac 9) (zdu (zab (tC (.str "web 61")) (zab (tC (.str "web 0")) zaE)))) (zaC 9))
 (zbU (tBM K "str" (zjc K) (tC (.str "\n")) (zab (tOp zfU (tOp zfU (tSl (ziz K) (zac 5) zbs (zco (zac 6))) (zdu (zab (tOp (zcP K) (zac 9) (tOp (rI (fun _ j=>0<j) fun i j=>.int (i % j)) (tOp (zcP K) (zac 1) (tC (.int 1))) (tCB (fun xs H Q=>∃ p ys,xs=[.ref p]∧(SqL K H p ys∨SqT K H p ys)∧Q (.int ys.length) H) (zab (zac 9) zaE)))) zaE))) (tSl (ziz K) (zac 5) (zco (zac 6)) zbs)) zaE)))))) za1)
def zgD (K:PySem.W.Frag):TS :=
 (zb2 (zaM (tOp rEq (zac 8) (tC (.int 6)))) (zbU (tBM K "str" (zjc K) (tC (.str "\n")) (zab (tOp zfU (tOp zfU (tSl (ziz K) (zac 5) zbs (zco (zac 6))) (zdu (zab (tOp (zcP K) (zac 5) (zac 7)) zaE))) (tSl (ziz K) (zac 5) (zco (tOp (rI0 fun i j=>.int (i+j)) (zac 6) (tC (.int 1)))) zbs)) zaE))) za1)
def zgN (K:PySem.W.Frag):TS :=
 (zb2 (zaM (tOp rEq (zac 8) (tC (.int 5)))) (zbU (tBM K "str" (zjc K) (tC (.str "\n")) (zab (tOp zfU (tOp zfU (tSl (ziz K) (zac 5) zbs (zco (zac 6))) (zdu (zab (tOp (zcP K) (zac 5) (zac 7)) zaE))) (tSl (ziz K) (zac 5) (zco (zac 6)) zbs)) zaE))) za1)
def zgU (K:PySem.W.Frag):TS :=
 (zb2 (zaM (tOp rEq (zac 8) (tC (.int 4)))) (zbU (tBM K "str" (zjc K) (tC (.str "\n")) (zab (tOp zfU (tSl (ziz K) (zac 5) zbs (zco (zac 6))) (tSl (ziz K) (zac 5) (zco (tOp (rI0 fun i j=>.int (i+j)) (zac 6) (tC (.int 1)))) zbs)) zaE))) za1)
def zhi (K:PySem.W.Frag):TS :=
 (zaV (zcV (zgU K))
 (zaV (zcV (zgN K))
 (zaV (zcV (zgD K))
 (zaV (zcV (zgZ K))
 (zbU (tOp zcm (zac 0) (zac 0)))))))
def zgQ:TS :=
 (zb2 (zaM (tOp rEq (zac 8) (tC (.int 2)))) (zbU (tOp zcm (tSl zlL (zac 0) zbs (zco (zac 3))) (tSl zlL (zac 0) (zco (tOp (rI0 fun i j=>.int (i+j)) (zac 3) (tC (.int 1)))) zbs))) za1)
def zhc (K:PySem.W.Frag):TS :=
 (zaV (zcV (zgQ))
 (zaV (zcV (zb2 (zaM (tOp rEq (zac 8) (tC (.int 3)))) (zbU (tSl zlL (zac 0) zbs (zco (zac 3)))) za1))
 (zhi K)))
def zha:TS :=
 (zb2 (zaM (tOp rEq (zac 8) (tC (.int 1)))) (zbU (tOp zcm (tOp zcm (tSl zlL (zac 0) zbs (zco (zac 3))) (zac 4)) (tSl zlL (zac 0) (zco (tOp (rI0 fun i j=>.int (i+j)) (zac 3) (tC (.int 1)))) zbs))) za1)
def zgH:TS :=
 (zb2 (zaM (tOp rEq (zac 8) (tC (.int 0)))) (zbU (tOp zcm (tOp zcm (tSl zlL (zac 0) zbs (zco (zac 3))) (zac 4)) (tSl zlL (zac 0) (zco (zac 3)) zbs))) za1)
def zew (K:PySem.W.Frag):TS :=
 (zaV (zbi (tC (.str " 0123456789-\nwebroadlkspA.~")) (zaC 2))
 (zaV (zbi (tOp (rI (fun _ j=>0<j) fun i j=>.int (i % j)) (tOp (zcP K) (zac 1) (tC (.int 0))) (tOp (rI0 fun i j=>.int (i+j)) (tCB zj9 (zab (zac 0) zaE)) (tC (.int 1)))) (zaC 3))
 (zaV (zbi (tOp zql (zac 2) (tOp (rI (fun _ j=>0<j) fun i j=>.int (i % j)) (tOp (zcP K) (zac 1) (tC (.int 1))) (tCB zj9 (zab (zac 2) zaE)))) (zaC 4))
 (zaV (zbi (tBM K "str" zdt (zac 0) (zab (tC (.str "\n")) zaE)) (zaC 5))
 (zaV (zbi (tOp (rI (fun _ j=>0<j) fun i j=>.int (i % j)) (tOp (zcP K) (zac 1) (tC (.int 2))) (tCB (fun xs H Q=>∃ p ys,xs=[.ref p]∧(SqL K H p ys∨SqT K H p ys)∧Q (.int ys.length) H) (zab (zac 5) zaE))) (zaC 6))
 (zaV (zbi (tOp (rI (fun _ j=>0<j) fun i j=>.int (i % j)) (tOp (zcP K) (zac 1) (tC (.int 3))) (tCB (fun xs H Q=>∃ p ys,xs=[.ref p]∧(SqL K H p ys∨SqT K H p ys)∧Q (.int ys.length) H) (zab (zac 5) zaE))) (zaC 7))
 (zaV (zbi (tOp (rI (fun _ j=>0<j) fun i j=>.int (i % j)) (tOp (zcP K) (zac 1) (tC (.int 4))) (tC (.int 9))) (zaC 8))
 (zaV (zcV (zgH))
 (zaV (zcV (zha))
 (zhc K))))))))))
def zni:List Str:=[Str.ofString "",Str.ofString "road 0 1 0",Str.ofString "road 0 0 5",Str.ofString "web 2",Str.ofString "walk 1 0",Str.ofString "spread 1 0-1",Str.ofString "road 00 1 5",Str.ofString "walk 0 0",Str.ofString "road 0 1 1000001",Str.ofString "walk 1",Str.ofString "spread 2",Str.ofString "road 0 1 5 ",Str.ofString "spread 1 0-",Str.ofString "walk 1  0",Str.ofString "web 61",Str.ofString "web 0"]
theorem zqi:∀ x∈zni,Rn 10 x∧x.length≤16:=by
 have:(zni.all fun x=>decide (lr 0 (sgn x)≤10)&&decide (x.length≤16))=true:=by decide +kernel
 intro x hx
 have h:=List.all_eq_true.mp this x hx
 rw [Bool.and_eq_true,decide_eq_true_eq,decide_eq_true_eq] at h
 exact h
theorem zdV:(Str.ofString " 0123456789-\nwebroadlkspA.~").length=27:=by decide +kernel
theorem zhX {text:Str} {p:Addr} {ds:List Int} {L:Nat} (hp:H p=some (.lst (ds.map V.int))) (l5:ds.length=5) (d0:∀ d∈ds,0≤d) (hr:Rn L text) (lt:text.length≤20000) (q:∀ s H',za3 H H'→Rn (2*L+10) s→s.length≤3*text.length+40→Q (.str s) H'):zew K { nx:=fun _ H'=>Q .non H',rt:=Q } (L2.zci ["_law_text","_law_draws","_law_some","_law_at","_law_sign","_law_rows","_law_row","_law_to","_law_way","_law_odd"] [.str text,.ref p]) H:=by
 obtain ⟨d1,d2,d3,d4,d5,rfl⟩:∃ d1 d2 d3 d4 d5,ds=[d1,d2,d3,d4,d5]:=by
  match ds,l5 with
  | [a,b,c,d,e],_=>exact ⟨a,b,c,d,e,rfl⟩
 unfold zew
 simp_all only [zac]
 refine ⟨_,SqL.of hp,.int d1,za0 (j:=0) rfl,zdY (by omega),d1,rfl,by omega,_,SqL.of hp,.int d2,za0 (j:=1) rfl,by rw [zdV];decide,d2,rfl,by rw [zdV];decide,by rw [zdV];decide,?_⟩
 obtain ⟨c,hc⟩:∃ c,atI (Str.ofString " 0123456789-\nwebroadlkspA.~").cps.toList (d2 % ((Str.ofString " 0123456789-\nwebroadlkspA.~").length:Int))=some c:=by
  have lS:(Str.ofString " 0123456789-\nwebroadlkspA.~").cps.toList.length=27:=by
   have:=zdn (Str.ofString " 0123456789-\nwebroadlkspA.~")
   rw [zdV] at this
   exact this.symm
  obtain ⟨n,hn⟩:∃ n:Nat,d2 % ((Str.ofString " 0123456789-\nwebroadlkspA.~").length:Int)=(n:Int):=⟨(d2 % ((Str.ofString " 0123456789-\nwebroadlkspA.~").length:Int)).toNat,by rw [zdV];omega⟩
  rw [hn]
  exact ⟨_,za0 (List.getElem?_eq_getElem (by rw [lS];rw [zdV] at hn;omega))⟩
 refine ⟨c,hc,rfl,by decide +kernel,by omega,fun pr hpr=>?_⟩
 have ms:zhj (Txt.split text (Str.ofString "\n"))≤text.length+1:=by
  rw [zgf]
  exact PyProof.Rows.split_weight text ⟨#[10]⟩ (Nat.le_refl 1)
 have mr:∀ x∈Txt.split text (Str.ofString "\n"),Rn L x:=by
  rw [zgf]
  exact zfv hr
 have mn:Txt.split text (Str.ofString "\n")≠[]:=zcM _ _
 generalize Txt.split text (Str.ofString "\n")=rows at *
 have l1:0<rows.length:=List.length_pos_iff.mpr mn
 generalize eH:L2.upd H pr (.lst (rows.map V.str))=H1
 have s1:za3 H H1:=by rw [← eH];exact zaA hpr _
 have h1r:H1 pr=some (.lst (rows.map V.str)):=by rw [← eH,zae]
 have h1p:=s1 _ _ hp
 refine ⟨_,SqL.of h1p,.int d3,za0 (j:=2) rfl,_,.inl (SqL.of h1r),d3,rfl,by rw [List.length_map];omega,_,SqL.of h1p,.int d4,za0 (j:=3) rfl,_,.inl (SqL.of h1r),d4,rfl,by rw [List.length_map];omega,_,SqL.of h1p,.int d5,za0 (j:=4) rfl,d5,rfl,by decide,?_⟩
 rw [List.length_map]
 obtain ⟨n4,e4,l4⟩:∃ n:Nat,d4 % (rows.length:Int)=(n:Int)∧n<rows.length:=⟨(d4 % (rows.length:Int)).toNat,by have:=Int.emod_nonneg d4 (show (rows.length:Int)≠0 by omega);omega,by have:=Int.emod_nonneg d4 (show (rows.length:Int)≠0 by omega);have:=Int.emod_lt_of_pos d4 (show (0:Int)<rows.length by omega);omega⟩
 rw [e4]
 generalize d1 % ((text.length:Int)+1)=at'
 generalize d3 % (rows.length:Int)=rw'
 generalize d5 % 9=wy
 have rs:Rn 1 (⟨#[c]⟩:Str):=zll [c] 0
 have ls:(⟨#[c]⟩:Str).length≤1:=Nat.le_refl 1
 generalize (⟨#[c]⟩:Str)=sgc at rs ls
 generalize eσ:[some (V.str text),some (V.ref p),some (V.str (Str.ofString " 0123456789-\nwebroadlkspA.~")),some (V.int at'),some (V.str sgc),some (V.ref pr),some (V.int rw'),some (V.int (n4:Int)),some (V.int wy),none]=σ
 have g0:σ[0]?=some (some (.str text)):=by rw [← eσ];rfl
 have g3:σ[3]?=some (some (.int at')):=by rw [← eσ];rfl
 have g4:σ[4]?=some (some (.str sgc)):=by rw [← eσ];rfl
 have g5:σ[5]?=some (some (.ref pr)):=by rw [← eσ];rfl
 have g6:σ[6]?=some (some (.int rw')):=by rw [← eσ];rfl
 have g7:σ[7]?=some (some (.int (n4:Int))):=by rw [← eσ];rfl
 have g8:σ[8]?=some (some (.int wy)):=by rw [← eσ];rfl
 have vT:EvT (zac 0) σ H1 L text.length:=.var g0 hr (Nat.le_refl _)
 have vS:EvT (zac 4) σ H1 1 1:=.var g4 rs ls
 have vA:EvO (zco (zac 3)) σ H1 (some at'):=.at (.var g3 (.int _))
 have vA1:EvO (zco (tOp (rI0 fun i j=>.int (i+j)) (zac 3) (tC (.int 1)))) σ H1 (some (at'+1)):=.at (.add (.var g3 (.int _)) .int)
 have vR:EvO (zco (zac 6)) σ H1 (some rw'):=.at (.var g6 (.int _))
 have vR1:EvO (zco (tOp (rI0 fun i j=>.int (i+j)) (zac 6) (tC (.int 1)))) σ H1 (some (rw'+1)):=.at (.add (.var g6 (.int _)) .int)
 have vL:EvL (zac 5) σ H1 L (text.length+1):=.var g5 h1r mr ms
 have vI:EvT (tOp (zcP K) (zac 5) (zac 7)) σ H1 L (text.length+1):=.ix g5 h1r mr ms g7 l4
 have fin:∀ {R N:Nat},R≤2*L+10→N≤3*text.length+40→∀ s H',za3 H1 H'→Rn R s→s.length≤N→Q (.str s) H':=fun h1 h2 s H' s2 r l=>q s H' (s1.trans s2) (zey r h1) (Nat.le_trans l h2)
 refine zkY g8 (((vT.sl .no vA (by omega)).cat vS (by omega)).cat (vT.sl vA .no (by omega)) (by omega)) (fin (by omega) (by omega)) ?_
 refine zdW g8 (((vT.sl .no vA (by omega)).cat vS (by omega)).cat (vT.sl vA1 .no (by omega)) (by omega)) (fin (by omega) (by omega)) ?_
 refine zdW g8 ((vT.sl .no vA (by omega)).cat (vT.sl vA1 .no (by omega)) (by omega)) (fin (by omega) (by omega)) ?_
 refine zdW g8 (vT.sl .no vA (by omega)) (fin (by omega) (by omega)) ?_
 refine zdW g8 (.join ((vL.sl .no vR).cat (vL.sl vR1 .no) (by omega)) (by omega)) (fin (by omega) (by omega)) ?_
 refine zdW g8 (.join (((vL.sl .no vR).cat (.one vI) (by omega)).cat (vL.sl vR .no) (by omega)) (by omega)) (fin (by omega) (by omega)) ?_
 refine zdW g8 (.join (((vL.sl .no vR).cat (.one vI) (by omega)).cat (vL.sl vR1 .no) (by omega)) (by omega)) (fin (by omega) (by omega)) ?_
 refine ⟨fun σ' H'=>σ'=σ∧H'=H1,⟨_,g8,rfl,_,rfl,?_⟩,?_⟩
 ·show if decide (V.int wy=V.int 7)=true then _ else _
  split
  ·have g1:σ[1]?=some (some (.ref p)):=by rw [← eσ];rfl
   have ln:9<σ.length:=by rw [← eσ];exact (by decide:9<10)
   have at9:∀ (v w:V) (σ:St),9<σ.length→(σ.set 9 (some v))[9]?=some (some v):=fun v w σ h=>List.getElem?_set_self h
   have ne9:∀ (v:V) (σ:St) (k:Nat) (o:Option V),k≠9→σ[k]?=some o→(σ.set 9 (some v))[k]?=some o:=fun v σ k o h e=>by rw [List.getElem?_set_ne (fun z=>h z.symm)];exact e
   refine zkZ (EvS.lst (.cons zit (.cons zit (.cons zit (.cons zit (.cons zit (.cons zit (.cons zit (.cons zit .nil)))))))) (by decide)) fun v1 H2 s2 sh2=>?_
   refine zkZ (σ:=σ.set 9 (some v1)) (EvS.cat (.var (at9 v1 v1 σ ln) sh2) (EvS.lst (.cons zit (.cons zit (.cons zit (.cons zit (.cons zit (.cons zit .nil)))))) (by decide)) (by decide)) fun v2 H3 s3 sh3=>?_
   refine zkZ (σ:=(σ.set 9 (some v1)).set 9 (some v2)) (EvS.cat (.var (at9 v2 v1 _ (by rw [List.length_set];exact ln)) sh3) (EvS.lst (.cons zit (.cons zit .nil)) (by decide)) (by decide)) fun v3 H4 s4 sh4=>?_
   obtain ⟨u,rfl,hu⟩:=zof (show Sh H4 (.lst (zni.map Tr.str)) v3 from sh4)
   show zbU _ _ (((σ.set 9 (some v1)).set 9 (some v2)).set 9 (some (.ref u))) H4
   rw [List.set_set,List.set_set]
   have s14:za3 H1 H4:=(s2.trans s3).trans s4
   have u1:=at9 (.ref u) v1 σ ln
   have k1:=ne9 (.ref u) σ 1 _ (by decide) g1
   have k5:=ne9 (.ref u) σ 5 _ (by decide) g5
   have k6:=ne9 (.ref u) σ 6 _ (by decide) g6
   have wL:EvL (zac 5) (σ.set 9 (some (.ref u))) H4 (L+10) (text.length+1):=(EvL.var k5 (s14 _ _ h1r) mr ms).mono (by omega) (Nat.le_refl _)
   have wR:EvO (zco (zac 6)) (σ.set 9 (some (.ref u))) H4 (some rw'):=.at (.var k6 (.int _))
   obtain ⟨m,em,lm⟩:∃ m:Nat,d2 % 16=(m:Int)∧m<16:=⟨(d2 % 16).toNat,by omega,by omega⟩
   have eo:zni[m]?=some (zni[m]'lm):=List.getElem?_eq_getElem _
   have wO:EvT (tOp (zcP K) (zac 9) (tOp (rI (fun _ j=>0<j) fun i j=>.int (i % j)) (tOp (zcP K) (zac 1) (tC (.int 1))) (tCB (fun xs H Q=>∃ p ys,xs=[.ref p]∧(SqL K H p ys∨SqT K H p ys)∧Q (.int ys.length) H) (zab (zac 9) zaE)))) (σ.set 9 (some (.ref u))) H4 (L+10) 16:=fun H5 R s5 r5=>by
    refine ⟨_,u1,_,k1,p,_,1,.int d2,rfl,rfl,SqL.of (s5 _ _ (s14 _ _ h1p)),za0 (j:=1) rfl,_,u1,u,_,rfl,.inl (SqL.of (s5 _ _ hu)),d2,_,rfl,rfl,(by rw [List.length_map];show (0:Int)<((zni.length:Nat):Int);decide),u,_,_,.str (zni[m]'lm),rfl,rfl,SqL.of (s5 _ _ hu),?_,?_⟩
    ·rw [List.length_map,show ((zni.length:Nat):Int)=16 from rfl,em]
     exact za0 (by rw [List.getElem?_map,eo];rfl)
    ·have:=zqi _ (zc0 eo)
     exact r5 _ H5 (.refl _) (zey this.1 (by omega)) this.2
   exact EvT.join (((wL.sl .no wR).cat (.one wO) (by omega)).cat (wL.sl wR .no) (by omega)) (by omega) _ _ (.refl _) fun s H' s5 r l=>q s H' (s1.trans (s14.trans s5)) (zey r (by omega)) (by omega)
  ·exact ⟨rfl,rfl⟩
 ·rintro _ _ ⟨rfl,rfl⟩
  exact vT.cat vT (by omega) _ _ (.refl _) (fin (by omega) (by omega))
theorem zbf:zbo ["_law_text","_law_draws","_law_some","_law_at","_law_sign","_law_rows","_law_row","_law_to","_law_way","_law_odd"] ["_law_text","_law_draws"] (zaI zep):=⟨rfl,rfl,rfl,by decide +kernel,rfl,by decide +kernel,by decide +kernel⟩
theorem zhx (T:Txt K mg base a):zdD P w K mg base CX0 1 a.f__law_bent a.d__law_bent ["_law_text","_law_draws"] (zky K):=by
 refine T.F__law_bent.ok zbf (fun vs H Q E h=>?_) (fun cdv A outer s H vs Q E hr h=>?_)
 ·obtain ⟨text,p,ds,L,rfl,hp,l5,d0,hR,lt,q⟩:=h
  rfl
 obtain ⟨text,p,ds,L,rfl,hp,l5,d0,hR,lt,q⟩:=h
 exact ⟨zew K,(zaf (zaR (i:=2) zbf.nd rfl (Or.inl rfl) zaS)
 (zaf (zaR (i:=3) zbf.nd rfl (Or.inl rfl) (zaK zbZ (zch zbg (pv 1) zaz (fun _ _=>rfl)) (zaK zb1 (zaF zfB rfl T.z_len PySem.boot_len (zaa (pv 0) zag)) zaz)))
 (zaf (zaR (i:=4) zbf.nd rfl (Or.inl rfl) (zch zno (pv 2) (zaK zbZ (zch zbg (pv 1) zaz (fun _ _=>rfl)) (zaF zfB rfl T.z_len PySem.boot_len (zaa (pv 2) zag))) (fun _ _=>rfl)))
 (zaf (zaR (i:=5) zbf.nd rfl (Or.inl rfl) (zda PySem.F.plainAttrs_str PySem.F.slot_str_split PySem.F.type_str_split zds (pv 0) (zaa zaS zag)))
 (zaf (zaR (i:=6) zbf.nd rfl (Or.inl rfl) (zaK zbZ (zch zbg (pv 1) zaz (fun _ _=>rfl)) (zaF zaY rfl T.z_len PySem.boot_len (zaa (pv 5) zag))))
 (zaf (zaR (i:=7) zbf.nd rfl (Or.inl rfl) (zaK zbZ (zch zbg (pv 1) zaz (fun _ _=>rfl)) (zaF zaY rfl T.z_len PySem.boot_len (zaa (pv 5) zag))))
 (zaf (zaR (i:=8) zbf.nd rfl (Or.inl rfl) (zaK zbZ (zch zbg (pv 1) zaz (fun _ _=>rfl)) zaz))
 (zaf (zbj (zbW (zaJ zcD (pv 8) zaz (zaQ _)) (zaD (zaZ (zaK zb6 (zaK zb6 (zbv zfI (pv 0) zbV (zbX (pv 3))) (pv 4)) (zbv zfI (pv 0) (zbX (pv 3)) zbV)))) zaW))
 (zaf (zbj (zbW (zaJ zcD (pv 8) zaz (zaQ _)) (zaD (zaZ (zaK zb6 (zaK zb6 (zbv zfI (pv 0) zbV (zbX (pv 3))) (pv 4)) (zbv zfI (pv 0) (zbX (zaK zb1 (pv 3) zaz)) zbV)))) zaW))
 (zaf (zbj (zbW (zaJ zcD (pv 8) zaz (zaQ _)) (zaD (zaZ (zaK zb6 (zbv zfI (pv 0) zbV (zbX (pv 3))) (zbv zfI (pv 0) (zbX (zaK zb1 (pv 3) zaz)) zbV)))) zaW))
 (zaf (zbj (zbW (zaJ zcD (pv 8) zaz (zaQ _)) (zaD (zaZ (zbv zfI (pv 0) zbV (zbX (pv 3))))) zaW))
 (zaf (zbj (zbW (zaJ zcD (pv 8) zaz (zaQ _)) (zaD (zaZ (zda PySem.F.plainAttrs_str PySem.F.slot_str_join PySem.F.type_str_join zg5 zaS (zaa (zaK zc3 (zbv zcW (pv 5) zbV (zbX (pv 6))) (zbv zcW (pv 5) (zbX (zaK zb1 (pv 6) zaz)) zbV)) zag)))) zaW))
 (zaf (zbj (zbW (zaJ zcD (pv 8) zaz (zaQ _)) (zaD (zaZ (zda PySem.F.plainAttrs_str PySem.F.slot_str_join PySem.F.type_str_join zg5 zaS (zaa (zaK zc3 (zaK zc3 (zbv zcW (pv 5) zbV (zbX (pv 6))) (zb3 (zaa (zch zbg (pv 5) (pv 7) (fun _ _=>rfl)) zag))) (zbv zcW (pv 5) (zbX (pv 6)) zbV)) zag)))) zaW))
 (zaf (zbj (zbW (zaJ zcD (pv 8) zaz (zaQ _)) (zaD (zaZ (zda PySem.F.plainAttrs_str PySem.F.slot_str_join PySem.F.type_str_join zg5 zaS (zaa (zaK zc3 (zaK zc3 (zbv zcW (pv 5) zbV (zbX (pv 6))) (zb3 (zaa (zch zbg (pv 5) (pv 7) (fun _ _=>rfl)) zag))) (zbv zcW (pv 5) (zbX (zaK zb1 (pv 6) zaz)) zbV)) zag)))) zaW))
 (zaf (zbj (zbW (zaJ zcD (pv 8) zaz (zaQ _)) (zaf (zaR (i:=9) zbf.nd rfl (Or.inl rfl) (zb3 (zaa zaS (zaa zaS (zaa zaS (zaa zaS (zaa zaS (zaa zaS (zaa zaS (zaa zaS zag))))))))))
 (zaf (zaR (i:=9) zbf.nd rfl (Or.inl rfl) (zaK zc3 (pv 9) (zb3 (zaa zaS (zaa zaS (zaa zaS (zaa zaS (zaa zaS (zaa zaS zag)))))))))
 (zaf (zaR (i:=9) zbf.nd rfl (Or.inl rfl) (zaK zc3 (pv 9) (zb3 (zaa zaS (zaa zaS zag)))))
 (zaD (zaZ (zda PySem.F.plainAttrs_str PySem.F.slot_str_join PySem.F.type_str_join zg5 zaS (zaa (zaK zc3 (zaK zc3 (zbv zcW (pv 5) zbV (zbX (pv 6))) (zb3 (zaa (zch zbg (pv 9) (zaK zbZ (zch zbg (pv 1) zaz (fun _ _=>rfl)) (zaF zaY rfl T.z_len PySem.boot_len (zaa (pv 9) zag))) (fun _ _=>rfl)) zag))) (zbv zcW (pv 5) (zbX (pv 6)) zbV)) zag))))))) zaW))
 (zaD (zaZ (zaK zb6 (pv 0) (pv 0))))))))))))))))))),
  zhX hp l5 d0 hR lt q⟩
def zmc (K:PySem.W.Frag) (P:Addr):Sp:=fun vs H Q _=>∃ (p:Addr) (ns:List Int),vs=[.ref p]∧SqL K H p (ns.map V.int)∧ns.length≤63∧(∀ x∈ns,x.natAbs<2 ^ 2 ^ 20)∧LT H P∧∀ H',Q (.bl true) H'
def zk8 (a:Ad):Sp:=fun vs H Q _=>∃ text:Str,vs=[.str text]∧LT H a.p_lam∧Rn 640 text∧text.length≤80000 ∧
 (∀ sp ts t v H',zf2 text=.inr (sp,ts)→Bar a.p_lam H H'→H' t=some (.tup [v,.non])→Sh H' (.tup [.str (kdS sp),.lst ts]) v→Q (.ref t) H') ∧
 ∀ (k:Nat) t x dx H',zf2 text=.inl k→Bar a.p_lam H H'→H' t=some (.tup [.non,.ref x])→H' x=some (zfr x (.ref a.c_NoText) (some dx))→H' dx=some (.xd [("row",.int k)])→Q (.ref t) H'
def zeh (K:PySem.W.Frag) (a:Ad):TS :=
 (zaV (zbi (tC .non) (zaC 1))
 (zaV (zbi (tC .non) (zaC 2))
 (zaV (znB K (fun E'=>(zbi (zku (zfV a) [] E' (zab (zac 0) zaE)) (zaC 2))) (.ref a.c_HideError) 3
 (zbi (zac 3) (zaC 1)))
 (zbU (zf3 (zab (zac 2) (zab (zac 1) zaE)))))))
theorem zij {text:Str} (I:Isa K a) (hP:LT H a.p_lam) (hr:Rn 640 text) (lt:text.length≤80000)
 (q1:∀ sp ts t v H',zf2 text=.inr (sp,ts)→Bar a.p_lam H H'→H' t=some (.tup [v,.non])→Sh H' (.tup [.str (kdS sp),.lst ts]) v→Q (.ref t) H')
 (q2:∀ (k:Nat) t x dx H',zf2 text=.inl k→Bar a.p_lam H H'→H' t=some (.tup [.non,.ref x])→H' x=some (zfr x (.ref a.c_NoText) (some dx))→H' dx=some (.xd [("row",.int k)])→Q (.ref t) H'):zeh K a { nx:=fun _ H'=>Q .non H',rt:=Q } (L2.zci ["_law_text","_law_caught","_law_told_here","e"] [.str text]) H:=by
 unfold zeh
 simp_all only [zac]
 refine ⟨text,rfl,hP,hr,lt,fun sp ts v H1 e b L sh=>⟨by decide,fun t ht=>q1 sp ts t v _ e (fun b' o n e=>(zaA ht _) _ _ (b b' o n e)) zae (sh.same (zjp.trans (zaA ht _)))⟩,fun k dx H1 e b L hdx h1=>⟨I.ec,I.sub,fun x hx=>⟨by decide,fun t ht=>?_⟩⟩⟩
 have s2:za3 H1 (L2.upd (L2.upd H1 x (zfr x (.ref a.c_NoText) (some dx))) t (.tup [.non,.ref x])):=(zaA hx _).add ht
 have nxt:x≠t:=fun z=>by rw [← z,zae] at ht;cases ht
 exact q2 k t x dx _ e (fun b' o n e=>s2 _ _ (b b' o n e)) zae (by rw [zap nxt,zae]) (s2 _ _ h1)
theorem zce:zbo ["_law_text","_law_caught","_law_told_here","e"] ["_law_text"] (zaI zeu):=⟨rfl,rfl,rfl,by decide +kernel,rfl,by decide +kernel,by decide +kernel⟩
theorem zhD (T:Txt K mg base a):zdD P w K mg base CX0 9 a.f__law_told a.d__law_told ["_law_text"] (zk8 a):=by
 have G_read_paper:=zhk (P:=P) (w:=w) (base:=base) T
 refine T.F__law_told.ok zce (fun vs H Q E h=>?_) (fun cdv A outer s H vs Q E hr h=>?_)
 ·obtain ⟨text,rfl,hP,hR,lt,q1,q2⟩:=h
  rfl
 obtain ⟨text,rfl,hP,hR,lt,q1,q2⟩:=h
 exact ⟨zeh K a,(zaf (zaR (i:=1) zce.nd rfl (Or.inl rfl) zbC)
 (zaf (zaR (i:=2) zce.nd rfl (Or.inl rfl) zbC)
 (zaf (zoD (i:=3) T.m_HideError T.x_HideError rfl zce.nd rfl rfl rfl rfl rfl rfl (fun pins E'=>(zaD (zaR (i:=2) zce.nd rfl (Or.inl rfl) (zml G_read_paper (hr.mono (by decide)) rfl T.m_read_paper T.F_read_paper.kp T.b_read_paper .nil zpZ (zaa (pv 0) zag)))))
 (fun ea=>(zaD (zaR (i:=1) zce.nd rfl (Or.inl rfl) (pv 3)))))
 (zaD (zaZ (zdv (zaa (pv 2) (zaa (pv 1) zag)))))))),
  zij T.I hP hR lt q1 q2⟩
theorem Sh.bar {P:Addr} {H H':Hp} {ps:Array Value} (hP:H P=some (.tbl ps)) (b:Bar P H H') {t:Tr} {v:V} (h:Sh H t v):Sh H' t v:=by
 induction h with
 | int i=>exact .int i
 | bl b=>exact .bl b
 | str x=>exact .str x
 | non=>exact .non
 | lst h l _ ih=>exact .lst (b _ _ (fun z=>by rw [z,hP] at h;cases h) h) l ih
 | tup h l _ ih=>exact .tup (b _ _ (fun z=>by rw [z,hP] at h;cases h) h) l ih
inductive DpT:Nat→Tr→Prop where
 | int {n:Nat} (i:Int):DpT n (.int i)
 | str {n:Nat} (x:Str):DpT n (.str x)
 | lst {n:Nat} {ts:List Tr} (h:∀ t∈ts,DpT n t):DpT (n+1) (.lst ts)
 | tup {n:Nat} {ts:List Tr} (h:∀ t∈ts,DpT n t):DpT (n+1) (.tup ts)
theorem Sh.toT {H:Hp} {t:Tr} {v:V} (h:Sh H t v):∀ {n:Nat},DpT n t→ShT H n t v:=by
 induction h with
 | int i=>intro n _;exact .int i
 | bl b=>intro n d;cases d
 | str x=>intro n _;exact .str x
 | non=>intro n d;cases d
 | lst h l _ ih =>
  intro n d
  cases d with
  | lst d=>exact .lst h l fun i x t e1 e2=>ih i x t e1 e2 (d t (zc0 e2))
 | tup h l _ ih =>
  intro n d
  cases d with
  | tup d=>exact .tup h l fun i x t e1 e2=>ih i x t e1 e2 (d t (zc0 e2))
theorem zqB {sp:Bool} {w:Str} {t:Tr} (h:thO sp w=some t):DpT 1 t:=by
 rw [zp7] at h
 cases hn:zcE (Txt.split w (Str.ofString "-")) with
 | none=>rw [hn] at h;cases h
 | some ns =>
  rw [hn] at h
  have h:thN sp ns=some t:=h
  unfold thN at h
  cases sp
  ·rw [if_neg Bool.false_ne_true] at h
   match ns,h with
   | [x],h=>cases h;exact .int x
   | [],h=>cases h
   | _::_::_,h=>cases h
  ·rw [if_pos rfl] at h
   match ns,h with
   | [x,y],h =>
    cases h
    refine .tup fun t ht=>?_
    rcases List.mem_cons.mp ht with rfl | ht
    ·exact .int _
    ·rw [List.mem_singleton.mp ht]
     exact .int _
   | [],h=>cases h
   | [_],h=>cases h
   | _::_::_::_,h=>cases h
theorem znm {sp:Bool}:∀ {ws:List Str} {ts:List Tr},plO sp ws=some ts→∀ t∈ts,DpT 1 t
 | [],ts,h,t,ht=>by
  cases h
  cases ht
 | w::ws,ts,h,t,ht=>by
  rw [zfy] at h
  cases h1:thO sp w with
  | none=>rw [h1] at h;cases h
  | some t1 =>
   cases h2:plO sp ws with
   | none=>rw [h1,h2] at h;cases h
   | some t2 =>
    rw [h1,h2] at h
    cases h
    rcases List.mem_cons.mp ht with rfl | ht
    ·exact zqB h1
    ·exact znm h2 t ht
theorem zqw {sp:Bool} {r:Str} {t:Tr} (h:shO sp r=some t):DpT 3 t:=by
 unfold shO at h
 have h:(if (Txt.split r (Str.ofString " ")).getD 0 ""=kdS sp∧(if sp then 2 else 3)≤(Txt.split r (Str.ofString " ")).length then (zcY ((Txt.split r (Str.ofString " ")).getD 1 "")).bind fun n=>if n<1 then none else (plO sp ((Txt.split r (Str.ofString " ")).drop 2)).map fun p=>Tr.tup [.lst p,.int n] else none)=some t:=h
 by_cases hc:(Txt.split r (Str.ofString " ")).getD 0 ""=kdS sp∧(if sp then 2 else 3)≤(Txt.split r (Str.ofString " ")).length
 ·rw [if_pos hc] at h
  cases h1:zcY ((Txt.split r (Str.ofString " ")).getD 1 "") with
  | none=>rw [h1] at h;cases h
  | some n =>
   rw [h1] at h
   have h:(if n<1 then none else (plO sp ((Txt.split r (Str.ofString " ")).drop 2)).map fun p=>Tr.tup [.lst p,.int n])=some t:=h
   split at h
   ·cases h
   ·cases h2:plO sp ((Txt.split r (Str.ofString " ")).drop 2) with
    | none=>rw [h2] at h;cases h
    | some ps =>
     rw [h2] at h
     cases h
     refine .tup fun t ht=>?_
     rcases List.mem_cons.mp ht with rfl | ht
     ·exact .lst (znm h2)
     ·rw [List.mem_singleton.mp ht]
      exact .int _
 ·rw [if_neg hc] at h
  cases h
theorem zm0 {sp:Bool} {rows:List Str} {ts:List Tr} (h:zfn sp rows=.inr ts):∀ t∈ts,DpT 3 t:=by
 unfold zfn at h
 split at h
 ·cases h
 ·split at h
  ·cases h
  ·cases h
   intro t ht
   obtain ⟨r,_,e⟩:=List.mem_filterMap.mp ht
   exact zqw e
theorem zqF {text:Str} {sp:Bool} {ts:List Tr} (h:zf2 text=.inr (sp,ts)):DpT 5 (.tup [.str (kdS sp),.lst ts]):=by
 have hd:∀ t∈ts,DpT 3 t:=by
  have h:zjE (Txt.partition text " ").1 (Txt.split text "\n")=.inr (sp,ts):=h
  unfold zjE at h
  split at h
  ·cases ho:zfn false (Txt.split text "\n") with
   | inl k=>rw [ho] at h;cases h
   | inr us =>
    rw [ho] at h
    cases h
    exact zm0 ho
  ·split at h
   ·cases ho:zfn true (Txt.split text "\n") with
    | inl k=>rw [ho] at h;cases h
    | inr us =>
     rw [ho] at h
     cases h
     exact zm0 ho
   ·cases h
 refine .tup fun t ht=>?_
 rcases List.mem_cons.mp ht with rfl | ht
 ·exact .str _
 ·rw [List.mem_singleton.mp ht]
  exact .lst hd
def zhd (K:PySem.W.Frag) (a:Ad):TS :=
 (zbU (zdi (tOp rEq (zbz (zi7 a) [] E0 (zab (zac 7) zaE)) (tC (.int 2))) (zdi (zbz ziP [] E0 (zab (zjV K (zac 7) "row") zaE)) (tOp rEq (zjV K (zac 7) "row") (zac 4)))))
theorem zct (K:PySem.W.Frag) (a:Ad) (D:zcd) (σ:St) (H:Hp):zhd K a D σ H=(zbU (zdi (tOp rEq (zbz (zi7 a) [] E0 (zab (zac 7) zaE)) (tC (.int 2))) (zdi (zbz ziP [] E0 (zab (zjV K (zac 7) "row") zaE)) (tOp rEq (zjV K (zac 7) "row") (zac 4))))) D σ H:=rfl
def zfC:TS :=
 (zb2 (zaM (tOp (fun x y H Q=>y=.non∧Q (.bl (decide (x=.non))) H) (zac 4) (tC .non))) (zbU (zdi (tOp (fun x y H Q=>y=.non∧Q (.bl (decide (x=.non))) H) (zac 7) (tC .non)) (zbz (zjs 5) [] E0 (zab (zac 6) (zab (zac 5) zaE))))) za1)
theorem zcA (D:zcd) (σ:St) (H:Hp):zfC D σ H=(zb2 (zaM (tOp (fun x y H Q=>y=.non∧Q (.bl (decide (x=.non))) H) (zac 4) (tC .non))) (zbU (zdi (tOp (fun x y H Q=>y=.non∧Q (.bl (decide (x=.non))) H) (zac 7) (tC .non)) (zbz (zjs 5) [] E0 (zab (zac 6) (zab (zac 5) zaE))))) za1) D σ H:=rfl
def zi9 (K:PySem.W.Frag):TS :=
 (zbi (zbz (zky K) [] E0 (zab (zac 2) (zab (zeK (ze4 (zab (tC (.int 5)) zaE)) (zaC 0) zcz (zbz (zcG K) [] E0 (zab (zac 1) (zab (tOp (rI0 fun i j=>.int (i+j)) (tOp (rI0 fun i j=>.int (i+j)) (tC (.int 100)) (tOp (rI IntMulOk fun i j=>.int (i*j)) (tC (.int 5)) (zac 2))) (zac 0)) zaE))) [none,some 0,some 3]) zaE))) (zaC 2))
theorem zcs (K:PySem.W.Frag) (D:zcd) (σ:St) (H:Hp):zi9 K D σ H=(zbi (zbz (zky K) [] E0 (zab (zac 2) (zab (zeK (ze4 (zab (tC (.int 5)) zaE)) (zaC 0) zcz (zbz (zcG K) [] E0 (zab (zac 1) (zab (tOp (rI0 fun i j=>.int (i+j)) (tOp (rI0 fun i j=>.int (i+j)) (tC (.int 100)) (tOp (rI IntMulOk fun i j=>.int (i*j)) (tC (.int 5)) (zac 2))) (zac 0)) zaE))) [none,some 0,some 3]) zaE))) (zaC 2)) D σ H:=rfl
def zje (K:PySem.W.Frag) (a:Ad):TS :=
 (zaV (zbi (zbz (zi4 K) [] E0 (zab (zac 2) zaE)) (zlP K 2 (zdw (zaC 4) (zdw (zaC 5) zlU))))
 (zaV (zbi (zbz (zk8 a) [] E0 (zab (zac 2) zaE)) (zlP K 2 (zdw (zaC 6) (zdw (zaC 7) zlU))))
 (zaV (zcV (zfC))
 (zhd K a))))
theorem zcw (K:PySem.W.Frag) (a:Ad) (D:zcd) (σ:St) (H:Hp):zje K a D σ H=(zaV (zbi (zbz (zi4 K) [] E0 (zab (zac 2) zaE)) (zlP K 2 (zdw (zaC 4) (zdw (zaC 5) zlU))))
 (zaV (zbi (zbz (zk8 a) [] E0 (zab (zac 2) zaE)) (zlP K 2 (zdw (zaC 6) (zdw (zaC 7) zlU))))
 (zaV (zcV (zfC))
 (zhd K a)))) D σ H:=rfl
def zod (K:PySem.W.Frag) (a:Ad):TS :=
 (zaV (zbi (tOp (zcP K) (zdu (zab (tC (.str "walk")) (zab (tC (.str "spread")) zaE))) (tOp (rI (fun _ j=>0<j) fun i j=>.int (i % j)) (zbz (zcG K) [] E0 (zab (zac 0) (zab (tC (.int 90)) zaE))) (tC (.int 2)))) (zaC 1))
 (zaV (zbi (zbz (zlG K) [] E0 (zab (zac 1) (zab (zbz (zkG K) [] E0 (zab (zac 0) (zab (tC (.int 0)) (zab (zac 1) zaE)))) zaE))) (zaC 2))
 (zaV (zgP (ze4 (zab (tOp (rI (fun _ j=>0<j) fun i j=>.int (i % j)) (zbz (zcG K) [] E0 (zab (zac 0) (zab (tC (.int 92)) zaE))) (tC (.int 3))) zaE)) (zaC 3)
 (zi9 K))
 (zje K a))))
theorem zqU {p:Addr} {ns:List Int} (xa:zjd K a.c_NoText "row") (hS:SqL K H p (ns.map V.int)) (hl:ns.length≤63) (hP:LT H a.p_lam) (q:∀ H',Q (.bl true) H') :
  zod K a { nx:=fun _ H'=>Q .non H',rt:=Q } (L2.zci ["_law_script","_law_kind","_law_text","_law_k","_law_row","_law_due","_law_told_here","_law_caught"] [.ref p]) H:=by
 unfold zod
 simp_all only [zct,zcA,zcs,zcw,zac]
 refine ⟨by decide,fun kl hkl=>⟨p,ns,90,rfl,(zaA hkl _).seq hS,hl,by decide,by decide,fun r0 r00 r01=>⟨r0,rfl,by decide,_,SqL.of zae,?_⟩⟩⟩
 obtain ⟨sp,hsp⟩:∃ sp:Bool,atI [V.str (Str.ofString "walk"),V.str (Str.ofString "spread")] (r0 % 2)=some (.str (kdS sp)):=by
  have:r0 % 2=0∨r0 % 2=1:=by omega
  rcases this with e | e <;> rw [e]
  ·exact ⟨false,rfl⟩
  ·exact ⟨true,rfl⟩
 refine ⟨_,hsp,p,ns,sp,rfl,(zaA hkl _).seq hS,hl,fun r xs H1 s1' h1 lx hx=>⟨sp,r,xs,rfl,h1,lx,hx,fun s rs ls=>?_⟩⟩
 have s1:za3 H H1:=(zaA hkl _).trans s1'
 refine ⟨p,ns,92,rfl,s1.seq hS,hl,by decide,by decide,fun r1 r10 r11=>⟨r1,rfl,by decide,by omega,by omega,?_⟩⟩
 have hn:(r1 % 3).toNat≤2:=by omega
 generalize (r1 % 3).toNat=n at hn
 refine zcO (fun i σ H2=>za3 H H2∧∃ (s:Str) (z3:Option V),((i=0∧Rn 64 s∧s.length≤4000)∨(i=1∧Rn 138 s∧s.length≤12040)∨(i=2∧Rn 286 s∧s.length≤36160))∧σ=[some (.ref p),some (.str (kdS sp)),some (.str s),z3,none,none,none,none]) ⟨s1,s,_,.inl ⟨rfl,rs,ls⟩,rfl⟩ ?_ ?_
 ·rintro i σ H2 hi ⟨s2,s,z3,hs,rfl⟩
  rw [Int.zero_add]
  unfold zi9
  simp_all only [zct,zcA,zcs,zcw,zac]
  refine ⟨by decide,by decide,fun D hD=>?_⟩
  refine ziZ (fun j ys σ' H'=>za3 H2 H'∧(∃ ds:List Int,ys=ds.map V.int∧ds.length=j∧∀ d∈ds,0≤d)∧∃ x,σ'=[x,some (.ref p),some (.int i)]) ⟨zaA hD _,⟨[],rfl,rfl,fun d h=>by cases h⟩,_,rfl⟩ ?_ ?_
  ·rintro j ys σ' H' hj hD' ⟨s3,⟨ds,rfl,ld,d0⟩,x,rfl⟩
   simp_all only [zct,zcA,zcs,zcw,zac]
   refine ⟨zqg (by decide) (by decide),p,ns,_,rfl,(s2.trans s3).seq hS,hl,by omega,by omega,fun r r0 r1=>⟨_,hD',zc5 (by rw [List.length_map];omega),_,zae,s3.put hD,ds++[r],by rw [List.map_append];rfl,by rw [List.length_append,ld];rfl,fun d hd=>?_⟩⟩
   rcases List.mem_append.mp hd with hd | hd
   ·exact d0 d hd
   ·rw [List.mem_singleton.mp hd]
    exact r0
  ·rintro ys σ' H' hD' ⟨s3,⟨ds,rfl,ld,d0⟩,x,rfl⟩
   obtain ⟨L,hL⟩:∃ L,Rn L s∧s.length≤20000∧∀ s':Str,Rn (2*L+10) s'→s'.length≤3*s.length+40→(False∧Rn 64 s'∧s'.length≤4000∨i+1=1∧Rn 138 s'∧s'.length≤12040∨i+1=2∧Rn 286 s'∧s'.length≤36160):=by
    rcases hs with ⟨h0,h1,h2⟩ | ⟨h0,h1,h2⟩ | ⟨h0,h1,h2⟩
    ·exact ⟨64,h1,by omega,fun s' r l=>.inr (.inl ⟨by omega,r,by omega⟩)⟩
    ·exact ⟨138,h1,by omega,fun s' r l=>.inr (.inr ⟨by omega,r,by omega⟩)⟩
    ·omega
   exact ⟨s,D,ds,L,rfl,hD',ld,d0,hL.1,hL.2.1,fun s' H3 s4 r l=>⟨s2.trans (s3.trans s4),s',hL.2.2 s' r l,rfl⟩⟩
 ·rintro σ H2 ⟨s2,s,z3,hs,rfl⟩
  have hr:Rn 640 s∧s.length≤80000:=by
   rcases hs with ⟨_,h1,h2⟩ | ⟨_,h1,h2⟩ | ⟨_,h1,h2⟩
   ·exact ⟨zey h1 (by decide),by omega⟩
   ·exact ⟨zey h1 (by decide),by omega⟩
   ·exact ⟨zey h1 (by decide),by omega⟩
  unfold zje
  simp_all only [zct,zcA,zcs,zcw,zac]
  obtain ⟨ps2,hps2⟩:=(hP.same s2).tbl
  refine ⟨s,rfl,hr.1,hr.2,fun k t H3 e s3 ht=>?_,fun sp' ts t d H3 e s3 ht sh=>?_⟩
  ·refine ⟨t,rfl,_,SqT.of ht,rfl,_,_,rfl,_,_,rfl,rfl,s,rfl,hP.same (s2.trans s3),hr.1,hr.2,fun sp2 ts2 t2 v2 H4 e2=>absurd (e.symm.trans e2) (fun z=>by cases z),fun k2 t2 x dx H4 e2 b4 h4 hx hdx=>?_⟩
   have ek:k=k2:=by
    have:=e.symm.trans e2
    cases this
    rfl
   subst ek
   refine ⟨t2,rfl,_,SqT.of h4,rfl,_,_,rfl,_,_,rfl,rfl,?_⟩
   refine ⟨fun σ H'=>H'=H4∧σ=[some (.ref p),some (.str (kdS sp)),some (.str s),z3,some (.int k),some .non,some .non,some (.ref x)],?_,?_⟩
   ·unfold zfC
    simp_all only [zct,zcA,zcs,zcw,zac]
   ·rintro σ H5 ⟨rfl,rfl⟩
    unfold zhd
    simp_all only [zct,zcA,zcs,zcw,zac]
    refine ⟨x,some dx,rfl,hx,fun H6 s6=>⟨rfl,?_⟩⟩
    rw [if_pos rfl]
    refine ⟨_,dx,s6 _ _ hx,_,s6 _ _ hdx,xa,.int k,rfl,k,rfl,true,rfl,?_⟩
    rw [if_pos rfl]
    refine ⟨_,dx,s6 _ _ hx,_,s6 _ _ hdx,xa,.int k,rfl,rfl,?_⟩
    rw [decide_eq_true rfl]
    exact q H6
  ·refine ⟨t,rfl,_,SqT.of ht,rfl,_,_,rfl,_,_,rfl,rfl,s,rfl,hP.same (s2.trans s3),hr.1,hr.2,fun sp2 ts2 t2 v2 H4 e2 b4 h4 sh4=>?_,fun k2 t2 x dx H4 e2=>absurd (e.symm.trans e2) (fun z=>by cases z)⟩
   have ek:sp'=sp2∧ts=ts2:=by
    have:=e.symm.trans e2
    cases this
    exact ⟨rfl,rfl⟩
   obtain ⟨rfl,rfl⟩:=ek
   refine ⟨t2,rfl,_,SqT.of h4,rfl,_,_,rfl,_,_,rfl,rfl,?_⟩
   have dp:=zqF e
   have shd:Sh H4 _ d:=Sh.bar (s3 _ _ hps2) b4 sh
   refine ⟨fun σ H'=>False,?_,fun _ _ z=>z.elim⟩
   unfold zfC
   simp_all only [zct,zcA,zcs,zcw,zac]
   exact ⟨v2,d,_,rfl,sh4.toT dp,shd.toT dp,fun H5 _=>q H5⟩
theorem zeW:zbo ["_law_script","_law_kind","_law_text","_law_k","_law_row","_law_due","_law_told_here","_law_caught"] ["_law_script"] (zaI zkR):=⟨rfl,rfl,rfl,by decide +kernel,rfl,by decide +kernel,by decide +kernel⟩
theorem zqE (T:Txt K mg base a):zdD P w K mg base CX0 10 a.f_law a.d_law ["_law_script"] (zmc K a.p_lam):=by
 have G__law_bent:=zhx (P:=P) (w:=w) (base:=base) T
 have G__law_class:=zg2 (P:=P) (w:=w) (base:=base) T
 have G__law_mixed:=zeL (P:=P) (w:=w) (base:=base) T
 have G__law_paper:=zhl (P:=P) (w:=w) (base:=base) T
 have G__law_paper_text:=zeN (P:=P) (w:=w) (base:=base) T
 have G__law_paper_wrong:=zer (P:=P) (w:=w) (base:=base) T
 have G__law_same:=zhC (P:=P) (w:=w) (base:=base) T
 have G__law_told:=zhD (P:=P) (w:=w) (base:=base) T
 have G__law_whole:=zgT (P:=P) (w:=w) (base:=base) T
 refine T.F_law.ok zeW (fun vs H Q E h=>?_) (fun cdv A outer s H vs Q E hr h=>?_)
 ·obtain ⟨p,ns,rfl,hS,hl,hb,hP,q⟩:=h
  rfl
 obtain ⟨p,ns,rfl,hS,hl,hb,hP,q⟩:=h
 exact ⟨zod K a,(zaf (zaR (i:=1) zeW.nd rfl (Or.inl rfl) (zch zbg (zb3 (zaa zaS (zaa zaS zag))) (zaK zbZ (zbh G__law_mixed (hr.mono (by decide)) rfl T.m__law_mixed T.F__law_mixed.kp T.b__law_mixed .nil zcp (zaa (pv 0) (zaa zaz zag))) zaz) (fun _ _=>rfl)))
 (zaf (zaR (i:=2) zeW.nd rfl (Or.inl rfl) (zbh G__law_paper_text (hr.mono (by decide)) rfl T.m__law_paper_text T.F__law_paper_text.kp T.b__law_paper_text .nil zcp (zaa (pv 1) (zaa (zbh G__law_paper (hr.mono (by decide)) rfl T.m__law_paper T.F__law_paper.kp T.b__law_paper .nil zcp (zaa (pv 0) (zaa zaz (zaa (pv 1) zag)))) zag))))
 (zaf (zdJ PassesOwn.never rfl (zcS rfl T.z_range (zaa (zaK zbZ (zbh G__law_mixed (hr.mono (by decide)) rfl T.m__law_mixed T.F__law_mixed.kp T.b__law_mixed .nil zcp (zaa (pv 0) (zaa zaz zag))) zaz) zag)) (zbm (i:=3) zeW.nd rfl (Or.inr rfl))
 (zaD (zaR (i:=2) zeW.nd rfl (Or.inl rfl) (zbh G__law_bent (hr.mono (by decide)) rfl T.m__law_bent T.F__law_bent.kp T.b__law_bent .nil zcp (zaa (pv 2) (zaa (ziR (sc:=zaI zkR) (N:=["_law_script","_law_kind","_law_text","_law_k","_law_row","_law_due","_law_told_here","_law_caught"]) (Nc:=["_law_j","_law_script","_law_k"]) (cap:=[none,some 0,some 3]) rfl rfl rfl (.of (by decide +kernel)) (zcS rfl T.z_range (zaa zaz zag)) (fun _ _ _ _=>(zbm (i:=0) (show List.Nodup (["_law_j","_law_script","_law_k"]:List Str) from by decide) rfl (Or.inl rfl))) (fun _ _ _ _=>zfQ) (fun _ _ _ _=>(zbh G__law_mixed (hr.mono (by decide)) rfl T.m__law_mixed T.F__law_mixed.kp T.b__law_mixed .nil zcp (zaa (pv 1) (zaa (zaK zb1 (zaK zb1 zaz (zaK zed zaz (pv 2))) (pv 0)) zag))))) zag))))))
 (zaf (zmW (zbh G__law_paper_wrong (hr.mono (by decide)) rfl T.m__law_paper_wrong T.F__law_paper_wrong.kp T.b__law_paper_wrong .nil zcp (zaa (pv 2) zag)) (zh4 rfl (zcC (zbm (i:=4) zeW.nd rfl (Or.inl rfl)) (zcC (zbm (i:=5) zeW.nd rfl (Or.inl rfl)) zfG))))
 (zaf (zmW (zbh G__law_told (hr.mono (by decide)) rfl T.m__law_told T.F__law_told.kp T.b__law_told .nil zcp (zaa (pv 2) zag)) (zh4 rfl (zcC (zbm (i:=6) zeW.nd rfl (Or.inl rfl)) (zcC (zbm (i:=7) zeW.nd rfl (Or.inl rfl)) zfG))))
 (zaf (zbj (zbW (zaJ zd4 (pv 4) zbC (zaQ _)) (zaD (zaZ (ze0 (zcu zd4 (pv 7) zbC (zaQ _)) (zfN (zbh G__law_same (hr.mono (by decide)) rfl T.m__law_same T.F__law_same.kp T.b__law_same .nil zcp (zaa (pv 6) (zaa (pv 5) zag))))))) zaW))
 (zaD (zaZ (ze0 (zcu zcD (zbh G__law_class (hr.mono (by decide)) rfl T.m__law_class T.F__law_class.kp T.b__law_class .nil zcp (zaa (pv 7) zag)) zaz (zaQ _)) (ze0 (zbh G__law_whole (hr.mono (by decide)) rfl T.m__law_whole T.F__law_whole.kp T.b__law_whole .nil zcp (zaa (zlm (pv 7) rfl) zag)) (zfN (zcu zcD (zlm (pv 7) rfl) (pv 4) (zaQ _))))))))))))),
  zqU T.xa_NoText hS hl hP q⟩
end
theorem zpR {us:List Value} {n:Nat} (h:us.length=n+1):∃ a t,us=a::t∧t.length=n:=by
 cases us with
 | nil=>cases h
 | cons a t=>exact ⟨a,t,rfl,Nat.succ.inj h⟩
theorem zmh {us:List Value} (h:us.length=1):∃ a0,us=[a0]:=by
 obtain ⟨a0,u0,rfl,h0⟩:=zpR h
 cases List.eq_nil_of_length_eq_zero h0
 exact ⟨a0,rfl⟩
theorem zm1 {us:List Value} (h:us.length=2):∃ a0,∃ a1,us=[a0,a1]:=by
 obtain ⟨a0,u0,rfl,h0⟩:=zpR h
 obtain ⟨a1,u1,rfl,h1⟩:=zpR h0
 cases List.eq_nil_of_length_eq_zero h1
 exact ⟨a0,a1,rfl⟩
theorem lst3 {us:List Value} (h:us.length=3):∃ a0,∃ a1,∃ a2,us=[a0,a1,a2]:=by
 obtain ⟨a0,u0,rfl,h0⟩:=zpR h
 obtain ⟨a1,u1,rfl,h1⟩:=zpR h0
 obtain ⟨a2,u2,rfl,h2⟩:=zpR h1
 cases List.eq_nil_of_length_eq_zero h2
 exact ⟨a0,a1,a2,rfl⟩
structure Txm (K:PySem.W.Frag) (mg:Str→Option Value) (a:Ad):Prop where
 m:mg "law"=some (.ref a.f_law)
 F:Fun K "law" "law" zkR a.f_law a.d_law
 p:a.p_lam=310
 T:∀ base:Heap,PySem.W.CodeHd base 314 310→base.BuiltinsAt mg 310→Txt (zbt 310 K) mg base a
theorem zqc {K:PySem.W.Frag} {mg:Str→Option Value} (hP:K.lookup 310=some (PySem.W.tabObj #[]))
  {f0 f1 f2 f3 f4 f5 f6 f7 f8 f9 f10 f11 f12 f13 f14 f15 f16 f17:Addr} {d0 d1 d2 d3 d4 d5 d6 d7 d8 d9 d10 d11 d12 d13 d14 d15 d16 d17:FuncData}
  {c_HideError c_NoNumber c_NoTable c_NoBoxes c_NoBudget c_NoOrder c_NoWeights c_TooGreat c_NoKind c_NoTree c_NoTurns c_NoPlay c_NoRow c_NoName c_NoRoad c_NoWeb c_NoPlan c_NoText c_NoPaper:Addr}
  (F0:Fun K "number_in" "number_in" zdp f0 d0) (m0:mg "number_in"=some (.ref f0))
  (F1:Fun K "numbers_in" "numbers_in" zc2 f1 d1) (m1:mg "numbers_in"=some (.ref f1))
  (F2:Fun K "thing_in" "thing_in" ze7 f2 d2) (m2:mg "thing_in"=some (.ref f2))
  (F3:Fun K "plan_in" "plan_in" zeG f3 d3) (m3:mg "plan_in"=some (.ref f3))
  (F4:Fun K "share_in" "share_in" zfe f4 d4) (m4:mg "share_in"=some (.ref f4))
  (F5:Fun K "read_rows" "read_rows" zez f5 d5) (m5:mg "read_rows"=some (.ref f5))
  (F6:zlR K "read_paper" "read_paper" zc1 f6 d6 314) (m6:mg "read_paper"=some (.ref f6))
  (F7:Fun K "_law_mixed" "_law_mixed" zdy f7 d7) (m7:mg "_law_mixed"=some (.ref f7))
  (F8:Fun K "_law_whole" "_law_whole" zdN f8 d8) (m8:mg "_law_whole"=some (.ref f8))
  (F9:Fun K "_law_class" "_law_class" zdQ f9 d9) (m9:mg "_law_class"=some (.ref f9))
  (F10:Fun K "_law_word_number" "_law_word_number" zb0 f10 d10) (m10:mg "_law_word_number"=some (.ref f10))
  (F11:Fun K "_law_paper" "_law_paper" zdB f11 d11) (m11:mg "_law_paper"=some (.ref f11))
  (F12:Fun K "_law_paper_text" "_law_paper_text" zcy f12 d12) (m12:mg "_law_paper_text"=some (.ref f12))
  (F13:Fun K "_law_paper_wrong" "_law_paper_wrong" zbY f13 d13) (m13:mg "_law_paper_wrong"=some (.ref f13))
  (F14:Fun K "_law_bent" "_law_bent" zep f14 d14) (m14:mg "_law_bent"=some (.ref f14))
  (F15:Fun K "_law_same" "_law_same" zei f15 d15) (m15:mg "_law_same"=some (.ref f15))
  (F16:Fun K "_law_told" "_law_told" zeu f16 d16) (m16:mg "_law_told"=some (.ref f16))
  (F17:Fun K "law" "law" zkR f17 d17) (m17:mg "law"=some (.ref f17))
  (z_isinstance:mg "isinstance"=none)
  (z_int:mg "int"=none)
  (z_bool:mg "bool"=none)
  (z_list:mg "list"=none)
  (z_len:mg "len"=none)
  (z_all:mg "all"=none)
  (z_range:mg "range"=none)
  (z_tuple:mg "tuple"=none)
  (z_str:mg "str"=none)
  (z_enumerate:mg "enumerate"=none)
  (z_zip:mg "zip"=none)
  (z_min:mg "min"=none)
  (z_ValueError:mg "ValueError"=none)
  (ac_HideError:mg "HideError"=some (.ref c_HideError))
  (ac_NoNumber:mg "NoNumber"=some (.ref c_NoNumber))
  (ac_NoTable:mg "NoTable"=some (.ref c_NoTable))
  (ac_NoBoxes:mg "NoBoxes"=some (.ref c_NoBoxes))
  (ac_NoBudget:mg "NoBudget"=some (.ref c_NoBudget))
  (ac_NoOrder:mg "NoOrder"=some (.ref c_NoOrder))
  (ac_NoWeights:mg "NoWeights"=some (.ref c_NoWeights))
  (ac_TooGreat:mg "TooGreat"=some (.ref c_TooGreat))
  (ac_NoKind:mg "NoKind"=some (.ref c_NoKind))
  (ac_NoTree:mg "NoTree"=some (.ref c_NoTree))
  (ac_NoTurns:mg "NoTurns"=some (.ref c_NoTurns))
  (ac_NoPlay:mg "NoPlay"=some (.ref c_NoPlay))
  (ac_NoRow:mg "NoRow"=some (.ref c_NoRow))
  (ac_NoName:mg "NoName"=some (.ref c_NoName))
  (ac_NoRoad:mg "NoRoad"=some (.ref c_NoRoad))
  (ac_NoWeb:mg "NoWeb"=some (.ref c_NoWeb))
  (ac_NoPlan:mg "NoPlan"=some (.ref c_NoPlan))
  (ac_NoText:mg "NoText"=some (.ref c_NoText))
  (ac_NoPaper:mg "NoPaper"=some (.ref c_NoPaper))
  {k_MOST_FIGURES:PySem.Tok} (ak_MOST_FIGURES:mg "MOST_FIGURES"=some (.int 2000 k_MOST_FIGURES))
  {k_FIGURES:PySem.Tok} (ak_FIGURES:mg "FIGURES"=some (.str "0123456789" k_FIGURES))
  {t_KINDS:Addr} (at_KINDS:mg "KINDS"=some (.ref t_KINDS)) {tk0_KINDS:Tok} {tk1_KINDS:Tok} {od_KINDS:Option Addr} {n_KINDS:Nat} {sl_KINDS:Array (Option Value)} (lt_KINDS:K.lookup t_KINDS=some ⟨.type "tuple",od_KINDS,.seq #[.str "walk" tk0_KINDS,.str "spread" tk1_KINDS] n_KINDS,sl_KINDS⟩)
  (xc_HideError:PySem.W.excIn K c_HideError zfs "ValueError.__new__"=true)
  (vsg:PySem.W.specialIn K (.ref c_HideError) "__getattribute__"=some (some (.builtin "type.__getattribute__")))
  (vrd:PySem.W.readsIn K c_HideError (.type "type")=true)
  (vfc:PySem.W.findCls K (.ref c_HideError) (.type "type") "__init__"=some (.val (.builtin "ValueError.__init__")))
  {i_NoText:Addr} (vin_NoText:PySem.W.findIn K (.ref c_NoText) "__init__"=some (some (.ref i_NoText)))
  {voc_NoText vkV_NoText vdc_NoText vpm_NoText vcd_NoText vct_NoText:Value} {vod_NoText van_NoText:Option Addr} {vsl_NoText:Array (Option Value)} (vl_NoText:K.lookup i_NoText=some ⟨voc_NoText,vod_NoText,.func (PySem.W.fnOf "__init__" "NoText.__init__" (zdo zcj) (zcx zcj) (zaI zcj) .none vkV_NoText vdc_NoText vpm_NoText van_NoText vcd_NoText vct_NoText),vsl_NoText⟩)
  (vc_NoText:PySem.W.codeIn K vcd_NoText "NoText.__init__"=true)
  (vk_NoText:PySem.W.keepIn K (.ref i_NoText)=true)
  {vnm_NoText vq_NoText:Str} {vN_NoText:Addr} {vbs_NoText vbm_NoText:List Value} {vsn_NoText:List Str} {vsub_NoText:List Value} {vab_NoText:Bool} {vcol_NoText:Option Bool} {vdd_NoText:Option Addr} {v0_NoText v1_NoText v2_NoText v3_NoText v5_NoText:Option Value} (vlk_NoText:K.lookup c_NoText=some (excClassObj vnm_NoText vq_NoText c_NoText vN_NoText vbs_NoText vbm_NoText true vsn_NoText vsub_NoText vab_NoText vcol_NoText vdd_NoText v0_NoText v1_NoText v2_NoText v3_NoText v5_NoText "ValueError.__new__"))
  (vtl_NoText:PySem.W.tailIn K zfs vbm_NoText=true)
  (vfn_NoText:PySem.W.isFn K (.ref i_NoText)=true)
  (vkp_NoText:PySem.W.keepIn K (.ref c_NoText)=true)
  (vmo_NoText:PySem.W.mroIn K c_NoText (.type "object")=some true)
  (vsa_NoText:PySem.W.findIn K (.ref c_NoText) "__setattr__"=some (some (.builtin "object.__setattr__")))
  (vga_NoText:PySem.W.findIn K (.ref c_NoText) "__getattribute__"=some (some (.builtin "BaseException.__getattribute__")))
  (vgn_NoText:PySem.W.findIn K (.ref c_NoText) "__getattr__"=some none)
  (vcl_NoText:PySem.W.findIn K (.ref c_NoText) "__class__"=some (some (.builtin "object.__class__")))
  (vmb_NoText:PySem.W.mroIn K c_NoText (.type "BaseException")=some true)
  (vhd_NoText:PySem.W.hasDictIn K c_NoText=true)
  (vna_NoText:PySem.W.findIn K (.ref c_NoText) "row"=some none)
  (i_k_NoNumber:PySem.W.kitOne K (.ref c_NoText) (.ref c_NoNumber)=some false)
  (i_k_NoTable:PySem.W.kitOne K (.ref c_NoText) (.ref c_NoTable)=some false)
  (i_k_NoBoxes:PySem.W.kitOne K (.ref c_NoText) (.ref c_NoBoxes)=some false)
  (i_k_NoBudget:PySem.W.kitOne K (.ref c_NoText) (.ref c_NoBudget)=some false)
  (i_k_NoOrder:PySem.W.kitOne K (.ref c_NoText) (.ref c_NoOrder)=some false)
  (i_k_NoWeights:PySem.W.kitOne K (.ref c_NoText) (.ref c_NoWeights)=some false)
  (i_k_TooGreat:PySem.W.kitOne K (.ref c_NoText) (.ref c_TooGreat)=some false)
  (i_k_NoKind:PySem.W.kitOne K (.ref c_NoText) (.ref c_NoKind)=some false)
  (i_k_NoTree:PySem.W.kitOne K (.ref c_NoText) (.ref c_NoTree)=some false)
  (i_k_NoTurns:PySem.W.kitOne K (.ref c_NoText) (.ref c_NoTurns)=some false)
  (i_k_NoPlay:PySem.W.kitOne K (.ref c_NoText) (.ref c_NoPlay)=some false)
  (i_k_NoRow:PySem.W.kitOne K (.ref c_NoText) (.ref c_NoRow)=some false)
  (i_k_NoName:PySem.W.kitOne K (.ref c_NoText) (.ref c_NoName)=some false)
  (i_k_NoRoad:PySem.W.kitOne K (.ref c_NoText) (.ref c_NoRoad)=some false)
  (i_k_NoWeb:PySem.W.kitOne K (.ref c_NoText) (.ref c_NoWeb)=some false)
  (i_k_NoPlan:PySem.W.kitOne K (.ref c_NoText) (.ref c_NoPlan)=some false)
  (i_k_NoText:PySem.W.kitOne K (.ref c_NoText) (.ref c_NoText)=some true)
  (i_k_NoPaper:PySem.W.kitOne K (.ref c_NoText) (.ref c_NoPaper)=some false)
  (i_k_ValueError:PySem.W.kitOne K (.ref c_NoText) (.type "ValueError")=some true)
  (i_sub:PySem.W.subIn K (.ref c_NoText) (.ref c_HideError)=some true)
  (e_ga:PySem.W.findIn K (.ref c_NoText) "__getattribute__"=some (some (.builtin "BaseException.__getattribute__")))
  (e_gn:PySem.W.findIn K (.ref c_NoText) "__getattr__"=some none)
  (e_cl:PySem.W.findIn K (.ref c_NoText) "__class__"=some (some (.builtin "object.__class__")))
  (e_mb:PySem.W.mroIn K c_NoText (.type "BaseException")=some true)
  (e_mo:PySem.W.mroIn K c_NoText (.type "object")=some true)
  : Txm K mg ⟨f0,d0,f1,d1,f2,d2,f3,d3,f4,d4,f5,d5,f6,d6,f7,d7,f8,d8,f9,d9,f10,d10,f11,d11,f12,d12,f13,d13,f14,d14,f15,d15,f16,d16,f17,d17,c_HideError,c_NoNumber,c_NoTable,c_NoBoxes,c_NoBudget,c_NoOrder,c_NoWeights,c_TooGreat,c_NoKind,c_NoTree,c_NoTurns,c_NoPlay,c_NoRow,c_NoName,c_NoRoad,c_NoWeb,c_NoPlan,c_NoText,c_NoPaper,i_NoText,PySem.W.fnOf "__init__" "NoText.__init__" (zdo zcj) (zcx zcj) (zaI zcj) .none vkV_NoText vdc_NoText vpm_NoText van_NoText vcd_NoText vct_NoText,k_MOST_FIGURES,k_FIGURES,t_KINDS,310,314⟩:=by
 have G0:=zbu hP F0
 have G1:=zbu hP F1
 have G2:=zbu hP F2
 have G3:=zbu hP F3
 have G4:=zbu hP F4
 have G5:=zbu hP F5
 have G6:=F6.drop hP
 have G7:=zbu hP F7
 have G8:=zbu hP F8
 have G9:=zbu hP F9
 have G10:=zbu hP F10
 have G11:=zbu hP F11
 have G12:=zbu hP F12
 have G13:=zbu hP F13
 have G14:=zbu hP F14
 have G15:=zbu hP F15
 have G16:=zbu hP F16
 have G17:=zbu hP F17
 have VF_NoText:=zbu hP (zcr (st:=zcj) vl_NoText vc_NoText vk_NoText)
 have vb_NoText:=VF_NoText.binds (ps:=["self","row"]) fun _ _ _ _ _ _ us hl=>by obtain ⟨_,_,rfl⟩:=vlst2 hl;rfl
 have VX_NoText:=(ExI.mk ⟨_,_,_,_,_,_,_,_,_,_,_,_,_,_,_,vlk_NoText,vtl_NoText⟩ vin_NoText vfn_NoText vkp_NoText vmo_NoText vsa_NoText).drop hP
 refine ⟨m17,F17,rfl,fun base hC hB=>⟨G0,G0.binds fun _ _ _ _ _ _ us hl=>by obtain ⟨_,rfl⟩:=zmh hl;rfl,m0,G1,G1.binds fun _ _ _ _ _ _ us hl=>by obtain ⟨_,rfl⟩:=zmh hl;rfl,m1,G2,G2.binds fun _ _ _ _ _ _ us hl=>by obtain ⟨_,_,rfl⟩:=zm1 hl;rfl,m2,G3,G3.binds fun _ _ _ _ _ _ us hl=>by obtain ⟨_,_,rfl⟩:=zm1 hl;rfl,m3,G4,G4.binds fun _ _ _ _ _ _ us hl=>by obtain ⟨_,_,rfl⟩:=zm1 hl;rfl,m4,G5,G5.binds fun _ _ _ _ _ _ us hl=>by obtain ⟨_,_,rfl⟩:=zm1 hl;rfl,m5,G6,G6.fun.binds fun _ _ _ _ _ _ us hl=>by obtain ⟨_,rfl⟩:=zmh hl;rfl,m6,G7,G7.binds fun _ _ _ _ _ _ us hl=>by obtain ⟨_,_,rfl⟩:=zm1 hl;rfl,m7,G8,G8.binds fun _ _ _ _ _ _ us hl=>by obtain ⟨_,rfl⟩:=zmh hl;rfl,m8,G9,G9.binds fun _ _ _ _ _ _ us hl=>by obtain ⟨_,rfl⟩:=zmh hl;rfl,m9,G10,G10.binds fun _ _ _ _ _ _ us hl=>by obtain ⟨_,rfl⟩:=zmh hl;rfl,m10,G11,G11.binds fun _ _ _ _ _ _ us hl=>by obtain ⟨_,_,_,rfl⟩:=lst3 hl;rfl,m11,G12,G12.binds fun _ _ _ _ _ _ us hl=>by obtain ⟨_,_,rfl⟩:=zm1 hl;rfl,m12,G13,G13.binds fun _ _ _ _ _ _ us hl=>by obtain ⟨_,rfl⟩:=zmh hl;rfl,m13,G14,G14.binds fun _ _ _ _ _ _ us hl=>by obtain ⟨_,_,rfl⟩:=zm1 hl;rfl,m14,G15,G15.binds fun _ _ _ _ _ _ us hl=>by obtain ⟨_,_,rfl⟩:=zm1 hl;rfl,m15,G16,G16.binds fun _ _ _ _ _ _ us hl=>by obtain ⟨_,rfl⟩:=zmh hl;rfl,m16,G17,G17.binds fun _ _ _ _ _ _ us hl=>by obtain ⟨_,rfl⟩:=zmh hl;rfl,m17,hC,hB,z_isinstance,z_int,z_bool,z_list,z_len,z_all,z_range,z_tuple,z_str,z_enumerate,z_zip,z_min,z_ValueError,ac_HideError,ac_NoNumber,ac_NoTable,ac_NoBoxes,ac_NoBudget,ac_NoOrder,ac_NoWeights,ac_TooGreat,ac_NoKind,ac_NoTree,ac_NoTurns,ac_NoPlay,ac_NoRow,ac_NoName,ac_NoRoad,ac_NoWeb,ac_NoPlan,ac_NoText,ac_NoPaper,ak_MOST_FIGURES,ak_FIGURES,at_KINDS,zpg.drop hP ⟨_,_,_,lt_KINDS,rfl,rfl,(show 2≤sizeLine by decide),(.cons ⟨_,rfl⟩ (.cons ⟨_,rfl⟩ .nil))⟩,(zmv hP _ _ _).trans xc_HideError,(ExB.mk vsg vrd vfc).drop hP,VF_NoText,vb_NoText,VX_NoText,(zjd.mk ⟨vga_NoText,vgn_NoText,vcl_NoText,vmb_NoText,vmo_NoText⟩ vhd_NoText vna_NoText).drop hP,⟨(zbn hP _ _).trans i_k_NoNumber,(zbn hP _ _).trans i_k_NoTable,(zbn hP _ _).trans i_k_NoBoxes,(zbn hP _ _).trans i_k_NoBudget,(zbn hP _ _).trans i_k_NoOrder,(zbn hP _ _).trans i_k_NoWeights,(zbn hP _ _).trans i_k_TooGreat,(zbn hP _ _).trans i_k_NoKind,(zbn hP _ _).trans i_k_NoTree,(zbn hP _ _).trans i_k_NoTurns,(zbn hP _ _).trans i_k_NoPlay,(zbn hP _ _).trans i_k_NoRow,(zbn hP _ _).trans i_k_NoName,(zbn hP _ _).trans i_k_NoRoad,(zbn hP _ _).trans i_k_NoWeb,(zbn hP _ _).trans i_k_NoPlan,(zbn hP _ _).trans i_k_NoText,(zbn hP _ _).trans i_k_NoPaper,(zbn hP _ _).trans i_k_ValueError,(zfz hP _ _).trans i_sub,zjZ ((zcH.mk e_ga e_gn e_cl e_mb e_mo).drop hP) VX_NoText⟩⟩⟩
theorem zqK {K:PySem.W.Frag} {w:World} {mg:Str→Option Value} {fa:Addr} {P:Program} (hfa:mg "law"=some (.ref fa)) {a:Ad} (M:Txm K mg a) :
  ∃ fd:FuncData,(∀ (s:Shared) (u:Value),BindsTo s fd ⟨[u],[]⟩ [("_law_script",u)])∧∀ base:Heap,(zbt 310 K).In base→base.Ns mainGlobals mg→PySem.W.CodeHd base 314 310→base.BuiltinsAt mg 310→zdD P w (zbt 310 K) mg base CX0 10 fa fd ["_law_script"] (zmc (zbt 310 K) 310):=by
 have e:=hfa.symm.trans M.m
 cases e
 refine ⟨a.d_law,fun s v=>?_,fun base _ _ hC hB=>?_⟩
 ·obtain ⟨oc,od,kV,doc,pm,an,cdv,ct,osl,e,lk,hcd⟩:=M.F.ex
  rw [e]
  exact .of_eq rfl
 ·have h:=zqE (P:=P) (w:=w) (M.T base hC hB)
  rw [M.p] at h
  exact h
theorem walk {l:PySem.W.OpenLaw} {q:Program} {loose:List Str} {XP:(Str→Option Value)→Heap→Prop} {YP:World→Heap→Prop} {d:DefRec} {K:Params→PySem.W.Frag} (hn:l.most=some 63) (hdf:d.params.defaults=[])
  (hY:∀ (w:World) (h:Heap),YP w h→(K w.params).In h) (hPt:∀ w:World,(K w.params).lookup 310=some (PySem.W.tabObj #[])) (hC:∀ (w:World) (h:Heap),(K w.params).In h→PySem.W.CodeHd h 314 310)
  (F:∀ (w:World) (mg:Str→Option Value) (fa:Addr) (h:Heap),(K w.params).In h→h.Ns mainGlobals mg→mg d.name=some (.ref fa) →
   ∃ fd:FuncData,(∀ (s:Shared) (u:Value),BindsTo s fd ⟨[u],[]⟩ [("_law_script",u)])∧∀ base:Heap,(zbt 310 (K w.params)).In base→base.Ns mainGlobals mg→PySem.W.CodeHd base 314 310→base.BuiltinsAt mg 310→zdD l.prog w (zbt 310 (K w.params)) mg base CX0 10 fa fd ["_law_script"] (zmc (zbt 310 (K w.params)) 310)) :
  PySem.W.WalkO q loose XP YP l.row.toRowW d [] (fun f vs=>PySem.call f vs) :=
 L2.zmo (n:=63) (k:=10) (x:="_law_script") (sp:=fun w=>zmc (zbt 310 (K w.params)) 310) hn (by decide) hdf ⟨rfl,by decide,by decide⟩ hY hPt hC F fun _ _ a ns hb hl hP hS=>⟨a,ns,rfl,hS,hl,hb,.first hP,fun _=>rfl⟩
end My
open PySem PySem.W in
theorem My.walk_at {K:Params→Frag} {w:World} {h:Heap} {l:OpenLaw} {q:Program} {loose:List Str} {XP:(Str→Option Value)→Heap→Prop} {d:DefRec} {C:Prop} (_:(K w.params).In h)
  (use:WalkO q loose XP (fun w h=>(K w.params).In h) l.row.toRowW d [] (fun f vs=>PySem.call f vs)→C) (W:WalkO q loose XP (fun w h=>(K w.params).In h) l.row.toRowW d [] (fun f vs=>PySem.call f vs)):C:=use W
noncomputable section
namespace Hd
open PySem PySem.W.Fast
structure Q (α : Type) where
  a : α
  b : α
  c : α
  d : α
  e : α
  f : α
  g : α
  h : α
class X where
  s : Q (Q (Q Str))
  t : Q (Q (Q String))
  r : Q (Q (Q Obj))
  p : Program
  P : Params
def sp (p : Program) (n : Nat) : Stmt := (p.main.body.drop n).headD (.Pass ⟨0, 0, 0, 0⟩)
def st [x : X] (n : Nat) : Stmt := sp x.p n
def cb : Stmt → List Stmt
  | .ClassDef _ _ _ b .. => b
  | _ => []
def sm [x : X] (n k : Nat) : Stmt := ((cb (st n)).drop k).headD (.Pass ⟨0, 0, 0, 0⟩)
def fn (s : Stmt) (q : Str) (g : Addr) (c : List (Str × Addr)) (d k o m : Value) (a : Option Addr) (z t : Value) (b : Addr) : FuncData := match s with
  | .FunctionDef n p y _ _ _ u .. => ⟨n, q, p, .stmts y, u, g, c, d, k, o, m, a, z, t, b⟩
  | _ => default
abbrev z := W.BT.nil
def N (o : Obj) (l r : W.BT) : W.BT := .node o l r
def L (o : Obj) : W.BT := .node o .nil .nil
def e [x : X] (s : Str) (n : Nat) (v : Value) : DictEntry := ⟨PyData.keyHash x.P s, .str s n, v⟩
def vR (n : Nat) : Option Value := some (.ref n)
def vr (n : Nat) : Value := .ref n
def vO : Value := .int 0 0
def vI (n : Int) : Value := .int n 0
def vS (s : Str) (n : Tok) : Value := .str s n
def vY (s : String) : Value := .type s
def vB (s : String) : Value := .builtin s
section
variable [x : X]
def i0 := e x.s.a.a.d 165 (vS x.s.a.a.e 187)
def i1 := e x.s.a.a.f 166 .none
def i2 := e x.s.a.a.g 167 .none
def i3 := e x.s.a.a.h 168 (vB x.t.a.a.e)
def i4 := e x.s.a.b.a 169 .none
def i5 := e x.s.a.b.b 170 (vr 6)
def i6 := e x.s.a.b.c 171 (vr 4)
def i7 := e x.s.a.b.d 173 (vS x.s.a.a.b 172)
def i8 := e x.s.a.b.e 174 .none
def i9 := e x.s.a.b.f 206 (vr 24)
def i10 := e x.s.a.b.g 196 (vS x.s.a.a.e 187)
def i11 := e x.s.a.b.h 198 (vS x.s.a.b.f 197)
def i12 := e x.s.a.c.a 200 (.int 2 199)
def i13 := e x.s.a.c.b 201 (vr 22)
def i14 := e x.s.a.c.c 203 (vr 25)
def i15 := e x.s.a.a.f 204 .none
def i16 := e x.s.a.c.d 222 (vr 37)
def i17 := e x.s.a.b.g 214 (vS x.s.a.a.e 187)
def i18 := e x.s.a.b.h 216 (vS x.s.a.c.d 215)
def i19 := e x.s.a.c.a 218 (.int 4 217)
def i20 := e x.s.a.c.b 219 (vr 35)
def i21 := e x.s.a.a.f 220 .none
def i22 := e x.s.a.c.e 238 (vr 49)
def i23 := e x.s.a.b.g 230 (vS x.s.a.a.e 187)
def i24 := e x.s.a.b.h 232 (vS x.s.a.c.e 231)
def i25 := e x.s.a.c.a 234 (.int 6 233)
def i26 := e x.s.a.c.b 235 (vr 47)
def i27 := e x.s.a.a.f 236 .none
def i28 := e x.s.a.c.f 254 (vr 61)
def i29 := e x.s.a.b.g 246 (vS x.s.a.a.e 187)
def i30 := e x.s.a.b.h 248 (vS x.s.a.c.f 247)
def i31 := e x.s.a.c.a 250 (.int 8 249)
def i32 := e x.s.a.c.b 251 (vr 59)
def i33 := e x.s.a.a.f 252 .none
def i34 := e x.s.a.c.g 270 (vr 73)
def i35 := e x.s.a.b.g 262 (vS x.s.a.a.e 187)
def i36 := e x.s.a.b.h 264 (vS x.s.a.c.g 263)
def i37 := e x.s.a.c.a 266 (.int 10 265)
def i38 := e x.s.a.c.b 267 (vr 71)
def i39 := e x.s.a.a.f 268 .none
def i40 := e x.s.a.c.h 286 (vr 85)
def i41 := e x.s.a.b.g 278 (vS x.s.a.a.e 187)
def i42 := e x.s.a.b.h 280 (vS x.s.a.c.h 279)
def i43 := e x.s.a.c.a 282 (.int 12 281)
def i44 := e x.s.a.c.b 283 (vr 83)
def i45 := e x.s.a.a.f 284 .none
def i46 := e x.s.a.d.a 302 (vr 97)
def i47 := e x.s.a.b.g 294 (vS x.s.a.a.e 187)
def i48 := e x.s.a.b.h 296 (vS x.s.a.d.a 295)
def i49 := e x.s.a.c.a 298 (.int 14 297)
def i50 := e x.s.a.c.b 299 (vr 95)
def i51 := e x.s.a.a.f 300 .none
def i52 := e x.s.a.d.b 318 (vr 109)
def i53 := e x.s.a.b.g 310 (vS x.s.a.a.e 187)
def i54 := e x.s.a.b.h 312 (vS x.s.a.d.b 311)
def i55 := e x.s.a.c.a 314 (.int 16 313)
def i56 := e x.s.a.c.b 315 (vr 107)
def i57 := e x.s.a.a.f 316 .none
def i58 := e x.s.a.d.c 334 (vr 121)
def i59 := e x.s.a.b.g 326 (vS x.s.a.a.e 187)
def i60 := e x.s.a.b.h 328 (vS x.s.a.d.c 327)
def i61 := e x.s.a.c.a 330 (.int 18 329)
def i62 := e x.s.a.c.b 331 (vr 119)
def i63 := e x.s.a.a.f 332 .none
def i64 := e x.s.a.d.d 350 (vr 133)
def i65 := e x.s.a.b.g 342 (vS x.s.a.a.e 187)
def i66 := e x.s.a.b.h 344 (vS x.s.a.d.d 343)
def i67 := e x.s.a.c.a 346 (.int 20 345)
def i68 := e x.s.a.c.b 347 (vr 131)
def i69 := e x.s.a.a.f 348 .none
def i70 := e x.s.a.d.e 366 (vr 145)
def i71 := e x.s.a.b.g 358 (vS x.s.a.a.e 187)
def i72 := e x.s.a.b.h 360 (vS x.s.a.d.e 359)
def i73 := e x.s.a.c.a 362 (.int 22 361)
def i74 := e x.s.a.c.b 363 (vr 143)
def i75 := e x.s.a.a.f 364 .none
def i76 := e x.s.a.d.f 382 (vr 157)
def i77 := e x.s.a.b.g 374 (vS x.s.a.a.e 187)
def i78 := e x.s.a.b.h 376 (vS x.s.a.d.f 375)
def i79 := e x.s.a.c.a 378 (.int 24 377)
def i80 := e x.s.a.c.b 379 (vr 155)
def i81 := e x.s.a.a.f 380 .none
def i82 := e x.s.a.d.g 398 (vr 169)
def i83 := e x.s.a.b.g 390 (vS x.s.a.a.e 187)
def i84 := e x.s.a.b.h 392 (vS x.s.a.d.g 391)
def i85 := e x.s.a.c.a 394 (.int 26 393)
def i86 := e x.s.a.c.b 395 (vr 167)
def i87 := e x.s.a.a.f 396 .none
def i88 := e x.s.a.d.h 414 (vr 181)
def i89 := e x.s.a.b.g 406 (vS x.s.a.a.e 187)
def i90 := e x.s.a.b.h 408 (vS x.s.a.d.h 407)
def i91 := e x.s.a.c.a 410 (.int 28 409)
def i92 := e x.s.a.c.b 411 (vr 179)
def i93 := e x.s.a.a.f 412 .none
def i94 := e x.s.a.e.a 430 (vr 193)
def i95 := e x.s.a.b.g 422 (vS x.s.a.a.e 187)
def i96 := e x.s.a.b.h 424 (vS x.s.a.e.a 423)
def i97 := e x.s.a.c.a 426 (.int 30 425)
def i98 := e x.s.a.c.b 427 (vr 191)
def i99 := e x.s.a.a.f 428 .none
def zpN := e x.s.a.e.b 455 (vr 212)
def i101 := e x.s.a.b.g 438 (vS x.s.a.a.e 187)
def i102 := e x.s.a.b.h 440 (vS x.s.a.e.b 439)
def i103 := e x.s.a.c.a 442 (.int 32 441)
def i104 := e x.s.a.e.c 450 (vr 209)
def i105 := e x.s.a.c.b 452 (vr 210)
def i106 := e x.s.a.a.f 453 .none
def zqb := e x.s.a.e.g 480 (vr 231)
def i108 := e x.s.a.b.g 463 (vS x.s.a.a.e 187)
def i109 := e x.s.a.b.h 465 (vS x.s.a.e.g 464)
def i110 := e x.s.a.c.a 467 (.int 37 466)
def i111 := e x.s.a.e.c 475 (vr 228)
def i112 := e x.s.a.c.b 477 (vr 229)
def i113 := e x.s.a.a.f 478 .none
def i114 := e x.s.a.f.b 505 (vr 250)
def i115 := e x.s.a.b.g 488 (vS x.s.a.a.e 187)
def i116 := e x.s.a.b.h 490 (vS x.s.a.f.b 489)
def i117 := e x.s.a.c.a 492 (.int 42 491)
def i118 := e x.s.a.e.c 500 (vr 247)
def i119 := e x.s.a.c.b 502 (vr 248)
def i120 := e x.s.a.a.f 503 .none
def i121 := e x.s.a.a.d 165 (vS x.s.a.f.e 534)
def i122 := e x.s.a.f.f 530 (vr 269)
def i123 := e x.s.a.f.g 533 (vr 272)
def i124 := e x.s.a.f.h 537 (vS x.s.a.g.a 536)
def i125 := e x.s.a.g.b 539 (.int 2000 538)
def i126 := e x.s.a.g.c 545 (vr 277)
def i127 := e x.s.a.g.d 551 (vr 282)
def i128 := e x.s.a.g.e 560 (vr 289)
def i129 := e x.s.a.g.f 566 (vr 294)
def i130 := e x.s.a.b.g 513 (vS x.s.a.a.e 187)
def i131 := e x.s.a.b.h 515 (vS x.s.a.f.f 514)
def i132 := e x.s.a.c.a 517 (.int 47 516)
def i133 := e x.s.a.e.c 525 (vr 266)
def i134 := e x.s.a.c.b 527 (vr 267)
def i135 := e x.s.a.a.f 528 .none
def i136 := e x.s.a.a.d 165 (vS x.s.a.h.f 599)
def i137 := e x.s.a.h.g 577 (vr 301)
def i138 := e x.s.a.h.h 590 (vr 308)
def i139 := e x.s.b.a.a 598 (vr 315)
def i140 := e x.s.b.a.b 612 (vr 322)
def i141 := e x.s.b.a.c 619 (vr 329)
def i142 := e x.s.b.a.d 627 (vr 336)
def i143 := e x.s.b.a.e 633 (vr 341)
def i144 := e x.s.b.a.f 651 (vr 348)
def i145 := e x.s.b.a.g 663 (vr 355)
def i146 := e x.s.b.a.h 669 (vr 360)
def i147 := e x.s.b.b.a 685 (vr 367)
def i148 := e x.s.b.b.b 695 (vr 374)
def i149 := e x.s.b.g.a 705 (vr 381)
def i150 := e x.s.b.g.b 711 (vr 386)
def zad : Obj := ⟨(vY x.t.a.a.a), none, (.seq #[] 0), #[]⟩
def zaB : Obj := ⟨.none, none, (.fields #[]), #[]⟩
def zfw : Obj := ⟨(vY x.t.a.a.b), none, (.fields #[(vS x.s.a.a.a 182), (vS x.s.a.a.a 183), (vS x.s.a.a.b 184), (vI 1), vO, vO, vO, vO, (vr 11), (.bool false), (vI 181), (vr 12), .none, .none, .none, .none, (vI 185), (vI 1), (vS x.s.a.a.b 186)]), #[]⟩
def zfx : Obj := ⟨(vY x.t.a.a.c), none, .plain, #[(vR 13), (vR 3), (vR 3), none, (some (vS x.s.a.a.c 164)), none, (vR 0)]⟩
def b662 : Obj := ⟨(vY x.t.a.a.d), none, (.dict #[i0, i1, i2, i3, i4, i5, i6, i7, i8, i9] 10), #[]⟩
def b663 : Obj := ⟨.none, none, (.fields #[(vI 2), vO, (vr 20)]), #[]⟩
def zf7 : Obj := ⟨(vY x.t.a.a.a), none, (.seq #[(vY x.t.a.a.f)] 0), #[]⟩
def zaG : Obj := ⟨(vY x.t.a.a.g), none, (.fields #[(vB x.t.a.a.h), (vY x.t.a.b.a)]), #[]⟩
def zf9 : Obj := ⟨(vY x.t.a.a.d), none, (.dict #[i10, i11, i12, i13] 4), #[]⟩
def zf4 : Obj := ⟨(vY x.t.a.a.b), none, (.fields #[(vS x.s.a.b.f 191), (vS x.s.a.b.f 192), (vS x.s.a.a.b 193), (vI 2), vO, vO, vO, vO, (vr 18), (.bool false), (vI 181), (vr 19), .none, .none, .none, .none, (vI 194), (vI 2), (vS x.s.a.a.b 195)]), #[]⟩
def zf8 : Obj := ⟨(vY x.t.a.a.c), none, .plain, #[(vR 20), (vR 3), (vR 17), none, (some (vS x.s.a.a.e 187)), none, (vR 0)]⟩
def zf5 : Obj := ⟨(vY x.t.a.a.d), none, (.dict #[i10, i12, i13, i14, i15] 3), #[]⟩
def b673 : Obj := ⟨(vY x.t.a.b.a), none, (.cls ⟨x.s.a.b.f, [(vY x.t.a.a.f)], [(vr 24), (vY x.t.a.a.f), (vY x.t.a.b.b), (vY x.t.a.b.c), (vY x.t.a.b.d)], 23, x.s.a.b.f, true, [], [], false, none, false⟩), #[(vR 15), none, (some (vS x.s.a.b.f 189)), (some (vS x.s.a.b.f 197)), (some (vB x.t.a.b.e)), (some (.bool true))]⟩
def zf0 : Obj := ⟨(vY x.t.a.b.f), none, (.fields #[(vS x.s.a.c.c 202), (vr 24), (vB x.t.a.b.g), .none]), #[]⟩
def zf1 : Obj := ⟨(vY x.t.a.b.h), none, (.fields #[(vr 24), (vr 24), (vr 24)]), #[]⟩
def zf6 : Obj := ⟨(vY x.t.a.a.g), none, (.fields #[(vB x.t.a.c.a), (vr 24)]), #[]⟩
def b677 : Obj := ⟨(vY x.t.a.a.d), none, (.dict #[i0, i1, i2, i3, i4, i5, i6, i7, i8, i9, i16] 11), #[]⟩
def b678 : Obj := ⟨.none, none, (.fields #[(vI 2), vO, (vr 20), (vI 4), vO, (vr 33)]), #[]⟩
def b679 : Obj := ⟨(vY x.t.a.b.a), none, (.cls ⟨x.s.a.b.f, [(vY x.t.a.a.f)], [(vr 24), (vY x.t.a.a.f), (vY x.t.a.b.b), (vY x.t.a.b.c), (vY x.t.a.b.d)], 23, x.s.a.b.f, true, [], [(vr 37)], false, none, false⟩), #[(vR 15), none, (some (vS x.s.a.b.f 189)), (some (vS x.s.a.b.f 197)), (some (vB x.t.a.b.e)), (some (.bool true))]⟩
def zaH : Obj := ⟨(vY x.t.a.a.a), none, (.seq #[(vr 24)] 0), #[]⟩
def zgc : Obj := ⟨(vY x.t.a.a.d), none, (.dict #[i17, i18, i19, i20] 4), #[]⟩
def zgd : Obj := ⟨(vY x.t.a.a.b), none, (.fields #[(vS x.s.a.c.d 209), (vS x.s.a.c.d 210), (vS x.s.a.a.b 211), (vI 4), vO, vO, vO, vO, (vr 31), (.bool false), (vI 181), (vr 32), .none, .none, .none, .none, (vI 212), (vI 4), (vS x.s.a.a.b 213)]), #[]⟩
def zgi : Obj := ⟨(vY x.t.a.a.c), none, .plain, #[(vR 33), (vR 3), (vR 30), none, (some (vS x.s.a.a.e 187)), none, (vR 0)]⟩
def zgb : Obj := ⟨(vY x.t.a.a.d), none, (.dict #[i17, i19, i20, i21] 2), #[]⟩
def zge : Obj := ⟨(vY x.t.a.b.a), none, (.cls ⟨x.s.a.c.d, [(vr 24)], [(vr 37), (vr 24), (vY x.t.a.a.f), (vY x.t.a.b.b), (vY x.t.a.b.c), (vY x.t.a.b.d)], 36, x.s.a.c.d, true, [], [], false, none, false⟩), #[(vR 28), none, (some (vS x.s.a.c.d 207)), (some (vS x.s.a.c.d 215)), (some (vB x.t.a.b.e)), (some (.bool true))]⟩
def zga : Obj := ⟨(vY x.t.a.b.h), none, (.fields #[(vr 37), (vr 37), (vr 37)]), #[]⟩
def zgg : Obj := ⟨(vY x.t.a.a.g), none, (.fields #[(vB x.t.a.c.a), (vr 37)]), #[]⟩
def b692 : Obj := ⟨(vY x.t.a.a.d), none, (.dict #[i0, i1, i2, i3, i4, i5, i6, i7, i8, i9, i16, i22] 12), #[]⟩
def b693 : Obj := ⟨.none, none, (.fields #[(vI 2), vO, (vr 20), (vI 4), vO, (vr 33), (vI 6), vO, (vr 45)]), #[]⟩
def b694 : Obj := ⟨(vY x.t.a.b.a), none, (.cls ⟨x.s.a.b.f, [(vY x.t.a.a.f)], [(vr 24), (vY x.t.a.a.f), (vY x.t.a.b.b), (vY x.t.a.b.c), (vY x.t.a.b.d)], 23, x.s.a.b.f, true, [], [(vr 37), (vr 49)], false, none, false⟩), #[(vR 15), none, (some (vS x.s.a.b.f 189)), (some (vS x.s.a.b.f 197)), (some (vB x.t.a.b.e)), (some (.bool true))]⟩
def zgo : Obj := ⟨(vY x.t.a.a.d), none, (.dict #[i23, i24, i25, i26] 4), #[]⟩
def zgl : Obj := ⟨(vY x.t.a.a.b), none, (.fields #[(vS x.s.a.c.e 225), (vS x.s.a.c.e 226), (vS x.s.a.a.b 227), (vI 6), vO, vO, vO, vO, (vr 43), (.bool false), (vI 181), (vr 44), .none, .none, .none, .none, (vI 228), (vI 6), (vS x.s.a.a.b 229)]), #[]⟩
def zgp : Obj := ⟨(vY x.t.a.a.c), none, .plain, #[(vR 45), (vR 3), (vR 42), none, (some (vS x.s.a.a.e 187)), none, (vR 0)]⟩
def zgw : Obj := ⟨(vY x.t.a.a.d), none, (.dict #[i23, i25, i26, i27] 2), #[]⟩
def zgA : Obj := ⟨(vY x.t.a.b.a), none, (.cls ⟨x.s.a.c.e, [(vr 24)], [(vr 49), (vr 24), (vY x.t.a.a.f), (vY x.t.a.b.b), (vY x.t.a.b.c), (vY x.t.a.b.d)], 48, x.s.a.c.e, true, [], [], false, none, false⟩), #[(vR 40), none, (some (vS x.s.a.c.e 223)), (some (vS x.s.a.c.e 231)), (some (vB x.t.a.b.e)), (some (.bool true))]⟩
def zgn : Obj := ⟨(vY x.t.a.b.h), none, (.fields #[(vr 49), (vr 49), (vr 49)]), #[]⟩
def zgv : Obj := ⟨(vY x.t.a.a.g), none, (.fields #[(vB x.t.a.c.a), (vr 49)]), #[]⟩
def b707 : Obj := ⟨(vY x.t.a.a.d), none, (.dict #[i0, i1, i2, i3, i4, i5, i6, i7, i8, i9, i16, i22, i28] 13), #[]⟩
def b708 : Obj := ⟨.none, none, (.fields #[(vI 2), vO, (vr 20), (vI 4), vO, (vr 33), (vI 6), vO, (vr 45), (vI 8), vO, (vr 57)]), #[]⟩
def b709 : Obj := ⟨(vY x.t.a.b.a), none, (.cls ⟨x.s.a.b.f, [(vY x.t.a.a.f)], [(vr 24), (vY x.t.a.a.f), (vY x.t.a.b.b), (vY x.t.a.b.c), (vY x.t.a.b.d)], 23, x.s.a.b.f, true, [], [(vr 37), (vr 49), (vr 61)], false, none, false⟩), #[(vR 15), none, (some (vS x.s.a.b.f 189)), (some (vS x.s.a.b.f 197)), (some (vB x.t.a.b.e)), (some (.bool true))]⟩
def zgC : Obj := ⟨(vY x.t.a.a.d), none, (.dict #[i29, i30, i31, i32] 4), #[]⟩
def zhn : Obj := ⟨(vY x.t.a.a.b), none, (.fields #[(vS x.s.a.c.f 241), (vS x.s.a.c.f 242), (vS x.s.a.a.b 243), (vI 8), vO, vO, vO, vO, (vr 55), (.bool false), (vI 181), (vr 56), .none, .none, .none, .none, (vI 244), (vI 8), (vS x.s.a.a.b 245)]), #[]⟩
def zg0 : Obj := ⟨(vY x.t.a.a.c), none, .plain, #[(vR 57), (vR 3), (vR 54), none, (some (vS x.s.a.a.e 187)), none, (vR 0)]⟩
def zgW : Obj := ⟨(vY x.t.a.a.d), none, (.dict #[i29, i31, i32, i33] 2), #[]⟩
def zg1 : Obj := ⟨(vY x.t.a.b.a), none, (.cls ⟨x.s.a.c.f, [(vr 24)], [(vr 61), (vr 24), (vY x.t.a.a.f), (vY x.t.a.b.b), (vY x.t.a.b.c), (vY x.t.a.b.d)], 60, x.s.a.c.f, true, [], [], false, none, false⟩), #[(vR 52), none, (some (vS x.s.a.c.f 239)), (some (vS x.s.a.c.f 247)), (some (vB x.t.a.b.e)), (some (.bool true))]⟩
def zgO : Obj := ⟨(vY x.t.a.b.h), none, (.fields #[(vr 61), (vr 61), (vr 61)]), #[]⟩
def zgR : Obj := ⟨(vY x.t.a.a.g), none, (.fields #[(vB x.t.a.c.a), (vr 61)]), #[]⟩
def b722 : Obj := ⟨(vY x.t.a.a.d), none, (.dict #[i0, i1, i2, i3, i4, i5, i6, i7, i8, i9, i16, i22, i28, i34] 14), #[]⟩
def b723 : Obj := ⟨.none, none, (.fields #[(vI 2), vO, (vr 20), (vI 4), vO, (vr 33), (vI 6), vO, (vr 45), (vI 8), vO, (vr 57), (vI 10), vO, (vr 69)]), #[]⟩
def b724 : Obj := ⟨(vY x.t.a.b.a), none, (.cls ⟨x.s.a.b.f, [(vY x.t.a.a.f)], [(vr 24), (vY x.t.a.a.f), (vY x.t.a.b.b), (vY x.t.a.b.c), (vY x.t.a.b.d)], 23, x.s.a.b.f, true, [], [(vr 37), (vr 49), (vr 61), (vr 73)], false, none, false⟩), #[(vR 15), none, (some (vS x.s.a.b.f 189)), (some (vS x.s.a.b.f 197)), (some (vB x.t.a.b.e)), (some (.bool true))]⟩
def zhu : Obj := ⟨(vY x.t.a.a.d), none, (.dict #[i35, i36, i37, i38] 4), #[]⟩
def zhv : Obj := ⟨(vY x.t.a.a.b), none, (.fields #[(vS x.s.a.c.g 257), (vS x.s.a.c.g 258), (vS x.s.a.a.b 259), (vI 10), vO, vO, vO, vO, (vr 67), (.bool false), (vI 181), (vr 68), .none, .none, .none, .none, (vI 260), (vI 10), (vS x.s.a.a.b 261)]), #[]⟩
def zhq : Obj := ⟨(vY x.t.a.a.c), none, .plain, #[(vR 69), (vR 3), (vR 66), none, (some (vS x.s.a.a.e 187)), none, (vR 0)]⟩
def zhr : Obj := ⟨(vY x.t.a.a.d), none, (.dict #[i35, i37, i38, i39] 2), #[]⟩
def zht : Obj := ⟨(vY x.t.a.b.a), none, (.cls ⟨x.s.a.c.g, [(vr 24)], [(vr 73), (vr 24), (vY x.t.a.a.f), (vY x.t.a.b.b), (vY x.t.a.b.c), (vY x.t.a.b.d)], 72, x.s.a.c.g, true, [], [], false, none, false⟩), #[(vR 64), none, (some (vS x.s.a.c.g 255)), (some (vS x.s.a.c.g 263)), (some (vB x.t.a.b.e)), (some (.bool true))]⟩
def zhp : Obj := ⟨(vY x.t.a.b.h), none, (.fields #[(vr 73), (vr 73), (vr 73)]), #[]⟩
def zho : Obj := ⟨(vY x.t.a.a.g), none, (.fields #[(vB x.t.a.c.a), (vr 73)]), #[]⟩
def b737 : Obj := ⟨(vY x.t.a.a.d), none, (.dict #[i0, i1, i2, i3, i4, i5, i6, i7, i8, i9, i16, i22, i28, i34, i40] 15), #[]⟩
def b738 : Obj := ⟨.none, none, (.fields #[(vI 2), vO, (vr 20), (vI 4), vO, (vr 33), (vI 6), vO, (vr 45), (vI 8), vO, (vr 57), (vI 10), vO, (vr 69), (vI 12), vO, (vr 81)]), #[]⟩
def b739 : Obj := ⟨(vY x.t.a.b.a), none, (.cls ⟨x.s.a.b.f, [(vY x.t.a.a.f)], [(vr 24), (vY x.t.a.a.f), (vY x.t.a.b.b), (vY x.t.a.b.c), (vY x.t.a.b.d)], 23, x.s.a.b.f, true, [], [(vr 37), (vr 49), (vr 61), (vr 73), (vr 85)], false, none, false⟩), #[(vR 15), none, (some (vS x.s.a.b.f 189)), (some (vS x.s.a.b.f 197)), (some (vB x.t.a.b.e)), (some (.bool true))]⟩
def zhT : Obj := ⟨(vY x.t.a.a.d), none, (.dict #[i41, i42, i43, i44] 4), #[]⟩
def zin : Obj := ⟨(vY x.t.a.a.b), none, (.fields #[(vS x.s.a.c.h 273), (vS x.s.a.c.h 274), (vS x.s.a.a.b 275), (vI 12), vO, vO, vO, vO, (vr 79), (.bool false), (vI 181), (vr 80), .none, .none, .none, .none, (vI 276), (vI 12), (vS x.s.a.a.b 277)]), #[]⟩
def zhR : Obj := ⟨(vY x.t.a.a.c), none, .plain, #[(vR 81), (vR 3), (vR 78), none, (some (vS x.s.a.a.e 187)), none, (vR 0)]⟩
def zil : Obj := ⟨(vY x.t.a.a.d), none, (.dict #[i41, i43, i44, i45] 2), #[]⟩
def zhQ : Obj := ⟨(vY x.t.a.b.a), none, (.cls ⟨x.s.a.c.h, [(vr 24)], [(vr 85), (vr 24), (vY x.t.a.a.f), (vY x.t.a.b.b), (vY x.t.a.b.c), (vY x.t.a.b.d)], 84, x.s.a.c.h, true, [], [], false, none, false⟩), #[(vR 76), none, (some (vS x.s.a.c.h 271)), (some (vS x.s.a.c.h 279)), (some (vB x.t.a.b.e)), (some (.bool true))]⟩
def zhz : Obj := ⟨(vY x.t.a.b.h), none, (.fields #[(vr 85), (vr 85), (vr 85)]), #[]⟩
def zhV : Obj := ⟨(vY x.t.a.a.g), none, (.fields #[(vB x.t.a.c.a), (vr 85)]), #[]⟩
def b752 : Obj := ⟨(vY x.t.a.a.d), none, (.dict #[i0, i1, i2, i3, i4, i5, i6, i7, i8, i9, i16, i22, i28, i34, i40, i46] 16), #[]⟩
def b753 : Obj := ⟨.none, none, (.fields #[(vI 2), vO, (vr 20), (vI 4), vO, (vr 33), (vI 6), vO, (vr 45), (vI 8), vO, (vr 57), (vI 10), vO, (vr 69), (vI 12), vO, (vr 81), (vI 14), vO, (vr 93)]), #[]⟩
def b754 : Obj := ⟨(vY x.t.a.b.a), none, (.cls ⟨x.s.a.b.f, [(vY x.t.a.a.f)], [(vr 24), (vY x.t.a.a.f), (vY x.t.a.b.b), (vY x.t.a.b.c), (vY x.t.a.b.d)], 23, x.s.a.b.f, true, [], [(vr 37), (vr 49), (vr 61), (vr 73), (vr 85), (vr 97)], false, none, false⟩), #[(vR 15), none, (some (vS x.s.a.b.f 189)), (some (vS x.s.a.b.f 197)), (some (vB x.t.a.b.e)), (some (.bool true))]⟩
def ziv : Obj := ⟨(vY x.t.a.a.d), none, (.dict #[i47, i48, i49, i50] 4), #[]⟩
def ziu : Obj := ⟨(vY x.t.a.a.b), none, (.fields #[(vS x.s.a.d.a 289), (vS x.s.a.d.a 290), (vS x.s.a.a.b 291), (vI 14), vO, vO, vO, vO, (vr 91), (.bool false), (vI 181), (vr 92), .none, .none, .none, .none, (vI 292), (vI 14), (vS x.s.a.a.b 293)]), #[]⟩
def zix : Obj := ⟨(vY x.t.a.a.c), none, .plain, #[(vR 93), (vR 3), (vR 90), none, (some (vS x.s.a.a.e 187)), none, (vR 0)]⟩
def ziA : Obj := ⟨(vY x.t.a.a.d), none, (.dict #[i47, i49, i50, i51] 2), #[]⟩
def ziw : Obj := ⟨(vY x.t.a.b.a), none, (.cls ⟨x.s.a.d.a, [(vr 24)], [(vr 97), (vr 24), (vY x.t.a.a.f), (vY x.t.a.b.b), (vY x.t.a.b.c), (vY x.t.a.b.d)], 96, x.s.a.d.a, true, [], [], false, none, false⟩), #[(vR 88), none, (some (vS x.s.a.d.a 287)), (some (vS x.s.a.d.a 295)), (some (vB x.t.a.b.e)), (some (.bool true))]⟩
def ziB : Obj := ⟨(vY x.t.a.b.h), none, (.fields #[(vr 97), (vr 97), (vr 97)]), #[]⟩
def ziy : Obj := ⟨(vY x.t.a.a.g), none, (.fields #[(vB x.t.a.c.a), (vr 97)]), #[]⟩
def b767 : Obj := ⟨(vY x.t.a.a.d), none, (.dict #[i0, i1, i2, i3, i4, i5, i6, i7, i8, i9, i16, i22, i28, i34, i40, i46, i52] 17), #[]⟩
def b768 : Obj := ⟨.none, none, (.fields #[(vI 2), vO, (vr 20), (vI 4), vO, (vr 33), (vI 6), vO, (vr 45), (vI 8), vO, (vr 57), (vI 10), vO, (vr 69), (vI 12), vO, (vr 81), (vI 14), vO, (vr 93), (vI 16), vO, (vr 105)]), #[]⟩
def b769 : Obj := ⟨(vY x.t.a.b.a), none, (.cls ⟨x.s.a.b.f, [(vY x.t.a.a.f)], [(vr 24), (vY x.t.a.a.f), (vY x.t.a.b.b), (vY x.t.a.b.c), (vY x.t.a.b.d)], 23, x.s.a.b.f, true, [], [(vr 37), (vr 49), (vr 61), (vr 73), (vr 85), (vr 97), (vr 109)], false, none, false⟩), #[(vR 15), none, (some (vS x.s.a.b.f 189)), (some (vS x.s.a.b.f 197)), (some (vB x.t.a.b.e)), (some (.bool true))]⟩
def zji : Obj := ⟨(vY x.t.a.a.d), none, (.dict #[i53, i54, i55, i56] 4), #[]⟩
def ziD : Obj := ⟨(vY x.t.a.a.b), none, (.fields #[(vS x.s.a.d.b 305), (vS x.s.a.d.b 306), (vS x.s.a.a.b 307), (vI 16), vO, vO, vO, vO, (vr 103), (.bool false), (vI 181), (vr 104), .none, .none, .none, .none, (vI 308), (vI 16), (vS x.s.a.a.b 309)]), #[]⟩
def zja : Obj := ⟨(vY x.t.a.a.c), none, .plain, #[(vR 105), (vR 3), (vR 102), none, (some (vS x.s.a.a.e 187)), none, (vR 0)]⟩
def zi1 : Obj := ⟨(vY x.t.a.a.d), none, (.dict #[i53, i55, i56, i57] 2), #[]⟩
def zi3 : Obj := ⟨(vY x.t.a.b.a), none, (.cls ⟨x.s.a.d.b, [(vr 24)], [(vr 109), (vr 24), (vY x.t.a.a.f), (vY x.t.a.b.b), (vY x.t.a.b.c), (vY x.t.a.b.d)], 108, x.s.a.d.b, true, [], [], false, none, false⟩), #[(vR 100), none, (some (vS x.s.a.d.b 303)), (some (vS x.s.a.d.b 311)), (some (vB x.t.a.b.e)), (some (.bool true))]⟩
def zjb : Obj := ⟨(vY x.t.a.b.h), none, (.fields #[(vr 109), (vr 109), (vr 109)]), #[]⟩
def ziW : Obj := ⟨(vY x.t.a.a.g), none, (.fields #[(vB x.t.a.c.a), (vr 109)]), #[]⟩
def b782 : Obj := ⟨(vY x.t.a.a.d), none, (.dict #[i0, i1, i2, i3, i4, i5, i6, i7, i8, i9, i16, i22, i28, i34, i40, i46, i52, i58] 18), #[]⟩
def b783 : Obj := ⟨.none, none, (.fields #[(vI 2), vO, (vr 20), (vI 4), vO, (vr 33), (vI 6), vO, (vr 45), (vI 8), vO, (vr 57), (vI 10), vO, (vr 69), (vI 12), vO, (vr 81), (vI 14), vO, (vr 93), (vI 16), vO, (vr 105), (vI 18), vO, (vr 117)]), #[]⟩
def b784 : Obj := ⟨(vY x.t.a.b.a), none, (.cls ⟨x.s.a.b.f, [(vY x.t.a.a.f)], [(vr 24), (vY x.t.a.a.f), (vY x.t.a.b.b), (vY x.t.a.b.c), (vY x.t.a.b.d)], 23, x.s.a.b.f, true, [], [(vr 37), (vr 49), (vr 61), (vr 73), (vr 85), (vr 97), (vr 109), (vr 121)], false, none, false⟩), #[(vR 15), none, (some (vS x.s.a.b.f 189)), (some (vS x.s.a.b.f 197)), (some (vB x.t.a.b.e)), (some (.bool true))]⟩
def zjo : Obj := ⟨(vY x.t.a.a.d), none, (.dict #[i59, i60, i61, i62] 4), #[]⟩
def zjH : Obj := ⟨(vY x.t.a.a.b), none, (.fields #[(vS x.s.a.d.c 321), (vS x.s.a.d.c 322), (vS x.s.a.a.b 323), (vI 18), vO, vO, vO, vO, (vr 115), (.bool false), (vI 181), (vr 116), .none, .none, .none, .none, (vI 324), (vI 18), (vS x.s.a.a.b 325)]), #[]⟩
def zjx : Obj := ⟨(vY x.t.a.a.c), none, .plain, #[(vR 117), (vR 3), (vR 114), none, (some (vS x.s.a.a.e 187)), none, (vR 0)]⟩
def zjt : Obj := ⟨(vY x.t.a.a.d), none, (.dict #[i59, i61, i62, i63] 2), #[]⟩
def zjw : Obj := ⟨(vY x.t.a.b.a), none, (.cls ⟨x.s.a.d.c, [(vr 24)], [(vr 121), (vr 24), (vY x.t.a.a.f), (vY x.t.a.b.b), (vY x.t.a.b.c), (vY x.t.a.b.d)], 120, x.s.a.d.c, true, [], [], false, none, false⟩), #[(vR 112), none, (some (vS x.s.a.d.c 319)), (some (vS x.s.a.d.c 327)), (some (vB x.t.a.b.e)), (some (.bool true))]⟩
def zjn : Obj := ⟨(vY x.t.a.b.h), none, (.fields #[(vr 121), (vr 121), (vr 121)]), #[]⟩
def zjq : Obj := ⟨(vY x.t.a.a.g), none, (.fields #[(vB x.t.a.c.a), (vr 121)]), #[]⟩
def b797 : Obj := ⟨(vY x.t.a.a.d), none, (.dict #[i0, i1, i2, i3, i4, i5, i6, i7, i8, i9, i16, i22, i28, i34, i40, i46, i52, i58, i64] 19), #[]⟩
def b798 : Obj := ⟨.none, none, (.fields #[(vI 2), vO, (vr 20), (vI 4), vO, (vr 33), (vI 6), vO, (vr 45), (vI 8), vO, (vr 57), (vI 10), vO, (vr 69), (vI 12), vO, (vr 81), (vI 14), vO, (vr 93), (vI 16), vO, (vr 105), (vI 18), vO, (vr 117), (vI 20), vO, (vr 129)]), #[]⟩
def b799 : Obj := ⟨(vY x.t.a.b.a), none, (.cls ⟨x.s.a.b.f, [(vY x.t.a.a.f)], [(vr 24), (vY x.t.a.a.f), (vY x.t.a.b.b), (vY x.t.a.b.c), (vY x.t.a.b.d)], 23, x.s.a.b.f, true, [], [(vr 37), (vr 49), (vr 61), (vr 73), (vr 85), (vr 97), (vr 109), (vr 121), (vr 133)], false, none, false⟩), #[(vR 15), none, (some (vS x.s.a.b.f 189)), (some (vS x.s.a.b.f 197)), (some (vB x.t.a.b.e)), (some (.bool true))]⟩
def zjQ : Obj := ⟨(vY x.t.a.a.d), none, (.dict #[i65, i66, i67, i68] 4), #[]⟩
def zj5 : Obj := ⟨(vY x.t.a.a.b), none, (.fields #[(vS x.s.a.d.d 337), (vS x.s.a.d.d 338), (vS x.s.a.a.b 339), (vI 20), vO, vO, vO, vO, (vr 127), (.bool false), (vI 181), (vr 128), .none, .none, .none, .none, (vI 340), (vI 20), (vS x.s.a.a.b 341)]), #[]⟩
def zkg : Obj := ⟨(vY x.t.a.a.c), none, .plain, #[(vR 129), (vR 3), (vR 126), none, (some (vS x.s.a.a.e 187)), none, (vR 0)]⟩
def zjU : Obj := ⟨(vY x.t.a.a.d), none, (.dict #[i65, i67, i68, i69] 2), #[]⟩
def zj6 : Obj := ⟨(vY x.t.a.b.a), none, (.cls ⟨x.s.a.d.d, [(vr 24)], [(vr 133), (vr 24), (vY x.t.a.a.f), (vY x.t.a.b.b), (vY x.t.a.b.c), (vY x.t.a.b.d)], 132, x.s.a.d.d, true, [], [], false, none, false⟩), #[(vR 124), none, (some (vS x.s.a.d.d 335)), (some (vS x.s.a.d.d 343)), (some (vB x.t.a.b.e)), (some (.bool true))]⟩
def zjS : Obj := ⟨(vY x.t.a.b.h), none, (.fields #[(vr 133), (vr 133), (vr 133)]), #[]⟩
def zkd : Obj := ⟨(vY x.t.a.a.g), none, (.fields #[(vB x.t.a.c.a), (vr 133)]), #[]⟩
def b812 : Obj := ⟨(vY x.t.a.a.d), none, (.dict #[i0, i1, i2, i3, i4, i5, i6, i7, i8, i9, i16, i22, i28, i34, i40, i46, i52, i58, i64, i70] 20), #[]⟩
def b813 : Obj := ⟨.none, none, (.fields #[(vI 2), vO, (vr 20), (vI 4), vO, (vr 33), (vI 6), vO, (vr 45), (vI 8), vO, (vr 57), (vI 10), vO, (vr 69), (vI 12), vO, (vr 81), (vI 14), vO, (vr 93), (vI 16), vO, (vr 105), (vI 18), vO, (vr 117), (vI 20), vO, (vr 129), (vI 22), vO, (vr 141)]), #[]⟩
def b814 : Obj := ⟨(vY x.t.a.b.a), none, (.cls ⟨x.s.a.b.f, [(vY x.t.a.a.f)], [(vr 24), (vY x.t.a.a.f), (vY x.t.a.b.b), (vY x.t.a.b.c), (vY x.t.a.b.d)], 23, x.s.a.b.f, true, [], [(vr 37), (vr 49), (vr 61), (vr 73), (vr 85), (vr 97), (vr 109), (vr 121), (vr 133), (vr 145)], false, none, false⟩), #[(vR 15), none, (some (vS x.s.a.b.f 189)), (some (vS x.s.a.b.f 197)), (some (vB x.t.a.b.e)), (some (.bool true))]⟩
def zkj : Obj := ⟨(vY x.t.a.a.d), none, (.dict #[i71, i72, i73, i74] 4), #[]⟩
def zkp : Obj := ⟨(vY x.t.a.a.b), none, (.fields #[(vS x.s.a.d.e 353), (vS x.s.a.d.e 354), (vS x.s.a.a.b 355), (vI 22), vO, vO, vO, vO, (vr 139), (.bool false), (vI 181), (vr 140), .none, .none, .none, .none, (vI 356), (vI 22), (vS x.s.a.a.b 357)]), #[]⟩
def zkk : Obj := ⟨(vY x.t.a.a.c), none, .plain, #[(vR 141), (vR 3), (vR 138), none, (some (vS x.s.a.a.e 187)), none, (vR 0)]⟩
def zkn : Obj := ⟨(vY x.t.a.a.d), none, (.dict #[i71, i73, i74, i75] 2), #[]⟩
def zki : Obj := ⟨(vY x.t.a.b.a), none, (.cls ⟨x.s.a.d.e, [(vr 24)], [(vr 145), (vr 24), (vY x.t.a.a.f), (vY x.t.a.b.b), (vY x.t.a.b.c), (vY x.t.a.b.d)], 144, x.s.a.d.e, true, [], [], false, none, false⟩), #[(vR 136), none, (some (vS x.s.a.d.e 351)), (some (vS x.s.a.d.e 359)), (some (vB x.t.a.b.e)), (some (.bool true))]⟩
def zkh : Obj := ⟨(vY x.t.a.b.h), none, (.fields #[(vr 145), (vr 145), (vr 145)]), #[]⟩
def zkm : Obj := ⟨(vY x.t.a.a.g), none, (.fields #[(vB x.t.a.c.a), (vr 145)]), #[]⟩
def b827 : Obj := ⟨(vY x.t.a.a.d), none, (.dict #[i0, i1, i2, i3, i4, i5, i6, i7, i8, i9, i16, i22, i28, i34, i40, i46, i52, i58, i64, i70, i76] 21), #[]⟩
def b828 : Obj := ⟨.none, none, (.fields #[(vI 2), vO, (vr 20), (vI 4), vO, (vr 33), (vI 6), vO, (vr 45), (vI 8), vO, (vr 57), (vI 10), vO, (vr 69), (vI 12), vO, (vr 81), (vI 14), vO, (vr 93), (vI 16), vO, (vr 105), (vI 18), vO, (vr 117), (vI 20), vO, (vr 129), (vI 22), vO, (vr 141), (vI 24), vO, (vr 153)]), #[]⟩
def b829 : Obj := ⟨(vY x.t.a.b.a), none, (.cls ⟨x.s.a.b.f, [(vY x.t.a.a.f)], [(vr 24), (vY x.t.a.a.f), (vY x.t.a.b.b), (vY x.t.a.b.c), (vY x.t.a.b.d)], 23, x.s.a.b.f, true, [], [(vr 37), (vr 49), (vr 61), (vr 73), (vr 85), (vr 97), (vr 109), (vr 121), (vr 133), (vr 145), (vr 157)], false, none, false⟩), #[(vR 15), none, (some (vS x.s.a.b.f 189)), (some (vS x.s.a.b.f 197)), (some (vB x.t.a.b.e)), (some (.bool true))]⟩
def zkJ : Obj := ⟨(vY x.t.a.a.d), none, (.dict #[i77, i78, i79, i80] 4), #[]⟩
def zlh : Obj := ⟨(vY x.t.a.a.b), none, (.fields #[(vS x.s.a.d.f 369), (vS x.s.a.d.f 370), (vS x.s.a.a.b 371), (vI 24), vO, vO, vO, vO, (vr 151), (.bool false), (vI 181), (vr 152), .none, .none, .none, .none, (vI 372), (vI 24), (vS x.s.a.a.b 373)]), #[]⟩
def zlC : Obj := ⟨(vY x.t.a.a.c), none, .plain, #[(vR 153), (vR 3), (vR 150), none, (some (vS x.s.a.a.e 187)), none, (vR 0)]⟩
def zls : Obj := ⟨(vY x.t.a.a.d), none, (.dict #[i77, i79, i80, i81] 2), #[]⟩
def zkW : Obj := ⟨(vY x.t.a.b.a), none, (.cls ⟨x.s.a.d.f, [(vr 24)], [(vr 157), (vr 24), (vY x.t.a.a.f), (vY x.t.a.b.b), (vY x.t.a.b.c), (vY x.t.a.b.d)], 156, x.s.a.d.f, true, [], [], false, none, false⟩), #[(vR 148), none, (some (vS x.s.a.d.f 367)), (some (vS x.s.a.d.f 375)), (some (vB x.t.a.b.e)), (some (.bool true))]⟩
def zkU : Obj := ⟨(vY x.t.a.b.h), none, (.fields #[(vr 157), (vr 157), (vr 157)]), #[]⟩
def zkw : Obj := ⟨(vY x.t.a.a.g), none, (.fields #[(vB x.t.a.c.a), (vr 157)]), #[]⟩
def b842 : Obj := ⟨(vY x.t.a.a.d), none, (.dict #[i0, i1, i2, i3, i4, i5, i6, i7, i8, i9, i16, i22, i28, i34, i40, i46, i52, i58, i64, i70, i76, i82] 22), #[]⟩
def b843 : Obj := ⟨.none, none, (.fields #[(vI 2), vO, (vr 20), (vI 4), vO, (vr 33), (vI 6), vO, (vr 45), (vI 8), vO, (vr 57), (vI 10), vO, (vr 69), (vI 12), vO, (vr 81), (vI 14), vO, (vr 93), (vI 16), vO, (vr 105), (vI 18), vO, (vr 117), (vI 20), vO, (vr 129), (vI 22), vO, (vr 141), (vI 24), vO, (vr 153), (vI 26), vO, (vr 165)]), #[]⟩
def b844 : Obj := ⟨(vY x.t.a.b.a), none, (.cls ⟨x.s.a.b.f, [(vY x.t.a.a.f)], [(vr 24), (vY x.t.a.a.f), (vY x.t.a.b.b), (vY x.t.a.b.c), (vY x.t.a.b.d)], 23, x.s.a.b.f, true, [], [(vr 37), (vr 49), (vr 61), (vr 73), (vr 85), (vr 97), (vr 109), (vr 121), (vr 133), (vr 145), (vr 157), (vr 169)], false, none, false⟩), #[(vR 15), none, (some (vS x.s.a.b.f 189)), (some (vS x.s.a.b.f 197)), (some (vB x.t.a.b.e)), (some (.bool true))]⟩
def zlV : Obj := ⟨(vY x.t.a.a.d), none, (.dict #[i83, i84, i85, i86] 4), #[]⟩
def zlH : Obj := ⟨(vY x.t.a.a.b), none, (.fields #[(vS x.s.a.d.g 385), (vS x.s.a.d.g 386), (vS x.s.a.a.b 387), (vI 26), vO, vO, vO, vO, (vr 163), (.bool false), (vI 181), (vr 164), .none, .none, .none, .none, (vI 388), (vI 26), (vS x.s.a.a.b 389)]), #[]⟩
def zlJ : Obj := ⟨(vY x.t.a.a.c), none, .plain, #[(vR 165), (vR 3), (vR 162), none, (some (vS x.s.a.a.e 187)), none, (vR 0)]⟩
def zlM : Obj := ⟨(vY x.t.a.a.d), none, (.dict #[i83, i85, i86, i87] 2), #[]⟩
def zlS : Obj := ⟨(vY x.t.a.b.a), none, (.cls ⟨x.s.a.d.g, [(vr 24)], [(vr 169), (vr 24), (vY x.t.a.a.f), (vY x.t.a.b.b), (vY x.t.a.b.c), (vY x.t.a.b.d)], 168, x.s.a.d.g, true, [], [], false, none, false⟩), #[(vR 160), none, (some (vS x.s.a.d.g 383)), (some (vS x.s.a.d.g 391)), (some (vB x.t.a.b.e)), (some (.bool true))]⟩
def zlQ : Obj := ⟨(vY x.t.a.b.h), none, (.fields #[(vr 169), (vr 169), (vr 169)]), #[]⟩
def zlN : Obj := ⟨(vY x.t.a.a.g), none, (.fields #[(vB x.t.a.c.a), (vr 169)]), #[]⟩
def b857 : Obj := ⟨(vY x.t.a.a.d), none, (.dict #[i0, i1, i2, i3, i4, i5, i6, i7, i8, i9, i16, i22, i28, i34, i40, i46, i52, i58, i64, i70, i76, i82, i88] 23), #[]⟩
def b858 : Obj := ⟨.none, none, (.fields #[(vI 2), vO, (vr 20), (vI 4), vO, (vr 33), (vI 6), vO, (vr 45), (vI 8), vO, (vr 57), (vI 10), vO, (vr 69), (vI 12), vO, (vr 81), (vI 14), vO, (vr 93), (vI 16), vO, (vr 105), (vI 18), vO, (vr 117), (vI 20), vO, (vr 129), (vI 22), vO, (vr 141), (vI 24), vO, (vr 153), (vI 26), vO, (vr 165), (vI 28), vO, (vr 177)]), #[]⟩
def b859 : Obj := ⟨(vY x.t.a.b.a), none, (.cls ⟨x.s.a.b.f, [(vY x.t.a.a.f)], [(vr 24), (vY x.t.a.a.f), (vY x.t.a.b.b), (vY x.t.a.b.c), (vY x.t.a.b.d)], 23, x.s.a.b.f, true, [], [(vr 37), (vr 49), (vr 61), (vr 73), (vr 85), (vr 97), (vr 109), (vr 121), (vr 133), (vr 145), (vr 157), (vr 169), (vr 181)], false, none, false⟩), #[(vR 15), none, (some (vS x.s.a.b.f 189)), (some (vS x.s.a.b.f 197)), (some (vB x.t.a.b.e)), (some (.bool true))]⟩
def zmg : Obj := ⟨(vY x.t.a.a.d), none, (.dict #[i89, i90, i91, i92] 4), #[]⟩
def zmA : Obj := ⟨(vY x.t.a.a.b), none, (.fields #[(vS x.s.a.d.h 401), (vS x.s.a.d.h 402), (vS x.s.a.a.b 403), (vI 28), vO, vO, vO, vO, (vr 175), (.bool false), (vI 181), (vr 176), .none, .none, .none, .none, (vI 404), (vI 28), (vS x.s.a.a.b 405)]), #[]⟩
def zmD : Obj := ⟨(vY x.t.a.a.c), none, .plain, #[(vR 177), (vR 3), (vR 174), none, (some (vS x.s.a.a.e 187)), none, (vR 0)]⟩
def zl6 : Obj := ⟨(vY x.t.a.a.d), none, (.dict #[i89, i91, i92, i93] 2), #[]⟩
def zms : Obj := ⟨(vY x.t.a.b.a), none, (.cls ⟨x.s.a.d.h, [(vr 24)], [(vr 181), (vr 24), (vY x.t.a.a.f), (vY x.t.a.b.b), (vY x.t.a.b.c), (vY x.t.a.b.d)], 180, x.s.a.d.h, true, [], [], false, none, false⟩), #[(vR 172), none, (some (vS x.s.a.d.h 399)), (some (vS x.s.a.d.h 407)), (some (vB x.t.a.b.e)), (some (.bool true))]⟩
def zmS : Obj := ⟨(vY x.t.a.b.h), none, (.fields #[(vr 181), (vr 181), (vr 181)]), #[]⟩
def zmN : Obj := ⟨(vY x.t.a.a.g), none, (.fields #[(vB x.t.a.c.a), (vr 181)]), #[]⟩
def b872 : Obj := ⟨(vY x.t.a.a.d), none, (.dict #[i0, i1, i2, i3, i4, i5, i6, i7, i8, i9, i16, i22, i28, i34, i40, i46, i52, i58, i64, i70, i76, i82, i88, i94] 24), #[]⟩
def b873 : Obj := ⟨.none, none, (.fields #[(vI 2), vO, (vr 20), (vI 4), vO, (vr 33), (vI 6), vO, (vr 45), (vI 8), vO, (vr 57), (vI 10), vO, (vr 69), (vI 12), vO, (vr 81), (vI 14), vO, (vr 93), (vI 16), vO, (vr 105), (vI 18), vO, (vr 117), (vI 20), vO, (vr 129), (vI 22), vO, (vr 141), (vI 24), vO, (vr 153), (vI 26), vO, (vr 165), (vI 28), vO, (vr 177), (vI 30), vO, (vr 189)]), #[]⟩
def b874 : Obj := ⟨(vY x.t.a.b.a), none, (.cls ⟨x.s.a.b.f, [(vY x.t.a.a.f)], [(vr 24), (vY x.t.a.a.f), (vY x.t.a.b.b), (vY x.t.a.b.c), (vY x.t.a.b.d)], 23, x.s.a.b.f, true, [], [(vr 37), (vr 49), (vr 61), (vr 73), (vr 85), (vr 97), (vr 109), (vr 121), (vr 133), (vr 145), (vr 157), (vr 169), (vr 181), (vr 193)], false, none, false⟩), #[(vR 15), none, (some (vS x.s.a.b.f 189)), (some (vS x.s.a.b.f 197)), (some (vB x.t.a.b.e)), (some (.bool true))]⟩
def zm2 : Obj := ⟨(vY x.t.a.a.d), none, (.dict #[i95, i96, i97, i98] 4), #[]⟩
def znf : Obj := ⟨(vY x.t.a.a.b), none, (.fields #[(vS x.s.a.e.a 417), (vS x.s.a.e.a 418), (vS x.s.a.a.b 419), (vI 30), vO, vO, vO, vO, (vr 187), (.bool false), (vI 181), (vr 188), .none, .none, .none, .none, (vI 420), (vI 30), (vS x.s.a.a.b 421)]), #[]⟩
def zna : Obj := ⟨(vY x.t.a.a.c), none, .plain, #[(vR 189), (vR 3), (vR 186), none, (some (vS x.s.a.a.e 187)), none, (vR 0)]⟩
def zm9 : Obj := ⟨(vY x.t.a.a.d), none, (.dict #[i95, i97, i98, i99] 2), #[]⟩
def zmV : Obj := ⟨(vY x.t.a.b.a), none, (.cls ⟨x.s.a.e.a, [(vr 24)], [(vr 193), (vr 24), (vY x.t.a.a.f), (vY x.t.a.b.b), (vY x.t.a.b.c), (vY x.t.a.b.d)], 192, x.s.a.e.a, true, [], [], false, none, false⟩), #[(vR 184), none, (some (vS x.s.a.e.a 415)), (some (vS x.s.a.e.a 423)), (some (vB x.t.a.b.e)), (some (.bool true))]⟩
def znq : Obj := ⟨(vY x.t.a.b.h), none, (.fields #[(vr 193), (vr 193), (vr 193)]), #[]⟩
def znb : Obj := ⟨(vY x.t.a.a.g), none, (.fields #[(vB x.t.a.c.a), (vr 193)]), #[]⟩
def b887 : Obj := ⟨(vY x.t.a.a.d), none, (.dict #[i0, i1, i2, i3, i4, i5, i6, i7, i8, i9, i16, i22, i28, i34, i40, i46, i52, i58, i64, i70, i76, i82, i88, i94, zpN] 25), #[]⟩
def b888 : Obj := ⟨.none, none, (.fields #[(vI 2), vO, (vr 20), (vI 4), vO, (vr 33), (vI 6), vO, (vr 45), (vI 8), vO, (vr 57), (vI 10), vO, (vr 69), (vI 12), vO, (vr 81), (vI 14), vO, (vr 93), (vI 16), vO, (vr 105), (vI 18), vO, (vr 117), (vI 20), vO, (vr 129), (vI 22), vO, (vr 141), (vI 24), vO, (vr 153), (vI 26), vO, (vr 165), (vI 28), vO, (vr 177), (vI 30), vO, (vr 189), (vI 32), vO, (vr 201)]), #[]⟩
def b889 : Obj := ⟨(vY x.t.a.b.a), none, (.cls ⟨x.s.a.b.f, [(vY x.t.a.a.f)], [(vr 24), (vY x.t.a.a.f), (vY x.t.a.b.b), (vY x.t.a.b.c), (vY x.t.a.b.d)], 23, x.s.a.b.f, true, [], [(vr 37), (vr 49), (vr 61), (vr 73), (vr 85), (vr 97), (vr 109), (vr 121), (vr 133), (vr 145), (vr 157), (vr 169), (vr 181), (vr 193), (vr 212)], false, none, false⟩), #[(vR 15), none, (some (vS x.s.a.b.f 189)), (some (vS x.s.a.b.f 197)), (some (vB x.t.a.b.e)), (some (.bool true))]⟩
def zph : Obj := ⟨(vY x.t.a.a.d), none, (.dict #[i101, i102, i103, i104, i105] 5), #[]⟩
def zpw : Obj := ⟨.none, none, (.fields #[(vI 34), (vI 4), (vr 208)]), #[]⟩
def zpa : Obj := ⟨(vY x.t.a.a.b), none, (.fields #[(vS x.s.a.e.b 433), (vS x.s.a.e.b 434), (vS x.s.a.a.b 435), (vI 32), vO, vO, vO, vO, (vr 199), (.bool false), (vI 181), (vr 200), .none, .none, .none, .none, (vI 436), (vI 32), (vS x.s.a.a.b 437)]), #[]⟩
def zo3 : Obj := ⟨(vY x.t.a.a.c), none, .plain, #[(vR 201), (vR 3), (vR 198), none, (some (vS x.s.a.a.e 187)), none, (vR 0)]⟩
def zoM : Obj := ⟨(vY x.t.a.a.a), none, (.seq #[(vS x.s.a.e.d 446), (vS x.s.a.e.e 447)] 0), #[]⟩
def zpq : Obj := ⟨.none, none, (.func (fn (sm 16 0) x.s.a.e.f 0 [] .none .none .none .none none .none .none 0)), #[]⟩
def znW : Obj := ⟨(vY x.t.a.a.b), none, (.fields #[(vS x.s.a.e.c 443), (vS x.s.a.e.f 444), (vS x.s.a.a.b 445), (vI 34), (vI 2), vO, vO, (vI 3), (vr 203), (.bool true), (vI 181), (vr 204), .none, (vr 205), (vr 206), (vr 207), (vI 448), (vI 34), (vS x.s.a.a.b 449)]), #[]⟩
def znF : Obj := ⟨(vY x.t.a.c.b), none, (.func (fn (sm 16 0) x.s.a.e.f 3 [] .none .none .none (vS x.s.a.a.e 187) none (vr 208) .none 0)), #[]⟩
def zoo : Obj := ⟨(vY x.t.a.a.a), none, (.seq #[(vS x.s.a.e.e 451)] 0), #[]⟩
def znX : Obj := ⟨(vY x.t.a.a.d), none, (.dict #[i101, i103, i104, i105, i106] 2), #[]⟩
def zoO : Obj := ⟨(vY x.t.a.b.a), none, (.cls ⟨x.s.a.e.b, [(vr 24)], [(vr 212), (vr 24), (vY x.t.a.a.f), (vY x.t.a.b.b), (vY x.t.a.b.c), (vY x.t.a.b.d)], 211, x.s.a.e.b, true, [], [], false, none, false⟩), #[(vR 196), none, (some (vS x.s.a.e.b 431)), (some (vS x.s.a.e.b 439)), (some (vB x.t.a.b.e)), (some (.bool true))]⟩
def zn7 : Obj := ⟨(vY x.t.a.b.h), none, (.fields #[(vr 212), (vr 212), (vr 212)]), #[]⟩
def znP : Obj := ⟨(vY x.t.a.a.g), none, (.fields #[(vB x.t.a.c.a), (vr 212)]), #[]⟩
def b909 : Obj := ⟨(vY x.t.a.a.d), none, (.dict #[i0, i1, i2, i3, i4, i5, i6, i7, i8, i9, i16, i22, i28, i34, i40, i46, i52, i58, i64, i70, i76, i82, i88, i94, zpN, zqb] 26), #[]⟩
def b910 : Obj := ⟨.none, none, (.fields #[(vI 2), vO, (vr 20), (vI 4), vO, (vr 33), (vI 6), vO, (vr 45), (vI 8), vO, (vr 57), (vI 10), vO, (vr 69), (vI 12), vO, (vr 81), (vI 14), vO, (vr 93), (vI 16), vO, (vr 105), (vI 18), vO, (vr 117), (vI 20), vO, (vr 129), (vI 22), vO, (vr 141), (vI 24), vO, (vr 153), (vI 26), vO, (vr 165), (vI 28), vO, (vr 177), (vI 30), vO, (vr 189), (vI 32), vO, (vr 201), (vI 37), vO, (vr 220)]), #[]⟩
def b911 : Obj := ⟨(vY x.t.a.b.a), none, (.cls ⟨x.s.a.b.f, [(vY x.t.a.a.f)], [(vr 24), (vY x.t.a.a.f), (vY x.t.a.b.b), (vY x.t.a.b.c), (vY x.t.a.b.d)], 23, x.s.a.b.f, true, [], [(vr 37), (vr 49), (vr 61), (vr 73), (vr 85), (vr 97), (vr 109), (vr 121), (vr 133), (vr 145), (vr 157), (vr 169), (vr 181), (vr 193), (vr 212), (vr 231)], false, none, false⟩), #[(vR 15), none, (some (vS x.s.a.b.f 189)), (some (vS x.s.a.b.f 197)), (some (vB x.t.a.b.e)), (some (.bool true))]⟩
def zpQ : Obj := ⟨(vY x.t.a.a.d), none, (.dict #[i108, i109, i110, i111, i112] 5), #[]⟩
def zpM : Obj := ⟨.none, none, (.fields #[(vI 39), (vI 4), (vr 227)]), #[]⟩
def zpL : Obj := ⟨(vY x.t.a.a.b), none, (.fields #[(vS x.s.a.e.g 458), (vS x.s.a.e.g 459), (vS x.s.a.a.b 460), (vI 37), vO, vO, vO, vO, (vr 218), (.bool false), (vI 181), (vr 219), .none, .none, .none, .none, (vI 461), (vI 37), (vS x.s.a.a.b 462)]), #[]⟩
def zpy : Obj := ⟨(vY x.t.a.a.c), none, .plain, #[(vR 220), (vR 3), (vR 217), none, (some (vS x.s.a.a.e 187)), none, (vR 0)]⟩
def zpI : Obj := ⟨(vY x.t.a.a.a), none, (.seq #[(vS x.s.a.e.d 471), (vS x.s.a.e.h 472)] 0), #[]⟩
def zpE : Obj := ⟨.none, none, (.func (fn (sm 17 0) x.s.a.f.a 0 [] .none .none .none .none none .none .none 0)), #[]⟩
def zpP : Obj := ⟨(vY x.t.a.a.b), none, (.fields #[(vS x.s.a.e.c 468), (vS x.s.a.f.a 469), (vS x.s.a.a.b 470), (vI 39), (vI 2), vO, vO, (vI 3), (vr 222), (.bool true), (vI 181), (vr 223), .none, (vr 224), (vr 225), (vr 226), (vI 473), (vI 39), (vS x.s.a.a.b 474)]), #[]⟩
def zpH : Obj := ⟨(vY x.t.a.c.b), none, (.func (fn (sm 17 0) x.s.a.f.a 3 [] .none .none .none (vS x.s.a.a.e 187) none (vr 227) .none 0)), #[]⟩
def zpB : Obj := ⟨(vY x.t.a.a.a), none, (.seq #[(vS x.s.a.e.h 476)] 0), #[]⟩
def zpJ : Obj := ⟨(vY x.t.a.a.d), none, (.dict #[i108, i110, i111, i112, i113] 2), #[]⟩
def zpz : Obj := ⟨(vY x.t.a.b.a), none, (.cls ⟨x.s.a.e.g, [(vr 24)], [(vr 231), (vr 24), (vY x.t.a.a.f), (vY x.t.a.b.b), (vY x.t.a.b.c), (vY x.t.a.b.d)], 230, x.s.a.e.g, true, [], [], false, none, false⟩), #[(vR 215), none, (some (vS x.s.a.e.g 456)), (some (vS x.s.a.e.g 464)), (some (vB x.t.a.b.e)), (some (.bool true))]⟩
def zpG : Obj := ⟨(vY x.t.a.b.h), none, (.fields #[(vr 231), (vr 231), (vr 231)]), #[]⟩
def zpO : Obj := ⟨(vY x.t.a.a.g), none, (.fields #[(vB x.t.a.c.a), (vr 231)]), #[]⟩
def b931 : Obj := ⟨(vY x.t.a.a.d), none, (.dict #[i0, i1, i2, i3, i4, i5, i6, i7, i8, i9, i16, i22, i28, i34, i40, i46, i52, i58, i64, i70, i76, i82, i88, i94, zpN, zqb, i114] 27), #[]⟩
def b932 : Obj := ⟨.none, none, (.fields #[(vI 2), vO, (vr 20), (vI 4), vO, (vr 33), (vI 6), vO, (vr 45), (vI 8), vO, (vr 57), (vI 10), vO, (vr 69), (vI 12), vO, (vr 81), (vI 14), vO, (vr 93), (vI 16), vO, (vr 105), (vI 18), vO, (vr 117), (vI 20), vO, (vr 129), (vI 22), vO, (vr 141), (vI 24), vO, (vr 153), (vI 26), vO, (vr 165), (vI 28), vO, (vr 177), (vI 30), vO, (vr 189), (vI 32), vO, (vr 201), (vI 37), vO, (vr 220), (vI 42), vO, (vr 239)]), #[]⟩
def b933 : Obj := ⟨(vY x.t.a.b.a), none, (.cls ⟨x.s.a.b.f, [(vY x.t.a.a.f)], [(vr 24), (vY x.t.a.a.f), (vY x.t.a.b.b), (vY x.t.a.b.c), (vY x.t.a.b.d)], 23, x.s.a.b.f, true, [], [(vr 37), (vr 49), (vr 61), (vr 73), (vr 85), (vr 97), (vr 109), (vr 121), (vr 133), (vr 145), (vr 157), (vr 169), (vr 181), (vr 193), (vr 212), (vr 231), (vr 250)], false, none, false⟩), #[(vR 15), none, (some (vS x.s.a.b.f 189)), (some (vS x.s.a.b.f 197)), (some (vB x.t.a.b.e)), (some (.bool true))]⟩
def zqd : Obj := ⟨(vY x.t.a.a.d), none, (.dict #[i115, i116, i117, i118, i119] 5), #[]⟩
def zqk : Obj := ⟨.none, none, (.fields #[(vI 44), (vI 4), (vr 246)]), #[]⟩
def zp9 : Obj := ⟨(vY x.t.a.a.b), none, (.fields #[(vS x.s.a.f.b 483), (vS x.s.a.f.b 484), (vS x.s.a.a.b 485), (vI 42), vO, vO, vO, vO, (vr 237), (.bool false), (vI 181), (vr 238), .none, .none, .none, .none, (vI 486), (vI 42), (vS x.s.a.a.b 487)]), #[]⟩
def zpS : Obj := ⟨(vY x.t.a.a.c), none, .plain, #[(vR 239), (vR 3), (vR 236), none, (some (vS x.s.a.a.e 187)), none, (vR 0)]⟩
def zpV : Obj := ⟨(vY x.t.a.a.a), none, (.seq #[(vS x.s.a.e.d 496), (vS x.s.a.f.c 497)] 0), #[]⟩
def zqC : Obj := ⟨.none, none, (.func (fn (sm 18 0) x.s.a.f.d 0 [] .none .none .none .none none .none .none 0)), #[]⟩
def zqx : Obj := ⟨(vY x.t.a.a.b), none, (.fields #[(vS x.s.a.e.c 493), (vS x.s.a.f.d 494), (vS x.s.a.a.b 495), (vI 44), (vI 2), vO, vO, (vI 3), (vr 241), (.bool true), (vI 181), (vr 242), .none, (vr 243), (vr 244), (vr 245), (vI 498), (vI 44), (vS x.s.a.a.b 499)]), #[]⟩
def zqp : Obj := ⟨(vY x.t.a.c.b), none, (.func (fn (sm 18 0) x.s.a.f.d 3 [] .none .none .none (vS x.s.a.a.e 187) none (vr 246) .none 0)), #[]⟩
def zqP : Obj := ⟨(vY x.t.a.a.a), none, (.seq #[(vS x.s.a.f.c 501)] 0), #[]⟩
def zqJ : Obj := ⟨(vY x.t.a.a.d), none, (.dict #[i115, i117, i118, i119, i120] 2), #[]⟩
def zqO : Obj := ⟨(vY x.t.a.b.a), none, (.cls ⟨x.s.a.f.b, [(vr 24)], [(vr 250), (vr 24), (vY x.t.a.a.f), (vY x.t.a.b.b), (vY x.t.a.b.c), (vY x.t.a.b.d)], 249, x.s.a.f.b, true, [], [], false, none, false⟩), #[(vR 234), none, (some (vS x.s.a.f.b 481)), (some (vS x.s.a.f.b 489)), (some (vB x.t.a.b.e)), (some (.bool true))]⟩
def zqV : Obj := ⟨(vY x.t.a.b.h), none, (.fields #[(vr 250), (vr 250), (vr 250)]), #[]⟩
def zpW : Obj := ⟨(vY x.t.a.a.g), none, (.fields #[(vB x.t.a.c.a), (vr 250)]), #[]⟩
def b953 : Obj := ⟨(vY x.t.a.a.d), none, (.dict #[i121, i1, i2, i3, i4, i5, i6, i7, i8, i9, i16, i22, i28, i34, i40, i46, i52, i58, i64, i70, i76, i82, i88, i94, zpN, zqb, i114, i122, i123, i124, i125, i126, i127, i128, i129] 35), #[]⟩
def b954 : Obj := ⟨.none, none, (.fields #[(vI 2), vO, (vr 20), (vI 4), vO, (vr 33), (vI 6), vO, (vr 45), (vI 8), vO, (vr 57), (vI 10), vO, (vr 69), (vI 12), vO, (vr 81), (vI 14), vO, (vr 93), (vI 16), vO, (vr 105), (vI 18), vO, (vr 117), (vI 20), vO, (vr 129), (vI 22), vO, (vr 141), (vI 24), vO, (vr 153), (vI 26), vO, (vr 165), (vI 28), vO, (vr 177), (vI 30), vO, (vr 189), (vI 32), vO, (vr 201), (vI 37), vO, (vr 220), (vI 42), vO, (vr 239), (vI 47), vO, (vr 258), (vI 56), vO, (vr 276), (vI 62), vO, (vr 281), (vI 65), vO, (vr 288), (vI 70), vO, (vr 293)]), #[]⟩
def b955 : Obj := ⟨(vY x.t.a.b.a), none, (.cls ⟨x.s.a.b.f, [(vY x.t.a.a.f)], [(vr 24), (vY x.t.a.a.f), (vY x.t.a.b.b), (vY x.t.a.b.c), (vY x.t.a.b.d)], 23, x.s.a.b.f, true, [], [(vr 37), (vr 49), (vr 61), (vr 73), (vr 85), (vr 97), (vr 109), (vr 121), (vr 133), (vr 145), (vr 157), (vr 169), (vr 181), (vr 193), (vr 212), (vr 231), (vr 250), (vr 269)], false, none, false⟩), #[(vR 15), none, (some (vS x.s.a.b.f 189)), (some (vS x.s.a.b.f 197)), (some (vB x.t.a.b.e)), (some (.bool true))]⟩
def b958 : Obj := ⟨(vY x.t.a.a.d), none, (.dict #[i130, i131, i132, i133, i134] 5), #[]⟩
def b960 : Obj := ⟨.none, none, (.fields #[(vI 49), (vI 4), (vr 265)]), #[]⟩
def b961 : Obj := ⟨(vY x.t.a.a.b), none, (.fields #[(vS x.s.a.f.f 508), (vS x.s.a.f.f 509), (vS x.s.a.a.b 510), (vI 47), vO, vO, vO, vO, (vr 256), (.bool false), (vI 181), (vr 257), .none, .none, .none, .none, (vI 511), (vI 47), (vS x.s.a.a.b 512)]), #[]⟩
def b962 : Obj := ⟨(vY x.t.a.a.c), none, .plain, #[(vR 258), (vR 3), (vR 255), none, (some (vS x.s.a.a.e 187)), none, (vR 0)]⟩
def b965 : Obj := ⟨(vY x.t.a.a.a), none, (.seq #[(vS x.s.a.e.d 521), (vS x.s.a.g.g 522)] 0), #[]⟩
def b967 : Obj := ⟨.none, none, (.func (fn (sm 19 0) x.s.a.g.h 0 [] .none .none .none .none none .none .none 0)), #[]⟩
def b968 : Obj := ⟨(vY x.t.a.a.b), none, (.fields #[(vS x.s.a.e.c 518), (vS x.s.a.g.h 519), (vS x.s.a.a.b 520), (vI 49), (vI 2), vO, vO, (vI 3), (vr 260), (.bool true), (vI 181), (vr 261), .none, (vr 262), (vr 263), (vr 264), (vI 523), (vI 49), (vS x.s.a.a.b 524)]), #[]⟩
def b969 : Obj := ⟨(vY x.t.a.c.b), none, (.func (fn (sm 19 0) x.s.a.g.h 3 [] .none .none .none (vS x.s.a.a.e 187) none (vr 265) .none 0)), #[]⟩
def b970 : Obj := ⟨(vY x.t.a.a.a), none, (.seq #[(vS x.s.a.g.g 526)] 0), #[]⟩
def b971 : Obj := ⟨(vY x.t.a.a.d), none, (.dict #[i130, i132, i133, i134, i135] 2), #[]⟩
def b972 : Obj := ⟨(vY x.t.a.b.a), none, (.cls ⟨x.s.a.f.f, [(vr 24)], [(vr 269), (vr 24), (vY x.t.a.a.f), (vY x.t.a.b.b), (vY x.t.a.b.c), (vY x.t.a.b.d)], 268, x.s.a.f.f, true, [], [], false, none, false⟩), #[(vR 253), none, (some (vS x.s.a.f.f 506)), (some (vS x.s.a.f.f 514)), (some (vB x.t.a.b.e)), (some (.bool true))]⟩
def b973 : Obj := ⟨(vY x.t.a.b.h), none, (.fields #[(vr 269), (vr 269), (vr 269)]), #[]⟩
def b974 : Obj := ⟨(vY x.t.a.a.g), none, (.fields #[(vB x.t.a.c.a), (vr 269)]), #[]⟩
def b975 : Obj := ⟨(vY x.t.a.a.a), none, (.seq #[(vS x.s.a.h.a 531), (vS x.s.a.h.b 532)] 0), #[]⟩
def b978 : Obj := ⟨.none, none, (.func (fn (st 24) x.s.a.g.c 0 [] .none .none .none .none none .none .none 0)), #[]⟩
def b979 : Obj := ⟨(vY x.t.a.a.b), none, (.fields #[(vS x.s.a.g.c 540), (vS x.s.a.g.c 541), (vS x.s.a.a.b 542), (vI 56), (vI 1), vO, vO, (vI 3), (vr 273), (.bool true), (vI 181), (vr 274), .none, .none, .none, (vr 275), (vI 543), (vI 56), (vS x.s.a.a.b 544)]), #[]⟩
def b980 : Obj := ⟨(vY x.t.a.c.b), none, (.func (fn (st 24) x.s.a.g.c 3 [] .none .none .none (vS x.s.a.f.e 534) none (vr 276) .none 0)), #[]⟩
def b983 : Obj := ⟨.none, none, (.func (fn (st 25) x.s.a.g.d 0 [] .none .none .none .none none .none .none 0)), #[]⟩
def b984 : Obj := ⟨(vY x.t.a.a.b), none, (.fields #[(vS x.s.a.g.d 546), (vS x.s.a.g.d 547), (vS x.s.a.a.b 548), (vI 62), (vI 1), vO, vO, (vI 3), (vr 278), (.bool true), (vI 181), (vr 279), .none, .none, .none, (vr 280), (vI 549), (vI 62), (vS x.s.a.a.b 550)]), #[]⟩
def b985 : Obj := ⟨(vY x.t.a.c.b), none, (.func (fn (st 25) x.s.a.g.d 3 [] .none .none .none (vS x.s.a.f.e 534) none (vr 281) .none 0)), #[]⟩
def b988 : Obj := ⟨(vY x.t.a.a.a), none, (.seq #[(vS x.s.a.h.c 555), (vS x.s.a.h.d 556), (vS x.s.a.h.e 557)] 0), #[]⟩
def b990 : Obj := ⟨.none, none, (.func (fn (st 26) x.s.a.g.e 0 [] .none .none .none .none none .none .none 0)), #[]⟩
def b991 : Obj := ⟨(vY x.t.a.a.b), none, (.fields #[(vS x.s.a.g.e 552), (vS x.s.a.g.e 553), (vS x.s.a.a.b 554), (vI 65), (vI 2), vO, vO, (vI 3), (vr 283), (.bool true), (vI 181), (vr 284), .none, (vr 285), (vr 286), (vr 287), (vI 558), (vI 65), (vS x.s.a.a.b 559)]), #[]⟩
def b992 : Obj := ⟨(vY x.t.a.c.b), none, (.func (fn (st 26) x.s.a.g.e 3 [] .none .none .none (vS x.s.a.f.e 534) none (vr 288) .none 0)), #[]⟩
def b995 : Obj := ⟨.none, none, (.func (fn (st 27) x.s.a.g.f 0 [] .none .none .none .none none .none .none 0)), #[]⟩
def b996 : Obj := ⟨(vY x.t.a.a.b), none, (.fields #[(vS x.s.a.g.f 561), (vS x.s.a.g.f 562), (vS x.s.a.a.b 563), (vI 70), (vI 2), vO, vO, (vI 3), (vr 290), (.bool true), (vI 181), (vr 291), .none, .none, .none, (vr 292), (vI 564), (vI 70), (vS x.s.a.a.b 565)]), #[]⟩
def b997 : Obj := ⟨(vY x.t.a.c.b), none, (.func (fn (st 27) x.s.a.g.f 3 [] .none .none .none (vS x.s.a.f.e 534) none (vr 293) .none 0)), #[]⟩
def b998 : Obj := ⟨(vY x.t.a.a.d), none, (.dict #[i136, i1, i2, i3, i4, i5, i6, i7, i8, i9, i16, i22, i28, i34, i40, i46, i52, i58, i64, i70, i76, i82, i88, i94, zpN, zqb, i114, i122, i123, i124, i125, i126, i127, i128, i129, i137, i138, i139, i140, i141, i142, i143, i144, i145, i146, i147, i148] 47), #[]⟩
def b999 : Obj := ⟨.none, none, (.fields #[(vI 2), vO, (vr 20), (vI 4), vO, (vr 33), (vI 6), vO, (vr 45), (vI 8), vO, (vr 57), (vI 10), vO, (vr 69), (vI 12), vO, (vr 81), (vI 14), vO, (vr 93), (vI 16), vO, (vr 105), (vI 18), vO, (vr 117), (vI 20), vO, (vr 129), (vI 22), vO, (vr 141), (vI 24), vO, (vr 153), (vI 26), vO, (vr 165), (vI 28), vO, (vr 177), (vI 30), vO, (vr 189), (vI 32), vO, (vr 201), (vI 37), vO, (vr 220), (vI 42), vO, (vr 239), (vI 47), vO, (vr 258), (vI 56), vO, (vr 276), (vI 62), vO, (vr 281), (vI 65), vO, (vr 288), (vI 70), vO, (vr 293), (vI 73), vO, (vr 300), (vI 80), vO, (vr 307), (vI 91), vO, (vr 314), (vI 97), vO, (vr 321), (vI 111), vO, (vr 328), (vI 113), vO, (vr 335), (vI 125), vO, (vr 340), (vI 129), vO, (vr 347), (vI 147), vO, (vr 354), (vI 158), vO, (vr 359), (vI 183), vO, (vr 366), (vI 211), vO, (vr 373)]), #[]⟩
def znC : Obj := ⟨(vY x.t.a.a.a), none, (.seq #[(vS x.s.a.f.c 570), (vS x.s.a.h.c 571), (vS x.s.b.b.c 572), (vS x.s.b.b.d 573), (vS x.s.b.b.e 574)] 0), #[]⟩
def zn6 : Obj := ⟨.none, none, (.func (fn (st 28) x.s.a.h.g 0 [] .none .none .none .none none .none .none 0)), #[]⟩
def zo6 : Obj := ⟨(vY x.t.a.a.b), none, (.fields #[(vS x.s.a.h.g 567), (vS x.s.a.h.g 568), (vS x.s.a.a.b 569), (vI 73), (vI 2), vO, vO, (vI 3), (vr 295), (.bool true), (vI 181), (vr 296), .none, (vr 297), (vr 298), (vr 299), (vI 575), (vI 73), (vS x.s.a.a.b 576)]), #[]⟩
def zpp : Obj := ⟨(vY x.t.a.c.b), none, (.func (fn (st 28) x.s.a.h.g 3 [] .none .none .none (vS x.s.a.f.e 534) none (vr 300) .none 0)), #[]⟩
def znD : Obj := ⟨(vY x.t.a.a.a), none, (.seq #[(vS x.s.b.b.f 581), (vS x.s.b.b.g 582), (vS x.s.b.b.h 583), (vS x.s.b.c.a 584), (vS x.s.a.g.g 585), (vS x.s.a.f.c 586), (vS x.s.b.c.b 587)] 0), #[]⟩
def zol : Obj := ⟨.none, none, (.func (fn (st 29) x.s.a.h.h 0 [] .none .none .none .none none .none .none 0)), #[]⟩
def zn8 : Obj := ⟨(vY x.t.a.a.b), none, (.fields #[(vS x.s.a.h.h 578), (vS x.s.a.h.h 579), (vS x.s.a.a.b 580), (vI 80), (vI 2), vO, vO, (vI 3), (vr 302), (.bool true), (vI 181), (vr 303), .none, (vr 304), (vr 305), (vr 306), (vI 588), (vI 80), (vS x.s.a.a.b 589)]), #[]⟩
def zpt : Obj := ⟨(vY x.t.a.c.b), none, (.func (fn (st 29) x.s.a.h.h 3 [] .none .none .none (vS x.s.a.f.e 534) none (vr 307) .none 0)), #[]⟩
def zoF : Obj := ⟨(vY x.t.a.a.a), none, (.seq #[(vS x.s.b.b.f 594)] 0), #[]⟩
def zo7 : Obj := ⟨(vY x.t.a.a.a), none, (.seq #[(vS x.s.a.h.c 595)] 0), #[]⟩
def znZ : Obj := ⟨.none, none, (.func (fn (st 30) x.s.b.a.a 0 [] .none .none .none .none none .none .none 0)), #[]⟩
def zpn : Obj := ⟨(vY x.t.a.a.b), none, (.fields #[(vS x.s.b.a.a 591), (vS x.s.b.a.a 592), (vS x.s.a.a.b 593), (vI 91), (vI 1), vO, vO, (vI 3), (vr 309), (.bool true), (vI 181), (vr 310), .none, (vr 311), (vr 312), (vr 313), (vI 596), (vI 91), (vS x.s.a.a.b 597)]), #[]⟩
def zoJ : Obj := ⟨(vY x.t.a.c.b), none, (.func (fn (st 30) x.s.b.a.a 3 [] .none .none .none (vS x.s.a.f.e 534) none (vr 314) .none 0)), #[]⟩
def znv : Obj := ⟨(vY x.t.a.a.a), none, (.seq #[(vS x.s.b.c.c 604), (vS x.s.b.c.d 605), (vS x.s.b.c.e 606), (vS x.s.b.c.f 607), (vS x.s.b.c.g 608), (vS x.s.b.c.h 609)] 0), #[]⟩
def zot : Obj := ⟨.none, none, (.func (fn (st 32) x.s.b.a.b 0 [] .none .none .none .none none .none .none 0)), #[]⟩
def zon : Obj := ⟨(vY x.t.a.a.b), none, (.fields #[(vS x.s.b.a.b 601), (vS x.s.b.a.b 602), (vS x.s.a.a.b 603), (vI 97), (vI 2), vO, vO, (vI 3), (vr 316), (.bool true), (vI 181), (vr 317), .none, (vr 318), (vr 319), (vr 320), (vI 610), (vI 97), (vS x.s.a.a.b 611)]), #[]⟩
def zn1 : Obj := ⟨(vY x.t.a.c.b), none, (.func (fn (st 32) x.s.b.a.b 3 [] .none .none .none (vS x.s.a.h.f 599) none (vr 321) .none 0)), #[]⟩
def zoe : Obj := ⟨(vY x.t.a.a.a), none, (.seq #[(vS x.s.b.d.a 616)] 0), #[]⟩
def zpl : Obj := ⟨.none, none, (.func (fn (st 33) x.s.b.a.c 0 [] .none .none .none .none none .none .none 0)), #[]⟩
def zpf : Obj := ⟨(vY x.t.a.a.b), none, (.fields #[(vS x.s.b.a.c 613), (vS x.s.b.a.c 614), (vS x.s.a.a.b 615), (vI 111), (vI 1), vO, vO, (vI 3), (vr 323), (.bool true), (vI 181), (vr 324), .none, (vr 325), (vr 326), (vr 327), (vI 617), (vI 111), (vS x.s.a.a.b 618)]), #[]⟩
def zn0 : Obj := ⟨(vY x.t.a.c.b), none, (.func (fn (st 33) x.s.b.a.c 3 [] .none .none .none (vS x.s.a.h.f 599) none (vr 328) .none 0)), #[]⟩
def znR : Obj := ⟨(vY x.t.a.a.a), none, (.seq #[(vS x.s.b.d.b 623), (vS x.s.b.d.c 624)] 0), #[]⟩
def znY : Obj := ⟨.none, none, (.func (fn (st 34) x.s.b.a.d 0 [] .none .none .none .none none .none .none 0)), #[]⟩
def zoZ : Obj := ⟨(vY x.t.a.a.b), none, (.fields #[(vS x.s.b.a.d 620), (vS x.s.b.a.d 621), (vS x.s.a.a.b 622), (vI 113), (vI 1), vO, vO, (vI 3), (vr 330), (.bool true), (vI 181), (vr 331), .none, (vr 332), (vr 333), (vr 334), (vI 625), (vI 113), (vS x.s.a.a.b 626)]), #[]⟩
def zn3 : Obj := ⟨(vY x.t.a.c.b), none, (.func (fn (st 34) x.s.b.a.d 3 [] .none .none .none (vS x.s.a.h.f 599) none (vr 335) .none 0)), #[]⟩
def znw : Obj := ⟨.none, none, (.func (fn (st 35) x.s.b.a.e 0 [] .none .none .none .none none .none .none 0)), #[]⟩
def zow : Obj := ⟨(vY x.t.a.a.b), none, (.fields #[(vS x.s.b.a.e 628), (vS x.s.b.a.e 629), (vS x.s.a.a.b 630), (vI 125), (vI 1), vO, vO, (vI 3), (vr 337), (.bool true), (vI 181), (vr 338), .none, .none, .none, (vr 339), (vI 631), (vI 125), (vS x.s.a.a.b 632)]), #[]⟩
def zpc : Obj := ⟨(vY x.t.a.c.b), none, (.func (fn (st 35) x.s.b.a.e 3 [] .none .none .none (vS x.s.a.h.f 599) none (vr 340) .none 0)), #[]⟩
def znV : Obj := ⟨(vY x.t.a.a.a), none, (.seq #[(vS x.s.b.c.c 637), (vS x.s.b.d.d 638), (vS x.s.b.d.e 639), (vS x.s.b.d.f 640), (vS x.s.b.c.d 641), (vS x.s.b.c.h 642), (vS x.s.b.d.g 643), (vS x.s.b.c.g 644), (vS x.s.b.d.h 645), (vS x.s.b.e.a 646), (vS x.s.b.e.b 647), (vS x.s.b.e.c 648)] 0), #[]⟩
def zoL : Obj := ⟨.none, none, (.func (fn (st 36) x.s.b.a.f 0 [] .none .none .none .none none .none .none 0)), #[]⟩
def zny : Obj := ⟨(vY x.t.a.a.b), none, (.fields #[(vS x.s.b.a.f 634), (vS x.s.b.a.f 635), (vS x.s.a.a.b 636), (vI 129), (vI 3), vO, vO, (vI 3), (vr 342), (.bool true), (vI 181), (vr 343), .none, (vr 344), (vr 345), (vr 346), (vI 649), (vI 129), (vS x.s.a.a.b 650)]), #[]⟩
def zoY : Obj := ⟨(vY x.t.a.c.b), none, (.func (fn (st 36) x.s.b.a.f 3 [] .none .none .none (vS x.s.a.h.f 599) none (vr 347) .none 0)), #[]⟩
def zoB : Obj := ⟨(vY x.t.a.a.a), none, (.seq #[(vS x.s.b.d.e 655), (vS x.s.b.d.f 656), (vS x.s.b.e.d 657), (vS x.s.b.e.a 658), (vS x.s.b.d.h 659), (vS x.s.b.e.e 660)] 0), #[]⟩
def zoi : Obj := ⟨.none, none, (.func (fn (st 37) x.s.b.a.g 0 [] .none .none .none .none none .none .none 0)), #[]⟩
def zoW : Obj := ⟨(vY x.t.a.a.b), none, (.fields #[(vS x.s.b.a.g 652), (vS x.s.b.a.g 653), (vS x.s.a.a.b 654), (vI 147), (vI 2), vO, vO, (vI 3), (vr 349), (.bool true), (vI 181), (vr 350), .none, (vr 351), (vr 352), (vr 353), (vI 661), (vI 147), (vS x.s.a.a.b 662)]), #[]⟩
def zpr : Obj := ⟨(vY x.t.a.c.b), none, (.func (fn (st 37) x.s.b.a.g 3 [] .none .none .none (vS x.s.a.h.f 599) none (vr 354) .none 0)), #[]⟩
def zoV : Obj := ⟨.none, none, (.func (fn (st 38) x.s.b.a.h 0 [] .none .none .none .none none .none .none 0)), #[]⟩
def znU : Obj := ⟨(vY x.t.a.a.b), none, (.fields #[(vS x.s.b.a.h 664), (vS x.s.b.a.h 665), (vS x.s.a.a.b 666), (vI 158), (vI 1), vO, vO, (vI 3), (vr 356), (.bool true), (vI 181), (vr 357), .none, .none, .none, (vr 358), (vI 667), (vI 158), (vS x.s.a.a.b 668)]), #[]⟩
def zo0 : Obj := ⟨(vY x.t.a.c.b), none, (.func (fn (st 38) x.s.b.a.h 3 [] .none .none .none (vS x.s.a.h.f 599) none (vr 359) .none 0)), #[]⟩
def zpi : Obj := ⟨(vY x.t.a.a.a), none, (.seq #[(vS x.s.b.e.d 673), (vS x.s.b.e.f 674), (vS x.s.b.e.g 675), (vS x.s.b.c.e 676), (vS x.s.b.e.h 677), (vS x.s.b.f.a 678), (vS x.s.b.f.b 679), (vS x.s.b.f.c 680), (vS x.s.b.f.d 681), (vS x.s.b.f.e 682)] 0), #[]⟩
def zoa : Obj := ⟨.none, none, (.func (fn (st 39) x.s.b.b.a 0 [] .none .none .none .none none .none .none 0)), #[]⟩
def zoP : Obj := ⟨(vY x.t.a.a.b), none, (.fields #[(vS x.s.b.b.a 670), (vS x.s.b.b.a 671), (vS x.s.a.a.b 672), (vI 183), (vI 2), vO, vO, (vI 3), (vr 361), (.bool true), (vI 181), (vr 362), .none, (vr 363), (vr 364), (vr 365), (vI 683), (vI 183), (vS x.s.a.a.b 684)]), #[]⟩
def znQ : Obj := ⟨(vY x.t.a.c.b), none, (.func (fn (st 39) x.s.b.b.a 3 [] .none .none .none (vS x.s.a.h.f 599) none (vr 366) .none 0)), #[]⟩
def zoN : Obj := ⟨(vY x.t.a.a.a), none, (.seq #[(vS x.s.b.d.a 689), (vS x.s.b.f.f 690), (vS x.s.b.f.g 691), (vS x.s.b.f.h 692)] 0), #[]⟩
def znA : Obj := ⟨.none, none, (.func (fn (st 40) x.s.b.b.b 0 [] .none .none .none .none none .none .none 0)), #[]⟩
def zox : Obj := ⟨(vY x.t.a.a.b), none, (.fields #[(vS x.s.b.b.b 686), (vS x.s.b.b.b 687), (vS x.s.a.a.b 688), (vI 211), (vI 2), vO, vO, (vI 3), (vr 368), (.bool true), (vI 181), (vr 369), .none, (vr 370), (vr 371), (vr 372), (vI 693), (vI 211), (vS x.s.a.a.b 694)]), #[]⟩
def zoE : Obj := ⟨(vY x.t.a.c.b), none, (.func (fn (st 40) x.s.b.b.b 3 [] .none .none .none (vS x.s.a.h.f 599) none (vr 373) .none 0)), #[]⟩
def zqe : Obj := ⟨(vY x.t.a.a.d), none, (.dict #[i136, i1, i2, i3, i4, i5, i6, i7, i8, i9, i16, i22, i28, i34, i40, i46, i52, i58, i64, i70, i76, i82, i88, i94, zpN, zqb, i114, i122, i123, i124, i125, i126, i127, i128, i129, i137, i138, i139, i140, i141, i142, i143, i144, i145, i146, i147, i148, i149, i150] 49), #[]⟩
def zqS : Obj := ⟨.none, none, (.fields #[(vI 2), vO, (vr 20), (vI 4), vO, (vr 33), (vI 6), vO, (vr 45), (vI 8), vO, (vr 57), (vI 10), vO, (vr 69), (vI 12), vO, (vr 81), (vI 14), vO, (vr 93), (vI 16), vO, (vr 105), (vI 18), vO, (vr 117), (vI 20), vO, (vr 129), (vI 22), vO, (vr 141), (vI 24), vO, (vr 153), (vI 26), vO, (vr 165), (vI 28), vO, (vr 177), (vI 30), vO, (vr 189), (vI 32), vO, (vr 201), (vI 37), vO, (vr 220), (vI 42), vO, (vr 239), (vI 47), vO, (vr 258), (vI 56), vO, (vr 276), (vI 62), vO, (vr 281), (vI 65), vO, (vr 288), (vI 70), vO, (vr 293), (vI 73), vO, (vr 300), (vI 80), vO, (vr 307), (vI 91), vO, (vr 314), (vI 97), vO, (vr 321), (vI 111), vO, (vr 328), (vI 113), vO, (vr 335), (vI 125), vO, (vr 340), (vI 129), vO, (vr 347), (vI 147), vO, (vr 354), (vI 158), vO, (vr 359), (vI 183), vO, (vr 366), (vI 211), vO, (vr 373), (vI 228), vO, (vr 380), (vI 236), vO, (vr 385)]), #[]⟩
def zqH : Obj := ⟨(vY x.t.a.a.a), none, (.seq #[(vS x.s.b.e.d 699), (vS x.s.b.d.b 700), (vS x.s.b.d.a 701), (vS x.s.b.g.c 702)] 0), #[]⟩
def zqQ : Obj := ⟨.none, none, (.func (fn (st 41) x.s.b.g.a 0 [] .none .none .none .none none .none .none 0)), #[]⟩
def zqX : Obj := ⟨(vY x.t.a.a.b), none, (.fields #[(vS x.s.b.g.a 696), (vS x.s.b.g.a 697), (vS x.s.a.a.b 698), (vI 228), (vI 1), vO, vO, (vI 3), (vr 375), (.bool true), (vI 181), (vr 376), .none, (vr 377), (vr 378), (vr 379), (vI 703), (vI 228), (vS x.s.a.a.b 704)]), #[]⟩
def zqD : Obj := ⟨(vY x.t.a.c.b), none, (.func (fn (st 41) x.s.b.g.a 3 [] .none .none .none (vS x.s.a.h.f 599) none (vr 380) .none 0)), #[]⟩
def zp2 : Obj := ⟨.none, none, (.func (fn (st 42) x.s.b.g.b 0 [] .none .none .none .none none .none .none 0)), #[]⟩
def zp6 : Obj := ⟨(vY x.t.a.a.b), none, (.fields #[(vS x.s.b.g.b 706), (vS x.s.b.g.b 707), (vS x.s.a.a.b 708), (vI 236), (vI 1), vO, vO, (vI 3), (vr 382), (.bool true), (vI 181), (vr 383), .none, .none, .none, (vr 384), (vI 709), (vI 236), (vS x.s.a.a.b 710)]), #[]⟩
def zqn : Obj := ⟨(vY x.t.a.c.b), none, (.func (fn (st 42) x.s.b.g.b 3 [] .none .none .none (vS x.s.a.h.f 599) none (vr 385) .none 0)), #[]⟩
def m659 : Heap := ⟨⟨[x.r.a.a.a, x.r.a.a.b, x.r.a.a.c, x.r.a.a.d, x.r.a.a.e, x.r.a.a.f, x.r.a.a.g, x.r.a.a.h, x.r.a.b.a, x.r.a.b.b, x.r.a.b.c, zad, zaB, zfw, zfx]⟩, ⟨[], [], [], 0, [], [], false, #[], [], 0, false, false, false, 0, [2000, 10, 10], false, 0, true, [], [], 0, false⟩⟩
def m660 : W.BT := (N x.r.a.a.a (N x.r.a.a.b (N x.r.a.a.d (L x.r.a.a.h) (L zad)) (N x.r.a.a.f (L x.r.a.b.b) (L zfw))) (N x.r.a.a.c (N x.r.a.a.e (L x.r.a.b.a) (L zaB)) (N x.r.a.a.g (L x.r.a.b.c) (L zfx))))
def m676 : W.BT := (N x.r.a.a.a (N x.r.a.a.b (N b662 (N x.r.a.a.h (L zf7) (L zf5)) (N zad (L zaB) (L zf6))) (N x.r.a.a.f (N x.r.a.b.b (L zf9) (L zf0)) (N zfw (L zf8) z))) (N x.r.a.a.c (N x.r.a.a.e (N x.r.a.b.a (L zaG) (L b673)) (N b663 (L zf4) z)) (N x.r.a.a.g (N x.r.a.b.c (L zad) (L zf1)) (N zfx (L zad) z))))
def m691 : W.BT := (N x.r.a.a.a (N x.r.a.a.b (N b677 (N x.r.a.a.h (N zf7 (L zad) z) (N zf5 (L zgg) z)) (N zad (N zaB (L zad) z) (L zf6))) (N x.r.a.a.f (N x.r.a.b.b (N zf9 (L zgd) z) (L zf0)) (N zfw (N zf8 (L zge) z) (L zaG)))) (N x.r.a.a.c (N x.r.a.a.e (N x.r.a.b.a (N zaG (L zaB) z) (L b679)) (N b678 (N zf4 (L zgb) z) (L zaH))) (N x.r.a.a.g (N x.r.a.b.c (N zad (L zgi) z) (L zf1)) (N zfx (N zad (L zga) z) (L zgc)))))
def m706 : W.BT := (N x.r.a.a.a (N x.r.a.a.b (N b692 (N x.r.a.a.h (N zf7 (L zad) (L zad)) (N zf5 (L zgg) z)) (N zad (N zaB (L zad) (L zgv)) (N zf6 (L zad) z))) (N x.r.a.a.f (N x.r.a.b.b (N zf9 (L zgd) (L zgA)) (N zf0 (L zaG) z)) (N zfw (N zf8 (L zge) z) (N zaG (L zgl) z)))) (N x.r.a.a.c (N x.r.a.a.e (N x.r.a.b.a (N zaG (L zaB) (L zgw)) (N b694 (L zaH) z)) (N b693 (N zf4 (L zgb) z) (N zaH (L zaB) z))) (N x.r.a.a.g (N x.r.a.b.c (N zad (L zgi) (L zgn)) (N zf1 (L zgo) z)) (N zfx (N zad (L zga) z) (N zgc (L zgp) z)))))
def m721 : W.BT := (N x.r.a.a.a (N x.r.a.a.b (N b707 (N x.r.a.a.h (N zf7 (N zad (L zgR) z) (L zad)) (N zf5 (L zgg) (L zad))) (N zad (N zaB (L zad) (L zgv)) (N zf6 (L zad) (L zad)))) (N x.r.a.a.f (N x.r.a.b.b (N zf9 (L zgd) (L zgA)) (N zf0 (L zaG) (L zhn))) (N zfw (N zf8 (L zge) (L zaG)) (N zaG (L zgl) (L zg1))))) (N x.r.a.a.c (N x.r.a.a.e (N x.r.a.b.a (N zaG (L zaB) (L zgw)) (N b709 (L zaH) (L zaB))) (N b708 (N zf4 (L zgb) (L zaH)) (N zaH (L zaB) (L zgW)))) (N x.r.a.a.g (N x.r.a.b.c (N zad (L zgi) (L zgn)) (N zf1 (L zgo) (L zg0))) (N zfx (N zad (L zga) (L zgC)) (N zgc (L zgp) (L zgO))))))
def m736 : W.BT := (N x.r.a.a.a (N x.r.a.a.b (N b722 (N x.r.a.a.h (N zf7 (N zad (L zgR) z) (L zad)) (N zf5 (N zgg (L zad) z) (L zad))) (N zad (N zaB (N zad (L zad) z) (L zgv)) (N zf6 (N zad (L zho) z) (L zad)))) (N x.r.a.a.f (N x.r.a.b.b (N zf9 (N zgd (L zaG) z) (L zgA)) (N zf0 (N zaG (L zht) z) (L zhn))) (N zfw (N zf8 (N zge (L zhv) z) (L zaG)) (N zaG (L zgl) (L zg1))))) (N x.r.a.a.c (N x.r.a.a.e (N x.r.a.b.a (N zaG (N zaB (L zaH) z) (L zgw)) (N b724 (N zaH (L zhr) z) (L zaB))) (N b723 (N zf4 (N zgb (L zaB) z) (L zaH)) (N zaH (L zaB) (L zgW)))) (N x.r.a.a.g (N x.r.a.b.c (N zad (N zgi (L zhu) z) (L zgn)) (N zf1 (N zgo (L zhp) z) (L zg0))) (N zfx (N zad (N zga (L zhq) z) (L zgC)) (N zgc (L zgp) (L zgO))))))
def m751 : W.BT := (N x.r.a.a.a (N x.r.a.a.b (N b737 (N x.r.a.a.h (N zf7 (N zad (L zgR) z) (N zad (L zad) z)) (N zf5 (N zgg (L zad) z) (N zad (L zhV) z))) (N zad (N zaB (N zad (L zad) z) (N zgv (L zad) z)) (N zf6 (N zad (L zho) z) (L zad)))) (N x.r.a.a.f (N x.r.a.b.b (N zf9 (N zgd (L zaG) z) (N zgA (L zin) z)) (N zf0 (N zaG (L zht) z) (L zhn))) (N zfw (N zf8 (N zge (L zhv) z) (N zaG (L zhQ) z)) (N zaG (N zgl (L zaG) z) (L zg1))))) (N x.r.a.a.c (N x.r.a.a.e (N x.r.a.b.a (N zaG (N zaB (L zaH) z) (N zgw (L zaB) z)) (N b739 (N zaH (L zhr) z) (L zaB))) (N b738 (N zf4 (N zgb (L zaB) z) (N zaH (L zil) z)) (N zaH (N zaB (L zaH) z) (L zgW)))) (N x.r.a.a.g (N x.r.a.b.c (N zad (N zgi (L zhu) z) (N zgn (L zhR) z)) (N zf1 (N zgo (L zhp) z) (L zg0))) (N zfx (N zad (N zga (L zhq) z) (N zgC (L zhz) z)) (N zgc (N zgp (L zhT) z) (L zgO))))))
def m766 : W.BT := (N x.r.a.a.a (N x.r.a.a.b (N b752 (N x.r.a.a.h (N zf7 (N zad (L zgR) (L zad)) (N zad (L zad) z)) (N zf5 (N zgg (L zad) z) (N zad (L zhV) z))) (N zad (N zaB (N zad (L zad) (L ziy)) (N zgv (L zad) z)) (N zf6 (N zad (L zho) z) (N zad (L zad) z)))) (N x.r.a.a.f (N x.r.a.b.b (N zf9 (N zgd (L zaG) (L ziw)) (N zgA (L zin) z)) (N zf0 (N zaG (L zht) z) (N zhn (L zaG) z))) (N zfw (N zf8 (N zge (L zhv) z) (N zaG (L zhQ) z)) (N zaG (N zgl (L zaG) z) (N zg1 (L ziu) z))))) (N x.r.a.a.c (N x.r.a.a.e (N x.r.a.b.a (N zaG (N zaB (L zaH) (L ziA)) (N zgw (L zaB) z)) (N b754 (N zaH (L zhr) z) (N zaB (L zaH) z))) (N b753 (N zf4 (N zgb (L zaB) z) (N zaH (L zil) z)) (N zaH (N zaB (L zaH) z) (N zgW (L zaB) z)))) (N x.r.a.a.g (N x.r.a.b.c (N zad (N zgi (L zhu) (L ziB)) (N zgn (L zhR) z)) (N zf1 (N zgo (L zhp) z) (N zg0 (L ziv) z))) (N zfx (N zad (N zga (L zhq) z) (N zgC (L zhz) z)) (N zgc (N zgp (L zhT) z) (N zgO (L zix) z))))))
def m781 : W.BT := (N x.r.a.a.a (N x.r.a.a.b (N b767 (N x.r.a.a.h (N zf7 (N zad (L zgR) (L zad)) (N zad (L zad) (L ziW))) (N zf5 (N zgg (L zad) (L zad)) (N zad (L zhV) z))) (N zad (N zaB (N zad (L zad) (L ziy)) (N zgv (L zad) z)) (N zf6 (N zad (L zho) (L zad)) (N zad (L zad) z)))) (N x.r.a.a.f (N x.r.a.b.b (N zf9 (N zgd (L zaG) (L ziw)) (N zgA (L zin) z)) (N zf0 (N zaG (L zht) (L ziD)) (N zhn (L zaG) z))) (N zfw (N zf8 (N zge (L zhv) (L zaG)) (N zaG (L zhQ) z)) (N zaG (N zgl (L zaG) (L zi3)) (N zg1 (L ziu) z))))) (N x.r.a.a.c (N x.r.a.a.e (N x.r.a.b.a (N zaG (N zaB (L zaH) (L ziA)) (N zgw (L zaB) z)) (N b769 (N zaH (L zhr) (L zaB)) (N zaB (L zaH) z))) (N b768 (N zf4 (N zgb (L zaB) (L zaH)) (N zaH (L zil) z)) (N zaH (N zaB (L zaH) (L zi1)) (N zgW (L zaB) z)))) (N x.r.a.a.g (N x.r.a.b.c (N zad (N zgi (L zhu) (L ziB)) (N zgn (L zhR) z)) (N zf1 (N zgo (L zhp) (L zja)) (N zg0 (L ziv) z))) (N zfx (N zad (N zga (L zhq) (L zji)) (N zgC (L zhz) z)) (N zgc (N zgp (L zhT) (L zjb)) (N zgO (L zix) z))))))
def m796 : W.BT := (N x.r.a.a.a (N x.r.a.a.b (N b782 (N x.r.a.a.h (N zf7 (N zad (L zgR) (L zad)) (N zad (L zad) (L ziW))) (N zf5 (N zgg (L zad) (L zad)) (N zad (L zhV) (L zad)))) (N zad (N zaB (N zad (L zad) (L ziy)) (N zgv (L zad) (L zad))) (N zf6 (N zad (L zho) (L zad)) (N zad (L zad) (L zjq))))) (N x.r.a.a.f (N x.r.a.b.b (N zf9 (N zgd (L zaG) (L ziw)) (N zgA (L zin) (L zaG))) (N zf0 (N zaG (L zht) (L ziD)) (N zhn (L zaG) (L zjw)))) (N zfw (N zf8 (N zge (L zhv) (L zaG)) (N zaG (L zhQ) (L zjH))) (N zaG (N zgl (L zaG) (L zi3)) (N zg1 (L ziu) z))))) (N x.r.a.a.c (N x.r.a.a.e (N x.r.a.b.a (N zaG (N zaB (L zaH) (L ziA)) (N zgw (L zaB) (L zaH))) (N b784 (N zaH (L zhr) (L zaB)) (N zaB (L zaH) (L zjt)))) (N b783 (N zf4 (N zgb (L zaB) (L zaH)) (N zaH (L zil) (L zaB))) (N zaH (N zaB (L zaH) (L zi1)) (N zgW (L zaB) z)))) (N x.r.a.a.g (N x.r.a.b.c (N zad (N zgi (L zhu) (L ziB)) (N zgn (L zhR) (L zjo))) (N zf1 (N zgo (L zhp) (L zja)) (N zg0 (L ziv) (L zjn)))) (N zfx (N zad (N zga (L zhq) (L zji)) (N zgC (L zhz) (L zjx))) (N zgc (N zgp (L zhT) (L zjb)) (N zgO (L zix) z))))))
def m811 : W.BT := (N x.r.a.a.a (N x.r.a.a.b (N b797 (N x.r.a.a.h (N zf7 (N zad (N zgR (L zad) z) (L zad)) (N zad (L zad) (L ziW))) (N zf5 (N zgg (N zad (L zkd) z) (L zad)) (N zad (L zhV) (L zad)))) (N zad (N zaB (N zad (N zad (L zad) z) (L ziy)) (N zgv (L zad) (L zad))) (N zf6 (N zad (L zho) (L zad)) (N zad (L zad) (L zjq))))) (N x.r.a.a.f (N x.r.a.b.b (N zf9 (N zgd (N zaG (L zj5) z) (L ziw)) (N zgA (L zin) (L zaG))) (N zf0 (N zaG (L zht) (L ziD)) (N zhn (L zaG) (L zjw)))) (N zfw (N zf8 (N zge (N zhv (L zj6) z) (L zaG)) (N zaG (L zhQ) (L zjH))) (N zaG (N zgl (L zaG) (L zi3)) (N zg1 (L ziu) (L zaG)))))) (N x.r.a.a.c (N x.r.a.a.e (N x.r.a.b.a (N zaG (N zaB (N zaH (L zaB) z) (L ziA)) (N zgw (L zaB) (L zaH))) (N b799 (N zaH (L zhr) (L zaB)) (N zaB (L zaH) (L zjt)))) (N b798 (N zf4 (N zgb (N zaB (L zjU) z) (L zaH)) (N zaH (L zil) (L zaB))) (N zaH (N zaB (L zaH) (L zi1)) (N zgW (L zaB) (L zaH))))) (N x.r.a.a.g (N x.r.a.b.c (N zad (N zgi (N zhu (L zkg) z) (L ziB)) (N zgn (L zhR) (L zjo))) (N zf1 (N zgo (L zhp) (L zja)) (N zg0 (L ziv) (L zjn)))) (N zfx (N zad (N zga (N zhq (L zjS) z) (L zji)) (N zgC (L zhz) (L zjx))) (N zgc (N zgp (L zhT) (L zjb)) (N zgO (L zix) (L zjQ)))))))
def m826 : W.BT := (N x.r.a.a.a (N x.r.a.a.b (N b812 (N x.r.a.a.h (N zf7 (N zad (N zgR (L zad) z) (L zad)) (N zad (N zad (L zad) z) (L ziW))) (N zf5 (N zgg (N zad (L zkd) z) (L zad)) (N zad (L zhV) (L zad)))) (N zad (N zaB (N zad (N zad (L zad) z) (L ziy)) (N zgv (N zad (L zkm) z) (L zad))) (N zf6 (N zad (N zho (L zad) z) (L zad)) (N zad (L zad) (L zjq))))) (N x.r.a.a.f (N x.r.a.b.b (N zf9 (N zgd (N zaG (L zj5) z) (L ziw)) (N zgA (N zin (L zki) z) (L zaG))) (N zf0 (N zaG (N zht (L zaG) z) (L ziD)) (N zhn (L zaG) (L zjw)))) (N zfw (N zf8 (N zge (N zhv (L zj6) z) (L zaG)) (N zaG (L zhQ) (L zjH))) (N zaG (N zgl (N zaG (L zkp) z) (L zi3)) (N zg1 (L ziu) (L zaG)))))) (N x.r.a.a.c (N x.r.a.a.e (N x.r.a.b.a (N zaG (N zaB (N zaH (L zaB) z) (L ziA)) (N zgw (N zaB (L zkn) z) (L zaH))) (N b814 (N zaH (N zhr (L zaH) z) (L zaB)) (N zaB (L zaH) (L zjt)))) (N b813 (N zf4 (N zgb (N zaB (L zjU) z) (L zaH)) (N zaH (L zil) (L zaB))) (N zaH (N zaB (N zaH (L zaB) z) (L zi1)) (N zgW (L zaB) (L zaH))))) (N x.r.a.a.g (N x.r.a.b.c (N zad (N zgi (N zhu (L zkg) z) (L ziB)) (N zgn (N zhR (L zkh) z) (L zjo))) (N zf1 (N zgo (N zhp (L zkj) z) (L zja)) (N zg0 (L ziv) (L zjn)))) (N zfx (N zad (N zga (N zhq (L zjS) z) (L zji)) (N zgC (L zhz) (L zjx))) (N zgc (N zgp (N zhT (L zkk) z) (L zjb)) (N zgO (L zix) (L zjQ)))))))
def m841 : W.BT := (N x.r.a.a.a (N x.r.a.a.b (N b827 (N x.r.a.a.h (N zf7 (N zad (N zgR (L zad) z) (N zad (L zkw) z)) (N zad (N zad (L zad) z) (L ziW))) (N zf5 (N zgg (N zad (L zkd) z) (L zad)) (N zad (N zhV (L zad) z) (L zad)))) (N zad (N zaB (N zad (N zad (L zad) z) (L ziy)) (N zgv (N zad (L zkm) z) (L zad))) (N zf6 (N zad (N zho (L zad) z) (L zad)) (N zad (N zad (L zad) z) (L zjq))))) (N x.r.a.a.f (N x.r.a.b.b (N zf9 (N zgd (N zaG (L zj5) z) (L ziw)) (N zgA (N zin (L zki) z) (L zaG))) (N zf0 (N zaG (N zht (L zaG) z) (L ziD)) (N zhn (N zaG (L zlh) z) (L zjw)))) (N zfw (N zf8 (N zge (N zhv (L zj6) z) (L zaG)) (N zaG (N zhQ (L zaG) z) (L zjH))) (N zaG (N zgl (N zaG (L zkp) z) (L zi3)) (N zg1 (N ziu (L zkW) z) (L zaG)))))) (N x.r.a.a.c (N x.r.a.a.e (N x.r.a.b.a (N zaG (N zaB (N zaH (L zaB) z) (L ziA)) (N zgw (N zaB (L zkn) z) (L zaH))) (N b829 (N zaH (N zhr (L zaH) z) (L zaB)) (N zaB (N zaH (L zaB) z) (L zjt)))) (N b828 (N zf4 (N zgb (N zaB (L zjU) z) (L zaH)) (N zaH (N zil (L zaH) z) (L zaB))) (N zaH (N zaB (N zaH (L zaB) z) (L zi1)) (N zgW (N zaB (L zls) z) (L zaH))))) (N x.r.a.a.g (N x.r.a.b.c (N zad (N zgi (N zhu (L zkg) z) (L ziB)) (N zgn (N zhR (L zkh) z) (L zjo))) (N zf1 (N zgo (N zhp (L zkj) z) (L zja)) (N zg0 (N ziv (L zlC) z) (L zjn)))) (N zfx (N zad (N zga (N zhq (L zjS) z) (L zji)) (N zgC (N zhz (L zkJ) z) (L zjx))) (N zgc (N zgp (N zhT (L zkk) z) (L zjb)) (N zgO (N zix (L zkU) z) (L zjQ)))))))
def m856 : W.BT := (N x.r.a.a.a (N x.r.a.a.b (N b842 (N x.r.a.a.h (N zf7 (N zad (N zgR (L zad) z) (N zad (L zkw) z)) (N zad (N zad (L zad) z) (L ziW))) (N zf5 (N zgg (N zad (L zkd) z) (N zad (L zad) z)) (N zad (N zhV (L zad) z) (L zad)))) (N zad (N zaB (N zad (N zad (L zad) z) (N ziy (L zad) z)) (N zgv (N zad (L zkm) z) (L zad))) (N zf6 (N zad (N zho (L zad) z) (N zad (L zlN) z)) (N zad (N zad (L zad) z) (L zjq))))) (N x.r.a.a.f (N x.r.a.b.b (N zf9 (N zgd (N zaG (L zj5) z) (N ziw (L zaG) z)) (N zgA (N zin (L zki) z) (L zaG))) (N zf0 (N zaG (N zht (L zaG) z) (N ziD (L zlS) z)) (N zhn (N zaG (L zlh) z) (L zjw)))) (N zfw (N zf8 (N zge (N zhv (L zj6) z) (N zaG (L zlH) z)) (N zaG (N zhQ (L zaG) z) (L zjH))) (N zaG (N zgl (N zaG (L zkp) z) (L zi3)) (N zg1 (N ziu (L zkW) z) (L zaG)))))) (N x.r.a.a.c (N x.r.a.a.e (N x.r.a.b.a (N zaG (N zaB (N zaH (L zaB) z) (N ziA (L zaH) z)) (N zgw (N zaB (L zkn) z) (L zaH))) (N b844 (N zaH (N zhr (L zaH) z) (N zaB (L zlM) z)) (N zaB (N zaH (L zaB) z) (L zjt)))) (N b843 (N zf4 (N zgb (N zaB (L zjU) z) (N zaH (L zaB) z)) (N zaH (N zil (L zaH) z) (L zaB))) (N zaH (N zaB (N zaH (L zaB) z) (L zi1)) (N zgW (N zaB (L zls) z) (L zaH))))) (N x.r.a.a.g (N x.r.a.b.c (N zad (N zgi (N zhu (L zkg) z) (N ziB (L zlV) z)) (N zgn (N zhR (L zkh) z) (L zjo))) (N zf1 (N zgo (N zhp (L zkj) z) (N zja (L zlQ) z)) (N zg0 (N ziv (L zlC) z) (L zjn)))) (N zfx (N zad (N zga (N zhq (L zjS) z) (N zji (L zlJ) z)) (N zgC (N zhz (L zkJ) z) (L zjx))) (N zgc (N zgp (N zhT (L zkk) z) (L zjb)) (N zgO (N zix (L zkU) z) (L zjQ)))))))
def m871 : W.BT := (N x.r.a.a.a (N x.r.a.a.b (N b857 (N x.r.a.a.h (N zf7 (N zad (N zgR (L zad) z) (N zad (L zkw) z)) (N zad (N zad (L zad) z) (N ziW (L zad) z))) (N zf5 (N zgg (N zad (L zkd) z) (N zad (L zad) z)) (N zad (N zhV (L zad) z) (N zad (L zmN) z)))) (N zad (N zaB (N zad (N zad (L zad) z) (N ziy (L zad) z)) (N zgv (N zad (L zkm) z) (N zad (L zad) z))) (N zf6 (N zad (N zho (L zad) z) (N zad (L zlN) z)) (N zad (N zad (L zad) z) (L zjq))))) (N x.r.a.a.f (N x.r.a.b.b (N zf9 (N zgd (N zaG (L zj5) z) (N ziw (L zaG) z)) (N zgA (N zin (L zki) z) (N zaG (L zmA) z))) (N zf0 (N zaG (N zht (L zaG) z) (N ziD (L zlS) z)) (N zhn (N zaG (L zlh) z) (L zjw)))) (N zfw (N zf8 (N zge (N zhv (L zj6) z) (N zaG (L zlH) z)) (N zaG (N zhQ (L zaG) z) (N zjH (L zms) z))) (N zaG (N zgl (N zaG (L zkp) z) (N zi3 (L zaG) z)) (N zg1 (N ziu (L zkW) z) (L zaG)))))) (N x.r.a.a.c (N x.r.a.a.e (N x.r.a.b.a (N zaG (N zaB (N zaH (L zaB) z) (N ziA (L zaH) z)) (N zgw (N zaB (L zkn) z) (N zaH (L zaB) z))) (N b859 (N zaH (N zhr (L zaH) z) (N zaB (L zlM) z)) (N zaB (N zaH (L zaB) z) (L zjt)))) (N b858 (N zf4 (N zgb (N zaB (L zjU) z) (N zaH (L zaB) z)) (N zaH (N zil (L zaH) z) (N zaB (L zl6) z))) (N zaH (N zaB (N zaH (L zaB) z) (N zi1 (L zaH) z)) (N zgW (N zaB (L zls) z) (L zaH))))) (N x.r.a.a.g (N x.r.a.b.c (N zad (N zgi (N zhu (L zkg) z) (N ziB (L zlV) z)) (N zgn (N zhR (L zkh) z) (N zjo (L zmD) z))) (N zf1 (N zgo (N zhp (L zkj) z) (N zja (L zlQ) z)) (N zg0 (N ziv (L zlC) z) (L zjn)))) (N zfx (N zad (N zga (N zhq (L zjS) z) (N zji (L zlJ) z)) (N zgC (N zhz (L zkJ) z) (N zjx (L zmS) z))) (N zgc (N zgp (N zhT (L zkk) z) (N zjb (L zmg) z)) (N zgO (N zix (L zkU) z) (L zjQ)))))))
def m886 : W.BT := (N x.r.a.a.a (N x.r.a.a.b (N b872 (N x.r.a.a.h (N zf7 (N zad (N zgR (L zad) (L zad)) (N zad (L zkw) z)) (N zad (N zad (L zad) z) (N ziW (L zad) z))) (N zf5 (N zgg (N zad (L zkd) z) (N zad (L zad) z)) (N zad (N zhV (L zad) z) (N zad (L zmN) z)))) (N zad (N zaB (N zad (N zad (L zad) (L znb)) (N ziy (L zad) z)) (N zgv (N zad (L zkm) z) (N zad (L zad) z))) (N zf6 (N zad (N zho (L zad) z) (N zad (L zlN) z)) (N zad (N zad (L zad) z) (N zjq (L zad) z))))) (N x.r.a.a.f (N x.r.a.b.b (N zf9 (N zgd (N zaG (L zj5) (L zmV)) (N ziw (L zaG) z)) (N zgA (N zin (L zki) z) (N zaG (L zmA) z))) (N zf0 (N zaG (N zht (L zaG) z) (N ziD (L zlS) z)) (N zhn (N zaG (L zlh) z) (N zjw (L zaG) z)))) (N zfw (N zf8 (N zge (N zhv (L zj6) z) (N zaG (L zlH) z)) (N zaG (N zhQ (L zaG) z) (N zjH (L zms) z))) (N zaG (N zgl (N zaG (L zkp) z) (N zi3 (L zaG) z)) (N zg1 (N ziu (L zkW) z) (N zaG (L znf) z)))))) (N x.r.a.a.c (N x.r.a.a.e (N x.r.a.b.a (N zaG (N zaB (N zaH (L zaB) (L zm9)) (N ziA (L zaH) z)) (N zgw (N zaB (L zkn) z) (N zaH (L zaB) z))) (N b874 (N zaH (N zhr (L zaH) z) (N zaB (L zlM) z)) (N zaB (N zaH (L zaB) z) (N zjt (L zaH) z)))) (N b873 (N zf4 (N zgb (N zaB (L zjU) z) (N zaH (L zaB) z)) (N zaH (N zil (L zaH) z) (N zaB (L zl6) z))) (N zaH (N zaB (N zaH (L zaB) z) (N zi1 (L zaH) z)) (N zgW (N zaB (L zls) z) (N zaH (L zaB) z))))) (N x.r.a.a.g (N x.r.a.b.c (N zad (N zgi (N zhu (L zkg) (L znq)) (N ziB (L zlV) z)) (N zgn (N zhR (L zkh) z) (N zjo (L zmD) z))) (N zf1 (N zgo (N zhp (L zkj) z) (N zja (L zlQ) z)) (N zg0 (N ziv (L zlC) z) (N zjn (L zm2) z)))) (N zfx (N zad (N zga (N zhq (L zjS) z) (N zji (L zlJ) z)) (N zgC (N zhz (L zkJ) z) (N zjx (L zmS) z))) (N zgc (N zgp (N zhT (L zkk) z) (N zjb (L zmg) z)) (N zgO (N zix (L zkU) z) (N zjQ (L zna) z)))))))
def m908 : W.BT := (N x.r.a.a.a (N x.r.a.a.b (N b887 (N x.r.a.a.h (N zf7 (N zad (N zgR (L zad) (L zad)) (N zad (L zkw) z)) (N zad (N zad (L zad) (L zpq)) (N ziW (L zad) z))) (N zf5 (N zgg (N zad (L zkd) (L zad)) (N zad (L zad) z)) (N zad (N zhV (L zad) z) (N zad (L zmN) z)))) (N zad (N zaB (N zad (N zad (L zad) (L znb)) (N ziy (L zad) z)) (N zgv (N zad (L zkm) (L znX)) (N zad (L zad) z))) (N zf6 (N zad (N zho (L zad) (L zad)) (N zad (L zlN) z)) (N zad (N zad (L zad) z) (N zjq (L zad) z))))) (N x.r.a.a.f (N x.r.a.b.b (N zf9 (N zgd (N zaG (L zj5) (L zmV)) (N ziw (L zaG) z)) (N zgA (N zin (L zki) (L znF)) (N zaG (L zmA) z))) (N zf0 (N zaG (N zht (L zaG) (L zpa)) (N ziD (L zlS) z)) (N zhn (N zaG (L zlh) z) (N zjw (L zaG) z)))) (N zfw (N zf8 (N zge (N zhv (L zj6) (L zaG)) (N zaG (L zlH) z)) (N zaG (N zhQ (L zaG) (L zn7)) (N zjH (L zms) z))) (N zaG (N zgl (N zaG (L zkp) (L zoM)) (N zi3 (L zaG) z)) (N zg1 (N ziu (L zkW) z) (N zaG (L znf) z)))))) (N x.r.a.a.c (N x.r.a.a.e (N x.r.a.b.a (N zaG (N zaB (N zaH (L zaB) (L zm9)) (N ziA (L zaH) z)) (N zgw (N zaB (L zkn) (L znW)) (N zaH (L zaB) z))) (N b889 (N zaH (N zhr (L zaH) (L zpw)) (N zaB (L zlM) z)) (N zaB (N zaH (L zaB) z) (N zjt (L zaH) z)))) (N b888 (N zf4 (N zgb (N zaB (L zjU) (L zaH)) (N zaH (L zaB) z)) (N zaH (N zil (L zaH) (L zoO)) (N zaB (L zl6) z))) (N zaH (N zaB (N zaH (L zaB) (L zaB)) (N zi1 (L zaH) z)) (N zgW (N zaB (L zls) z) (N zaH (L zaB) z))))) (N x.r.a.a.g (N x.r.a.b.c (N zad (N zgi (N zhu (L zkg) (L znq)) (N ziB (L zlV) z)) (N zgn (N zhR (L zkh) (L zoo)) (N zjo (L zmD) z))) (N zf1 (N zgo (N zhp (L zkj) (L zo3)) (N zja (L zlQ) z)) (N zg0 (N ziv (L zlC) z) (N zjn (L zm2) z)))) (N zfx (N zad (N zga (N zhq (L zjS) (L zph)) (N zji (L zlJ) z)) (N zgC (N zhz (L zkJ) (L znP)) (N zjx (L zmS) z))) (N zgc (N zgp (N zhT (L zkk) (L zad)) (N zjb (L zmg) z)) (N zgO (N zix (L zkU) z) (N zjQ (L zna) z)))))))
def m930 : W.BT := (N x.r.a.a.a (N x.r.a.a.b (N b909 (N x.r.a.a.h (N zf7 (N zad (N zgR (L zad) (L zad)) (N zad (L zkw) (L zaB))) (N zad (N zad (L zad) (L zpq)) (N ziW (L zad) z))) (N zf5 (N zgg (N zad (L zkd) (L zad)) (N zad (L zad) (L zpz))) (N zad (N zhV (L zad) (L zaH)) (N zad (L zmN) z)))) (N zad (N zaB (N zad (N zad (L zad) (L znb)) (N ziy (L zad) (L zpP))) (N zgv (N zad (L zkm) (L znX)) (N zad (L zad) z))) (N zf6 (N zad (N zho (L zad) (L zad)) (N zad (L zlN) z)) (N zad (N zad (L zad) (L zpM)) (N zjq (L zad) z))))) (N x.r.a.a.f (N x.r.a.b.b (N zf9 (N zgd (N zaG (L zj5) (L zmV)) (N ziw (L zaG) (L zad))) (N zgA (N zin (L zki) (L znF)) (N zaG (L zmA) z))) (N zf0 (N zaG (N zht (L zaG) (L zpa)) (N ziD (L zlS) (L zpO))) (N zhn (N zaG (L zlh) (L zpQ)) (N zjw (L zaG) z)))) (N zfw (N zf8 (N zge (N zhv (L zj6) (L zaG)) (N zaG (L zlH) (L zpB))) (N zaG (N zhQ (L zaG) (L zn7)) (N zjH (L zms) z))) (N zaG (N zgl (N zaG (L zkp) (L zoM)) (N zi3 (L zaG) z)) (N zg1 (N ziu (L zkW) (L zpy)) (N zaG (L znf) z)))))) (N x.r.a.a.c (N x.r.a.a.e (N x.r.a.b.a (N zaG (N zaB (N zaH (L zaB) (L zm9)) (N ziA (L zaH) (L zpI))) (N zgw (N zaB (L zkn) (L znW)) (N zaH (L zaB) z))) (N b911 (N zaH (N zhr (L zaH) (L zpw)) (N zaB (L zlM) (L zpG))) (N zaB (N zaH (L zaB) (L zaG)) (N zjt (L zaH) z)))) (N b910 (N zf4 (N zgb (N zaB (L zjU) (L zaH)) (N zaH (L zaB) (L zpH))) (N zaH (N zil (L zaH) (L zoO)) (N zaB (L zl6) z))) (N zaH (N zaB (N zaH (L zaB) (L zaB)) (N zi1 (L zaH) z)) (N zgW (N zaB (L zls) (L zpL)) (N zaH (L zaB) z))))) (N x.r.a.a.g (N x.r.a.b.c (N zad (N zgi (N zhu (L zkg) (L znq)) (N ziB (L zlV) (L zpE))) (N zgn (N zhR (L zkh) (L zoo)) (N zjo (L zmD) z))) (N zf1 (N zgo (N zhp (L zkj) (L zo3)) (N zja (L zlQ) z)) (N zg0 (N ziv (L zlC) (L zad)) (N zjn (L zm2) z)))) (N zfx (N zad (N zga (N zhq (L zjS) (L zph)) (N zji (L zlJ) (L zpJ))) (N zgC (N zhz (L zkJ) (L znP)) (N zjx (L zmS) z))) (N zgc (N zgp (N zhT (L zkk) (L zad)) (N zjb (L zmg) z)) (N zgO (N zix (L zkU) (L zad)) (N zjQ (L zna) z)))))))
def m952 : W.BT := (N x.r.a.a.a (N x.r.a.a.b (N b931 (N x.r.a.a.h (N zf7 (N zad (N zgR (L zad) (L zad)) (N zad (L zkw) (L zaB))) (N zad (N zad (L zad) (L zpq)) (N ziW (L zad) (L zp9)))) (N zf5 (N zgg (N zad (L zkd) (L zad)) (N zad (L zad) (L zpz))) (N zad (N zhV (L zad) (L zaH)) (N zad (L zmN) (L zqp))))) (N zad (N zaB (N zad (N zad (L zad) (L znb)) (N ziy (L zad) (L zpP))) (N zgv (N zad (L zkm) (L znX)) (N zad (L zad) (L zpV)))) (N zf6 (N zad (N zho (L zad) (L zad)) (N zad (L zlN) (L zaG))) (N zad (N zad (L zad) (L zpM)) (N zjq (L zad) (L zqV)))))) (N x.r.a.a.f (N x.r.a.b.b (N zf9 (N zgd (N zaG (L zj5) (L zmV)) (N ziw (L zaG) (L zad))) (N zgA (N zin (L zki) (L znF)) (N zaG (L zmA) (L zad)))) (N zf0 (N zaG (N zht (L zaG) (L zpa)) (N ziD (L zlS) (L zpO))) (N zhn (N zaG (L zlh) (L zpQ)) (N zjw (L zaG) (L zqJ))))) (N zfw (N zf8 (N zge (N zhv (L zj6) (L zaG)) (N zaG (L zlH) (L zpB))) (N zaG (N zhQ (L zaG) (L zn7)) (N zjH (L zms) (L zqC)))) (N zaG (N zgl (N zaG (L zkp) (L zoM)) (N zi3 (L zaG) (L zad))) (N zg1 (N ziu (L zkW) (L zpy)) (N zaG (L znf) z)))))) (N x.r.a.a.c (N x.r.a.a.e (N x.r.a.b.a (N zaG (N zaB (N zaH (L zaB) (L zm9)) (N ziA (L zaH) (L zpI))) (N zgw (N zaB (L zkn) (L znW)) (N zaH (L zaB) (L zpS)))) (N b933 (N zaH (N zhr (L zaH) (L zpw)) (N zaB (L zlM) (L zpG))) (N zaB (N zaH (L zaB) (L zaG)) (N zjt (L zaH) (L zqP))))) (N b932 (N zf4 (N zgb (N zaB (L zjU) (L zaH)) (N zaH (L zaB) (L zpH))) (N zaH (N zil (L zaH) (L zoO)) (N zaB (L zl6) (L zad)))) (N zaH (N zaB (N zaH (L zaB) (L zaB)) (N zi1 (L zaH) (L zqd))) (N zgW (N zaB (L zls) (L zpL)) (N zaH (L zaB) (L zpW)))))) (N x.r.a.a.g (N x.r.a.b.c (N zad (N zgi (N zhu (L zkg) (L znq)) (N ziB (L zlV) (L zpE))) (N zgn (N zhR (L zkh) (L zoo)) (N zjo (L zmD) (L zaB)))) (N zf1 (N zgo (N zhp (L zkj) (L zo3)) (N zja (L zlQ) (L zaH))) (N zg0 (N ziv (L zlC) (L zad)) (N zjn (L zm2) (L zqO))))) (N zfx (N zad (N zga (N zhq (L zjS) (L zph)) (N zji (L zlJ) (L zpJ))) (N zgC (N zhz (L zkJ) (L znP)) (N zjx (L zmS) (L zqx)))) (N zgc (N zgp (N zhT (L zkk) (L zad)) (N zjb (L zmg) (L zqk))) (N zgO (N zix (L zkU) (L zad)) (N zjQ (L zna) z)))))))
def m997 : W.BT := (N x.r.a.a.a (N x.r.a.a.b (N b953 (N x.r.a.a.h (N zf7 (N zad (N zgR (N zad (L b958) z) (L zad)) (N zad (N zkw (L b990) z) (L zaB))) (N zad (N zad (N zad (L b974) z) (L zpq)) (N ziW (L zad) (L zp9)))) (N zf5 (N zgg (N zad (N zkd (L zad) z) (L zad)) (N zad (L zad) (L zpz))) (N zad (N zhV (N zad (L zaB) z) (L zaH)) (N zad (L zmN) (L zqp))))) (N zad (N zaB (N zad (N zad (N zad (L b962) z) (L znb)) (N ziy (N zad (L zaB) z) (L zpP))) (N zgv (N zad (N zkm (L b978) z) (L znX)) (N zad (L zad) (L zpV)))) (N zf6 (N zad (N zho (N zad (L b970) z) (L zad)) (N zad (L zlN) (L zaG))) (N zad (N zad (N zad (L zad) z) (L zpM)) (N zjq (L zad) (L zqV)))))) (N x.r.a.a.f (N x.r.a.b.b (N zf9 (N zgd (N zaG (N zj5 (L b960) z) (L zmV)) (N ziw (N zaG (L b992) z) (L zad))) (N zgA (N zin (N zki (L zad) z) (L znF)) (N zaG (L zmA) (L zad)))) (N zf0 (N zaG (N zht (N zaG (L b968) z) (L zpa)) (N ziD (L zlS) (L zpO))) (N zhn (N zaG (N zlh (L b984) z) (L zpQ)) (N zjw (L zaG) (L zqJ))))) (N zfw (N zf8 (N zge (N zhv (N zj6 (L zaB) z) (L zaG)) (N zaG (N zlH (L b996) z) (L zpB))) (N zaG (N zhQ (N zaG (L b980) z) (L zn7)) (N zjH (L zms) (L zqC)))) (N zaG (N zgl (N zaG (N zkp (L b972) z) (L zoM)) (N zi3 (L zaG) (L zad))) (N zg1 (N ziu (N zkW (L b988) z) (L zpy)) (N zaG (L znf) (L zaH))))))) (N x.r.a.a.c (N x.r.a.a.e (N x.r.a.b.a (N zaG (N zaB (N zaH (N zaB (L zad) z) (L zm9)) (N ziA (N zaH (L b991) z) (L zpI))) (N zgw (N zaB (N zkn (L b975) z) (L znW)) (N zaH (L zaB) (L zpS)))) (N b955 (N zaH (N zhr (N zaH (L b967) z) (L zpw)) (N zaB (L zlM) (L zpG))) (N zaB (N zaH (N zaB (L b983) z) (L zaG)) (N zjt (L zaH) (L zqP))))) (N b954 (N zf4 (N zgb (N zaB (N zjU (L zad) z) (L zaH)) (N zaH (N zaB (L b995) z) (L zpH))) (N zaH (N zil (N zaH (L b979) z) (L zoO)) (N zaB (L zl6) (L zad)))) (N zaH (N zaB (N zaH (N zaB (L b971) z) (L zaB)) (N zi1 (L zaH) (L zqd))) (N zgW (N zaB (N zls (L zaB) z) (L zpL)) (N zaH (L zaB) (L zpW)))))) (N x.r.a.a.g (N x.r.a.b.c (N zad (N zgi (N zhu (N zkg (L b961) z) (L znq)) (N ziB (N zlV (L zad) z) (L zpE))) (N zgn (N zhR (N zkh (L zaB) z) (L zoo)) (N zjo (L zmD) (L zaB)))) (N zf1 (N zgo (N zhp (N zkj (L b969) z) (L zo3)) (N zja (L zlQ) (L zaH))) (N zg0 (N ziv (N zlC (L b985) z) (L zad)) (N zjn (L zm2) (L zqO))))) (N zfx (N zad (N zga (N zhq (N zjS (L b965) z) (L zph)) (N zji (N zlJ (L b997) z) (L zpJ))) (N zgC (N zhz (N zkJ (L zad) z) (L znP)) (N zjx (L zmS) (L zqx)))) (N zgc (N zgp (N zhT (N zkk (L b973) z) (L zad)) (N zjb (L zmg) (L zqk))) (N zgO (N zix (N zkU (L zad) z) (L zad)) (N zjQ (L zna) (L zaG))))))))
def m1079 : W.BT := (N x.r.a.a.a (N x.r.a.a.b (N b998 (N x.r.a.a.h (N zf7 (N zad (N zgR (N zad (L b958) z) (N zad (L zad) z)) (N zad (N zkw (L b990) z) (N zaB (L zoB) z))) (N zad (N zad (N zad (L b974) z) (N zpq (L zoZ) z)) (N ziW (N zad (L zaB) z) (N zp9 (L znQ) z)))) (N zf5 (N zgg (N zad (N zkd (L zad) z) (N zad (L zpl) z)) (N zad (N zad (L zad) z) (N zpz (L znU) z))) (N zad (N zhV (N zad (L zaB) z) (N zaH (L zaB) z)) (N zad (N zmN (L zoF) z) (L zqp))))) (N zad (N zaB (N zad (N zad (N zad (L b962) z) (N znb (L zad) z)) (N ziy (N zad (L zaB) z) (N zpP (L zpr) z))) (N zgv (N zad (N zkm (L b978) z) (N znX (L znw) z)) (N zad (N zad (L zn8) z) (N zpV (L zad) z)))) (N zf6 (N zad (N zho (N zad (L b970) z) (N zad (L zaB) z)) (N zad (N zlN (L zn6) z) (N zaG (L zpi) z))) (N zad (N zad (N zad (L zad) z) (N zpM (L zny) z)) (N zjq (N zad (L zoJ) z) (L zqV)))))) (N x.r.a.a.f (N x.r.a.b.b (N zf9 (N zgd (N zaG (N zj5 (L b960) z) (N zmV (L zon) z)) (N ziw (N zaG (L b992) z) (N zad (L zoi) z))) (N zgA (N zin (N zki (L zad) z) (N znF (L zad) z)) (N zaG (N zmA (L zad) z) (N zad (L zaB) z)))) (N zf0 (N zaG (N zht (N zaG (L b968) z) (N zpa (L zn0) z)) (N ziD (N zlS (L znC) z) (N zpO (L zad) z))) (N zhn (N zaG (N zlh (L b984) z) (N zpQ (L zad) z)) (N zjw (N zaG (L znZ) z) (L zqJ))))) (N zfw (N zf8 (N zge (N zhv (N zj6 (L zaB) z) (N zaG (L zoe) z)) (N zaG (N zlH (L b996) z) (N zpB (L zaB) z))) (N zaG (N zhQ (N zaG (L b980) z) (N zn7 (L zpc) z)) (N zjH (N zms (L zad) z) (N zqC (L zox) z)))) (N zaG (N zgl (N zaG (N zkp (L b972) z) (N zoM (L zad) z)) (N zi3 (N zaG (L zpp) z) (N zad (L zoa) z))) (N zg1 (N ziu (N zkW (L b988) z) (N zpy (L zad) z)) (N zaG (N znf (L zaB) z) (L zaH))))))) (N x.r.a.a.c (N x.r.a.a.e (N x.r.a.b.a (N zaG (N zaB (N zaH (N zaB (L zad) z) (N zm9 (L zot) z)) (N ziA (N zaH (L b991) z) (N zpI (L zad) z))) (N zgw (N zaB (N zkn (L b975) z) (N znW (L zn3) z)) (N zaH (N zaB (L znD) z) (N zpS (L zad) z)))) (N b955 (N zaH (N zhr (N zaH (L b967) z) (N zpw (L zpf) z)) (N zaB (N zlM (L zaB) z) (N zpG (L zo0) z))) (N zaB (N zaH (N zaB (L b983) z) (N zaG (L znV) z)) (N zjt (N zaH (L zo7) z) (L zqP))))) (N b999 (N zf4 (N zgb (N zaB (N zjU (L zad) z) (N zaH (L zaB) z)) (N zaH (N zaB (L b995) z) (N zpH (L zad) z))) (N zaH (N zil (N zaH (L b979) z) (N zoO (L zow) z)) (N zaB (N zl6 (L zpt) z) (N zad (L znA) z)))) (N zaH (N zaB (N zaH (N zaB (L b971) z) (N zaB (L znR) z)) (N zi1 (N zaH (L zo6) z) (N zqd (L zad) z))) (N zgW (N zaB (N zls (L zaB) z) (N zpL (L zoY) z)) (N zaH (N zaB (L zad) z) (L zpW)))))) (N x.r.a.a.g (N x.r.a.b.c (N zad (N zgi (N zhu (N zkg (L b961) z) (N znq (L zn1) z)) (N ziB (N zlV (L zad) z) (N zpE (L zoW) z))) (N zgn (N zhR (N zkh (L zaB) z) (N zoo (L zaB) z)) (N zjo (N zmD (L zol) z) (N zaB (L zoN) z)))) (N zf1 (N zgo (N zhp (N zkj (L b969) z) (N zo3 (L zad) z)) (N zja (N zlQ (L zad) z) (N zaH (L zaB) z))) (N zg0 (N ziv (N zlC (L b985) z) (N zad (L zoL) z)) (N zjn (N zm2 (L zpn) z) (L zqO))))) (N zfx (N zad (N zga (N zhq (N zjS (L b965) z) (N zph (L zad) z)) (N zji (N zlJ (L b997) z) (N zpJ (L zoV) z))) (N zgC (N zhz (N zkJ (L zad) z) (N znP (L zad) z)) (N zjx (N zmS (L zaB) z) (N zqx (L zoE) z)))) (N zgc (N zgp (N zhT (N zkk (L b973) z) (N zad (L znY) z)) (N zjb (N zmg (L zad) z) (N zqk (L zoP) z))) (N zgO (N zix (N zkU (L zad) z) (N zad (L zaB) z)) (N zjQ (N zna (L znv) z) (L zaG))))))))
def m1093 : W.BT := (N x.r.a.a.a (N x.r.a.a.b (N zqe (N x.r.a.a.h (N zf7 (N zad (N zgR (N zad (L b958) (L zaB)) (N zad (L zad) z)) (N zad (N zkw (L b990) z) (N zaB (L zoB) z))) (N zad (N zad (N zad (L b974) z) (N zpq (L zoZ) z)) (N ziW (N zad (L zaB) z) (N zp9 (L znQ) z)))) (N zf5 (N zgg (N zad (N zkd (L zad) z) (N zad (L zpl) z)) (N zad (N zad (L zad) z) (N zpz (L znU) z))) (N zad (N zhV (N zad (L zaB) z) (N zaH (L zaB) z)) (N zad (N zmN (L zoF) z) (N zqp (L zad) z))))) (N zad (N zaB (N zad (N zad (N zad (L b962) z) (N znb (L zad) z)) (N ziy (N zad (L zaB) z) (N zpP (L zpr) z))) (N zgv (N zad (N zkm (L b978) z) (N znX (L znw) z)) (N zad (N zad (L zn8) z) (N zpV (L zad) z)))) (N zf6 (N zad (N zho (N zad (L b970) z) (N zad (L zaB) z)) (N zad (N zlN (L zn6) z) (N zaG (L zpi) z))) (N zad (N zad (N zad (L zad) z) (N zpM (L zny) z)) (N zjq (N zad (L zoJ) z) (N zqV (L zqQ) z)))))) (N x.r.a.a.f (N x.r.a.b.b (N zf9 (N zgd (N zaG (N zj5 (L b960) (L zp6)) (N zmV (L zon) z)) (N ziw (N zaG (L b992) z) (N zad (L zoi) z))) (N zgA (N zin (N zki (L zad) z) (N znF (L zad) z)) (N zaG (N zmA (L zad) z) (N zad (L zaB) z)))) (N zf0 (N zaG (N zht (N zaG (L b968) z) (N zpa (L zn0) z)) (N ziD (N zlS (L znC) z) (N zpO (L zad) z))) (N zhn (N zaG (N zlh (L b984) z) (N zpQ (L zad) z)) (N zjw (N zaG (L znZ) z) (N zqJ (L zqH) z))))) (N zfw (N zf8 (N zge (N zhv (N zj6 (L zaB) z) (N zaG (L zoe) z)) (N zaG (N zlH (L b996) z) (N zpB (L zaB) z))) (N zaG (N zhQ (N zaG (L b980) z) (N zn7 (L zpc) z)) (N zjH (N zms (L zad) z) (N zqC (L zox) z)))) (N zaG (N zgl (N zaG (N zkp (L b972) z) (N zoM (L zad) z)) (N zi3 (N zaG (L zpp) z) (N zad (L zoa) z))) (N zg1 (N ziu (N zkW (L b988) z) (N zpy (L zad) z)) (N zaG (N znf (L zaB) z) (N zaH (L zqD) z))))))) (N x.r.a.a.c (N x.r.a.a.e (N x.r.a.b.a (N zaG (N zaB (N zaH (N zaB (L zad) (L zp2)) (N zm9 (L zot) z)) (N ziA (N zaH (L b991) z) (N zpI (L zad) z))) (N zgw (N zaB (N zkn (L b975) z) (N znW (L zn3) z)) (N zaH (N zaB (L znD) z) (N zpS (L zad) z)))) (N b955 (N zaH (N zhr (N zaH (L b967) z) (N zpw (L zpf) z)) (N zaB (N zlM (L zaB) z) (N zpG (L zo0) z))) (N zaB (N zaH (N zaB (L b983) z) (N zaG (L znV) z)) (N zjt (N zaH (L zo7) z) (N zqP (L zaB) z))))) (N zqS (N zf4 (N zgb (N zaB (N zjU (L zad) z) (N zaH (L zaB) z)) (N zaH (N zaB (L b995) z) (N zpH (L zad) z))) (N zaH (N zil (N zaH (L b979) z) (N zoO (L zow) z)) (N zaB (N zl6 (L zpt) z) (N zad (L znA) z)))) (N zaH (N zaB (N zaH (N zaB (L b971) z) (N zaB (L znR) z)) (N zi1 (N zaH (L zo6) z) (N zqd (L zad) z))) (N zgW (N zaB (N zls (L zaB) z) (N zpL (L zoY) z)) (N zaH (N zaB (L zad) z) (N zpW (L zqX) z)))))) (N x.r.a.a.g (N x.r.a.b.c (N zad (N zgi (N zhu (N zkg (L b961) (L zqn)) (N znq (L zn1) z)) (N ziB (N zlV (L zad) z) (N zpE (L zoW) z))) (N zgn (N zhR (N zkh (L zaB) z) (N zoo (L zaB) z)) (N zjo (N zmD (L zol) z) (N zaB (L zoN) z)))) (N zf1 (N zgo (N zhp (N zkj (L b969) z) (N zo3 (L zad) z)) (N zja (N zlQ (L zad) z) (N zaH (L zaB) z))) (N zg0 (N ziv (N zlC (L b985) z) (N zad (L zoL) z)) (N zjn (N zm2 (L zpn) z) (N zqO (L zad) z))))) (N zfx (N zad (N zga (N zhq (N zjS (L b965) z) (N zph (L zad) z)) (N zji (N zlJ (L b997) z) (N zpJ (L zoV) z))) (N zgC (N zhz (N zkJ (L zad) z) (N znP (L zad) z)) (N zjx (N zmS (L zaB) z) (N zqx (L zoE) z)))) (N zgc (N zgp (N zhT (N zkk (L b973) z) (N zad (L znY) z)) (N zjb (N zmg (L zad) z) (N zqk (L zoP) z))) (N zgO (N zix (N zkU (L zad) z) (N zad (L zaB) z)) (N zjQ (N zna (L znv) z) (N zaG (L zad) z))))))))
def m1094 : Heap := ⟨⟨[x.r.a.a.a, x.r.a.a.b, x.r.a.a.c, zqe, x.r.a.a.e, x.r.a.a.f, x.r.a.a.g, x.r.a.a.h, x.r.a.b.a, x.r.a.b.b, x.r.a.b.c, zad, zqS, zfw, zfx, zf7, zaG, zf9, zad, zaB, zf4, zf8, zad, zf5, b955, zf0, zf1, zf6, zaH, zaG, zgc, zad, zaB, zgd, zgi, zad, zgb, zge, zga, zgg, zaH, zaG, zgo, zad, zaB, zgl, zgp, zad, zgw, zgA, zgn, zgv, zaH, zaG, zgC, zad, zaB, zhn, zg0, zad, zgW, zg1, zgO, zgR, zaH, zaG, zhu, zad, zaB, zhv, zhq, zad, zhr, zht, zhp, zho, zaH, zaG, zhT, zad, zaB, zin, zhR, zad, zil, zhQ, zhz, zhV, zaH, zaG, ziv, zad, zaB, ziu, zix, zad, ziA, ziw, ziB, ziy, zaH, zaG, zji, zad, zaB, ziD, zja, zad, zi1, zi3, zjb, ziW, zaH, zaG, zjo, zad, zaB, zjH, zjx, zad, zjt, zjw, zjn, zjq, zaH, zaG, zjQ, zad, zaB, zj5, zkg, zad, zjU, zj6, zjS, zkd, zaH, zaG, zkj, zad, zaB, zkp, zkk, zad, zkn, zki, zkh, zkm, zaH, zaG, zkJ, zad, zaB, zlh, zlC, zad, zls, zkW, zkU, zkw, zaH, zaG, zlV, zad, zaB, zlH, zlJ, zad, zlM, zlS, zlQ, zlN, zaH, zaG, zmg, zad, zaB, zmA, zmD, zad, zl6, zms, zmS, zmN, zaH, zaG, zm2, zad, zaB, znf, zna, zad, zm9, zmV, znq, znb, zaH, zaG, zph, zad, zpw, zpa, zo3, zad, zaB, zoM, zad, zpq, znW, znF, zoo, znX, zoO, zn7, znP, zaH, zaG, zpQ, zad, zpM, zpL, zpy, zad, zaB, zpI, zad, zpE, zpP, zpH, zpB, zpJ, zpz, zpG, zpO, zaH, zaG, zqd, zad, zqk, zp9, zpS, zad, zaB, zpV, zad, zqC, zqx, zqp, zqP, zqJ, zqO, zqV, zpW, zaH, zaG, b958, zad, b960, b961, b962, zad, zaB, b965, zad, b967, b968, b969, b970, b971, b972, b973, b974, b975, zad, zaB, b978, b979, b980, zad, zaB, b983, b984, b985, zad, zaB, b988, zad, b990, b991, b992, zad, zaB, b995, b996, b997, zad, zaB, znC, zad, zn6, zo6, zpp, zad, zaB, znD, zad, zol, zn8, zpt, zad, zaB, zoF, zo7, znZ, zpn, zoJ, zad, zaB, znv, zad, zot, zon, zn1, zad, zaB, zoe, zad, zpl, zpf, zn0, zad, zaB, znR, zad, znY, zoZ, zn3, zad, zaB, znw, zow, zpc, zad, zaB, znV, zad, zoL, zny, zoY, zad, zaB, zoB, zad, zoi, zoW, zpr, zad, zaB, zoV, znU, zo0, zad, zaB, zpi, zad, zoa, zoP, znQ, zad, zaB, zoN, zad, znA, zox, zoE, zad, zaB, zqH, zad, zqQ, zqX, zqD, zad, zaB, zp2, zp6, zqn]⟩, ⟨[], [], [], 0, [], [], false, #[], [], 0, false, false, false, 0, [2000, 10, 10], false, 0, true, [], [], 0, false⟩⟩
end
def m652v (p : Program) : Program := { p with main := { p.main with body := [sp p 1, sp p 2, sp p 3, sp p 4, sp p 5, sp p 6, sp p 7, sp p 8, sp p 9, sp p 10, sp p 11, sp p 12, sp p 13, sp p 14, sp p 15, sp p 16, sp p 17, sp p 18, sp p 19, sp p 20, sp p 22, sp p 23, sp p 24, sp p 25, sp p 26, sp p 27, sp p 28, sp p 29, sp p 30, sp p 32, sp p 33, sp p 34, sp p 35, sp p 36, sp p 37, sp p 38, sp p 39, sp p 40, sp p 41, sp p 42] } }
def m662s (p : Program) : List Stmt := [sp p 0, sp p 1]
def m677s (p : Program) : List Stmt := [sp p 2]
def m692s (p : Program) : List Stmt := [sp p 3]
def m707s (p : Program) : List Stmt := [sp p 4]
def m722s (p : Program) : List Stmt := [sp p 5]
def m737s (p : Program) : List Stmt := [sp p 6]
def m752s (p : Program) : List Stmt := [sp p 7]
def m767s (p : Program) : List Stmt := [sp p 8]
def m782s (p : Program) : List Stmt := [sp p 9]
def m797s (p : Program) : List Stmt := [sp p 10]
def m812s (p : Program) : List Stmt := [sp p 11]
def m827s (p : Program) : List Stmt := [sp p 12]
def m842s (p : Program) : List Stmt := [sp p 13]
def m857s (p : Program) : List Stmt := [sp p 14]
def m872s (p : Program) : List Stmt := [sp p 15]
def m887s (p : Program) : List Stmt := [sp p 16]
def m909s (p : Program) : List Stmt := [sp p 17]
def m931s (p : Program) : List Stmt := [sp p 18]
def m953s (p : Program) : List Stmt := [sp p 19, sp p 20, sp p 21, sp p 22, sp p 23, sp p 24, sp p 25, sp p 26, sp p 27]
def m998s (p : Program) : List Stmt := [sp p 28, sp p 29, sp p 30, sp p 31, sp p 32, sp p 33, sp p 34, sp p 35, sp p 36, sp p 37, sp p 38, sp p 39, sp p 40]
def m1080s (p : Program) : List Stmt := [sp p 41, sp p 42]
def u0 : Q Str := ⟨Str.ofString "<module>", Str.ofString "/claim/cut.py", Str.ofString "__main__", Str.ofString "__name__", Str.ofString "hideworth.errors", Str.ofString "__doc__", Str.ofString "__package__", Str.ofString "__loader__"⟩
def u1 : Q Str := ⟨Str.ofString "__spec__", Str.ofString "__annotations__", Str.ofString "__builtins__", Str.ofString "__file__", Str.ofString "__cached__", Str.ofString "HideError", Str.ofString "__module__", Str.ofString "__qualname__"⟩
def u2 : Q Str := ⟨Str.ofString "__firstlineno__", Str.ofString "__static_attributes__", Str.ofString "__weakref__", Str.ofString "NoNumber", Str.ofString "NoTable", Str.ofString "NoBoxes", Str.ofString "NoBudget", Str.ofString "NoOrder"⟩
def u3 : Q Str := ⟨Str.ofString "NoWeights", Str.ofString "TooGreat", Str.ofString "NoKind", Str.ofString "NoTree", Str.ofString "NoTurns", Str.ofString "NoPlay", Str.ofString "NoRow", Str.ofString "NoName"⟩
def u4 : Q Str := ⟨Str.ofString "NoRoad", Str.ofString "NoWeb", Str.ofString "__init__", Str.ofString "self", Str.ofString "road", Str.ofString "NoWeb.__init__", Str.ofString "NoPlan", Str.ofString "at"⟩
def u5 : Q Str := ⟨Str.ofString "NoPlan.__init__", Str.ofString "NoText", Str.ofString "row", Str.ofString "NoText.__init__", Str.ofString "hideworth.texts", Str.ofString "NoPaper", Str.ofString "KINDS", Str.ofString "FIGURES"⟩
def u6 : Q Str := ⟨Str.ofString "0123456789", Str.ofString "MOST_FIGURES", Str.ofString "number_in", Str.ofString "numbers_in", Str.ofString "thing_in", Str.ofString "plan_in", Str.ofString "k", Str.ofString "NoPaper.__init__"⟩
def u7 : Q Str := ⟨Str.ofString "walk", Str.ofString "spread", Str.ofString "kind", Str.ofString "word", Str.ofString "ends", Str.ofString "law_hideworth_k83_papers_read", Str.ofString "share_in", Str.ofString "read_rows"⟩
def u8 : Q Str := ⟨Str.ofString "read_paper", Str.ofString "_law_mixed", Str.ofString "_law_whole", Str.ofString "_law_class", Str.ofString "_law_word_number", Str.ofString "_law_paper", Str.ofString "_law_paper_text", Str.ofString "_law_paper_wrong"⟩
def u9 : Q Str := ⟨Str.ofString "_law_bent", Str.ofString "_law_same", Str.ofString "words", Str.ofString "weight", Str.ofString "plan", Str.ofString "text", Str.ofString "read_row", Str.ofString "rows"⟩
def u10 : Q Str := ⟨Str.ofString "read", Str.ofString "thing", Str.ofString "_law_script", Str.ofString "_law_k", Str.ofString "_law_at", Str.ofString "_law_cell", Str.ofString "_law_j", Str.ofString "_law_number"⟩
def u11 : Q Str := ⟨Str.ofString "_law_told_here", Str.ofString "_law_caught", Str.ofString "_law_tests", Str.ofString "_law_start", Str.ofString "_law_kind", Str.ofString "_law_paper_here", Str.ofString "_law_ten", Str.ofString "_law_weight"⟩
def u12 : Q Str := ⟨Str.ofString "_law_plan", Str.ofString "_law_draw", Str.ofString "_law_place", Str.ofString "_law_text", Str.ofString "_law_thing", Str.ofString "_law_draws", Str.ofString "_law_some", Str.ofString "_law_sign"⟩
def u13 : Q Str := ⟨Str.ofString "_law_rows", Str.ofString "_law_row", Str.ofString "_law_to", Str.ofString "_law_way", Str.ofString "_law_odd", Str.ofString "_law_due", Str.ofString "_law_one", Str.ofString "_law_other"⟩
def u14 : Q Str := ⟨Str.ofString "_law_told", Str.ofString "law", Str.ofString "e", Str.ofString "e", Str.ofString "e", Str.ofString "e", Str.ofString "e", Str.ofString "e"⟩
def v0 : Q String := ⟨"tuple", "code", "frame", "dict", "__main__.__loader__#opaque", "ValueError", "builtin_function_or_method", "type.__prepare__"⟩
def v1 : Q String := ⟨"type", "Exception", "BaseException", "object", "ValueError.__new__", "getset_descriptor", "ExceptionGroup.__weakref__", "super"⟩
def v2 : Q String := ⟨"object.__init_subclass__", "function", "function", "function", "function", "function", "function", "function"⟩
def w0 (P : Params) : Q Obj := ⟨W.boot_o_0 P, W.boot_o_1 P, W.boot_o_2 P, W.boot_o_3 P, W.boot_o_4 P, W.boot_o_5 P, W.boot_o_6 P, W.boot_o_7 P⟩
def w1 (P : Params) : Q Obj := ⟨W.boot_o_8 P, W.boot_o_9 P, W.boot_o_10 P, W.boot_o_10 P, W.boot_o_10 P, W.boot_o_10 P, W.boot_o_10 P, W.boot_o_10 P⟩
lay_quick u0 u1 u2 u3 u4 u5 u6 u7 u8 u9 u10 u11 u12 u13 u14 v0 v1 v2 w0 w1 PySem.Challenge.pw_hideworth_k83_papers_read
def K (a' b' c' d' e' f' g' h' i' j' k' l' m' n' o' : Q Str) (p' q' r' : Q String) (s' t' : Params → Q Obj) (u' : Program) (P : Params) : X := ⟨⟨⟨a',b',c',d',e',f',g',h'⟩,⟨i',j',k',l',m',n',o',o'⟩,⟨i',j',k',l',m',n',o',o'⟩,⟨i',j',k',l',m',n',o',o'⟩,⟨i',j',k',l',m',n',o',o'⟩,⟨i',j',k',l',m',n',o',o'⟩,⟨i',j',k',l',m',n',o',o'⟩,⟨i',j',k',l',m',n',o',o'⟩⟩,⟨⟨p',q',r',r',r',r',r',r'⟩,⟨p',q',r',r',r',r',r',r'⟩,⟨p',q',r',r',r',r',r',r'⟩,⟨p',q',r',r',r',r',r',r'⟩,⟨p',q',r',r',r',r',r',r'⟩,⟨p',q',r',r',r',r',r',r'⟩,⟨p',q',r',r',r',r',r',r'⟩,⟨p',q',r',r',r',r',r',r'⟩⟩,⟨⟨s' P,t' P,t' P,t' P,t' P,t' P,t' P,t' P⟩,⟨s' P,t' P,t' P,t' P,t' P,t' P,t' P,t' P⟩,⟨s' P,t' P,t' P,t' P,t' P,t' P,t' P,t' P⟩,⟨s' P,t' P,t' P,t' P,t' P,t' P,t' P,t' P⟩,⟨s' P,t' P,t' P,t' P,t' P,t' P,t' P,t' P⟩,⟨s' P,t' P,t' P,t' P,t' P,t' P,t' P,t' P⟩,⟨s' P,t' P,t' P,t' P,t' P,t' P,t' P,t' P⟩,⟨s' P,t' P,t' P,t' P,t' P,t' P,t' P,t' P⟩⟩,u',P⟩
def k0 := K u0 u1 u2 u3 u4 u5 u6 u7 u8 u9 u10 u11 u12 u13 u14 v0 v1 v2 w0 w1 PySem.Challenge.pw_hideworth_k83_papers_read
def k1 := K tw13894225608423057668 tw17531079430653816501 tw13809737476558091540 tw2367299412457286945 tw1912701158020654693 tw2188347355606102534 tw16368670287772101220 tw14842115654739255404 tw4717311838995323452 tw594758545415977400 tw10895325593200808953 tw10037743213843438893 tw10009084784789568687 tw5084553986333570498 tw16641277437810104112 tw15633551313878501473 tw10735261366311057212 tw13734974896645664886 tw1278260381020688717 tw13492767390215788210 tw1322105478662797341
theorem ke : k0 = k1 := by
  unfold k0 k1
  rw [te13894225608423057668, te17531079430653816501, te13809737476558091540, te2367299412457286945, te1912701158020654693, te2188347355606102534, te16368670287772101220, te14842115654739255404, te4717311838995323452, te594758545415977400, te10895325593200808953, te10037743213843438893, te10009084784789568687, te5084553986333570498, te16641277437810104112, te15633551313878501473, te10735261366311057212, te13734974896645664886, te1278260381020688717, te13492767390215788210, te1322105478662797341]
theorem kE {β : Type _} (f : X → β) : (fun P => f (k0 P)) = fun P => f (k1 P) := congrArg (fun y P => f (y P)) ke
end Hd
namespace PySem.W.Fast
def tw11021502122382713860 : Program := Hd.m652v tw1322105478662797341
theorem te11021502122382713860 : Hd.m652v PySem.Challenge.pw_hideworth_k83_papers_read = tw11021502122382713860 := congrArg Hd.m652v te1322105478662797341
def tw1472256252037067418 (P : Params) : Heap := @Hd.m659 (Hd.k1 P)
theorem te1472256252037067418 : (fun P => @Hd.m659 (Hd.k0 P)) = tw1472256252037067418 := Hd.kE @Hd.m659
def tw5839012672354309254 (P : Params) : BT := @Hd.m660 (Hd.k1 P)
theorem te5839012672354309254 : (fun P => @Hd.m660 (Hd.k0 P)) = tw5839012672354309254 := Hd.kE @Hd.m660
def tw13024666878481522074 : List Stmt := Hd.m662s tw1322105478662797341
theorem te13024666878481522074 : Hd.m662s PySem.Challenge.pw_hideworth_k83_papers_read = tw13024666878481522074 := congrArg Hd.m662s te1322105478662797341
def tw17798098038246811336 (P : Params) : BT := @Hd.m676 (Hd.k1 P)
theorem te17798098038246811336 : (fun P => @Hd.m676 (Hd.k0 P)) = tw17798098038246811336 := Hd.kE @Hd.m676
def tw753809634575222409 : List Stmt := Hd.m677s tw1322105478662797341
theorem te753809634575222409 : Hd.m677s PySem.Challenge.pw_hideworth_k83_papers_read = tw753809634575222409 := congrArg Hd.m677s te1322105478662797341
def tw11684858986242354758 (P : Params) : BT := @Hd.m691 (Hd.k1 P)
theorem te11684858986242354758 : (fun P => @Hd.m691 (Hd.k0 P)) = tw11684858986242354758 := Hd.kE @Hd.m691
def tw3360020605995227897 : List Stmt := Hd.m692s tw1322105478662797341
theorem te3360020605995227897 : Hd.m692s PySem.Challenge.pw_hideworth_k83_papers_read = tw3360020605995227897 := congrArg Hd.m692s te1322105478662797341
def tw9041014263196676353 (P : Params) : BT := @Hd.m706 (Hd.k1 P)
theorem te9041014263196676353 : (fun P => @Hd.m706 (Hd.k0 P)) = tw9041014263196676353 := Hd.kE @Hd.m706
def tw10760197590162787145 : List Stmt := Hd.m707s tw1322105478662797341
theorem te10760197590162787145 : Hd.m707s PySem.Challenge.pw_hideworth_k83_papers_read = tw10760197590162787145 := congrArg Hd.m707s te1322105478662797341
def tw4211168369077264799 (P : Params) : BT := @Hd.m721 (Hd.k1 P)
theorem te4211168369077264799 : (fun P => @Hd.m721 (Hd.k0 P)) = tw4211168369077264799 := Hd.kE @Hd.m721
def tw170160669149905153 : List Stmt := Hd.m722s tw1322105478662797341
theorem te170160669149905153 : Hd.m722s PySem.Challenge.pw_hideworth_k83_papers_read = tw170160669149905153 := congrArg Hd.m722s te1322105478662797341
def tw13030156252862991138 (P : Params) : BT := @Hd.m736 (Hd.k1 P)
theorem te13030156252862991138 : (fun P => @Hd.m736 (Hd.k0 P)) = tw13030156252862991138 := Hd.kE @Hd.m736
def tw1507295736854040744 : List Stmt := Hd.m737s tw1322105478662797341
theorem te1507295736854040744 : Hd.m737s PySem.Challenge.pw_hideworth_k83_papers_read = tw1507295736854040744 := congrArg Hd.m737s te1322105478662797341
def tw16583842741253827550 (P : Params) : BT := @Hd.m751 (Hd.k1 P)
theorem te16583842741253827550 : (fun P => @Hd.m751 (Hd.k0 P)) = tw16583842741253827550 := Hd.kE @Hd.m751
def tw13035463849969191805 : List Stmt := Hd.m752s tw1322105478662797341
theorem te13035463849969191805 : Hd.m752s PySem.Challenge.pw_hideworth_k83_papers_read = tw13035463849969191805 := congrArg Hd.m752s te1322105478662797341
def tw169747428328791408 (P : Params) : BT := @Hd.m766 (Hd.k1 P)
theorem te169747428328791408 : (fun P => @Hd.m766 (Hd.k0 P)) = tw169747428328791408 := Hd.kE @Hd.m766
def tw1705364159323956898 : List Stmt := Hd.m767s tw1322105478662797341
theorem te1705364159323956898 : Hd.m767s PySem.Challenge.pw_hideworth_k83_papers_read = tw1705364159323956898 := congrArg Hd.m767s te1322105478662797341
def tw15750946987179161575 (P : Params) : BT := @Hd.m781 (Hd.k1 P)
theorem te15750946987179161575 : (fun P => @Hd.m781 (Hd.k0 P)) = tw15750946987179161575 := Hd.kE @Hd.m781
def tw5734610150039372485 : List Stmt := Hd.m782s tw1322105478662797341
theorem te5734610150039372485 : Hd.m782s PySem.Challenge.pw_hideworth_k83_papers_read = tw5734610150039372485 := congrArg Hd.m782s te1322105478662797341
def tw18103341774865026620 (P : Params) : BT := @Hd.m796 (Hd.k1 P)
theorem te18103341774865026620 : (fun P => @Hd.m796 (Hd.k0 P)) = tw18103341774865026620 := Hd.kE @Hd.m796
def tw6240315026205940316 : List Stmt := Hd.m797s tw1322105478662797341
theorem te6240315026205940316 : Hd.m797s PySem.Challenge.pw_hideworth_k83_papers_read = tw6240315026205940316 := congrArg Hd.m797s te1322105478662797341
def tw1546958596595545305 (P : Params) : BT := @Hd.m811 (Hd.k1 P)
theorem te1546958596595545305 : (fun P => @Hd.m811 (Hd.k0 P)) = tw1546958596595545305 := Hd.kE @Hd.m811
def tw15129388034428847851 : List Stmt := Hd.m812s tw1322105478662797341
theorem te15129388034428847851 : Hd.m812s PySem.Challenge.pw_hideworth_k83_papers_read = tw15129388034428847851 := congrArg Hd.m812s te1322105478662797341
def tw15580832812548471927 (P : Params) : BT := @Hd.m826 (Hd.k1 P)
theorem te15580832812548471927 : (fun P => @Hd.m826 (Hd.k0 P)) = tw15580832812548471927 := Hd.kE @Hd.m826
def tw1278586207657707181 : List Stmt := Hd.m827s tw1322105478662797341
theorem te1278586207657707181 : Hd.m827s PySem.Challenge.pw_hideworth_k83_papers_read = tw1278586207657707181 := congrArg Hd.m827s te1322105478662797341
def tw7995004329861251813 (P : Params) : BT := @Hd.m841 (Hd.k1 P)
theorem te7995004329861251813 : (fun P => @Hd.m841 (Hd.k0 P)) = tw7995004329861251813 := Hd.kE @Hd.m841
def tw5238565653019621722 : List Stmt := Hd.m842s tw1322105478662797341
theorem te5238565653019621722 : Hd.m842s PySem.Challenge.pw_hideworth_k83_papers_read = tw5238565653019621722 := congrArg Hd.m842s te1322105478662797341
def tw18070065247745551389 (P : Params) : BT := @Hd.m856 (Hd.k1 P)
theorem te18070065247745551389 : (fun P => @Hd.m856 (Hd.k0 P)) = tw18070065247745551389 := Hd.kE @Hd.m856
def tw10445449164164434796 : List Stmt := Hd.m857s tw1322105478662797341
theorem te10445449164164434796 : Hd.m857s PySem.Challenge.pw_hideworth_k83_papers_read = tw10445449164164434796 := congrArg Hd.m857s te1322105478662797341
def tw6999937932930675662 (P : Params) : BT := @Hd.m871 (Hd.k1 P)
theorem te6999937932930675662 : (fun P => @Hd.m871 (Hd.k0 P)) = tw6999937932930675662 := Hd.kE @Hd.m871
def tw13156163040384731037 : List Stmt := Hd.m872s tw1322105478662797341
theorem te13156163040384731037 : Hd.m872s PySem.Challenge.pw_hideworth_k83_papers_read = tw13156163040384731037 := congrArg Hd.m872s te1322105478662797341
def tw3255206496391786597 (P : Params) : BT := @Hd.m886 (Hd.k1 P)
theorem te3255206496391786597 : (fun P => @Hd.m886 (Hd.k0 P)) = tw3255206496391786597 := Hd.kE @Hd.m886
def tw11884355520289799223 : List Stmt := Hd.m887s tw1322105478662797341
theorem te11884355520289799223 : Hd.m887s PySem.Challenge.pw_hideworth_k83_papers_read = tw11884355520289799223 := congrArg Hd.m887s te1322105478662797341
def tw378730043268671823 (P : Params) : BT := @Hd.m908 (Hd.k1 P)
theorem te378730043268671823 : (fun P => @Hd.m908 (Hd.k0 P)) = tw378730043268671823 := Hd.kE @Hd.m908
def tw13038719954775278175 : List Stmt := Hd.m909s tw1322105478662797341
theorem te13038719954775278175 : Hd.m909s PySem.Challenge.pw_hideworth_k83_papers_read = tw13038719954775278175 := congrArg Hd.m909s te1322105478662797341
def tw17894321808473713671 (P : Params) : BT := @Hd.m930 (Hd.k1 P)
theorem te17894321808473713671 : (fun P => @Hd.m930 (Hd.k0 P)) = tw17894321808473713671 := Hd.kE @Hd.m930
def tw8081354934919539580 : List Stmt := Hd.m931s tw1322105478662797341
theorem te8081354934919539580 : Hd.m931s PySem.Challenge.pw_hideworth_k83_papers_read = tw8081354934919539580 := congrArg Hd.m931s te1322105478662797341
def tw12341520134505936798 (P : Params) : BT := @Hd.m952 (Hd.k1 P)
theorem te12341520134505936798 : (fun P => @Hd.m952 (Hd.k0 P)) = tw12341520134505936798 := Hd.kE @Hd.m952
def tw4641369870175229655 : List Stmt := Hd.m953s tw1322105478662797341
theorem te4641369870175229655 : Hd.m953s PySem.Challenge.pw_hideworth_k83_papers_read = tw4641369870175229655 := congrArg Hd.m953s te1322105478662797341
def tw16951999549709515213 (P : Params) : BT := @Hd.m997 (Hd.k1 P)
theorem te16951999549709515213 : (fun P => @Hd.m997 (Hd.k0 P)) = tw16951999549709515213 := Hd.kE @Hd.m997
def tw10622413520683020626 : List Stmt := Hd.m998s tw1322105478662797341
theorem te10622413520683020626 : Hd.m998s PySem.Challenge.pw_hideworth_k83_papers_read = tw10622413520683020626 := congrArg Hd.m998s te1322105478662797341
def tw5606391457701535763 (P : Params) : BT := @Hd.m1079 (Hd.k1 P)
theorem te5606391457701535763 : (fun P => @Hd.m1079 (Hd.k0 P)) = tw5606391457701535763 := Hd.kE @Hd.m1079
def tw15367143034850666541 : List Stmt := Hd.m1080s tw1322105478662797341
theorem te15367143034850666541 : Hd.m1080s PySem.Challenge.pw_hideworth_k83_papers_read = tw15367143034850666541 := congrArg Hd.m1080s te1322105478662797341
def tw8975104273619875884 (P : Params) : BT := @Hd.m1093 (Hd.k1 P)
theorem te8975104273619875884 : (fun P => @Hd.m1093 (Hd.k0 P)) = tw8975104273619875884 := Hd.kE @Hd.m1093
def tw1938763268291528694 (P : Params) : Heap := @Hd.m1094 (Hd.k1 P)
theorem te1938763268291528694 : (fun P => @Hd.m1094 (Hd.k0 P)) = tw1938763268291528694 := Hd.kE @Hd.m1094
end PySem.W.Fast
end
open PySem PySem.W PyProof.Rows PySem.W.X PySem.W.ZRun
set_option maxRecDepth 100000 in
set_option maxHeartbeats 0 in
theorem PySem.Challenge.cw_hideworth_k83_papers_read_holds : PySem.Challenge.rw_hideworth_k83_papers_read.Holds := by
 w_on;o_law;z_head;(case hw=>w_witness2)
 k_fill
 intro w s0 s1 m0 m1 G Y fa o pm cd doc dV kV ho hd hc hD hm hg xs vs as L h1 h2 h3 h4 h5
 z_open Y L KX ZH ZN ZT
 refine My.walk_at (l:=PySem.Challenge.rw_hideworth_k83_papers_read) KX (fun W=>W w s0 s1 m0 m1 G KX fa o pm cd doc dV kV ho hd hc hD hm hg xs vs as h1 h2 h3 h4 h5) (My.walk (l:=PySem.Challenge.rw_hideworth_k83_papers_read) rfl rfl (fun _ _ h=>h) ?hPt ?hC ?F)
 case hPt =>
  intro w
  k_is
 case hC =>
  intro w h KX
  refine' L2.zoC KX ?lc (by decide)
  (case lc=>k_is)
 case F =>
  intro w mg fa h KX G hmg
  refine' My.zqK hmg (My.zqc ?hP (L2.zcr ?l0 ?c0 ?k0) (mg_of KX G ?a0) (L2.zcr ?l1 ?c1 ?k1) (mg_of KX G ?a1) (L2.zcr ?l2 ?c2 ?k2) (mg_of KX G ?a2) (L2.zcr ?l3 ?c3 ?k3) (mg_of KX G ?a3) (L2.zcr ?l4 ?c4 ?k4) (mg_of KX G ?a4) (L2.zcr ?l5 ?c5 ?k5) (mg_of KX G ?a5) (L2.zom ?l6 ?c6 ?k6) (mg_of KX G ?a6) (L2.zcr ?l7 ?c7 ?k7) (mg_of KX G ?a7) (L2.zcr ?l8 ?c8 ?k8) (mg_of KX G ?a8) (L2.zcr ?l9 ?c9 ?k9) (mg_of KX G ?a9) (L2.zcr ?l10 ?c10 ?k10) (mg_of KX G ?a10) (L2.zcr ?l11 ?c11 ?k11) (mg_of KX G ?a11) (L2.zcr ?l12 ?c12 ?k12) (mg_of KX G ?a12) (L2.zcr ?l13 ?c13 ?k13) (mg_of KX G ?a13) (L2.zcr ?l14 ?c14 ?k14) (mg_of KX G ?a14) (L2.zcr ?l15 ?c15 ?k15) (mg_of KX G ?a15) (L2.zcr ?l16 ?c16 ?k16) (mg_of KX G ?a16) (L2.zcr ?l17 ?c17 ?k17) (mg_of KX G ?a17) (mg_none_of KX G ?z_isinstance) (mg_none_of KX G ?z_int) (mg_none_of KX G ?z_bool) (mg_none_of KX G ?z_list) (mg_none_of KX G ?z_len) (mg_none_of KX G ?z_all) (mg_none_of KX G ?z_range) (mg_none_of KX G ?z_tuple) (mg_none_of KX G ?z_str) (mg_none_of KX G ?z_enumerate) (mg_none_of KX G ?z_zip) (mg_none_of KX G ?z_min) (mg_none_of KX G ?z_ValueError) (mg_of KX G ?ac_HideError) (mg_of KX G ?ac_NoNumber) (mg_of KX G ?ac_NoTable) (mg_of KX G ?ac_NoBoxes) (mg_of KX G ?ac_NoBudget) (mg_of KX G ?ac_NoOrder) (mg_of KX G ?ac_NoWeights) (mg_of KX G ?ac_TooGreat) (mg_of KX G ?ac_NoKind) (mg_of KX G ?ac_NoTree) (mg_of KX G ?ac_NoTurns) (mg_of KX G ?ac_NoPlay) (mg_of KX G ?ac_NoRow) (mg_of KX G ?ac_NoName) (mg_of KX G ?ac_NoRoad) (mg_of KX G ?ac_NoWeb) (mg_of KX G ?ac_NoPlan) (mg_of KX G ?ac_NoText) (mg_of KX G ?ac_NoPaper) (mg_of KX G ?ak_MOST_FIGURES) (mg_of KX G ?ak_FIGURES) (mg_of KX G ?at_KINDS) ?lt_KINDS ?xc_HideError ?vsg ?vrd ?vfc ?vin_NoText ?vl_NoText ?vc_NoText ?vk_NoText ?vlk_NoText ?vtl_NoText ?vfn_NoText ?vkp_NoText ?vmo_NoText ?vsa_NoText ?vga_NoText ?vgn_NoText ?vcl_NoText ?vmb_NoText ?vhd_NoText ?vna_NoText ?i_k_NoNumber ?i_k_NoTable ?i_k_NoBoxes ?i_k_NoBudget ?i_k_NoOrder ?i_k_NoWeights ?i_k_TooGreat ?i_k_NoKind ?i_k_NoTree ?i_k_NoTurns ?i_k_NoPlay ?i_k_NoRow ?i_k_NoName ?i_k_NoRoad ?i_k_NoWeb ?i_k_NoPlan ?i_k_NoText ?i_k_NoPaper ?i_k_ValueError ?i_sub ?e_ga ?e_gn ?e_cl ?e_mb ?e_mo)
  (case hP=>k_is)
  (case ac_HideError=>k_is)
  (case ac_NoNumber=>k_is)
  (case ac_NoTable=>k_is)
  (case ac_NoBoxes=>k_is)
  (case ac_NoBudget=>k_is)
  (case ac_NoOrder=>k_is)
  (case ac_NoWeights=>k_is)
  (case ac_TooGreat=>k_is)
  (case ac_NoKind=>k_is)
  (case ac_NoTree=>k_is)
  (case ac_NoTurns=>k_is)
  (case ac_NoPlay=>k_is)
  (case ac_NoRow=>k_is)
  (case ac_NoName=>k_is)
  (case ac_NoRoad=>k_is)
  (case ac_NoWeb=>k_is)
  (case ac_NoPlan=>k_is)
  (case ac_NoText=>k_is)
  (case ac_NoPaper=>k_is)
  (case a0=>k_is)
  (case a1=>k_is)
  (case a2=>k_is)
  (case a3=>k_is)
  (case a4=>k_is)
  (case a5=>k_is)
  (case a6=>k_is)
  (case a7=>k_is)
  (case a8=>k_is)
  (case a9=>k_is)
  (case a10=>k_is)
  (case a11=>k_is)
  (case a12=>k_is)
  (case a13=>k_is)
  (case a14=>k_is)
  (case a15=>k_is)
  (case a16=>k_is)
  (case a17=>k_is)
  (case l0=>k_is)
  (case c0=>k_is)
  (case k0=>k_is)
  (case l1=>k_is)
  (case c1=>k_is)
  (case k1=>k_is)
  (case l2=>k_is)
  (case c2=>k_is)
  (case k2=>k_is)
  (case l3=>k_is)
  (case c3=>k_is)
  (case k3=>k_is)
  (case l4=>k_is)
  (case c4=>k_is)
  (case k4=>k_is)
  (case l5=>k_is)
  (case c5=>k_is)
  (case k5=>k_is)
  (case l6=>k_is)
  (case c6=>k_is)
  (case k6=>k_is)
  (case l7=>k_is)
  (case c7=>k_is)
  (case k7=>k_is)
  (case l8=>k_is)
  (case c8=>k_is)
  (case k8=>k_is)
  (case l9=>k_is)
  (case c9=>k_is)
  (case k9=>k_is)
  (case l10=>k_is)
  (case c10=>k_is)
  (case k10=>k_is)
  (case l11=>k_is)
  (case c11=>k_is)
  (case k11=>k_is)
  (case l12=>k_is)
  (case c12=>k_is)
  (case k12=>k_is)
  (case l13=>k_is)
  (case c13=>k_is)
  (case k13=>k_is)
  (case l14=>k_is)
  (case c14=>k_is)
  (case k14=>k_is)
  (case l15=>k_is)
  (case c15=>k_is)
  (case k15=>k_is)
  (case l16=>k_is)
  (case c16=>k_is)
  (case k16=>k_is)
  (case l17=>k_is)
  (case c17=>k_is)
  (case k17=>k_is)
  (case z_isinstance=>k_is)
  (case z_int=>k_is)
  (case z_bool=>k_is)
  (case z_list=>k_is)
  (case z_len=>k_is)
  (case z_all=>k_is)
  (case z_range=>k_is)
  (case z_tuple=>k_is)
  (case z_str=>k_is)
  (case z_enumerate=>k_is)
  (case z_zip=>k_is)
  (case z_min=>k_is)
  (case z_ValueError=>k_is)
  (case ak_MOST_FIGURES=>k_is)
  (case ak_FIGURES=>k_is)
  (case at_KINDS=>k_is)
  (case lt_KINDS=>k_is)
  (case xc_HideError=>k_exc)
  (case vsg=>k_is)
  (case vrd=>k_is)
  (case vfc=>k_is)
  (case vin_NoText=>k_is)
  (case vl_NoText=>k_is)
  (case vc_NoText=>k_is)
  (case vk_NoText=>k_is)
  (case vlk_NoText=>k_is)
  (case vtl_NoText=>kernel_rfl)
  (case vfn_NoText=>k_is)
  (case vkp_NoText=>k_is)
  (case vmo_NoText=>k_is)
  (case vsa_NoText=>k_is)
  (case vga_NoText=>k_is)
  (case vgn_NoText=>k_is)
  (case vcl_NoText=>k_is)
  (case vmb_NoText=>k_is)
  (case vhd_NoText=>k_is)
  (case vna_NoText=>k_is)
  (case i_k_NoNumber=>kit_is)
  (case i_k_NoTable=>kit_is)
  (case i_k_NoBoxes=>kit_is)
  (case i_k_NoBudget=>kit_is)
  (case i_k_NoOrder=>kit_is)
  (case i_k_NoWeights=>kit_is)
  (case i_k_TooGreat=>kit_is)
  (case i_k_NoKind=>kit_is)
  (case i_k_NoTree=>kit_is)
  (case i_k_NoTurns=>kit_is)
  (case i_k_NoPlay=>kit_is)
  (case i_k_NoRow=>kit_is)
  (case i_k_NoName=>kit_is)
  (case i_k_NoRoad=>kit_is)
  (case i_k_NoWeb=>kit_is)
  (case i_k_NoPlan=>kit_is)
  (case i_k_NoText=>kit_is)
  (case i_k_NoPaper=>kit_is)
  (case i_k_ValueError=>kit_is)
  (case i_sub=>k_is)
  (case e_ga=>k_is)
  (case e_gn=>k_is)
  (case e_cl=>k_is)
  (case e_mb=>k_is)
  (case e_mo=>k_is)
