import PyProof.Rows.All
import Wide.All
import OpenK.AllK
import Wide.FinOn
import Lean
import PyProof.EqAt
import PyProof.EqKinds
import PyProof.TupleCall
import KE.IntBitsLaws
import PyProof.NeKinds
import KE.KIsAll
import PyProof.ExcAttrAll.ValueError
import KE.RegKIsAll
import OpenK.KOwn
import PyProof.ConsumeWalk
import PyProof.SumWalkG
import PyProof.Rows.SeqCalls
import PyProof.Rows.SeqGen
import PyProof.ZipIter
import PyProof.Rows.ZipGen
import PyProof.Rows.FactsT2
import PyProof.WalksEnum
import PyProof.EnumMake
import PyProof.ListRange
import KE.KDictSum
import PyProof.Rows.SortWalk
import PyProof.ExcInit
import PyProof.InstStoreFacts
import PyProof.Rows.SortShell
import KE.KRevIter
import PyProof.ListNew
import PyProof.CollectIter
import KE.KLam
import KE.KMinKey
import KE.KEqDict
import PyProof.StrCalls2
import PyProof.Rows.StrNews2
import PyProof.SliceStr2
import KE.KIntText
import KE.IntTextLaws
import PyProof.Rows.StrSplitJoin
import PyProof.FitsReplace
import PyProof.StrWalks
import PyProof.Rows.FStr
import PyProof.Rows.StrSplitCount
import PyProof.StrOps2
import OpenK.ZGo
import PySem.Challenge.RW_hideworth_k82_papers_written
set_option Elab.async false
set_option linter.all false
set_option maxRecDepth 100000
namespace L2
open PySem PySem.Spec PyProof.Rows
abbrev Key:=Sum Int Str
def zmm:Key→Value→Bool
 | .inl k,v=>Value.isInt k v
 | .inr x,v=>Value.isStrOf x v
def keyH (w:World):Key→Int
 | .inl k=>hashInt k
 | .inr x=>hashStr w x
theorem zbR:∀ {k:Key} {v:Value},zmm k v=true→(∃ i t,k=Sum.inl i∧v=Value.int i t)∨(∃ x t,k=Sum.inr x∧v=Value.str x t)
 | .inl i,v,h=>by
  obtain ⟨t,e⟩:=Value.isInt_shape (k:=i) (v:=v) h
  exact .inl ⟨i,t,rfl,e⟩
 | .inr x,v,h=>by
  obtain ⟨t,e⟩:=Value.isStrOf_shape (x:=x) (v:=v) h
  exact .inr ⟨x,t,rfl,e⟩
theorem znB (i:Int) (t:Tok):zmm (.inl i) (.int i t)=true:=by simp [zmm,Value.isInt]
theorem zoa (x:Str) (t:Tok):zmm (.inr x) (.str x t)=true:=by simp [zmm,Value.isStrOf]
theorem zuv (a b:Int):decide ((Sum.inl a:Key)=Sum.inl b)=(a == b):=by
 by_cases e:a=b
 ·subst e;simp
 ·have h:¬ (Sum.inl a:Key)=Sum.inl b:=fun q=>e (Sum.inl.inj q)
  rw [decide_eq_false h]
  exact (beq_eq_false_iff_ne.mpr e).symm
theorem zuZ (a b:Str):decide ((Sum.inr a:Key)=Sum.inr b)=decide (a=b):=by
 by_cases e:a=b
 ·subst e;simp
 ·have h:¬ (Sum.inr a:Key)=Sum.inr b:=fun q=>e (Sum.inr.inj q)
  rw [decide_eq_false h,decide_eq_false e]
theorem zwe (a:Int) (b:Str):decide ((Sum.inl a:Key)=Sum.inr b)=false:=decide_eq_false (fun q=>nomatch q)
theorem zv1 (a:Str) (b:Int):decide ((Sum.inr a:Key)=Sum.inl b)=false:=decide_eq_false (fun q=>nomatch q)
def zcf (prog:Program) (w:World):PySem.KeyKind prog w Key where
 is:=zmm
 hash:=keyH w
 inj:=fun v a b ha hb=>by
  rcases zbR ha with ⟨i,t,rfl,rfl⟩ | ⟨x,t,rfl,rfl⟩
  ·rcases zbR hb with ⟨j,u,rfl,e⟩ | ⟨y,u,rfl,e⟩
   ·injection e with e1 _;rw [e1]
   ·exact nomatch e
  ·rcases zbR hb with ⟨j,u,rfl,e⟩ | ⟨y,u,rfl,e⟩
   ·exact nomatch e
   ·injection e with e1 _;rw [e1]
 byValue:=fun k v h=>by
  rcases zbR h with ⟨i,t,rfl,rfl⟩ | ⟨x,t,rfl,rfl⟩ <;> rfl
 pyHash:=fun hv h=>by
  rcases zbR hv with ⟨i,t,rfl,rfl⟩ | ⟨x,t,rfl,rfl⟩
  ·exact wpAny_pyHash_int h
  ·exact wpAny_pyHash_str h
 eqBool:=fun hu hv h=>by
  rcases zbR hu with ⟨i,t,rfl,rfl⟩ | ⟨x,t,rfl,rfl⟩
  ·rcases zbR hv with ⟨j,u,rfl,rfl⟩ | ⟨y,u,rfl,rfl⟩
   ·rw [zuv] at h;exact wpAny_eqBool_int h
   ·rw [zwe] at h;exact SeqAt.EqAt.int_str i t y u _ _ _ _ h
  ·rcases zbR hv with ⟨j,u,rfl,rfl⟩ | ⟨y,u,rfl,rfl⟩
   ·rw [zv1] at h;exact SeqAt.EqAt.str_int x t j u _ _ _ _ h
   ·rw [zuZ] at h;exact wpAny_eqBool_str h
 «strs»:=fun k x t v h=>by
  rcases zbR h with ⟨i,u,rfl,e⟩ | ⟨y,u,rfl,e⟩
  ·exact nomatch e
  ·injection e with e1 _
   subst e1
   cases v <;> rfl
theorem zks (prog:Program) (w:World) (i:Int) (t:Tok):(zcf prog w).is (.inl i) (.int i t)=true:=znB i t
theorem zkp (prog:Program) (w:World) (x:Str) (t:Tok):(zcf prog w).is (.inr x) (.str x t)=true:=zoa x t
end L2
namespace L2
open PySem PySem.Spec PyProof.Rows
inductive V where
 | non | bl (b:Bool) | int (i:Int) | str (x:Str) | byt (b:Array UInt8) | flt (b:UInt64) | ref (a:Addr) | ty (n:String)
 deriving DecidableEq
def zca:V→Value→Prop
 | .non,u=>u=Value.none
 | .bl b,u=>u=Value.bool b
 | .int i,u=>∃ t,u=Value.int i t
 | .str x,u=>∃ t,u=Value.str x t
 | .byt b,u=>∃ t,u=Value.bytes b t
 | .flt b,u=>∃ t,u=Value.float b t
 | .ref a,u=>u=Value.ref a
 | .ty n,u=>u=Value.type n
abbrev zbZ:List V→List Value→Prop:=Paired zca
theorem zbZ.length {xs:List V} {us:List Value} (r:zbZ xs us):xs.length=us.length:=Paired.length r
theorem zbZ.get:∀ {xs:List V} {us:List Value} {i:Nat} {x:V},zbZ xs us→xs[i]?=some x→∃ u,us[i]?=some u∧zca x u
 | _,_,_,_,.nil,e=>by simp at e
 | _,_,0,_,.cons r _,e=>by simp at e;subst e;exact ⟨_,rfl,r⟩
 | _,_,i+1,x,.cons _ t,e=>by
  obtain ⟨u,h1,h2⟩:=zbZ.get (i:=i) (x:=x) t (by simpa using e)
  exact ⟨u,by simpa using h1,h2⟩
theorem zbZ.append:∀ {xs ys:List V} {us ws:List Value},zbZ xs us→zbZ ys ws→zbZ (xs++ys) (us++ws)
 | _,_,_,_,.nil,s=>s
 | _,_,_,_,.cons r t,s=>.cons r (zbZ.append t s)
theorem zbZ.take:∀ {xs:List V} {us:List Value} (n:Nat),zbZ xs us→zbZ (xs.take n) (us.take n)
 | _,_,0,_=>.nil
 | _,_,_+1,.nil=>.nil
 | _,_,n+1,.cons r t=>.cons r (zbZ.take n t)
theorem zbZ.drop:∀ {xs:List V} {us:List Value} (n:Nat),zbZ xs us→zbZ (xs.drop n) (us.drop n)
 | _,_,0,r=>r
 | _,_,_+1,.nil=>.nil
 | _,_,n+1,.cons _ t=>zbZ.drop n t
def zoz:Option V→Option Value→Prop
 | some v,some u=>zca v u
 | none,none=>True
 | _,_=>False
def KV {κ:Type}:List (κ×V)→List (κ×Value)→Prop:=Paired fun (p:κ×V) (q:κ×Value)=>p.1=q.1∧zca p.2 q.2
def kV:Key→V
 | .inl i=>.int i
 | .inr x=>.str x
inductive HO where
  | lst (xs:List V)
  | tup (xs:List V)
  | dK (kvs:List (Key×V)) | dT (kvs:List (List Key×V))
  | set (S:Int→Bool) (n:Nat)
  | ins (C dx:Addr) (fs:List (Str×V))
  | own (x:Addr)
  | xd (fs:List (Str×V))
  | met (f x:Addr)
  | rng (lo hi:Int)
  | frz (o:Obj) (u:HO)
  | tbl (ps:Array Value)
  | ext (φ:Heap→Prop)
abbrev Hp:=Addr→Option HO
def upd (H:Hp) (a:Addr) (o:HO):Hp:=fun b=>if b=a then some o else H b
theorem zad {H:Hp} {a:Addr} {o:HO}:upd H a o a=some o:=by unfold upd;rw [if_pos rfl]
theorem zaj {H:Hp} {a b:Addr} {o:HO} (h:b≠a):upd H a o b=H b:=by unfold upd;rw [if_neg h]
theorem zko {H:Hp} {a:Addr} {o u:HO}:upd (upd H a o) a u=upd H a u:=by
 funext b;unfold upd;split <;> rfl
theorem ne_of {H:Hp} {a b:Addr} {o u:HO} (h:H a=some o) (h':H b=some u) (d:o≠u):a≠b:=by
 intro e;subst e;rw [h] at h';exact d (Option.some.inj h')
theorem zaz {H:Hp} {a b:Addr} {o:HO} (h:H a=some o) (h':H b=none):a≠b:=by
 intro e;subst e;rw [h] at h';cases h'
section
variable (P:Program) (w:World)
def zbH (H:Hp) (h:Heap) (a:Addr):HO→Prop
 | .lst xs=>xs.length≤sizeLine∧∃ (its:List Value) (n:Nat),zbZ xs its∧h.get? a=some { cls:=.type "list",data:=.seq its.toArray n }
 | .tup xs=>xs.length≤sizeLine∧∃ its:List Value,zbZ xs its∧IsTup h a its.toArray
 | .dK kvs=>kvs.length≤sizeLine∧(a == sysModules)=false∧∃ vs,KV kvs vs∧h.DictOf (zcf P w) a vs
 | .dT kvs=>kvs.length≤sizeLine∧(a == sysModules)=false∧∃ xs:List (List Key×Addr×Value),
   Paired (fun (p:List Key×V) (q:List Key×Addr×Value)=>p.1=q.1∧H q.2.1=some (.tup (p.1.map kV))∧zca p.2 q.2.2) kvs xs ∧
   ∃ o es ep,h.get? a=some o∧o.ExactDict∧o.data=.dict es ep∧es.toList=xs.map (entryOfKey (tupleKind (zcf P w)))∧(xs.map (·.1)).Nodup
 | .set S n=>h.SetOf (intKind P w) a S n
 | .ins C dx fs=>H dx=some (.own a)∧fs.length≤1000∧dx≠a∧h.get? a=some (PySem.W.instObj C dx) ∧
   ∃ mA,h.Ns1 dx mA∧(∀ f,zoz (fs.lookup f) (mA f))∧PySem.Within mA (fs.map (·.1))
 | .own _=>∃ o,h.get? a=some o
 | .xd fs=>∃ mA,h.Ns1 a mA∧∀ f,zoz (fs.lookup f) (mA f)
 | .rng lo hi=>∃ t u v,h.get? a=some { cls:=.type "range",data:=.fields #[.int lo t,.int hi u,.int 1 v] }
 | .frz o u=>h.get? a=some o∧zbH H h a u
 | .tbl ps=>h.get? a=some { cls:=.none,data:=.fields ps }
 | .met f x=>h.get? a=some (PySem.W.methodObj (.ref f) (.ref x))
 | .ext φ=>φ h∧(∃ o,h.get? a=some o)∧∀ h1 h2:Heap,φ h1→(∀ o,h1.get? a=some o→h2.get? a=some o)→φ h2
def HOk (H:Hp) (h:Heap):Prop:=∀ a o,H a=some o→zbH P w H h a o
end
section
variable {P:Program} {w:World} {H H':Hp} {h h':Heap} {a:Addr} {o:HO}
theorem zbH.lt (x:zbH P w H h a o):a<h.objs.size:=by
 cases o with
 | lst xs=>obtain ⟨_,_,_,_,e⟩:=x;exact Heap.lt_size e
 | tup xs=>obtain ⟨_,_,_,p⟩:=x;exact p.lt
 | dK kvs=>obtain ⟨_,_,_,_,o,_,_,e,_⟩:=x;exact Heap.lt_size e
 | dT kvs=>obtain ⟨_,_,_,_,o,_,_,e,_⟩:=x;exact Heap.lt_size e
 | set S n=>obtain ⟨o,_,_,_,e,_⟩:=x;exact Heap.lt_size e
 | ins C dx fs=>obtain ⟨_,_,_,e,_⟩:=x;exact Heap.lt_size e
 | own y=>obtain ⟨_,e⟩:=x;exact Heap.lt_size e
 | xd fs=>obtain ⟨_,⟨_,_,_,e,_⟩,_⟩:=x;exact Heap.lt_size e
 | rng lo hi=>obtain ⟨_,_,_,e⟩:=x;exact Heap.lt_size e
 | frz ob u=>obtain ⟨e,_⟩:=x;exact Heap.lt_size e
 | tbl ps=>exact Heap.lt_size (show h.get? a=some _ from x)
 | met f y=>exact Heap.lt_size (show h.get? a=some _ from x)
 | ext φ=>obtain ⟨_,⟨_,e⟩,_⟩:=x;exact Heap.lt_size e
theorem Paired.mapP {α β:Type} {F G:α→β→Prop}:∀ {l₁:List α} {l₂:List β},Paired F l₁ l₂→(∀ a b,F a b→G a b)→Paired G l₁ l₂
 | _,_,.nil,_=>.nil
 | _,_,.cons r t,f=>.cons (f _ _ r) (Paired.mapP t f)
theorem zbH.stay (x:zbH P w H h a o) (k:∀ b u,(b=a∨H b=some (.own a))→h.get? b=some u→h'.get? b=some u)
  (ho:∀ b,H b=some (.own a)→H' b=some (.own a)) (ht:∀ b xs,H b=some (.tup xs)→H' b=some (.tup xs)):zbH P w H' h' a o:=by
 induction o with
 | lst xs=>obtain ⟨z,its,n,r,e⟩:=x;exact ⟨z,its,n,r,k _ _ (.inl rfl) e⟩
 | tup xs=>obtain ⟨z,its,r,ob,e,c⟩:=x;exact ⟨z,its,r,ob,k _ _ (.inl rfl) e,c⟩
 | dK kvs=>obtain ⟨z,y,vs,r,ob,es,ep,e,c⟩:=x;exact ⟨z,y,vs,r,ob,es,ep,k _ _ (.inl rfl) e,c⟩
 | dT kvs =>
  obtain ⟨z,y,xs,r,ob,es,ep,e,c⟩:=x
  exact ⟨z,y,xs,Paired.mapP r fun p q z=>⟨z.1,ht _ _ z.2.1,z.2.2⟩,ob,es,ep,k _ _ (.inl rfl) e,c⟩
 | set S n=>obtain ⟨ob,es,ep,t,e,c⟩:=x;exact ⟨ob,es,ep,t,k _ _ (.inl rfl) e,c⟩
 | ins C dx fs =>
  obtain ⟨d,z,ne,e,mA,⟨od,es,ep,e2,c⟩,r⟩:=x
  exact ⟨ho _ d,z,ne,k _ _ (.inl rfl) e,mA,⟨od,es,ep,k _ _ (.inr d) e2,c⟩,r⟩
 | own y=>obtain ⟨ob,e⟩:=x;exact ⟨ob,k _ _ (.inl rfl) e⟩
 | xd fs=>obtain ⟨mA,⟨od,es,ep,e,c⟩,r⟩:=x;exact ⟨mA,⟨od,es,ep,k _ _ (.inl rfl) e,c⟩,r⟩
 | rng lo hi=>obtain ⟨t,u,v,e⟩:=x;exact ⟨t,u,v,k _ _ (.inl rfl) e⟩
 | frz ob u ih=>obtain ⟨e,q⟩:=x;exact ⟨k _ _ (.inl rfl) e,ih q⟩
 | tbl ps =>
  have e:h.get? a=some { cls:=.none,data:=.fields ps }:=x
  show h'.get? a=some { cls:=.none,data:=.fields ps }
  exact k a _ (.inl rfl) e
 | met f y =>
  have e:h.get? a=some (PySem.W.methodObj (.ref f) (.ref y)):=x
  show h'.get? a=some (PySem.W.methodObj (.ref f) (.ref y))
  exact k a _ (.inl rfl) e
 | ext φ=>obtain ⟨p,⟨o,e⟩,st⟩:=x;exact ⟨st _ _ p fun o q=>k _ _ (.inl rfl) q,⟨o,k _ _ (.inl rfl) e⟩,st⟩
theorem HOk.lt (x:HOk P w H h) (e:H a=some o):a<h.objs.size:=(x a o e).lt
theorem HOk.fresh (x:HOk P w H h) (e:h.objs.size≤a):H a=none:=by
 cases q:H a with
 | none=>rfl
 | some u=>exact absurd (Nat.lt_of_lt_of_le (x.lt q) e) (Nat.lt_irrefl _)
theorem HOk.kept (x:HOk P w H h) (k:∀ b u,h.get? b=some u→h'.get? b=some u):HOk P w H h':=fun a o e =>
 (x a o e).stay (fun b u _ q=>k b u q) (fun _ q=>q) fun _ _ q=>q
theorem HOk.laid (x:HOk P w H h) (k:∀ b u,h.get? b=some u→h'.get? b=some u) (hp:h.objs.size≤a) (new:zbH P w (upd H a o) h' a o):HOk P w (upd H a o) h':=fun b u e=>by
 have hn:=x.fresh hp
 by_cases hb:b=a
 ·subst hb;rw [zad] at e;cases e;exact new
 ·rw [zaj hb] at e
  exact (x b u e).stay (fun c v _ q=>k c v q) (fun c q=>by rw [zaj (zaz q hn)];exact q) fun c xs q=>by rw [zaj (zaz q hn)];exact q
end
def Rd (H:Hp) (a:Addr) (u:HO):Prop:=H a=some u∨∃ o,H a=some (.frz o u)
theorem Rd.ok {P:Program} {w:World} {H:Hp} {h:Heap} {a:Addr} {u:HO} (r:Rd H a u) (x:HOk P w H h):zbH P w H h a u:=by
 rcases r with r | ⟨o,r⟩
 ·exact x a u r
 ·obtain ⟨_,q⟩:=x a _ r
  exact q
def Mut:Option HO→Prop
 | some (.lst _)=>True
 | some (.dK _)=>True
 | some (.dT _)=>True
 | some (.set _ _)=>True
 | some (.ins _ _ _)=>True
 | some (.ext _)=>True
 | _=>False
section
variable {P:Program} {w:World} {H:Hp} {h h':Heap} {x e:Addr} {o':HO}
theorem HOk.write (ok:HOk P w H h) (mu:Mut (H x)) (he:e=x∨H e=some (.own x)) (k:∀ b u,b≠e→h.get? b=some u→h'.get? b=some u) (heo:∃ u,h'.get? e=some u)
  (new:zbH P w (upd H x o') h' x o'):HOk P w (upd H x o') h':=fun b u q=>by
 have nown:∀ c y,H c=some (.own y)→c≠x:=fun c y r z=>by subst z;rw [r] at mu;exact mu
 have ntup:∀ c xs,H c=some (.tup xs)→c≠x:=fun c xs r z=>by subst z;rw [r] at mu;exact mu
 by_cases hb:b=x
 ·subst hb;rw [zad] at q;cases q;exact new
 ·rw [zaj hb] at q
  by_cases hbe:b=e
  ·have q':H b=some (.own x):=by
    rcases he with z | z
    ·exact absurd (hbe.trans z) hb
    ·rw [hbe];exact z
   rw [q] at q';cases q'
   obtain ⟨v,hv⟩:=heo
   exact ⟨v,by rw [hbe];exact hv⟩
  ·refine (ok b u q).stay (fun c v hc r=>k c v ?_ r) (fun c r=>by rw [zaj (nown c b r)];exact r) fun c xs r=>by rw [zaj (ntup c xs r)];exact r
   rcases hc with rfl | hc
   ·exact hbe
   ·rintro rfl
    rcases he with z | z
    ·exact nown c b hc z
    ·rw [hc] at z;cases z;exact hb rfl
end
structure Un (fs ex:List Addr) (H H':Hp) (h h':Heap):Prop where
 keep:∀ b o,h.get? b=some o→H b=none→b∉fs→b∉ex→h'.get? b=some o
 slot:∀ b o,h.get? b=some o→H b=none→b∈fs→b∉ex→∃ sl,h'.get? b=some { o with slots:=sl }
 free:∀ b o,h.get? b=some o→H b=none→b∉ex→H' b=none
 there:∀ b o,h.get? b=some o→b∉ex→∃ o',h'.get? b=some o'
 tups:∀ b xs,H b=some (.tup xs)→H' b=some (.tup xs)
 frzs:∀ b o u,H b=some (.frz o u)→H' b=some (.frz o u)
 tbls:∀ b ps,H b=some (.tbl ps)→∃ more,H' b=some (.tbl (ps++more))
section
variable {fs fs' ex ex':List Addr} {H H1 H2:Hp} {h h1 h2 h':Heap} {a x e:Addr} {o:HO}
theorem Un.any (u:Un fs ex H H1 h h1) {b:Addr} {ob:Obj} (q:h.get? b=some ob) (n:H b=none) (hx:b∉ex):∃ sl,h1.get? b=some { ob with slots:=sl }:=by
 by_cases hb:b∈fs
 ·exact u.slot b ob q n hb hx
 ·exact ⟨ob.slots,u.keep b ob q n hb hx⟩
theorem Un.kept (k:∀ b u,h.get? b=some u→h'.get? b=some u):Un fs ex H H h h' :=
 ⟨fun b ob q _ _ _=>k b ob q,fun b ob q _ _ _=>⟨ob.slots,k b ob q⟩,fun _ _ _ n _=>n,fun b ob q _=>⟨ob,k b ob q⟩,fun _ _ q=>q,fun _ _ _ q=>q,fun _ ps q=>⟨#[],by rw [q];simp⟩⟩
theorem Un.refl:Un fs ex H H h h:=Un.kept fun _ _ q=>q
theorem Un.laid (k:∀ b u,h.get? b=some u→h'.get? b=some u) (hp:h.objs.size≤a) (hn:H a=none):Un fs ex H (upd H a o) h h' where
 keep:=fun b u q _ _ _=>k b u q
 slot:=fun b u q _ _ _=>⟨u.slots,k b u q⟩
 free:=fun b u q n _=>by rw [zaj (Nat.ne_of_lt (Nat.lt_of_lt_of_le (Heap.lt_size q) hp))];exact n
 there:=fun b u q _=>⟨u,k b u q⟩
 tups:=fun b xs q=>by rw [zaj (zaz q hn)];exact q
 frzs:=fun b u xs q=>by rw [zaj (zaz q hn)];exact q
 tbls:=fun b ps q=>⟨#[],by rw [zaj (zaz q hn),q];simp⟩
theorem Un.write (mu:Mut (H x)) (he:e=x∨H e=some (.own x)) (k:∀ b u,b≠e→h.get? b=some u→h'.get? b=some u) (heo:∃ u,h'.get? e=some u):Un fs ex H (upd H x o) h h':=by
 have hx:∀ b,H b=none→b≠x:=fun b n z=>by subst z;rw [n] at mu;exact mu
 have hb:∀ b,H b=none→b≠e:=fun b n z=>by
  subst z
  rcases he with r | r
  ·exact hx b n r
  ·rw [n] at r;cases r
 have hm:∀ b u,H b=some u→¬ Mut (some u)→b≠x:=fun b u q nm z=>by subst z;rw [q] at mu;exact nm mu
 refine ⟨fun b u q n _ _=>k b u (hb b n) q,fun b u q n _ _=>⟨u.slots,k b u (hb b n) q⟩,fun b u q n _=>by rw [zaj (hx b n)];exact n,fun b u q _=>?_,
  fun b xs q=>by rw [zaj (hm b _ q fun z=>z)];exact q,fun b u xs q=>by rw [zaj (hm b _ q fun z=>z)];exact q,fun b ps q=>⟨#[],by rw [zaj (hm b _ q fun z=>z),q];simp⟩⟩
 by_cases hbe:b=e
 ·subst hbe;exact heo
 ·exact ⟨u,k b u hbe q⟩
end
def trk (h:Heap) (H:Hp):List Addr:=(List.range h.objs.size).filter fun a=>(H a).isSome
def zoD (h:Heap) (H:Hp):Heap:=PySem.W.hideAll h (trk h H)
theorem zoC (h:Heap) (H:Hp):(zoD h H).objs.size=h.objs.size:=PySem.W.hideAll_size _ _
theorem zqz {h:Heap} {H:Hp} {b:Addr} {o:Obj} (e:h.get? b=some o) (n:H b=none):(zoD h H).get? b=some o :=
 PySem.W.hideAll_get _ e fun hm=>by
  have q:(H b).isSome=true:=(List.mem_filter.mp hm).2
  rw [n] at q;simp at q
theorem zsw {h:Heap} {H:Hp} {b:Addr} {o:Obj} (e:(zoD h H).get? b=some o):h.get? b=some o∧H b=none:=by
 have e':h.get? b=some o:=PySem.W.of_hideAll (trk h H) e
 refine ⟨e',?_⟩
 cases q:H b with
 | none=>rfl
 | some x =>
  have hm:b∈trk h H:=List.mem_filter.mpr ⟨List.mem_range.mpr (Heap.lt_size e'),by simp [q]⟩
  have z:(zoD h H).get? b=none:=PySem.W.hideAll_none (trk h H) hm
  rw [z] at e;cases e
def zs5 (g h:Heap) (L:Addr):List (Addr×Obj):=(List.range h.objs.size).filterMap fun a=>if a=L∨(g.get? a).isSome=true then none else (h.get? a).map fun o=>(a,o)
def zkk (g h:Heap) (L d:Addr):List (Addr×Obj):=(zs5 g h L).filter fun p=>decide (p.1≠d)
end L2
namespace L2
open PySem PySem.Spec PyProof.Rows
structure Mod (K:PySem.W.Frag) (mg:Str→Option Value) (base:Heap):Prop where
 kin:K.In base
 glob:base.Ns mainGlobals mg
 blt:∃ mb,base.Ns builtinsNs mb∧∀ x:Str,x≠"__name__"→mb x=bootBuiltins x
 nolimit:base.NoLimit
structure Cx where
 prog:Program
 w:World
 K:PySem.W.Frag
 mg:Str→Option Value
 base:Heap
 A:Around
 N:List Str
 s₀:Shared
 H₀:Hp
 env:Env
 outer:List Env
 stack:List Env
 ex:List Addr
 fn:Str→Bool
 calm:Bool
 pn:List (Addr×Obj)
 xe:Value→Shared→Prop
def frs (l:List Env):List Addr:=l.filterMap (·.frame)
abbrev Cx.fs (X:Cx):List Addr:=frs X.outer
def Vis (sc:Scope) (x:Str):Prop:=sc.names.lookup x=some .local∨sc.names.lookup x=some .cell∨sc.names.lookup x=some .free
def Loc (sc:Scope) (x:Str):Prop:=sc.names.lookup x=some .local∨sc.names.lookup x=some .cell
def Look (env:Env) (h:Heap) (m:Str→Option Value) (x:Str) (u:Value):Prop :=
 (env.kindOf x=some .local∧m x=some u)∨((env.kindOf x=some .cell∨env.kindOf x=some .free)∧∃ c,env.cells.lookup x=some c∧h.IsCell c (some u))
structure Cx.Ok (X:Cx):Prop where
 mod:Mod X.K X.mg X.base
 kind:X.env.scope.kind=.function
 glob:X.env.globals=mainGlobals
 blt:X.env.builtins=builtinsNs
 above:X.s₀.heap.objs.size≤X.env.locals
 inj:∀ x y c,X.env.cells.lookup x=some c→X.env.cells.lookup y=some c→x=y
 has:∀ x,(X.env.kindOf x=some .cell∨X.env.kindOf x=some .free)→∃ c,X.env.cells.lookup x=some c
 cab:∀ x c,X.fn x=true→X.env.cells.lookup x=some c→X.s₀.heap.objs.size≤c
 hd:X.calm=true→X.A.handled=none
 frames:X.A.frames=some X.stack
 stk:X.stack=X.outer∨(X.stack=X.env::X.outer∧X.env.frame=some X.env.locals)
 exf:∀ b∈X.ex,b≠X.env.locals∧∀ x c,X.env.cells.lookup x=some c→c≠b
 bs:∀ b o,X.base.get? b=some o→X.s₀.heap.get? b=some o∧X.H₀ b=none
 bsz:X.base.objs.size≤X.s₀.heap.objs.size
 noex:∀ b o,X.base.get? b=some o→b∉X.ex
 exfs:∀ b∈X.ex,b∉X.fs
 funs:X.s₀.heap.FunFrames X.base X.outer
 frf:∀ b∈X.fs,X.H₀ b=none
structure Inv (X:Cx) (pins:List (Addr×Obj)) (σ:List (Option V)) (H:Hp) (s:Shared):Prop where
 ok:X.Ok
 os:s.os=X.s₀.os
 bare:AllBare s.gens
 base:Un X.fs X.ex X.H₀ H X.s₀.heap s.heap
 loc:∃ m,s.heap.Ns X.env.locals m∧∀ (i:Nat) (x:Str) (v:V),X.N[i]?=some x→σ[i]?=some (some v)→Vis X.env.scope x→∃ u,zca v u∧Look X.env s.heap m x u
 cell:∀ x c,X.env.cells.lookup x=some c→∃ v,s.heap.IsCell c v
 free:H X.env.locals=none
 freeC:∀ x c,X.env.cells.lookup x=some c→H c=none
 pin:∀ p∈X.pn++pins,s.heap.get? p.1=some p.2∧H p.1=none∧p.1≠X.env.locals∧p.1∉X.fs∧∀ v,p.2.data≠.cell v
 hok:HOk X.prog X.w H s.heap
 len:σ.length=X.N.length
section
variable {X:Cx} {pins:List (Addr×Obj)} {σ:List (Option V)} {H H':Hp} {s:Shared} {h':Heap}
theorem Cx.Ok.nofr (ok:X.Ok) {b:Addr} {o:Obj} (e:X.base.get? b=some o):b∉X.fs:=fun hb=>by
 have:=(ok.funs.mem hb).1
 rw [e] at this;cases this
theorem Inv.bs (I:Inv X pins σ H s):∀ b o,X.base.get? b=some o→s.heap.get? b=some o∧H b=none:=fun b o e =>
 ⟨I.base.keep b o (I.ok.bs b o e).1 (I.ok.bs b o e).2 (I.ok.nofr e) (I.ok.noex b o e),I.base.free b o (I.ok.bs b o e).1 (I.ok.bs b o e).2 (I.ok.noex b o e)⟩
theorem Inv.bk (I:Inv X pins σ H s):∀ b o,X.base.get? b=some o→s.heap.get? b=some o:=fun b o e=>(I.bs b o e).1
theorem Inv.mod (I:Inv X pins σ H s):Mod X.K X.mg X.base:=I.ok.mod
theorem Inv.kIn (I:Inv X pins σ H s):X.K.In s.heap:=I.ok.mod.kin.keeps I.bk
theorem Inv.nolimit (I:Inv X pins σ H s):s.heap.NoLimit:=I.ok.mod.nolimit.keeps I.bk
theorem Inv.lt (I:Inv X pins σ H s):X.env.locals<s.heap.objs.size:=let ⟨_,hn,_⟩:=I.loc;hn.lt
theorem Inv.sz (I:Inv X pins σ H s):X.s₀.heap.objs.size≤s.heap.objs.size:=Nat.le_trans I.ok.above (Nat.le_of_lt I.lt)
theorem Inv.nofs (I:Inv X pins σ H s) {a:Addr} (h:s.heap.objs.size≤a):a∉X.fs:=fun hb=>by
 obtain ⟨_,o,ho,_⟩:=I.ok.funs.mem hb
 exact absurd (Nat.lt_of_lt_of_le (Heap.lt_size ho) (Nat.le_trans I.sz h)) (Nat.lt_irrefl _)
theorem Inv.cne (I:Inv X pins σ H s):∀ x c,X.env.cells.lookup x=some c→c≠X.env.locals:=fun x c e z=>by
 obtain ⟨v,o,ho,hd⟩:=I.cell x c e
 obtain ⟨m,⟨o',es,ep,ho',hd',_⟩,_⟩:=I.loc
 rw [z,ho'] at ho;cases ho;rw [hd'] at hd;cases hd
theorem Inv.funs (I:Inv X pins σ H s):s.heap.FunFrames X.base X.outer:=by
 have all:∀ (l:List Env),(∀ b∈frs l,b∈X.fs)→X.s₀.heap.FunFrames X.base l→s.heap.FunFrames X.base l:=by
  intro l
  induction l with
  | nil=>intro _ _;trivial
  | cons env r ih =>
   intro hs hl
   obtain ⟨hk,⟨L,o,hf,hn,ho,hd⟩,hr⟩:=hl
   have hL:L∈X.fs:=hs L (by unfold frs;rw [List.filterMap_cons,hf];exact List.mem_cons_self)
   obtain ⟨sl,e⟩:=I.base.slot L o ho (I.ok.frf L hL) hL fun z=>I.ok.exfs L z hL
   exact ⟨hk,⟨L,_,hf,hn,e,hd⟩,ih (fun b hb=>hs b (by unfold frs;rw [List.filterMap_cons,hf];exact List.mem_cons_of_mem _ hb)) hr⟩
 exact all X.outer (fun _ hb=>hb) I.ok.funs
theorem Inv.stack (I:Inv X pins σ H s):s.heap.FunFrames X.base X.stack:=by
 rcases I.ok.stk with e | ⟨e,hf⟩
 ·rw [e];exact I.funs
 ·rw [e]
  obtain ⟨m,hn,_⟩:=I.loc
  refine .cons (by rw [I.ok.kind];decide) hf hn ?_ I.funs
  exact Heap.get?_none_of_le (Nat.le_trans I.ok.bsz I.ok.above)
theorem Inv.stkSub (I:Inv X pins σ H s):∀ b∈frs X.stack,b∈X.env.locals::X.fs:=fun b hb=>by
 rcases I.ok.stk with e | ⟨e,hf⟩
 ·rw [e] at hb;exact List.mem_cons_of_mem _ hb
 ·rw [e] at hb
  unfold frs at hb
  rw [List.filterMap_cons,hf] at hb
  exact hb
theorem Inv.stkFree (I:Inv X pins σ H s):∀ b∈frs X.stack,H b=none:=fun b hb=>by
 rcases List.mem_cons.mp (I.stkSub b hb) with e | hb
 ·rw [e];exact I.free
 ·obtain ⟨_,o,ho,_⟩:=I.ok.funs.mem hb
  exact I.base.free b o ho (I.ok.frf b hb) fun z=>I.ok.exfs b z hb
theorem Inv.step {g':Array GenState} {t':Nat} {d':Drawn} {ch:List Addr} (I:Inv X pins σ H s)
  (hch:∀ b∈ch,(b∈X.ex∨X.s₀.heap.objs.size≤b)∧b≠X.env.locals∧(∀ x c,X.env.cells.lookup x=some c→c≠b)∧∀ p∈X.pn++pins,p.1≠b)
  (keep:∀ b o,b≠X.env.locals→b∉X.fs→b∉ch→s.heap.get? b=some o→H b=none→h'.get? b=some o)
  (slot:∀ b o,b≠X.env.locals→b∈X.fs→b∉ch→s.heap.get? b=some o→H b=none→∃ sl,h'.get? b=some { o with slots:=sl }) (free:∀ b o,b∉ch→s.heap.get? b=some o→H b=none→H' b=none)
  (there:∀ b o,b∉ch→s.heap.get? b=some o→∃ o',h'.get? b=some o')
  (tups:∀ b xs,H b=some (.tup xs)→H' b=some (.tup xs)) (frzs:∀ b o u,H b=some (.frz o u)→H' b=some (.frz o u)) (tbls:∀ b ps,H b=some (.tbl ps)→∃ more,H' b=some (.tbl (ps++more)))
  (ns:∀ m,s.heap.Ns X.env.locals m→h'.Ns X.env.locals m) (hok:HOk X.prog X.w H' h') (hg:AllBare g') :
  Inv X pins σ H' { s with heap:=h',gens:=g',drawn:=d',toks:=t' }:=by
 have neL:∀ b o,X.s₀.heap.get? b=some o→b≠X.env.locals:=fun b o e=>Nat.ne_of_lt (Nat.lt_of_lt_of_le (Heap.lt_size e) I.ok.above)
 have neC:∀ b o,X.s₀.heap.get? b=some o→b∉X.ex→b∉ch:=fun b o e hx hb=>by
  rcases (hch b hb).1 with z | z
  ·exact hx z
  ·exact absurd (Nat.lt_of_lt_of_le (Heap.lt_size e) z) (Nat.lt_irrefl _)
 have cellK:∀ x c,X.env.cells.lookup x=some c→∀ v,s.heap.IsCell c v→h'.IsCell c v:=fun x c e v ⟨o,ho,hd⟩=>by
  have nch:c∉ch:=fun z=>(hch c z).2.2.1 x c e rfl
  by_cases hc:c∈X.fs
  ·obtain ⟨sl,q⟩:=slot c o (I.cne x c e) hc nch ho (I.freeC x c e)
   exact ⟨_,q,hd⟩
  ·exact ⟨o,keep c o (I.cne x c e) hc nch ho (I.freeC x c e),hd⟩
 refine ⟨I.ok,I.os,hg,⟨fun b o e n hb hx=>?_,fun b o e n hb hx=>?_,fun b o e n hx=>?_,fun b o e hx=>?_,fun b xs e=>tups b xs (I.base.tups b xs e),fun b o xs e=>frzs b o xs (I.base.frzs b o xs e),fun b ps e=>?_⟩,?_,fun x c e=>?_,?_,fun x c e=>?_,fun p hp=>?_,hok,I.len⟩
 ·exact keep b o (neL b o e) hb (neC b o e hx) (I.base.keep b o e n hb hx) (I.base.free b o e n hx)
 ·obtain ⟨sl,e1⟩:=I.base.slot b o e n hb hx
  obtain ⟨sl',e2⟩:=slot b _ (neL b o e) hb (neC b o e hx) e1 (I.base.free b o e n hx)
  exact ⟨sl',e2⟩
 ·obtain ⟨o',e1⟩:=I.base.there b o e hx
  exact free b o' (neC b o e hx) e1 (I.base.free b o e n hx)
 ·obtain ⟨o',e1⟩:=I.base.there b o e hx
  exact there b o' (neC b o e hx) e1
 ·obtain ⟨m1,e1⟩:=I.base.tbls b ps e
  obtain ⟨m2,e2⟩:=tbls b _ e1
  exact ⟨m1++m2,by rw [e2,Array.append_assoc]⟩
 ·obtain ⟨m,hn,hl⟩:=I.loc
  refine ⟨m,ns m hn,fun i x v e1 e2 e3=>?_⟩
  obtain ⟨u,r,l⟩:=hl i x v e1 e2 e3
  refine ⟨u,r,?_⟩
  rcases l with l | ⟨k,c,e,z⟩
  ·exact .inl l
  ·exact .inr ⟨k,c,e,cellK x c e _ z⟩
 ·obtain ⟨v,z⟩:=I.cell x c e
  exact ⟨v,cellK x c e v z⟩
 ·obtain ⟨m,⟨o,_,_,ho,_⟩,_⟩:=I.loc
  exact free _ o (fun z=>(hch _ z).2.1 rfl) ho I.free
 ·obtain ⟨v,o,ho,hd⟩:=I.cell x c e
  exact free c o (fun z=>(hch c z).2.2.1 x c e rfl) ho (I.freeC x c e)
 ·obtain ⟨e,n,ne,nf,d⟩:=I.pin p hp
  have nch:p.1∉ch:=fun z=>(hch p.1 z).2.2.2 p hp rfl
  exact ⟨keep p.1 p.2 ne nf nch e n,free p.1 p.2 nch e n,ne,nf,d⟩
theorem Inv.un {t':Nat} (I:Inv X pins σ H s) (u:Un X.fs [] H H' s.heap h') (hok:HOk X.prog X.w H' h'):Inv X pins σ H' { s with heap:=h',toks:=t' }:=by
 obtain ⟨m,⟨o,es,ep,ho,r⟩,_⟩:=id I.loc
 obtain ⟨sl,hL⟩:=u.any ho I.free (by simp)
 exact I.step (g':=s.gens) (d':=s.drawn) (ch:=[]) (fun _ z=>nomatch z) (fun b o _ hb _ e n=>u.keep b o e n hb (by simp)) (fun b o _ hb _ e n=>u.slot b o e n hb (by simp)) (fun b o _ e n=>u.free b o e n (by simp)) (fun b o _ e=>u.there b o e (by simp)) u.tups u.frzs u.tbls (fun m' hm=>by
  obtain ⟨o',es',ep',ho',r'⟩:=hm
  rw [ho] at ho';cases ho'
  exact ⟨_,es',ep',hL,r'⟩) hok I.bare
theorem Inv.call {g':Array GenState} {t':Nat} {d':Drawn} {ch:List Addr} (I:Inv X pins σ H s) (u:Un (frs X.stack) ch H H' s.heap h') (hok:HOk X.prog X.w H' h') (hg:AllBare g')
  (hch:∀ b∈ch,(b∈X.ex∨X.s₀.heap.objs.size≤b)∧b≠X.env.locals∧(∀ x c,X.env.cells.lookup x=some c→c≠b)∧∀ p∈X.pn++pins,p.1≠b) :
  Inv X pins σ H' { s with heap:=h',gens:=g',drawn:=d',toks:=t' }:=by
 obtain ⟨m,⟨o,es,ep,ho,r⟩,_⟩:=id I.loc
 obtain ⟨sl,hL⟩:=u.any ho I.free fun z=>(hch _ z).2.1 rfl
 exact I.step (ch:=ch) hch (fun b o hL hb hc e n=>u.keep b o e n (fun z=>(List.mem_cons.mp (I.stkSub b z)).elim hL hb) hc) (fun b o _ _ hc e n=>u.any e n hc) (fun b o hc e n=>u.free b o e n hc) (fun b o hc e=>u.there b o e hc) u.tups u.frzs u.tbls (fun m' hm=>by
  obtain ⟨o',es',ep',ho',r'⟩:=hm
  rw [ho] at ho';cases ho'
  exact ⟨_,es',ep',hL,r'⟩) hok hg
theorem Inv.turned {t':Nat} {it:Addr} (I:Inv X pins σ H s) (k:∀ b o,b≠it→s.heap.get? b=some o→h'.get? b=some o) (hn:H it=none) (hL:it≠X.env.locals)
  (h1:it∈X.ex∨X.s₀.heap.objs.size≤it) (h2:∀ x c,X.env.cells.lookup x=some c→c≠it) (h3:∀ p∈X.pn++pins,p.1≠it):Inv X pins σ H { s with heap:=h',toks:=t' }:=by
 have nit:∀ b u,H b=some u→b≠it:=fun b u e z=>by rw [z,hn] at e;cases e
 refine I.step (g':=s.gens) (d':=s.drawn) (ch:=[it]) (fun b hb=>?_) (fun b o _ _ hc e _=>k b o (fun z=>hc (by simp [z])) e) (fun b o _ _ hc e _=>⟨o.slots,k b o (fun z=>hc (by simp [z])) e⟩) (fun _ _ _ _ n=>n)
  (fun b o hc e=>⟨o,k b o (fun z=>hc (by simp [z])) e⟩) (fun _ _ e=>e) (fun _ _ _ e=>e) (fun b ps e=>⟨#[],by rw [e];simp⟩) (fun m hm=>?_) (fun b u e=>?_) I.bare
 ·have e:b=it:=by simpa using hb
  subst e
  exact ⟨h1,hL,h2,h3⟩
 ·obtain ⟨o,es,ep,ho,r⟩:=hm
  exact ⟨o,es,ep,k _ o (Ne.symm hL) ho,r⟩
 ·refine (I.hok b u e).stay (fun c v hc q=>k c v ?_ q) (fun _ q=>q) fun _ _ q=>q
  rcases hc with z | z
  ·rw [z];exact nit b u e
  ·exact nit c _ z
theorem Inv.tok (I:Inv X pins σ H s) (t:Nat):Inv X pins σ H { s with toks:=t }:=I.un (h':=s.heap) (t':=t) Un.refl I.hok
theorem Inv.kept {t':Nat} (I:Inv X pins σ H s) (k:∀ b u,s.heap.get? b=some u→h'.get? b=some u):Inv X pins σ H { s with heap:=h',toks:=t' }:=I.un (Un.kept k) (I.hok.kept k)
theorem Inv.laid {a:Addr} {o:HO} {t':Nat} (I:Inv X pins σ H s) (k:∀ b u,s.heap.get? b=some u→h'.get? b=some u) (hp:s.heap.objs.size≤a) (new:zbH X.prog X.w (upd H a o) h' a o) :
  Inv X pins σ (upd H a o) { s with heap:=h',toks:=t' }:=I.un (Un.laid k hp (I.hok.fresh hp)) (I.hok.laid k hp new)
theorem Inv.write {x e:Addr} {o:HO} {t':Nat} (I:Inv X pins σ H s) (mu:Mut (H x)) (he:e=x∨H e=some (.own x)) (k:∀ b u,b≠e→s.heap.get? b=some u→h'.get? b=some u) (heo:∃ u,h'.get? e=some u)
  (new:zbH X.prog X.w (upd H x o) h' x o):Inv X pins σ (upd H x o) { s with heap:=h',toks:=t' }:=I.un (Un.write mu he k heo) (I.hok.write mu he k heo new)
theorem Inv.pins_of {pins':List (Addr×Obj)} (I:Inv X pins σ H s) (h:∀ p∈pins',s.heap.get? p.1=some p.2∧H p.1=none∧p.1≠X.env.locals∧p.1∉X.fs∧∀ v,p.2.data≠.cell v):Inv X pins' σ H s :=
 ⟨I.ok,I.os,I.bare,I.base,I.loc,I.cell,I.free,I.freeC,fun p hp=>(List.mem_append.mp hp).elim (fun z=>I.pin p (List.mem_append_left _ z)) (h p),I.hok,I.len⟩
theorem zi9 {N:List Str} (hN:N.Nodup) {i j:Nat} {x:Str} (a:N[i]?=some x) (b:N[j]?=some x):i=j:=by
 obtain ⟨h1,e1⟩:=List.getElem?_eq_some_iff.mp a
 obtain ⟨h2,e2⟩:=List.getElem?_eq_some_iff.mp b
 exact (List.getElem_inj hN).mp (e1.trans e2.symm)
theorem zjd {M:Model} {A:Around} {E:Value→Shared→Prop} {i:Nat} {x:Str} {v:V} {u:Value} {Q:Unit→Shared→Prop} (I:Inv X pins σ H s) (hN:X.N.Nodup) (hi:X.N[i]?=some x) (hx:Loc X.env.scope x) (r:zca v u)
  (h:∀ s',Inv X pins (σ.set i (some v)) H s'→(∃ a,Heap.SameBut a s.heap s'.heap∧(a=X.env.locals∨X.env.cells.lookup x=some a))→Q () s') (hf:X.fn x=true∨X.env.scope.names.lookup x=some .local:=by first | exact .inl rfl | exact .inr rfl | assumption):wpAny M A (storeName X.env x u) Q E s:=by
 obtain ⟨m,hn,hl⟩:=id I.loc
 have hcls:(X.env.scope.kind == .class || (X.env.scope.kind == .module&&X.env.locals != X.env.globals))=false:=by rw [I.ok.kind];rfl
 have hiσ:i<σ.length:=by rw [I.len];exact (List.getElem?_eq_some_iff.mp hi).1
 have cne:=I.cne
 have tracked:∀ {a:Addr} {h':Heap},(∃ o,s.heap.get? a=some o∧H a=none)→Heap.SameBut a s.heap h'→HOk X.prog X.w H h':=fun {a h'} ha hs b ob e=>by
  obtain ⟨_,_,hfree⟩:=ha
  refine (I.hok b ob e).stay (fun c w' hc q=>(hs.2 c ?_).trans q) (fun _ q=>q) fun _ _ q=>q
  rintro rfl
  rcases hc with rfl | hc
  ·rw [hfree] at e;cases e
  ·rw [hfree] at hc;cases hc
 rcases hx with hk | hk
 ·refine wpAny_storeName_local hk hn (fun h' hn' hs=>?_) hcls
  obtain ⟨oL,_,_,hoL,_⟩:=id hn
  refine h _ ⟨I.ok,I.os,I.bare,⟨fun b o e n hb hx=>?_,fun b o e n hb hx=>?_,I.base.free,fun b o e hx=>?_,I.base.tups,I.base.frzs,I.base.tbls⟩,⟨_,hn',fun j y v' e1 e2 e3=>?_⟩,fun y c e=>?_,I.free,I.freeC,fun p hp=>?_,tracked ⟨oL,hoL,I.free⟩ hs,by simpa using I.len⟩ ⟨_,hs,.inl rfl⟩
  ·exact (hs.2 b (Nat.ne_of_lt (Nat.lt_of_lt_of_le (Heap.lt_size e) I.ok.above))).trans (I.base.keep b o e n hb hx)
  ·obtain ⟨sl,e1⟩:=I.base.slot b o e n hb hx
   exact ⟨sl,(hs.2 b (Nat.ne_of_lt (Nat.lt_of_lt_of_le (Heap.lt_size e) I.ok.above))).trans e1⟩
  ·obtain ⟨o',e1⟩:=I.base.there b o e hx
   exact ⟨o',(hs.2 b (Nat.ne_of_lt (Nat.lt_of_lt_of_le (Heap.lt_size e) I.ok.above))).trans e1⟩
  ·by_cases hj:j=i
   ·subst hj
    rw [hi] at e1;cases e1
    rw [List.getElem?_set_self hiσ] at e2
    cases e2
    exact ⟨u,r,.inl ⟨hk,by simp⟩⟩
   ·rw [List.getElem?_set_ne (Ne.symm hj)] at e2
    obtain ⟨u',r',q⟩:=hl j y v' e1 e2 e3
    refine ⟨u',r',?_⟩
    rcases q with ⟨k,e⟩ | ⟨k,c,e,z⟩
    ·refine .inl ⟨k,?_⟩
     have:y≠x:=fun e=>hj (zi9 hN e1 (e ▸ hi))
     simp [this,e]
    ·exact .inr ⟨k,c,e,z.sameBut hs (cne y c e)⟩
  ·obtain ⟨w',z⟩:=I.cell y c e
   exact ⟨w',z.sameBut hs (cne y c e)⟩
  ·obtain ⟨e,n,ne,nf,d⟩:=I.pin p hp
   exact ⟨(hs.2 p.1 ne).trans e,n,ne,nf,d⟩
 ·have hfn:X.fn x=true:=by
   rcases hf with z | z
   ·exact z
   ·rw [z] at hk;cases hk
  obtain ⟨c,hc⟩:=I.ok.has x (.inl hk)
  obtain ⟨w',z⟩:=I.cell x c hc
  refine wpAny_storeName_cell I.ok.kind hk hc z (fun h' hc' hs=>?_)
  obtain ⟨oc,hoc,hocd⟩:=id z
  refine h { s with heap:=h' } ⟨I.ok,I.os,I.bare,⟨fun b o e n hb hx=>?_,fun b o e n hb hx=>?_,I.base.free,fun b o e hx=>?_,I.base.tups,I.base.frzs,I.base.tbls⟩,⟨m,hn.sameBut hs (Ne.symm (cne x c hc)),fun j y v' e1 e2 e3=>?_⟩,fun y c' e=>?_,I.free,I.freeC,fun p hp=>?_,tracked ⟨oc,hoc,I.freeC x c hc⟩ hs,by simpa using I.len⟩ ⟨c,hs,.inr hc⟩
  ·exact (hs.2 b (Nat.ne_of_lt (Nat.lt_of_lt_of_le (Heap.lt_size e) (I.ok.cab x c hfn hc)))).trans (I.base.keep b o e n hb hx)
  ·obtain ⟨sl,e1⟩:=I.base.slot b o e n hb hx
   exact ⟨sl,(hs.2 b (Nat.ne_of_lt (Nat.lt_of_lt_of_le (Heap.lt_size e) (I.ok.cab x c hfn hc)))).trans e1⟩
  ·obtain ⟨o',e1⟩:=I.base.there b o e hx
   exact ⟨o',(hs.2 b (Nat.ne_of_lt (Nat.lt_of_lt_of_le (Heap.lt_size e) (I.ok.cab x c hfn hc)))).trans e1⟩
  ·by_cases hj:j=i
   ·subst hj
    rw [hi] at e1;cases e1
    rw [List.getElem?_set_self hiσ] at e2
    cases e2
    exact ⟨u,r,.inr ⟨.inl hk,c,hc,hc'⟩⟩
   ·rw [List.getElem?_set_ne (Ne.symm hj)] at e2
    obtain ⟨u',r',q⟩:=hl j y v' e1 e2 e3
    refine ⟨u',r',?_⟩
    rcases q with q | ⟨k,c',e,z'⟩
    ·exact .inl q
    ·refine .inr ⟨k,c',e,z'.sameBut hs ?_⟩
     rintro rfl
     exact hj (zi9 hN e1 (I.ok.inj _ _ _ e hc ▸ hi))
  ·by_cases hcc:c'=c
   ·subst hcc;exact ⟨_,hc'⟩
   ·obtain ⟨w2,z2⟩:=I.cell y c' e
    exact ⟨w2,z2.sameBut hs hcc⟩
  ·obtain ⟨e,n,ne,nf,d⟩:=I.pin p hp
   refine ⟨(hs.2 p.1 ?_).trans e,n,ne,nf,d⟩
   intro q
   rw [q,hoc] at e
   have q':oc=p.2:=Option.some.inj e
   exact d w' (by rw [← q'];exact hocd)
theorem zga {M:Model} {A:Around} {E:Value→Shared→Prop} {i:Nat} {x:Str} {v:V} {u:Value} {Q:Unit→Shared→Prop} (I:Inv X pins σ H s) (hN:X.N.Nodup) (hi:X.N[i]?=some x) (hx:Loc X.env.scope x) (r:zca v u)
  (h:∀ s',Inv X pins (σ.set i (some v)) H s'→Q () s') (hf:X.fn x=true∨X.env.scope.names.lookup x=some .local:=by first | exact .inl rfl | exact .inr rfl | assumption):wpAny M A (storeName X.env x u) Q E s :=
 zjd I hN hi hx r (fun s' I' _=>h s' I') hf
theorem Inv.call' {s':Shared} {ch:List Addr} (I:Inv X pins σ H s) (ho:s'.os=s.os) (u:Un (frs X.stack) ch H H' s.heap s'.heap) (hok:HOk X.prog X.w H' s'.heap) (hg:AllBare s'.gens)
  (hch:∀ b∈ch,(b∈X.ex∨X.s₀.heap.objs.size≤b)∧b≠X.env.locals∧(∀ x c,X.env.cells.lookup x=some c→c≠b)∧∀ p∈X.pn++pins,p.1≠b):Inv X pins σ H' s':=by
 obtain ⟨h',g',d',t',o'⟩:=s'
 have e:o'=s.os:=ho
 subst e
 exact I.call (g':=g') (t':=t') (d':=d') u hok hg hch
end
abbrev XK:=Value→Option Addr→Hp→Prop
abbrev St:=List (Option V)
abbrev VK:=V→Hp→Prop
abbrev TE:=St→Hp→VK→Prop
abbrev TT:=St→Hp→(Bool→Hp→Prop)→Prop
abbrev TA:=St→Hp→(List V→Hp→Prop)→Prop
structure zb9 where
 nx:St→Hp→Prop
 rt:VK
 bk:St→Hp→Prop:=fun _ _=>False
 ct:St→Hp→Prop:=fun _ _=>False
abbrev TS:=zb9→St→Hp→Prop
def EP (X:Cx) (pins:List (Addr×Obj)) (σ:St) (Q:VK) (u:Value) (s':Shared):Prop:=∃ v H',Inv X pins σ H' s'∧zca v u∧Q v H'
def TP (X:Cx) (pins:List (Addr×Obj)) (σ:St) (Q:Bool→Hp→Prop) (b:Bool) (s':Shared):Prop:=∃ H',Inv X pins σ H' s'∧Q b H'
def AP (X:Cx) (pins:List (Addr×Obj)) (σ:St) (Q:List V→Hp→Prop) (us:List Value) (s':Shared):Prop:=∃ vs H',Inv X pins σ H' s'∧zbZ vs us∧Q vs H'
def SP (X:Cx) (pins:List (Addr×Obj)) (D:zb9) (f:Flow) (s':Shared):Prop :=
 match f with
 | .next=>∃ σ' H',Inv X pins σ' H' s'∧D.nx σ' H'
 | .brk=>∃ σ' H',Inv X pins σ' H' s'∧D.bk σ' H'
 | .cont=>∃ σ' H',Inv X pins σ' H' s'∧D.ct σ' H'
 | .ret u=>∃ v σ' H',Inv X pins σ' H' s'∧zca v u∧D.rt v H'
def PE (X:Cx) (e:Expr) (t:TE):Prop :=
 ∀ (pins:List (Addr×Obj)) (s:Shared) (σ:St) (H:Hp) (Q:VK),Inv X pins σ H s→t σ H Q→wpAny (model X.prog X.w) X.A (eval e X.env) (EP X pins σ Q) X.xe s
def PT (X:Cx) (e:Expr) (t:TT):Prop :=
 ∀ (pins:List (Addr×Obj)) (s:Shared) (σ:St) (H:Hp) (Q:Bool→Hp→Prop),Inv X pins σ H s→t σ H Q→wpAny (model X.prog X.w) X.A (isTrue e X.env (eval e X.env)) (TP X pins σ Q) X.xe s
def PW (X:Cx) (e:Expr) (t:TT):Prop :=
 ∀ (whole:Sem Value) (pins:List (Addr×Obj)) (s:Shared) (σ:St) (H:Hp) (Q:Bool→Hp→Prop),Inv X pins σ H s→t σ H Q→wpAny (model X.prog X.w) X.A (isTrue e X.env whole) (TP X pins σ Q) X.xe s
theorem PW.pt {X:Cx} {e:Expr} {t:TT} (h:PW X e t):PT X e t:=h _
def PA (X:Cx) (es:List Expr) (t:TA):Prop :=
 ∀ (pos:Pos) (pins:List (Addr×Obj)) (s:Shared) (σ:St) (H:Hp) (Q:List V→Hp→Prop),Inv X pins σ H s→t σ H Q→wpAny (model X.prog X.w) X.A (spliced (backTo pos (starEach es X.env))) (AP X pins σ Q) X.xe s
def PS (X:Cx) (st:Stmt) (t:TS):Prop :=
 ∀ (pins:List (Addr×Obj)) (s:Shared) (σ:St) (H:Hp) (D:zb9),Inv X pins σ H s→t D σ H→wpAny (model X.prog X.w) X.A (exec st X.env) (SP X pins D) X.xe s
def PSs (X:Cx) (st:List Stmt) (t:TS):Prop :=
 ∀ (pins:List (Addr×Obj)) (s:Shared) (σ:St) (H:Hp) (D:zb9),Inv X pins σ H s→t D σ H→wpAny (model X.prog X.w) X.A (execs st X.env) (SP X pins D) X.xe s
theorem thn {α:Type} {t:Sem α} {Q Q':α→Shared→Prop} {M:Model} {A:Around} {E:Value→Shared→Prop} {s:Shared} (h:wpAny M A t Q E s) (hQ:∀ a s,Q a s→Q' a s):wpAny M A t Q' E s:=wpAny_mono h hQ fun _ _ x=>x
end L2
namespace L2
open PySem PySem.Spec PyProof.Rows
section
variable {X:Cx}
def zac (i:Nat):TE:=fun σ H Q=>∃ v,σ[i]?=some (some v)∧Q v H
def tC (v:V):TE:=fun _ H Q=>Q v H
theorem znk {i:Nat} {x:Str} {pos:Pos} (hN:X.N[i]?=some x) (hv:Vis X.env.scope x) (hd:(x == ("__debug__":Str))=false:=by decide) (hcd:(x == ("__classdict__":Str))=false:=by decide):PE X (.Name x pos) (zac i):=by
 intro pins s σ H Q I h
 obtain ⟨v,e,h⟩:=h
 obtain ⟨m,hn,hl⟩:=I.loc
 obtain ⟨u,r,l⟩:=hl i x v hN e hv
 have fin:EP X pins σ Q u s:=⟨v,H,I,r,h⟩
 rcases l with ⟨hk,hm⟩ | ⟨hk,c,hc,hcell⟩
 ·exact wpAny_Name (wpAny_loadName_local I.ok.kind hk hn hm fin) hd
 ·rcases hk with hk | hk
  ·exact wpAny_Name (wpAny_loadName_cell I.ok.kind hk hc hcell fin) hd
  ·exact wpAny_Name (wpAny_loadName_free I.ok.kind hk hc hcell fin hcd) hd
theorem zak {i j pos}:PE X (.Constant (.int i) j pos) (tC (.int i)):=fun _ _ _ H _ I h=>wpAny_Constant_int ⟨.int i,H,I.tok _,⟨_,rfl⟩,h⟩
theorem zgE {b j pos}:PE X (.Constant (.bool b) j pos) (tC (.bl b)):=fun _ _ _ H _ I h=>Constant_bool ⟨.bl b,H,I,rfl,h⟩
theorem zbM {j pos}:PE X (.Constant .none j pos) (tC .non):=fun _ _ _ H _ I h=>Constant_none ⟨.non,H,I,rfl,h⟩
theorem zaR {x j pos}:PE X (.Constant (.str x) j pos) (tC (.str x)):=fun _ _ _ H _ I h=>Calls.Constant_str ⟨.str x,H,I.tok _,⟨_,rfl⟩,h⟩
def Gl (X:Cx) (x:Str):Prop:=X.env.kindOf x=some .globalImplicit
theorem zdg {E:Value→Shared→Prop} {pins:List (Addr×Obj)} {s:Shared} {σ:St} {H:Hp} {x:Str} {u:Value} {pos:Pos} {Q:Value→Shared→Prop} (I:Inv X pins σ H s) (hg:Gl X x) (hm:X.mg x=some u) (h:Q u s)
  (hd:(x == ("__debug__":Str))=false:=by decide):wpAny (model X.prog X.w) X.A (eval (.Name x pos) X.env) Q E s :=
 Calls.Name_function_global I.ok.kind hg (Calls.loadGlobal_global (by rw [I.ok.glob];exact I.mod.glob.keeps I.bk) hm h) hd
theorem zij {E:Value→Shared→Prop} {pins:List (Addr×Obj)} {s:Shared} {σ:St} {H:Hp} {x:Str} {u:Value} {pos:Pos} {Q:Value→Shared→Prop} (I:Inv X pins σ H s) (hg:Gl X x) (hm:X.mg x=none) (hv:bootBuiltins x=some u) (h:Q u s)
  (hn:x≠"__name__":=by decide) (hd:(x == ("__debug__":Str))=false:=by decide):wpAny (model X.prog X.w) X.A (eval (.Name x pos) X.env) Q E s:=by
 obtain ⟨mb,h1,h2⟩:=I.mod.blt
 exact Calls.Name_function_global I.ok.kind hg (Calls.loadGlobal_builtin (by rw [I.ok.glob];exact I.mod.glob.keeps I.bk) hm (by rw [I.ok.blt];exact h1.keeps I.bk) ((h2 x hn).trans hv) h) hd
theorem zbq {x:Str} {v:V} {u:Value} {pos:Pos} (hg:Gl X x) (hm:X.mg x=some u) (r:zca v u) (hd:(x == ("__debug__":Str))=false:=by decide):PE X (.Name x pos) (tC v) :=
 fun _ _ _ H _ I h=>zdg I hg hm ⟨v,H,I,r,h⟩ hd
theorem zbS {x:Str} {v:V} {u:Value} {pos:Pos} (hg:Gl X x) (hm:X.mg x=none) (hv:bootBuiltins x=some u) (r:zca v u) (hn:x≠"__name__":=by decide) (hd:(x == ("__debug__":Str))=false:=by decide):PE X (.Name x pos) (tC v) :=
 fun _ _ _ H _ I h=>zij I hg hm hv ⟨v,H,I,r,h⟩ hn hd
variable {a b:Expr} {ta tb:TE} {pos:Pos}
def PC (X:Cx) (op:CmpOp) (a b:Expr) (t:TE):Prop :=
 ∀ (pins:List (Addr×Obj)) (s:Shared) (σ:St) (H:Hp) (Q:VK),Inv X pins σ H s→t σ H Q →
  wpAny (model X.prog X.w) X.A (eval a X.env) (fun v s₁=>wpAny (model X.prog X.w) X.A (eval b X.env) (fun u s₂=>wpAny (model X.prog X.w) X.A (compareOp op v u) (EP X pins σ Q) X.xe s₂) X.xe s₁) X.xe s
def tB (t:TE):TT:=fun σ H Q=>t σ H fun x H1=>∃ c,x=.bl c∧Q c H1
theorem zrQ {op:CmpOp} {t:TE} (h:PC X op a b t) (h1:behindInMarks op b=false:=by first | exact nobehind _ (by decide) (by decide) | rfl):PT X (.Compare a [op] [b] pos) (tB t):=by
 intro pins s σ H Q I hw
 refine wpAny_isTrue_Compare1 (thn (h pins s σ H _ I hw) fun v s1 h1=>thn h1 fun u s2 h2=>thn h2 fun c s3 hQ'=>?_) h1
 obtain ⟨x,H1,I1,r1,q1⟩:=hQ'
 obtain ⟨d,rfl,q⟩:=q1
 cases r1
 exact wpAny_truthy_bool ⟨H1,I1,q⟩
theorem zcz {e:Expr} {t:TE} (h:PE X e t) (he:∀ whole,isTrue e X.env whole=(do let v ← whole;standAt e.pos;holding [v] (truthy v)):=by intro _;rfl):PT X e (tB t):=by
 intro pins s σ H Q I hw
 refine isTrue_plain (thn (h pins s σ H _ I hw) fun v s1 hQ'=>?_) (he _)
 obtain ⟨x,H1,I1,r1,q1⟩:=hQ'
 obtain ⟨d,rfl,q⟩:=q1
 cases r1
 exact wpAny_truthy_bool ⟨H1,I1,q⟩
variable {tA tB':TT} {zkk:List Expr}
def zt2 (t u:TT):TT:=fun σ H Q=>t σ H fun c H1=>if c=true then u σ H1 Q else Q false H1
def tOr (t u:TT):TT:=fun σ H Q=>t σ H fun c H1=>if c=true then Q true H1 else u σ H1 Q
def zfj (t:TT):TT:=fun σ H Q=>t σ H fun c H1=>Q (!c) H1
theorem zkA (ha:PT X a tA):PW X (.BoolOp .And [a] pos) tA:=by
 intro wh pins s σ H Q I h
 refine isTrue_and (thn (ha pins s σ H Q I h) fun c s1 e=>?_)
 cases c with
 | true=>exact isTrue_and_nil e
 | false=>exact e
theorem zcV (ha:PT X a tA):PW X (.BoolOp .Or [a] pos) tA:=by
 intro wh pins s σ H Q I h
 refine isTrue_or (thn (ha pins s σ H Q I h) fun c s1 e=>?_)
 cases c with
 | false=>exact isTrue_or_nil e
 | true=>exact e
theorem znV (ha:PT X a tA) (hb:PW X (.BoolOp .And (b::zkk) pos) tB'):PW X (.BoolOp .And (a::b::zkk) pos) (zt2 tA tB'):=by
 intro wh pins s σ H Q I h
 refine isTrue_and (thn (ha pins s σ H _ I h) fun c s1 hQ'=>?_)
 obtain ⟨H1,I1,q1⟩:=hQ'
 cases c with
 | true=>exact hb wh pins s1 σ H1 Q I1 q1
 | false=>exact ⟨H1,I1,q1⟩
theorem zdO (ha:PT X a tA) (hb:PW X (.BoolOp .Or (b::zkk) pos) tB'):PW X (.BoolOp .Or (a::b::zkk) pos) (tOr tA tB'):=by
 intro wh pins s σ H Q I h
 refine isTrue_or (thn (ha pins s σ H _ I h) fun c s1 hQ'=>?_)
 obtain ⟨H1,I1,q1⟩:=hQ'
 cases c with
 | true=>exact ⟨H1,I1,q1⟩
 | false=>exact hb wh pins s1 σ H1 Q I1 q1
theorem zcX (ha:PT X a tA):PT X (.UnaryOp .Not a pos) (zfj tA):=by
 intro pins s σ H Q I h
 exact isTrue_not (ha pins s σ H (fun c H1=>Q (!c) H1) I h)
def zcE (ta tb:TE):TE:=fun σ H Q=>ta σ H fun x H1=>∃ c,x=.bl c∧if c=true then tb σ H1 Q else Q (.bl false) H1
def zoo (ta:TE):TE:=fun σ H Q=>ta σ H fun x H1=>∃ c,x=.bl c∧Q (.bl (!c)) H1
theorem zen {op} {t:TE} (h:PE X a t):PE X (.BoolOp op [a] pos) t:=fun pins s σ H Q I hw=>BoolOp_one (h pins s σ H Q I hw)
theorem zdc (ha:PE X a ta) (hb:PE X (.BoolOp .And (b::zkk) pos) tb):PE X (.BoolOp .And (a::b::zkk) pos) (zcE ta tb):=by
 intro pins s σ H Q I h
 refine BoolOp_and (thn (ha pins s σ H _ I h) fun v s1 hQ'=>?_)
 obtain ⟨x,H1,I1,r1,q1⟩:=hQ'
 obtain ⟨c,rfl,q1⟩:=q1
 cases r1
 refine wpAny_truthy_bool ?_
 cases c with
 | true=>exact hb pins s1 σ H1 Q I1 q1
 | false=>exact ⟨.bl false,H1,I1,rfl,q1⟩
theorem zrz (ha:PE X a ta):PE X (.UnaryOp .Not a pos) (zoo ta):=by
 intro pins s σ H Q I h
 refine UnaryOp_ (thn (ha pins s σ H _ I h) fun v s1 hQ'=>?_)
 obtain ⟨x,H1,I1,r1,q1⟩:=hQ'
 obtain ⟨c,rfl,q1⟩:=q1
 cases r1
 exact not_of (wpAny_truthy_bool ⟨.bl (!c),H1,I1,rfl,q1⟩)
def tIf (t:TT) (ta tb:TE):TE:=fun σ H Q=>t σ H fun c H1=>if c=true then ta σ H1 Q else tb σ H1 Q
theorem zdp {c:Expr} (hc:PT X c tA) (ha:PE X a ta) (hb:PE X b tb):PE X (.IfExp c a b pos) (tIf tA ta tb):=by
 intro pins s σ H Q I h
 refine wpAny_IfExp (thn (hc pins s σ H _ I h) fun d s1 hQ'=>?_)
 obtain ⟨H1,I1,q1⟩:=hQ'
 cases d with
 | true=>exact ha pins s1 σ H1 Q I1 q1
 | false=>exact hb pins s1 σ H1 Q I1 q1
end
end L2
namespace L2
open PySem PySem.Spec PyProof.Rows
def SqL (K:PySem.W.Frag) (H:Hp) (a:Addr) (xs:List V):Prop :=
 Rd H a (.lst xs) ∨
  ∃ (o:Obj) (its:Array Value) (n:Nat),K.lookup a=some o∧o.cls=.type "list"∧o.dict=none∧o.data=.seq its n∧its.size≤sizeLine∧zbZ xs its.toList
def SqT (K:PySem.W.Frag) (H:Hp) (a:Addr) (xs:List V):Prop :=
 Rd H a (.tup xs) ∨
  ∃ (o:Obj) (its:Array Value) (n:Nat),K.lookup a=some o∧o.cls=.type "tuple"∧o.data=.seq its n∧its.size≤sizeLine∧zbZ xs its.toList
def absV:Value→Option V
 | .none=>some .non
 | .bool b=>some (.bl b)
 | .int i _=>some (.int i)
 | .str x _=>some (.str x)
 | .bytes b _=>some (.byt b)
 | .float b _=>some (.flt b)
 | .ref a=>some (.ref a)
 | .type n=>some (.ty n)
 | _=>none
theorem zca.abs {x:V} {u:Value} (r:zca x u):absV u=some x:=by
 cases x with
 | non=>cases r;rfl
 | bl _=>cases r;rfl
 | int _=>obtain ⟨t,rfl⟩:=r;rfl
 | str _=>obtain ⟨t,rfl⟩:=r;rfl
 | byt _=>obtain ⟨t,rfl⟩:=r;rfl
 | flt _=>obtain ⟨t,rfl⟩:=r;rfl
 | ref _=>cases r;rfl
 | ty _=>cases r;rfl
theorem zca.inj {x y:V} {u:Value} (r:zca x u) (q:zca y u):x=y:=Option.some.inj (r.abs.symm.trans q.abs)
theorem zbZ.inj:∀ {xs ys:List V} {us:List Value},zbZ xs us→zbZ ys us→xs=ys
 | _,_,_,.nil,.nil=>rfl
 | _,_,_,.cons r t,.cons r' t'=>by rw [r.inj r',zbZ.inj t t']
section
variable {X:Cx} {pins:List (Addr×Obj)} {σ:St} {H:Hp} {s:Shared} {a:Addr} {xs ys:List V}
theorem SqL.of {K:PySem.W.Frag} (h:H a=some (.lst xs)):SqL K H a xs:=.inl (.inl h)
theorem SqT.of {K:PySem.W.Frag} (h:H a=some (.tup xs)):SqT K H a xs:=.inl (.inl h)
theorem Inv.list (I:Inv X pins σ H s) (h:SqL X.K H a xs):∃ its:List Value,zbZ xs its∧PlainL s.heap a its.toArray∧xs.length≤sizeLine:=by
 rcases h with h | ⟨o,its,n,hk,hc,hd,hs,hz,r⟩
 ·obtain ⟨z,its,n,r,e⟩:=h.ok I.hok
  exact ⟨its,r,⟨_,n,e,rfl,rfl,rfl⟩,z⟩
 ·refine ⟨its.toList,r,⟨o,n,I.kIn a o hk,hc,hd,by simpa using hs⟩,?_⟩
  have e:=r.length
  simp only [Array.length_toList] at e
  (first|lia|omega)
theorem Inv.tuple (I:Inv X pins σ H s) (h:SqT X.K H a xs):∃ its:List Value,zbZ xs its∧IsTup s.heap a its.toArray∧xs.length≤sizeLine:=by
 rcases h with h | ⟨o,its,n,hk,hc,hs,hz,r⟩
 ·obtain ⟨z,its,r,p⟩:=h.ok I.hok
  exact ⟨its,r,p,z⟩
 ·refine ⟨its.toList,r,⟨o,I.kIn a o hk,hc,n,by simpa using hs⟩,?_⟩
  have e:=r.length
  simp only [Array.length_toList] at e
  (first|lia|omega)
theorem Inv.list_inj (I:Inv X pins σ H s) (h:SqL X.K H a xs) (h':SqL X.K H a ys):xs=ys:=by
 obtain ⟨its,r,⟨o,n,e,_,_,d⟩,_⟩:=I.list h
 obtain ⟨its',r',⟨o',n',e',_,_,d'⟩,_⟩:=I.list h'
 rw [e] at e';cases e'
 rw [d] at d'
 injection d' with d1 _
 have:its=its':=by simpa using congrArg Array.toList d1
 subst this
 exact r.inj r'
theorem Inv.tuple_inj (I:Inv X pins σ H s) (h:SqT X.K H a xs) (h':SqT X.K H a ys):xs=ys:=by
 obtain ⟨its,r,⟨o,e,_,n,d⟩,_⟩:=I.tuple h
 obtain ⟨its',r',⟨o',e',_,n',d'⟩,_⟩:=I.tuple h'
 rw [e] at e';cases e'
 rw [d] at d'
 injection d' with d1 _
 have:its=its':=by simpa using congrArg Array.toList d1
 subst this
 exact r.inj r'
end
abbrev Cx.wish (X:Cx) (E:Value→Shared→Prop):Cx:={ X with xe:=E }
abbrev Cx.nox (X:Cx):Cx:=X.wish fun _ _=>False
theorem Cx.Ok.wish {X:Cx} (ok:X.Ok) (E:Value→Shared→Prop):(X.wish E).Ok :=
 ⟨ok.mod,ok.kind,ok.glob,ok.blt,ok.above,ok.inj,ok.has,ok.cab,ok.hd,ok.frames,ok.stk,ok.exf,ok.bs,ok.bsz,ok.noex,ok.exfs,ok.funs,ok.frf⟩
theorem Cx.Ok.unwish {X:Cx} {E:Value→Shared→Prop} (ok:(X.wish E).Ok):X.Ok :=
 ⟨ok.mod,ok.kind,ok.glob,ok.blt,ok.above,ok.inj,ok.has,ok.cab,ok.hd,ok.frames,ok.stk,ok.exf,ok.bs,ok.bsz,ok.noex,ok.exfs,ok.funs,ok.frf⟩
section
variable {X:Cx} {pins:List (Addr×Obj)} {σ:St} {H:Hp} {s:Shared} {E:Value→Shared→Prop}
theorem Inv.wish (I:Inv X pins σ H s) (E:Value→Shared→Prop):Inv (X.wish E) pins σ H s:=⟨I.ok.wish E,I.os,I.bare,I.base,I.loc,I.cell,I.free,I.freeC,I.pin,I.hok,I.len⟩
theorem Inv.unwish (I:Inv (X.wish E) pins σ H s):Inv X pins σ H s:=⟨I.ok.unwish,I.os,I.bare,I.base,I.loc,I.cell,I.free,I.freeC,I.pin,I.hok,I.len⟩
theorem SP.unwish {D:zb9} {f:Flow} {s':Shared} (h:SP (X.wish E) pins D f s'):SP X pins D f s':=by
 cases f with
 | next=>obtain ⟨σ',H',I,q⟩:=h;exact ⟨σ',H',I.unwish,q⟩
 | brk=>obtain ⟨σ',H',I,q⟩:=h;exact ⟨σ',H',I.unwish,q⟩
 | cont=>obtain ⟨σ',H',I,q⟩:=h;exact ⟨σ',H',I.unwish,q⟩
 | ret u=>obtain ⟨v,σ',H',I,r,q⟩:=h;exact ⟨v,σ',H',I.unwish,r,q⟩
theorem PSs.nox {st:List Stmt} {t:TS} (h:PSs X.nox st t):PSs X st t:=fun pins s σ H D I hw =>
 wpAny_mono (h pins s σ H D (I.wish _) hw) (fun _ _ q=>q.unwish) fun _ _ z=>False.elim z
end
section
variable {X:Cx} {st:Stmt} {zkk:List Stmt} {t u:TS} {e:Expr} {te:TE} {pos:Pos}
def za4:TS:=fun D σ H=>D.nx σ H
def zaN (t u:TS):TS:=fun D σ H=>t { D with nx:=u D } σ H
theorem za0:PSs X [] za4:=fun _ _ σ H _ I h=>wpAny_execs_nil ⟨σ,H,I,h⟩
theorem zaf (h1:PS X st t) (h2:PSs X zkk u):PSs X (st::zkk) (zaN t u):=by
 intro pins s σ H D I h
 refine wpAny_execs_cons (thn (h1 pins s σ H { D with nx:=u D } I h) fun f s1 q=>?_)
 cases f with
 | next =>
  obtain ⟨σ',H',I',q⟩:=q
  exact h2 pins s1 σ' H' D I' q
 | ret v=>exact q
 | brk=>exact q
 | cont=>exact q
theorem zah (h1:PS X st t):PSs X [st] t:=by
 intro pins s σ H D I h
 refine wpAny_execs_cons (thn (h1 pins s σ H D I h) fun f s1 q=>?_)
 cases f with
 | next=>exact wpAny_execs_nil q
 | ret v=>exact q
 | brk=>exact q
 | cont=>exact q
theorem Inv.quiet {pins:List (Addr×Obj)} {σ:St} {H:Hp} {s:Shared} (I:Inv X pins σ H s):interactive X.env=false:=by simp [interactive,I.ok.kind]
def zc2 (te:TE):TS:=fun D σ H=>te σ H fun _ H1=>D.nx σ H1
theorem zco (he:PE X e te) (hs:swapsWith e none pos.line X.env=pure false:=by rfl):PS X (.Expr e pos) (zc2 te):=by
 intro pins s σ H D I h
 exact wpAny_Expr_any (thn (he pins s σ H _ I h) fun v s1 ⟨x,H1,I1,r1,q1⟩=>⟨σ,H1,I1,q1⟩) I.quiet hs
def zbV (te:TE):TS:=fun D σ H=>te σ H D.rt
theorem zaU (he:PE X e te):PS X (.Return (some e) pos) (zbV te):=by
 intro pins s σ H D I h
 exact wpAny_Return_some (thn (he pins s σ H _ I h) fun v s1 ⟨x,H1,I1,r1,q1⟩=>⟨x,σ,H1,I1,r1,q1⟩)
def zcb (c:TT) (t u:TS):TS:=fun D σ H=>c σ H fun b H1=>if b=true then t D σ H1 else u D σ H1
theorem zb2 {c:Expr} {a b:List Stmt} {tc:TT} (hc:PT X c tc) (ha:PSs X a t) (hb:PSs X b u):PS X (.If c a b pos) (zcb tc t u):=by
 intro pins s σ H D I h
 refine wpAny_If (thn (hc pins s σ H _ I h) fun d s1 hQ'=>?_)
 obtain ⟨H1,I1,q1⟩:=hQ'
 cases d with
 | true=>exact ha pins s1 σ H1 D I1 q1
 | false=>exact hb pins s1 σ H1 D I1 q1
end
abbrev TG:=V→St→Hp→(St→Hp→Prop)→Prop
abbrev TGs:=List V→St→Hp→(St→Hp→Prop)→Prop
def PG (X:Cx) (target:Expr) (t:TG):Prop :=
 ∀ (pins:List (Addr×Obj)) (s:Shared) (σ:St) (H:Hp) (v:V) (u:Value) (Q:St→Hp→Prop),Inv X pins σ H s→zca v u→t v σ H Q →
  wpAny (model X.prog X.w) X.A (assign target X.env u) (fun _ s'=>∃ σ' H',Inv X pins σ' H' s'∧Q σ' H') X.xe s
def PGs (X:Cx) (ts:List Expr) (t:TGs):Prop :=
 ∀ (pins:List (Addr×Obj)) (s:Shared) (σ:St) (H:Hp) (vs:List V) (us:List Value) (Q:St→Hp→Prop),Inv X pins σ H s→zbZ vs us→t vs σ H Q →
  wpAny (model X.prog X.w) X.A (assignInOrder ((assignEach ts X.env).map (·.2)) us) (fun _ s'=>∃ σ' H',Inv X pins σ' H' s'∧Q σ' H') X.xe s
section
variable {X:Cx} {pos:Pos}
def zat (i:Nat):TG:=fun v σ H Q=>Q (σ.set i (some v)) H
theorem zaT {i:Nat} {x:Str} (hN:X.N.Nodup) (hi:X.N[i]?=some x) (hx:Loc X.env.scope x) (hf:X.fn x=true∨X.env.scope.names.lookup x=some .local:=by first | exact .inl rfl | exact .inr rfl | assumption):PG X (.Name x pos) (zat i):=by
 intro pins s σ H v u Q I r h
 exact wpAny_assign_Name (zga I hN hi hx r (fun s' I'=>⟨_,H,I',h⟩) hf)
def zh4:TGs:=fun vs σ H Q=>vs=[]∧Q σ H
def zbI (t:TG) (u:TGs):TGs:=fun vs σ H Q=>∃ v r,vs=v::r∧t v σ H fun σ' H'=>u r σ' H' Q
theorem zcT:PGs X [] zh4:=by
 intro pins s σ H vs us Q I r h
 obtain ⟨e,h⟩:=h
 subst e
 cases r
 exact assignInOrder_nil ⟨σ,H,I,h⟩
theorem za2 {e:Expr} {es:List Expr} {t:TG} {u:TGs} (h1:PG X e t) (h2:PGs X es u)
  (hs:(assignEach (e::es) X.env).map (·.2)=assign e X.env::(assignEach es X.env).map (·.2):=by rfl):PGs X (e::es) (zbI t u):=by
 intro pins s σ H vs us Q I r h
 obtain ⟨v,vr,e1,h⟩:=h
 subst e1
 cases r with
 | cons r rr =>
  rw [hs]
  refine assignInOrder_cons (thn (h1 pins s σ H _ _ _ I r h) fun _ s1 hQ'=>?_)
  obtain ⟨σ1,H1,I1,q1⟩:=hQ'
  exact h2 pins s1 σ1 H1 _ _ Q I1 rr q1
def zic (K:PySem.W.Frag) (n:Nat) (t:TGs):TG:=fun v σ H Q=>∃ a xs,v=.ref a∧SqT K H a xs∧xs.length=n∧t xs σ H Q
theorem zef {es:List Expr} {k:Nat} {t:TGs} {n:Nat} (hc:X.calm=true) (h:PGs X es t)
  (hn:(assignEach es X.env).length=n:=by rfl) (hst:(assignEach es X.env).findIdx? (·.1)=none:=by rfl):PG X (.Tuple es k pos) (zic X.K n t):=by
 intro pins s σ H v u Q I r hw
 obtain ⟨a,xs,e1,hq,hl,hw⟩:=hw
 subst e1
 cases r
 obtain ⟨its,rv,ht,hz⟩:=I.tuple hq
 refine assign_Tuple_tuple (I.ok.hd hc) ht (by simp [hn,← hl,rv.length]) hst fun h' hx=>?_
 have I1:Inv X pins σ H { s with heap:=h' }:=I.kept (t':=s.toks) fun b o e=>hx b o (Nat.ne_of_lt (Heap.lt_size e)) e
 exact h pins _ σ H xs _ Q I1 (by simpa using rv) hw
def zbe (te:TE) (g:TG):TS:=fun D σ H=>te σ H fun x H1=>g x σ H1 D.nx
theorem znc {tg e:Expr} {te:TE} {g:TG} (he:PE X e te) (hg:PG X tg g) (hs:swapsWithSole [tg] e pos.line X.env=pure false:=by rfl) (hw:swappedStores [tg] e X.env=pure none:=by rfl)
  (h1:(assignEach [tg] X.env).map (·.2)=[assign tg X.env]:=by rfl):PS X (.Assign [tg] e pos) (zbe te g):=by
 intro pins s σ H D I h
 refine wpAny_Assign_stores (thn (he pins s σ H _ I h) fun v s1 hQ'=>?_) hs hw
 obtain ⟨x,H1,I1,r1,q1⟩:=hQ'
 rw [h1]
 exact thn (hg pins s1 σ H1 x v _ I1 r1 q1) fun _ s2 q=>q
theorem zaE {i:Nat} {x:Str} {e:Expr} {te:TE} {pos':Pos} (hN:X.N.Nodup) (hi:X.N[i]?=some x) (hx:Loc X.env.scope x) (he:PE X e te) (hs:swapsWith e (some (.Name x pos')) pos.line X.env=pure false:=by rfl) (hf:X.fn x=true∨X.env.scope.names.lookup x=some .local:=by first | exact .inl rfl | exact .inr rfl | assumption) :
  PS X (.Assign [.Name x pos'] e pos) (zbe te (zat i)):=by
 intro pins s σ H D I h
 refine wpAny_Assign_Name (thn (he pins s σ H _ I h) fun v s1 hQ'=>?_) hs
 obtain ⟨y,H1,I1,r1,q1⟩:=hQ'
 exact zga I1 hN hi hx r1 (fun s2 I2=>⟨_,H1,I2,q1⟩) hf
def tPar (i j:Nat) (ta:TA):TS:=fun D σ H=>ta σ H fun vs H1=>∃ v w,vs=[v,w]∧D.nx ((σ.set i (some v)).set j (some w)) H1
theorem zvb {i j:Nat} {x y:Str} {a b:Expr} {ta:TA} {px py pt:Pos} {kt k2 pt2} (hc:X.calm=true) (hN:X.N.Nodup) (hi:X.N[i]?=some x) (hj:X.N[j]?=some y) (hij:i≠j)
  (hx:X.env.scope.names.lookup x=some .local) (hy:X.env.scope.names.lookup y=some .local) (ha:PA X [a,b] ta)
  (hw:swappedStores [.Tuple [.Name x px,.Name y py] kt pt] (.Tuple [a,b] k2 pt2) X.env=pure (some [x,y]))
  (hs:swapsWithSole [.Tuple [.Name x px,.Name y py] kt pt] (.Tuple [a,b] k2 pt2) pos.line X.env=pure false:=by rfl) :
  PS X (.Assign [.Tuple [.Name x px,.Name y py] kt pt] (.Tuple [a,b] k2 pt2) pos) (tPar i j ta):=by
 intro pins s σ H D I h
 rw [exec_Assign_arm]
 refine wpAny_bind (wpAny_standAt ?_)
 rw [hs]
 refine wpAny_bind (wpAny_pure ?_)
 rw [if_neg (by decide)]
 refine wpAny_bind (Tuple_ (thn (ha _ pins s σ H _ I h) fun us s1 hQ'=>?_))
 obtain ⟨vs,H1,I1,r1,q1⟩:=hQ'
 obtain ⟨v,w,e1,q1⟩:=q1
 subst e1
 obtain ⟨u1,u2,rfl,rv,rw'⟩:∃ u1 u2,us=[u1,u2]∧zca v u1∧zca w u2:=by
  cases r1 with
  | cons p q =>
   cases q with
   | cons p' q' =>
    cases q'
    exact ⟨_,_,rfl,p,p'⟩
 refine wpAny_newObj_type ?_ (by show 2≤sizeLine;decide)
 have I2:Inv X pins σ H1 { s1 with heap:=s1.heap.push { cls:=.type "tuple",data:=.seq [u1,u2].toArray } }:=I1.kept (t':=s1.toks) fun b o e=>Heap.get?_push_of_some _ e
 rw [hw]
 refine wpAny_bind (wpAny_pure ?_)
 show wpAny (model X.prog X.w) X.A (do rule "assign.swapped-stores";let items ← unpackItems (.ref s1.heap.objs.size) 2 none;assignInOrder [fun v=>bindName X.env y v,fun v=>bindName X.env x v] items.reverse;pure Flow.next) _ _ _
 refine wpAny_bind (wpAny_rule (wpAny_bind (unpackItems_tuple (items:=#[u1,u2]) (I.ok.hd hc) (IsTup.new s1.heap _) fun h' hx'=>?_)))
 have I3:=I2.kept (h':=h') (t':=s1.toks) fun b o e=>hx' b o (Nat.ne_of_lt (Heap.lt_size e)) e
 show wpAny _ _ (assignInOrder [fun v=>bindName X.env y v,fun v=>bindName X.env x v] [u2,u1] >>= fun _=>pure Flow.next) _ _ _
 refine wpAny_bind (assignInOrder_cons (wpAny_bindName (zga I3 hN hj (.inl hy) rw' (fun s2 I4=>?_) (.inr hy))))
 refine assignInOrder_cons (wpAny_bindName (zga I4 hN hi (.inl hx) rv (fun s3 I5=>assignInOrder_nil (wpAny_pure ?_)) (.inr hx)))
 rw [List.set_comm _ _ (Ne.symm hij)] at I5
 exact ⟨_,H1,I5,q1⟩
end
section
variable {X:Cx} {pos:Pos}
def zpd (c:TT) (tb:TS):TS:=fun D σ H=>∃ W:Nat→St→Hp→Prop,(∃ m,W m σ H)∧∀ m σ H,W m σ H →
 c σ H fun b H1=>if b=true then ∃ N:St→Hp→Prop,(∀ σ' H',N σ' H'→∃ m',m'<m∧W m' σ' H')∧tb { D with nx:=N,ct:=N,bk:=D.nx } σ H1 else D.nx σ H1
theorem zqN {c:Expr} {body:List Stmt} {tc:TT} {tb:TS} (hp:PassesOwn (model X.prog X.w) X.A X.env X.xe) (hc:PT X c tc) (hb:PSs X body tb):PS X (.While c body [] pos) (zpd tc tb):=by
 intro pins s σ H D I h
 obtain ⟨W,⟨m0,w0⟩,turn⟩:=h
 refine wpAny_While (codeAny_whileLoop (fun n s'=>∃ σ' H',Inv X pins σ' H' s'∧W n σ' H') ?_ m0 ⟨σ,H,I,w0⟩)
 rintro n s1 ⟨σ1,H1,I1,w1⟩
 refine wpAny_passesOwn hp (thn (hc pins s1 σ1 H1 _ I1 (turn n σ1 H1 w1)) fun b s2 hQ'=>?_)
 obtain ⟨H2,I2,q2⟩:=hQ'
 cases b with
 | true =>
  obtain ⟨N,hN,q2⟩:=q2
  rw [if_pos rfl]
  refine wpAny_passesOwn hp (thn (hb pins s2 σ1 H2 _ I2 q2) fun f s3 q3=>?_)
  cases f with
  | next =>
   obtain ⟨σ3,H3,I3,n3⟩:=q3
   obtain ⟨m',hm,w3⟩:=hN σ3 H3 n3
   exact ⟨m',hm,σ3,H3,I3,w3⟩
  | cont =>
   obtain ⟨σ3,H3,I3,n3⟩:=q3
   obtain ⟨m',hm,w3⟩:=hN σ3 H3 n3
   exact ⟨m',hm,σ3,H3,I3,w3⟩
  | brk=>exact q3
  | ret v=>exact q3
 | false =>
  rw [if_neg Bool.false_ne_true]
  exact wpAny_execs_nil ⟨σ1,H2,I2,q2⟩
end
structure It where
 go:Nat→Hp→Prop
 yld:Nat→Hp→V→Hp→Prop
 stop:Nat→Hp→Prop
def zkF (X:Cx) (pins:List (Addr×Obj)) (H:Hp) (b:Addr):Prop :=
 H b=none∧b≠X.env.locals∧b∉X.fs∧(b∈X.ex∨X.s₀.heap.objs.size≤b)∧(∀ x c,X.env.cells.lookup x=some c→c≠b)∧∀ p∈X.pn++pins,p.1≠b
theorem Inv.fpOk {X:Cx} {pins:List (Addr×Obj)} {σ:St} {H H':Hp} {s:Shared} {b:Addr} (I:Inv X pins σ H s) (hb:s.heap.objs.size≤b) (hn:H' b=none):zkF X pins H' b:=by
 refine ⟨hn,Nat.ne_of_gt (Nat.lt_of_lt_of_le I.lt hb),I.nofs hb,.inr (Nat.le_trans I.sz hb),fun x c e z=>?_,fun p hp z=>?_⟩
 ·obtain ⟨v,q⟩:=I.cell x c e
  exact absurd (Nat.lt_of_lt_of_le q.lt (by rw [z];exact hb)) (Nat.lt_irrefl _)
 ·exact absurd (Nat.lt_of_lt_of_le (Heap.lt_size (I.pin p hp).1) (by rw [z];exact hb)) (Nat.lt_irrefl _)
structure ztG (P:Program) (w:World) (K:PySem.W.Frag) (tg:Expr) (J:It) (fp:List Addr) (it:Addr) (tn:Nat→Heap→Prop):Prop where
 mem:it∈fp
 obj:∀ i h,tn i h→∀ b∈fp,∃ o,h.get? b=some o∧∀ v,o.data≠.cell v
 keep:∀ i h h',tn i h→(∀ b∈fp,∀ o,h.get? b=some o→h'.get? b=some o)→tn i h'
 item:∀ (X:Cx),X.prog=P→X.w=w→X.K=K→X.calm=true→∀ (i:Nat) (pins:List (Addr×Obj)) (s:Shared) (σ:St) (H:Hp) (E:Value→Shared→Prop),Inv X pins σ H s→(∀ b∈fp,zkF X pins H b)→tn i s.heap→J.go i H →
  wpAny (model P w) X.A (pyNext (.ref it)) (fun r s1=>∃ u,r=some u ∧
   wpAny (model P w) X.A (letOwnedTupleGo tg (.ref it) u) (fun _ s2=>∃ x H',Inv X pins σ H' s2∧zca x u∧J.yld i H x H'∧tn (i+1) s2.heap∧∀ b∈fp,H' b=none) E s1) E s
 done:∀ (X:Cx),X.prog=P→X.w=w→X.K=K→X.calm=true→∀ (i:Nat) (pins:List (Addr×Obj)) (s:Shared) (σ:St) (H:Hp) (E:Value→Shared→Prop),Inv X pins σ H s→(∀ b∈fp,zkF X pins H b)→tn i s.heap→J.stop i H →
  wpAny (model P w) X.A (pyNext (.ref it)) (fun r s1=>r=none∧Inv X pins σ H s1) E s
 self:∀ (A:Around) (i:Nat) (s:Shared) (Q:Value→Shared→Prop) (E:Value→Shared→Prop),tn i s.heap→Q (.ref it) s→wpAny (model P w) A (pyIter (.ref it)) Q E s
abbrev TI:=St→Hp→(It→Hp→Prop)→Prop
def PIE (X:Cx) (pins:List (Addr×Obj)) (σ:St) (tg:Expr) (R:It→Hp→Prop) (itv:Value) (s2:Shared):Prop :=
 ∃ (it:Addr) (fp:List Addr) (tn:Nat→Heap→Prop) (J:It) (H':Hp),itv=.ref it∧Inv X pins σ H' s2∧ztG X.prog X.w X.K tg J fp it tn∧tn 0 s2.heap∧(∀ b∈fp,zkF X pins H' b)∧R J H'
def PI (X:Cx) (tg iter:Expr) (wi:TI):Prop :=
 ∀ (pins:List (Addr×Obj)) (s:Shared) (σ:St) (H:Hp) (R:It→Hp→Prop),Inv X pins σ H s→wi σ H R →
  wpAny (model X.prog X.w) X.A (eval iter X.env) (fun v s1=>wpAny (model X.prog X.w) X.A (pyIter v) (PIE X pins σ tg R) X.xe s1) X.xe s
theorem ztb {M:Model} {A:Around} {E:Value→Shared→Prop} {s:Shared} {tg:Expr} {it:Addr} {u:Value} {o:Obj} {n:String} {vs:Array Value} {Q:Unit→Shared→Prop} (ho:s.heap.get? it=some o) (hc:o.cls=.type n) (hd:o.data=.fields vs)
  (hn:["enumerate","zip","dict_itemiterator","dict_reverseitemiterator","odict_iterator","itertools.zip_longest","itertools.pairwise"].contains n=false) (hQ:Q () s):wpAny M A (letOwnedTupleGo tg (.ref it) u) Q E s:=by
 unfold letOwnedTupleGo
 cases tg <;> first
  | exact wpAny_pure hQ
  | (cases u <;> first
    | exact wpAny_pure hQ
    | (refine wpAny_bind (wpAny_load ho ?_)
       rw [hc,hd]
       show wpAny M A (if (["enumerate","zip","dict_itemiterator","dict_reverseitemiterator","odict_iterator","itertools.zip_longest","itertools.pairwise"].contains n&&vs[0]? == some (rawInt _))=true then _ else _) Q E s
       rw [if_neg (by intro h;rw [hn,Bool.false_and] at h;cases h)]
       exact wpAny_pure hQ))
def Itl (K:PySem.W.Frag) (a:Addr):It :=
 ⟨fun i H=>∃ xs x,SqL K H a xs∧xs[i]?=some x,fun i H x H'=>H'=H∧∀ xs,SqL K H a xs→xs[i]?=some x,fun i H=>∃ xs,SqL K H a xs∧xs.length≤i⟩
def Itr (lo:Int) (n:Nat):It:=⟨fun i _=>i<n,fun i H x H'=>H'=H∧x=.int (lo+i),fun i _=>n≤i⟩
theorem zn7 {P:Program} {w:World} {K:PySem.W.Frag} {tg:Expr} (a it:Addr):ztG P w K tg (Itl K a) [it] it (fun i h=>h.IsListIter it a i) where
 mem:=by simp
 obj:=fun i h st b hb=>by
  have e:b=it:=by simpa using hb
  subst e
  obtain ⟨o,e,c,d⟩:=st
  exact ⟨o,e,fun v z=>by rw [d] at z;cases z⟩
 keep:=fun i h h' st k=>st.at fun o e=>k it (by simp) o e
 item:=by
  intro X hP hw hK hc i pins s σ H E I hf st hg
  subst hP hw hK
  obtain ⟨xs,x,hq,hx⟩:=hg
  obtain ⟨its,rv,p,hz⟩:=I.list hq
  obtain ⟨u,hu,ru⟩:=rv.get hx
  obtain ⟨f0,f1,f2,f3,f4,f5⟩:=hf it (by simp)
  refine wpAny_pyNext_list_item st p.isList (x:=u) (by simpa using hu) fun h' st' sb=>?_
  have I1:Inv X pins σ H { s with heap:=h' }:=I.turned (t':=s.toks) (fun b o hb e=>(sb.2 b hb).trans e) f0 f1 f3 f4 f5
  obtain ⟨o,e,c,d⟩:=id st'
  exact ⟨u,rfl,ztb (s:={ s with heap:=h' }) e c d (by decide) ⟨x,H,I1,ru,⟨rfl,fun ys hy=>by rw [I.list_inj hy hq];exact hx⟩,st',fun b hb=>(hf b hb).1⟩⟩
 done:=by
  intro X hP hw hK hc i pins s σ H E I hf st hg
  subst hP hw hK
  obtain ⟨xs,hq,hx⟩:=hg
  obtain ⟨its,rv,p,hz⟩:=I.list hq
  obtain ⟨f0,f1,f2,f3,f4,f5⟩:=hf it (by simp)
  have hl:=rv.length
  exact wpAny_pyNext_list_end (I.ok.hd hc) st p.isList (by simp;(first|lia|omega)) fun h' eb=>⟨rfl,I.turned (t':=s.toks) (fun b o hb e=>eb b o hb e) f0 f1 f3 f4 f5⟩
 self:=fun _ _ _ _ _ st h=>wpAny_pyIter_listiter st h
theorem zml {P:Program} {w:World} {K:PySem.W.Frag} {tg:Expr} (it:Addr) (lo:Int) (n:Nat):ztG P w K tg (Itr lo n) [it] it (fun i h=>IsRangeIter h it (lo+(i:Nat)*1) ((n:Int) - (i:Nat)) 1) where
 mem:=by simp
 obj:=fun i h st b hb=>by
  have e:b=it:=by simpa using hb
  subst e
  exact ⟨_,st,fun v z=>by
   have z':Data.fields _=Data.cell v:=z
   cases z'⟩
 keep:=fun i h h' st k=>k it (by simp) _ st
 item:=by
  intro X hP hw hK hc i pins s σ H E I hf st hg
  subst hP hw hK
  obtain ⟨f0,f1,f2,f3,f4,f5⟩:=hf it (by simp)
  have W:=Walks.range (prog:=X.prog) (w:=X.w) (I.ok.hd hc) it lo 1 n
  refine W.item i s _ _ hg st fun v h' tk hv st' kk=>?_
  obtain ⟨t,rfl⟩:=hv
  have I1:Inv X pins σ H { s with heap:=h',toks:=tk }:=I.turned (fun b o hb e=>kk b o (by simpa using hb) e) f0 f1 f3 f4 f5
  refine ⟨_,rfl,ztb (s:={ s with heap:=h',toks:=tk }) (n:="range_iterator") st' rfl rfl (by decide) ⟨.int (lo+i),H,I1,⟨t,?_⟩,⟨rfl,rfl⟩,st',fun b hb=>(hf b hb).1⟩⟩
  rw [Int.mul_one]
 done:=by
  intro X hP hw hK hc i pins s σ H E I hf st hg
  subst hP hw hK
  obtain ⟨f0,f1,f2,f3,f4,f5⟩:=hf it (by simp)
  exact wpAny_pyNext_range_end (I.ok.hd hc) st (by have:n≤i:=hg;(first|lia|omega)) fun h' eb=>⟨rfl,I.turned (t':=s.toks) (fun b o hb e=>eb b o hb e) f0 f1 f3 f4 f5⟩
 self:=fun _ _ _ _ _ st h=>wpAny_pyIter_rangeiter st h
end L2
namespace L2
open PySem PySem.Spec PyProof.Rows
section
variable {X:Cx} {tg:Expr}
def ze7 (K:PySem.W.Frag) (tl:TE):TI:=fun σ H R=>tl σ H fun x H1=>∃ a,x=.ref a∧(∃ xs,SqL K H1 a xs)∧R (Itl K a) H1
theorem zdL {l:Expr} {tl:TE} (hl:PE X l tl):PI X tg l (ze7 X.K tl):=by
 intro pins s σ H R I h
 refine thn (hl pins s σ H _ I h) fun v s1 hQ'=>?_
 obtain ⟨x,H1,I1,r1,q1⟩:=hQ'
 obtain ⟨a,e,⟨xs,hq⟩,q⟩:=q1
 subst e
 cases r1
 obtain ⟨its,rv,p,hz⟩:=I1.list hq
 refine wpAny_pyIter_list p.isList ?_
 refine ⟨s1.heap.objs.size,[s1.heap.objs.size],_,_,H1,rfl,I1.kept (t':=s1.toks) fun b o e=>Heap.get?_push_of_some _ e,zn7 a _,⟨_,Heap.get?_push_size _ rfl,rfl,rfl⟩,fun b hb=>?_,q⟩
 have e:b=s1.heap.objs.size:=by simpa using hb
 subst e
 exact I1.fpOk (Nat.le_refl _) (I1.hok.fresh (Nat.le_refl _))
theorem zqU {pins:List (Addr×Obj)} {σ:St} {H:Hp} {s:Shared} {R:It→Hp→Prop} {E:Value→Shared→Prop} {lo hi:Int} {t u v:Tok} {tk:Nat} (I:Inv X pins σ H s) (h1:-(2 ^ 62)≤lo) (h2:lo<2 ^ 62) (h3:-(2 ^ 62)≤hi) (h4:hi<2 ^ 62)
  (q:R (Itr lo (hi - lo).toNat) H):wpAny (model X.prog X.w) X.A (pyIter (.ref s.heap.objs.size)) (PIE X pins σ tg R) E { s with heap:=s.heap.push { cls:=.type "range",data:=.fields #[.int lo t,.int hi u,.int 1 v] },toks:=tk }:=by
 refine wpAny_pyIter_range (IsRange.new ..) (small_one h1 h2 h3 h4) ?_
 have I1:Inv X pins σ H { s with heap:=s.heap.push { cls:=.type "range",data:=.fields #[.int lo t,.int hi u,.int 1 v] },toks:=tk }:=I.kept fun b o e=>Heap.get?_push_of_some _ e
 refine ⟨(s.heap.push { cls:=.type "range",data:=.fields #[.int lo t,.int hi u,.int 1 v] }).objs.size,[(s.heap.push { cls:=.type "range",data:=.fields #[.int lo t,.int hi u,.int 1 v] }).objs.size],_,_,H,rfl,
  I1.kept (t':=tk) fun b o e=>Heap.get?_push_of_some _ e,zml _ lo (hi - lo).toNat,?_,fun b hb=>?_,q⟩
 ·have e1:lo+((0:Nat):Int)*1=lo:=by simp
  have e2:(((hi - lo).toNat:Nat):Int) - ((0:Nat):Int)=Builtin.Range.rangeSize lo hi 1:=by rw [rangeSize_one];split <;> (first|lia|omega)
  show IsRangeIter _ _ (lo+((0:Nat):Int)*1) ((((hi - lo).toNat:Nat):Int) - ((0:Nat):Int)) 1
  rw [e1,e2]
  exact Heap.get?_push_size _ rfl
 ·have e:b=(s.heap.push { cls:=.type "range",data:=.fields #[.int lo t,.int hi u,.int 1 v] }).objs.size:=by simpa using hb
  subst e
  exact I1.fpOk (Nat.le_refl _) (I1.hok.fresh (Nat.le_refl _))
def zhP (ta:TA):TI:=fun σ H R=>ta σ H fun vs H1=>∃ j:Int,vs=[.int j]∧-(2 ^ 62)≤j∧j<2 ^ 62∧R (Itr 0 j.toNat) H1
theorem zeJ {a:Expr} {ta:TA} {p pos:Pos} (hg:Gl X "range") (hm:X.mg "range"=none) (ha:PA X [a] ta) (hs:starEach [a] X.env=[(false,eval a X.env)]:=by rfl):PI X tg (.Call (.Name "range" p) [a] [] pos) (zhP ta):=by
 intro pins s σ H R I h
 refine Call_ (zij I hg hm boot_range (PyProof.Rows.callWith_type1 (thn (ha pos pins s σ H _ I h) fun us s1 hQ'=>?_) hs rfl))
 obtain ⟨vs,H1,I1,r1,q1⟩:=hQ'
 obtain ⟨j,e,q1,q2,q⟩:=q1
 subst e
 cases r1 with
 | cons r rr =>
  cases rr
  obtain ⟨t,rfl⟩:=r
  exact call_range_1 (zqU I1 (by (first|lia|omega)) (by (first|lia|omega)) q1 q2 (by simpa using q))
def zg3 (wi:TI) (g:TG) (tb:TS):TS:=fun D σ H=>wi σ H fun J H1=>∃ W:Nat→Nat→St→Hp→Prop,(∃ m,W 0 m σ H1)∧∀ i m σ H,W i m σ H →
 (J.stop i H∧D.nx σ H)∨(J.go i H∧∃ N:St→Hp→Prop,(∀ σ' H',N σ' H'→∃ m',m'<m∧W (i+1) m' σ' H')∧∀ x H',J.yld i H x H'→g x σ H' fun σ2 H2=>tb { D with nx:=N,ct:=N,bk:=D.nx } σ2 H2)
def zju (fp:List Addr) (h:Heap):List (Addr×Obj):=fp.filterMap fun b=>(h.get? b).map fun o=>(b,o)
theorem ze0 {fp:List Addr} {h:Heap} {b:Addr} {o:Obj} (hb:b∈fp) (e:h.get? b=some o):(b,o)∈zju fp h:=List.mem_filterMap.mpr ⟨b,hb,by rw [e];rfl⟩
theorem zoB {fp:List Addr} {h:Heap} {p:Addr×Obj} (hp:p∈zju fp h):p.1∈fp∧h.get? p.1=some p.2:=by
 obtain ⟨b,hb,e⟩:=List.mem_filterMap.mp hp
 cases q:h.get? b with
 | none=>rw [q] at e;cases e
 | some o =>
  rw [q] at e
  have e':(b,o)=p:=Option.some.inj e
  subst e'
  exact ⟨hb,q⟩
theorem Inv.pinned {pins:List (Addr×Obj)} {σ:St} {H:Hp} {s:Shared} {fp:List Addr} (I:Inv X pins σ H s) (hf:∀ b∈fp,zkF X pins H b) (ho:∀ b∈fp,∃ o,s.heap.get? b=some o∧∀ v,o.data≠.cell v):Inv X (pins++zju fp s.heap) σ H s :=
 I.pins_of fun p hp=>(List.mem_append.mp hp).elim (fun z=>I.pin p (List.mem_append_right _ z)) fun z=>by
  obtain ⟨hb,e⟩:=zoB z
  obtain ⟨f0,f1,f2,_⟩:=hf p.1 hb
  obtain ⟨o,e',d⟩:=ho p.1 hb
  rw [e] at e';cases e'
  exact ⟨e,f0,f1,f2,d⟩
theorem Inv.unpinned {pins pl:List (Addr×Obj)} {σ:St} {H:Hp} {s:Shared} (I:Inv X (pins++pl) σ H s):Inv X pins σ H s:=I.pins_of fun p hp=>I.pin p (List.mem_append_right _ (List.mem_append_left _ hp))
theorem zdo {iter:Expr} {body:List Stmt} {wi:TI} {g:TG} {tb:TS} {pos:Pos} (hp:PassesOwn (model X.prog X.w) X.A X.env X.xe) (hc:X.calm=true) (hi:PI X tg iter wi) (hg:PG X tg g) (hb:PSs X body tb)
  (hs:∀ x,foldedSetIterable iter X.env x=pure x:=by intro _;rfl):PS X (.For tg iter body [] pos) (zg3 wi g tb):=by
 intro pins s σ H D I h
 refine wpAny_For (thn (hi pins s σ H _ I h) fun v s1 h1=>thn h1 fun itv s2 h2=>?_) hs
 obtain ⟨it,fp,tn,J,H2,e,I2,T,st2,f2,W,⟨m0,w0⟩,turn⟩:=h2
 subst e
 have stat:∀ {H':Hp},(∀ b∈fp,H' b=none)→∀ b∈fp,zkF X pins H' b:=fun hn b hb=>⟨hn b hb,(f2 b hb).2⟩
 refine codeAny_forLoop_any (fun n s'=>∃ i σ' H',Inv X pins σ' H' s'∧tn i s'.heap∧(∀ b∈fp,H' b=none)∧W i n σ' H') ?_ m0 ⟨0,σ,H2,I2,st2,fun b hb=>(f2 b hb).1,w0⟩
 rintro n s3 ⟨i,σ3,H3,I3,st3,fr3,w3⟩
 rcases turn i n σ3 H3 w3 with ⟨stop,qn⟩ | ⟨go,N,hN,step⟩
 ·refine wpAny_passesOwn hp (thn (T.done X rfl rfl rfl hc i pins s3 σ3 H3 X.xe I3 (stat fr3) st3 stop) fun r s4 hQ'=>?_)
  obtain ⟨hr,I4⟩:=hQ'
  subst hr
  exact wpAny_execs_nil ⟨σ3,H3,I4,qn⟩
 ·refine wpAny_passesOwn hp (thn (T.item X rfl rfl rfl hc i pins s3 σ3 H3 X.xe I3 (stat fr3) st3 go) fun r s4 hQ'=>?_)
  obtain ⟨u,hr,h4⟩:=hQ'
  subst hr
  refine wpAny_passesOwn hp (thn h4 fun _ s5 hQ'=>?_)
  obtain ⟨x,H5,I5,r5,y5,st5,fr5⟩:=hQ'
  have I5':=I5.pinned (stat fr5) (T.obj _ _ st5)
  refine wpAny_passesOwn hp (thn (hg _ s5 σ3 H5 x u _ I5' r5 (step x H5 y5)) fun _ s6 hQ'=>?_)
  obtain ⟨σ6,H6,I6,q6⟩:=hQ'
  refine wpAny_passesOwn hp (thn (hb _ s6 σ6 H6 _ I6 q6) fun f s7 q7=>?_)
  have again:∀ {σ7:St} {H7:Hp},Inv X (pins++zju fp s5.heap) σ7 H7 s7→N σ7 H7→∃ m,m<n∧∃ i σ' H',Inv X pins σ' H' s7∧tn i s7.heap∧(∀ b∈fp,H' b=none)∧W i m σ' H':=fun {σ7 H7} I7 n7=>by
   obtain ⟨m',hm,w7⟩:=hN σ7 H7 n7
   refine ⟨m',hm,i+1,σ7,H7,I7.unpinned,T.keep _ _ _ st5 fun b hb o e=>(I7.pin (b,o) (List.mem_append_right _ (List.mem_append_right _ (ze0 hb e)))).1,fun b hb=>?_,w7⟩
   obtain ⟨o,e,d⟩:=T.obj _ _ st5 b hb
   exact (I7.pin (b,o) (List.mem_append_right _ (List.mem_append_right _ (ze0 hb e)))).2.1
  cases f with
  | next=>obtain ⟨σ7,H7,I7,n7⟩:=q7;exact again I7 n7
  | cont=>obtain ⟨σ7,H7,I7,n7⟩:=q7;exact again I7 n7
  | brk=>obtain ⟨σ7,H7,I7,q7⟩:=q7;exact ⟨σ7,H7,I7.unpinned,q7⟩
  | ret v=>obtain ⟨x7,σ7,H7,I7,r7,q7⟩:=q7;exact ⟨x7,σ7,H7,I7.unpinned,r7,q7⟩
end
theorem zrg {K:PySem.W.Frag} {a:Addr} {xs:List V} {g:TG} {tb:TS} {D:zb9} {σ:St} {H:Hp} (Pv:Nat→St→Hp→Prop) (h0:Pv 0 σ H) (hl:∀ i σ H,i≤xs.length→Pv i σ H→SqL K H a xs)
  (hs:∀ i x σ H,xs[i]?=some x→Pv i σ H→g x σ H fun σ2 H2=>tb { D with nx:=Pv (i+1),ct:=Pv (i+1),bk:=D.nx } σ2 H2) (hd:∀ σ H,Pv xs.length σ H→D.nx σ H) :
  ∃ W:Nat→Nat→St→Hp→Prop,(∃ m,W 0 m σ H)∧∀ i m σ H,W i m σ H →
   ((Itl K a).stop i H∧D.nx σ H)∨((Itl K a).go i H∧∃ N:St→Hp→Prop,(∀ σ' H',N σ' H'→∃ m',m'<m∧W (i+1) m' σ' H')∧∀ x H',(Itl K a).yld i H x H'→g x σ H' fun σ2 H2=>tb { D with nx:=N,ct:=N,bk:=D.nx } σ2 H2):=by
 refine ⟨fun i m σ H=>m=xs.length - i∧i≤xs.length∧Pv i σ H,⟨xs.length,by simp,Nat.zero_le _,h0⟩,?_⟩
 rintro i m σ H ⟨rfl,hi,p⟩
 have q:=hl i σ H hi p
 by_cases hlt:i<xs.length
 ·refine .inr ⟨⟨xs,xs[i],q,by simp [hlt]⟩,Pv (i+1),fun σ' H' p'=>⟨xs.length - (i+1),by (first|lia|omega),rfl,hlt,p'⟩,fun x H' y=>?_⟩
  obtain ⟨e,y⟩:=y
  subst e
  exact hs i x σ _ (y xs q) p
 ·have e:i=xs.length:=by (first|lia|omega)
  subst e
  exact .inl ⟨⟨xs,q,Nat.le_refl _⟩,hd σ H p⟩
theorem znh {lo:Int} {n:Nat} {g:TG} {tb:TS} {D:zb9} {σ:St} {H:Hp} (Pv:Nat→St→Hp→Prop) (h0:Pv 0 σ H)
  (hs:∀ i σ H,i<n→Pv i σ H→g (.int (lo+i)) σ H fun σ2 H2=>tb { D with nx:=Pv (i+1),ct:=Pv (i+1),bk:=D.nx } σ2 H2) (hd:∀ σ H,Pv n σ H→D.nx σ H) :
  ∃ W:Nat→Nat→St→Hp→Prop,(∃ m,W 0 m σ H)∧∀ i m σ H,W i m σ H →
   ((Itr lo n).stop i H∧D.nx σ H)∨((Itr lo n).go i H∧∃ N:St→Hp→Prop,(∀ σ' H',N σ' H'→∃ m',m'<m∧W (i+1) m' σ' H')∧∀ x H',(Itr lo n).yld i H x H'→g x σ H' fun σ2 H2=>tb { D with nx:=N,ct:=N,bk:=D.nx } σ2 H2):=by
 refine ⟨fun i m σ H=>m=n - i∧i≤n∧Pv i σ H,⟨n,by simp,Nat.zero_le _,h0⟩,?_⟩
 rintro i m σ H ⟨rfl,hi,p⟩
 by_cases hlt:i<n
 ·refine .inr ⟨hlt,Pv (i+1),fun σ' H' p'=>⟨n - (i+1),by (first|lia|omega),rfl,hlt,p'⟩,fun x H' y=>?_⟩
  obtain ⟨e,y⟩:=y
  subst e y
  exact hs i σ _ hlt p
 ·have e:i=n:=by (first|lia|omega)
  subst e
  exact .inl ⟨Nat.le_refl _,hd σ H p⟩
end L2
namespace L2
open PySem PySem.Spec PyProof.Rows
abbrev R2:=V→V→Hp→VK→Prop
def OpR (X:Cx) (f:Value→Value→Sem Value) (r:R2):Prop :=
 ∀ (pins:List (Addr×Obj)) (s:Shared) (σ:St) (H:Hp) (x y:V) (v u:Value) (Q:VK),Inv X pins σ H s→zca x v→zca y u→r x y H Q →
  wpAny (model X.prog X.w) X.A (f v u) (EP X pins σ Q) X.xe s
def UnR (X:Cx) (f:Value→Sem Value) (r:V→Hp→VK→Prop):Prop :=
 ∀ (pins:List (Addr×Obj)) (s:Shared) (σ:St) (H:Hp) (x:V) (v:Value) (Q:VK),Inv X pins σ H s→zca x v→r x H Q →
  wpAny (model X.prog X.w) X.A (f v) (EP X pins σ Q) X.xe s
def ze6 (X:Cx) (f:Value) (r:List V→Hp→VK→Prop):Prop :=
 ∀ (pins:List (Addr×Obj)) (s:Shared) (σ:St) (H:Hp) (xs:List V) (us:List Value) (Q:VK),Inv X pins σ H s→zbZ xs us→r xs H Q →
  wpAny (model X.prog X.w) X.A (call f us) (EP X pins σ Q) X.xe s
def TruR (X:Cx) (r:V→Hp→(Bool→Hp→Prop)→Prop):Prop :=
 ∀ (pins:List (Addr×Obj)) (s:Shared) (σ:St) (H:Hp) (x:V) (v:Value) (Q:Bool→Hp→Prop),Inv X pins σ H s→zca x v→r x H Q →
  wpAny (model X.prog X.w) X.A (truthy v) (TP X pins σ Q) X.xe s
def tOp (r:R2) (ta tb:TE):TE:=fun σ H Q=>ta σ H fun x H1=>tb σ H1 fun y H2=>r x y H2 Q
def tUn (r:V→Hp→VK→Prop) (ta:TE):TE:=fun σ H Q=>ta σ H fun x H1=>r x H1 Q
def rI (C:Int→Int→Prop) (g:Int→Int→V):R2:=fun x y H Q=>∃ i j,x=.int i∧y=.int j∧C i j∧Q (g i j) H
def rI0 (g:Int→Int→V):R2:=fun x y H Q=>∃ i j,x=.int i∧y=.int j∧Q (g i j) H
def rU (g:Int→V):V→Hp→VK→Prop:=fun x H Q=>∃ i,x=.int i∧Q (g i) H
section
variable {X:Cx} {a b c:Expr} {ta tb tc:TE} {pos:Pos}
theorem binT (ha:PE X a ta) (hb:PE X b tb) {pins:List (Addr×Obj)} {s:Shared} {σ:St} {H:Hp} {R:V→V→Hp→Prop} (I:Inv X pins σ H s)
  (h:ta σ H fun x H1=>tb σ H1 fun y H2=>R x y H2) {Q:Value→Shared→Prop} {f:Value→Value→Sem Value}
  (hf:∀ v u s2 x y H2,Inv X pins σ H2 s2→zca x v→zca y u→R x y H2→wpAny (model X.prog X.w) X.A (f v u) Q X.xe s2) :
  wpAny (model X.prog X.w) X.A (eval a X.env) (fun v s₁=>wpAny (model X.prog X.w) X.A (eval b X.env) (fun u s₂=>wpAny (model X.prog X.w) X.A (f v u) Q X.xe s₂) X.xe s₁) X.xe s:=by
 refine thn (ha pins s σ H _ I h) fun v s1 hQ'=>?_
 obtain ⟨x,H1,I1,r1,q1⟩:=hQ'
 refine thn (hb pins s1 σ H1 _ I1 q1) fun u s2 hQ'=>?_
 obtain ⟨y,H2,I2,r2,q2⟩:=hQ'
 exact hf v u s2 x y H2 I2 r1 r2 q2
theorem zaF {op:Operator} {r:R2} (ho:OpR X (binaryOp op) r) (ha:PE X a ta) (hb:PE X b tb):PE X (.BinOp a op b pos) (tOp r ta tb):=by
 intro pins s σ H Q I h
 exact wpAny_BinOp (binT ha hb I h fun v u s2 x y H2 I2 rx ry q=>ho pins s2 σ H2 x y v u Q I2 rx ry q)
theorem zjs {op:UnaryOp} {r:V→Hp→VK→Prop} (ho:UnR X (unaryOp op) r) (ha:PE X a ta):PE X (.UnaryOp op a pos) (tUn r ta):=by
 intro pins s σ H Q I h
 exact UnaryOp_ (thn (ha pins s σ H _ I h) fun v s1 ⟨x,H1,I1,r1,q1⟩=>ho pins s1 σ H1 x v Q I1 r1 q1)
theorem opI {f:Value→Value→Sem Value} {C:Int→Int→Prop} {g:Int→Int→Int}
  (rule:∀ (i j:Int) (t u:Tok) (s:Shared) (Q:Value→Shared→Prop) (E:Value→Shared→Prop),C i j→Q (.int (g i j) s.toks) { s with toks:=s.toks+1 }→wpAny (model X.prog X.w) X.A (f (.int i t) (.int j u)) Q E s) :
  OpR X f (rI C fun i j=>.int (g i j)):=by
 intro pins s σ H x y v u Q I rx ry h
 obtain ⟨i,j,rfl,rfl,hc,q⟩:=h
 obtain ⟨t,rfl⟩:=rx
 obtain ⟨t',rfl⟩:=ry
 exact rule i j t t' s _ _ hc ⟨.int (g i j),H,I.tok _,⟨_,rfl⟩,q⟩
theorem opI0 {f:Value→Value→Sem Value} {g:Int→Int→Int}
  (rule:∀ (i j:Int) (t u:Tok) (s:Shared) (Q:Value→Shared→Prop) (E:Value→Shared→Prop),Q (.int (g i j) s.toks) { s with toks:=s.toks+1 }→wpAny (model X.prog X.w) X.A (f (.int i t) (.int j u)) Q E s) :
  OpR X f (rI0 fun i j=>.int (g i j)):=by
 intro pins s σ H x y v u Q I rx ry h
 obtain ⟨i,j,rfl,rfl,q⟩:=h
 obtain ⟨t,rfl⟩:=rx
 obtain ⟨t',rfl⟩:=ry
 exact rule i j t t' s _ _ ⟨.int (g i j),H,I.tok _,⟨_,rfl⟩,q⟩
theorem opB0 {f:Value→Value→Sem Value} {g:Int→Int→Bool}
  (rule:∀ (i j:Int) (t u:Tok) (s:Shared) (Q:Value→Shared→Prop) (E:Value→Shared→Prop),Q (.bool (g i j)) s→wpAny (model X.prog X.w) X.A (f (.int i t) (.int j u)) Q E s) :
  OpR X f (rI0 fun i j=>.bl (g i j)):=by
 intro pins s σ H x y v u Q I rx ry h
 obtain ⟨i,j,rfl,rfl,q⟩:=h
 obtain ⟨t,rfl⟩:=rx
 obtain ⟨t',rfl⟩:=ry
 exact rule i j t t' s _ _ ⟨.bl (g i j),H,I,rfl,q⟩
def zmN (i j:Int):Prop:=0≤j∧j≤1000000∧i.natAbs<2 ^ 64
theorem zc5:OpR X (binaryOp .Add) (rI0 fun i j=>.int (i+j)):=opI0 fun _ _ _ _ _ _ _ q=>add_int q
theorem zlF:OpR X (binaryOp .Sub) (rI0 fun i j=>.int (i - j)):=opI0 fun _ _ _ _ _ _ _ q=>sub_int q
theorem zcd:OpR X (binaryOp .Mod) (rI (fun _ j=>0<j) fun i j=>.int (i % j)):=opI fun i j _ _ _ _ _ hc q=>by
 have h1:(0:Int)<j:=hc
 exact mod_int' (by (first|lia|omega)) (by rw [Int.fmod_eq_emod_of_nonneg i (by (first|lia|omega))];exact q)
theorem zjo:OpR X (binaryOp .Pow) (rI zmN fun i j=>.int (i ^ j.toNat)):=opI fun _ _ _ _ _ _ _ hc q=>pow_int_small hc.1 hc.2.1 hc.2.2 q
theorem unI {f:Value→Sem Value} {g:Int→Int}
  (rule:∀ (i:Int) (t:Tok) (s:Shared) (Q:Value→Shared→Prop) (E:Value→Shared→Prop),Q (.int (g i) s.toks) { s with toks:=s.toks+1 }→wpAny (model X.prog X.w) X.A (f (.int i t)) Q E s) :
  UnR X f (rU fun i=>.int (g i)):=by
 intro pins s σ H x v Q I rx h
 obtain ⟨i,rfl,q⟩:=h
 obtain ⟨t,rfl⟩:=rx
 exact rule i t s _ _ ⟨.int (g i),H,I.tok _,⟨_,rfl⟩,q⟩
theorem zgJ:UnR X (unaryOp .USub) (rU fun i=>.int (-i)):=unI fun _ _ _ _ _ q=>neg_int q
end
def scal:V→V→Bool
 | .non,.non=>true | .non,.int _=>true | .int _,.non=>true | .non,.bl _=>true | .bl _,.non=>true | .non,.str _=>true | .str _,.non=>true
 | .int _,.int _=>true | .bl _,.bl _=>true | .str _,.str _=>true | .byt _,.byt _=>true
 | .int _,.str _=>true | .str _,.int _=>true | .bl _,.str _=>true | .str _,.bl _=>true
 | _,_=>false
def rEq:R2:=fun x y H Q=>scal x y=true∧Q (.bl (decide (x=y))) H
def rNe:R2:=fun x y H Q=>scal x y=true∧Q (.bl (!decide (x=y))) H
theorem zny {i j:Int}:decide (V.int i=V.int j)=(i == j):=by
 rw [Bool.eq_iff_iff]
 simp
theorem zsd {i j:Bool}:decide (V.bl i=V.bl j)=(i == j):=by
 rw [Bool.eq_iff_iff]
 simp
theorem zn2 {i j:Str}:decide (V.str i=V.str j)=(i == j):=by
 rw [Bool.eq_iff_iff]
 simp
theorem zoy {i j:Array UInt8}:decide (V.byt i=V.byt j)=(i.toList == j.toList):=by
 rw [Bool.eq_iff_iff]
 cases i
 cases j
 simp
section
variable {X:Cx} {a b c:Expr} {ta tb tc:TE} {pos:Pos}
theorem zbt {pins:List (Addr×Obj)} {σ:St} {H:Hp} {s:Shared} {Q:VK} {k k':Bool} (I:Inv X pins σ H s) (q:Q (.bl k) H) (e:k=k'):EP X pins σ Q (.bool k') s:=by
 subst e
 exact ⟨.bl k,H,I,rfl,q⟩
theorem zeM:OpR X (compareOp .Eq) rEq:=by
 intro pins s σ H x y v u Q I rx ry h
 obtain ⟨hs,q⟩:=h
 cases x with
 | non =>
  cases rx
  cases y with
  | non=>cases ry;exact PySem.EqNone.eq_none_none (zbt I q (by simp))
  | bl j=>cases ry;exact PySem.EqNone.eq_none_bool (zbt I q (by simp))
  | int j=>obtain ⟨t',rfl⟩:=ry;exact PySem.EqNone.eq_none_int (zbt I q (by simp))
  | str j=>obtain ⟨t',rfl⟩:=ry;exact PySem.EqNone.eq_none_str (zbt I q (by simp))
  | _=>exact absurd (show false=true from hs) Bool.false_ne_true
 | bl i =>
  cases rx
  cases y with
  | non=>cases ry;exact PySem.EqNone.eq_bool_none (zbt I q (by simp))
  | bl j=>cases ry;exact eq_bool (zbt I q zsd)
  | str j=>obtain ⟨t',rfl⟩:=ry;exact PySem.EqMixed.eq_bool_str (zbt I q (by simp))
  | _=>exact absurd (show false=true from hs) Bool.false_ne_true
 | int i =>
  obtain ⟨t,rfl⟩:=rx
  cases y with
  | non=>cases ry;exact PySem.EqNone.eq_int_none (zbt I q (by simp))
  | int j=>obtain ⟨t',rfl⟩:=ry;exact eq_int (zbt I q zny)
  | str j=>obtain ⟨t',rfl⟩:=ry;exact PySem.EqMixed.eq_int_str (zbt I q (by simp))
  | _=>exact absurd (show false=true from hs) Bool.false_ne_true
 | str i =>
  obtain ⟨t,rfl⟩:=rx
  cases y with
  | non=>cases ry;exact PySem.EqNone.eq_str_none (zbt I q (by simp))
  | bl j=>cases ry;exact PySem.EqMixed.eq_str_bool (zbt I q (by simp))
  | int j=>obtain ⟨t',rfl⟩:=ry;exact PySem.EqMixed.eq_str_int (zbt I q (by simp))
  | str j=>obtain ⟨t',rfl⟩:=ry;exact eq_str (zbt I q zn2)
  | _=>exact absurd (show false=true from hs) Bool.false_ne_true
 | byt i =>
  obtain ⟨t,rfl⟩:=rx
  cases y with
  | byt j=>obtain ⟨t',rfl⟩:=ry;exact PySem.W.eq_bytes (zbt I q zoy)
  | _=>exact absurd (show false=true from hs) Bool.false_ne_true
 | _=>cases y <;> exact absurd (show false=true from hs) Bool.false_ne_true
theorem zfN:OpR X (compareOp .NotEq) rNe:=by
 intro pins s σ H x y v u Q I rx ry h
 obtain ⟨hs,q⟩:=h
 cases x with
 | non =>
  cases rx
  cases y with
  | non=>cases ry;exact PySem.EqNone.ne_none_none (zbt I q (by simp))
  | bl j=>cases ry;exact PySem.EqNone.ne_none_bool (zbt I q (by simp))
  | int j=>obtain ⟨t',rfl⟩:=ry;exact PySem.EqNone.ne_none_int (zbt I q (by simp))
  | str j=>obtain ⟨t',rfl⟩:=ry;exact PySem.EqNone.ne_none_str (zbt I q (by simp))
  | _=>exact absurd (show false=true from hs) Bool.false_ne_true
 | bl i =>
  cases rx
  cases y with
  | non=>cases ry;exact PySem.EqNone.ne_bool_none (zbt I q (by simp))
  | bl j=>cases ry;exact ne_bool (zbt I q (congrArg not zsd))
  | str j=>obtain ⟨t',rfl⟩:=ry;exact PySem.EqMixed.ne_bool_str (zbt I q (by simp))
  | _=>exact absurd (show false=true from hs) Bool.false_ne_true
 | int i =>
  obtain ⟨t,rfl⟩:=rx
  cases y with
  | non=>cases ry;exact PySem.EqNone.ne_int_none (zbt I q (by simp))
  | int j=>obtain ⟨t',rfl⟩:=ry;exact ne_int (zbt I q (congrArg not zny))
  | str j=>obtain ⟨t',rfl⟩:=ry;exact PySem.EqMixed.ne_int_str (zbt I q (by simp))
  | _=>exact absurd (show false=true from hs) Bool.false_ne_true
 | str i =>
  obtain ⟨t,rfl⟩:=rx
  cases y with
  | non=>cases ry;exact PySem.EqNone.ne_str_none (zbt I q (by simp))
  | bl j=>cases ry;exact PySem.EqMixed.ne_str_bool (zbt I q (by simp))
  | int j=>obtain ⟨t',rfl⟩:=ry;exact PySem.EqMixed.ne_str_int (zbt I q (by simp))
  | str j=>obtain ⟨t',rfl⟩:=ry;exact ne_str (zbt I q (congrArg not zn2))
  | _=>exact absurd (show false=true from hs) Bool.false_ne_true
 | byt i =>
  obtain ⟨t,rfl⟩:=rx
  cases y with
  | byt j=>obtain ⟨t',rfl⟩:=ry;exact PySem.W.ne_bytes (zbt I q (congrArg not zoy))
  | _=>exact absurd (show false=true from hs) Bool.false_ne_true
 | _=>cases y <;> exact absurd (show false=true from hs) Bool.false_ne_true
theorem zom:OpR X (compareOp .Lt) (rI0 fun i j=>.bl (decide (i<j))):=opB0 fun _ _ _ _ _ _ _ q=>lt_int q
theorem zk1:OpR X (compareOp .LtE) (rI0 fun i j=>.bl (decide (i≤j))):=opB0 fun _ _ _ _ _ _ _ q=>le_int q
theorem zp7:OpR X (compareOp .Gt) (rI0 fun i j=>.bl (decide (j<i))):=opB0 fun _ _ _ _ _ _ _ q=>gt_int q
theorem op_ge:OpR X (compareOp .GtE) (rI0 fun i j=>.bl (decide (j≤i))):=opB0 fun _ _ _ _ _ _ _ q=>ge_int q
theorem zof:OpR X (compareOp .In) (fun x y H Q=>∃ i j,x=.str i∧y=.str j∧Q (.bl (!(Builtin.Str.occurrences j i 0 j.length 1).isEmpty)) H):=by
 intro pins s σ H x y v u Q I rx ry h
 obtain ⟨i,j,rfl,rfl,q⟩:=h
 obtain ⟨t,rfl⟩:=rx
 obtain ⟨t',rfl⟩:=ry
 exact in_str (zbt I q rfl)
theorem zfk:OpR X (compareOp .Is) (fun x y H Q=>y=.non∧Q (.bl (decide (x=.non))) H):=by
 intro pins s σ H x y v u Q I rx ry h
 obtain ⟨rfl,q⟩:=h
 cases ry
 refine is_none_gen (zbt I q ?_)
 cases x <;> first
  | (cases rx;rfl)
  | (obtain ⟨t,rfl⟩:=rx;rfl)
theorem zaL (b:Expr) {op:CmpOp} (h:op≠.In:=by decide) (h2:op≠.NotIn:=by decide):behindInMarks op b=false:=by
 have e1:(op == CmpOp.In)=false:=by cases op <;> first | rfl | exact absurd rfl h
 have e2:(op == CmpOp.NotIn)=false:=by cases op <;> first | rfl | exact absurd rfl h2
 cases b <;> simp [behindInMarks,e1,e2]
theorem zcg {op:CmpOp} {r:R2} (ho:OpR X (compareOp op) r) (ha:PE X a ta) (hb:PE X b tb) (hm:behindInMarks op b=false):PE X (.Compare a [op] [b] pos) (tOp r ta tb):=by
 intro pins s σ H Q I h
 exact wpAny_Compare1 (binT ha hb I h fun v u s2 x y H2 I2 rx ry q=>ho pins s2 σ H2 x y v u Q I2 rx ry q) hm
def zaJ (t:TE):TT:=fun σ H Q=>t σ H fun x H'=>∃ k,x=.bl k∧Q k H'
theorem zaI {op:CmpOp} {r:R2} (ho:OpR X (compareOp op) r) (ha:PE X a ta) (hb:PE X b tb) (hm:behindInMarks op b=false):PT X (.Compare a [op] [b] pos) (zaJ (tOp r ta tb)):=by
 intro pins s σ H Q I h
 refine wpAny_isTrue_Compare1 (thn (ha pins s σ H _ I h) fun v s1 ⟨x,H1,I1,r1,q1⟩=>thn (hb pins s1 σ H1 _ I1 q1) fun u s2 ⟨y,H2,I2,r2,q2⟩ =>
  thn (ho pins s2 σ H2 x y v u _ I2 r1 r2 q2) fun c s3 ⟨z,H3,I3,r3,k,e,q3⟩=>?_) hm
 subst e
 cases r3
 exact wpAny_truthy_bool ⟨H3,I3,q3⟩
def zgK (r r':R2) (ta tb tc:TE):TE:=fun σ H Q=>ta σ H fun x H1=>tb σ H1 fun y H2=>r x y H2 fun z H3=>∃ k,z=.bl k ∧
 (if k=true then tc σ H3 fun w' H4=>r' y w' H4 Q else Q (.bl false) H3)
theorem zqI {op op':CmpOp} {r r':R2} (ho:OpR X (compareOp op) r) (ho':OpR X (compareOp op') r') (ha:PE X a ta) (hb:PE X b tb) (hc:PE X c tc)
  (hm:lastMarks [op,op'] [b,c]=false:=by with_unfolding_all rfl):PE X (.Compare a [op,op'] [b,c] pos) (zgK r r' ta tb tc):=by
 intro pins s σ H Q I h
 refine Compare_chain (thn (ha pins s σ H _ I h) fun v s1 ⟨x,H1,I1,r1,q1⟩=>chain_link (thn (hb pins s1 σ H1 _ I1 q1) fun u s2 ⟨y,H2,I2,r2,q2⟩ =>
  thn (ho pins s2 σ H2 x y v u _ I2 r1 r2 q2) fun d s3 ⟨z,H3,I3,r3,k,e,q3⟩=>?_)) hm
 subst e
 cases r3
 refine wpAny_truthy_bool ?_
 cases k with
 | false=>exact ite_ff ⟨.bl false,H3,I3,rfl,q3⟩
 | true=>exact ite_tt (chain_last (thn (hc pins s3 σ H3 _ I3 q3) fun w' s4 ⟨z',H4,I4,r4,q4⟩=>ho' pins s4 σ H4 y z' u w' Q I4 r2 r4 q4))
theorem zlA {op op':CmpOp} {r r':R2} (ho:OpR X (compareOp op) r) (ho':OpR X (compareOp op') r') (ha:PE X a ta) (hb:PE X b tb) (hc:PE X c tc)
  (hm:lastMarks [op,op'] [b,c]=false:=by with_unfolding_all rfl):PT X (.Compare a [op,op'] [b,c] pos) (zaJ (zgK r r' ta tb tc)):=by
 intro pins s σ H Q I h
 refine isTrue_chain (thn (ha pins s σ H _ I h) fun v s1 ⟨x,H1,I1,r1,q1⟩=>test_link (thn (hb pins s1 σ H1 _ I1 q1) fun u s2 ⟨y,H2,I2,r2,q2⟩ =>
  thn (ho pins s2 σ H2 x y v u _ I2 r1 r2 q2) fun d s3 ⟨z,H3,I3,r3,k,e,q3⟩=>?_)) hm
 subst e
 cases r3
 refine wpAny_truthy_bool ?_
 cases k with
 | false =>
  obtain ⟨k',e',q'⟩:=q3
  cases e'
  exact ite_ff ⟨H3,I3,q'⟩
 | true =>
  refine ite_tt (test_last (thn (hc pins s3 σ H3 _ I3 q3) fun w' s4 ⟨z',H4,I4,r4,q4⟩=>thn (ho' pins s4 σ H4 y z' u w' _ I4 r2 r4 q4) fun d' s5 hQ'=>?_))
  obtain ⟨z2,H5,I5,r5,k2,e2,q5⟩:=hQ'
  subst e2
  cases r5
  exact wpAny_truthy_bool ⟨H5,I5,q5⟩
def zuh (K:PySem.W.Frag) (x:V) (H:Hp) (k:Bool):Prop :=
 match x with
 | .non=>k=false
 | .bl b=>k=b
 | .int i=>k=(i != 0)
 | .str y=>y.length≤sizeLine∧k=((y.length:Int) != 0)
 | .byt y=>y.size≤sizeLine∧k=((y.size:Int) != 0)
 | .ref p=>(∃ xs,SqL K H p xs∧k=!xs.isEmpty)∨(∃ xs,SqT K H p xs∧k=!xs.isEmpty)∨∃ kvs,H p=some (.dK kvs)∧k=!kvs.isEmpty
 | _=>False
theorem zmr {κ:Type} {kvs:List (κ×V)} {vs:List (κ×Value)} (r:KV kvs vs):(!vs.isEmpty)=!kvs.isEmpty:=by
 cases r <;> rfl
theorem zib {xs:List V} {its:List Value} (r:zbZ xs its):(!its.toArray.isEmpty)=!xs.isEmpty:=by
 cases r <;> simp
theorem zjR:(sizeLine:Nat)<2 ^ 63:=by rw [sizeLine_eq];decide
theorem zuI:TruR X (fun x H Q=>∃ k,zuh X.K x H k∧Q k H):=by
 intro pins s σ H x v Q I rx h
 obtain ⟨k,e,q⟩:=h
 have hl:=zjR
 have hs:sizeLine=16777216:=sizeLine_eq
 cases x with
 | non =>
  cases rx
  have e':k=false:=e
  subst e'
  exact truthy_none ⟨H,I,q⟩
 | bl b =>
  cases rx
  have e':k=b:=e
  subst e'
  exact wpAny_truthy_bool ⟨H,I,q⟩
 | int i =>
  obtain ⟨t,rfl⟩:=rx
  have e':k=(i != 0):=e
  subst e'
  exact PySem.P.truthy_int ⟨H,I,q⟩
 | str y =>
  obtain ⟨t,rfl⟩:=rx
  obtain ⟨hy,e'⟩:y.length≤sizeLine∧k=((y.length:Int) != 0):=e
  subst e'
  exact PySem.P.truthy_str (by (first|lia|omega)) ⟨H,I.tok _,q⟩
 | byt y =>
  obtain ⟨t,rfl⟩:=rx
  obtain ⟨hy,e'⟩:y.size≤sizeLine∧k=((y.size:Int) != 0):=e
  subst e'
  exact PySem.W.truthy_bytes (by (first|lia|omega)) ⟨H,I.tok _,q⟩
 | ref p =>
  cases rx
  have e':(∃ xs,SqL X.K H p xs∧k=!xs.isEmpty)∨(∃ xs,SqT X.K H p xs∧k=!xs.isEmpty)∨∃ kvs,H p=some (.dK kvs)∧k=!kvs.isEmpty:=e
  rcases e' with ⟨xs,hx,e'⟩ | ⟨xs,hx,e'⟩ | ⟨kvs,hx,e'⟩
  ·subst e'
   obtain ⟨its,r,pl,hz⟩:=I.list hx
   have hlen:=r.length
   exact wpAny_truthy_list pl.isList (by simp only [List.size_toArray];(first|lia|omega)) ⟨H,I.tok _,by rw [zib r];exact q⟩
  ·subst e'
   obtain ⟨its,r,pl,hz⟩:=I.tuple hx
   have hlen:=r.length
   exact truthy_tuple pl (by simp only [List.size_toArray];(first|lia|omega)) ⟨H,I.tok _,by rw [zib r];exact q⟩
  ·subst e'
   obtain ⟨hz,hS,vs,r,m⟩:kvs.length≤sizeLine∧(p == sysModules)=false∧∃ vs,KV kvs vs∧s.heap.DictOf (zcf X.prog X.w) p vs:=I.hok p _ hx
   have hlen:kvs.length=vs.length:=Paired.length r
   exact wpAny_truthy_dict hS m (by (first|lia|omega)) ⟨H,I.tok _,by rw [zmr r];exact q⟩
 | _=>exact (show False from e).elim
theorem ziv (ha:PE X a ta) (he:∀ whole,isTrue a X.env whole=(do let v ← whole;standAt a.pos;holding [v] (truthy v))) :
  PT X a (fun σ H Q=>ta σ H fun x H'=>∃ k,zuh X.K x H' k∧Q k H'):=by
 intro pins s σ H Q I h
 exact isTrue_plain (thn (ha pins s σ H _ I h) fun v s1 ⟨x,H1,I1,r1,q1⟩=>zuI pins s1 σ H1 x v Q I1 r1 q1) (he _)
theorem zmO:OpR X (binaryOp .Add) (fun x y H Q=>∃ i j,x=.str i∧y=.str j∧i.length+j.length≤sizeLine∧Q (.str (i++j)) H):=by
 intro pins s σ H x y v u Q I rx ry h
 obtain ⟨i,j,rfl,rfl,hz,q⟩:=h
 obtain ⟨t,rfl⟩:=rx
 obtain ⟨t',rfl⟩:=ry
 exact add_str (fun t' tk=>⟨.str (i++j),H,I.tok _,⟨_,rfl⟩,q⟩) hz
theorem zfG {x:V} {us:List Value} (r:zbZ [x] us):∃ u,us=[u]∧zca x u:=by
 cases r with
 | cons r1 r2=>cases r2;exact ⟨_,rfl,r1⟩
theorem zmx {x y:V} {us:List Value} (r:zbZ [x,y] us):∃ u w',us=[u,w']∧zca x u∧zca y w':=by
 cases r with
 | cons r1 r2 =>
  cases r2 with
  | cons r3 r4=>cases r4;exact ⟨_,_,rfl,r1,r3⟩
theorem zoG (hc:X.calm=true):ze6 X (.builtin "min") (fun xs H Q=>∃ i j,xs=[.int i,.int j]∧Q (.int (if j<i then j else i)) H):=by
 intro pins s σ H xs us Q I r h
 obtain ⟨i,j,rfl,q⟩:=h
 obtain ⟨u,w',rfl,⟨t,rfl⟩,⟨t',rfl⟩⟩:=zmx r
 refine min_two_ints (I.ok.hd hc) fun h' tk k=>⟨_,H,I.kept k,?_,q⟩
 by_cases hj:j<i
 ·rw [if_pos hj,if_pos hj];exact ⟨_,rfl⟩
 ·rw [if_neg hj,if_neg hj];exact ⟨_,rfl⟩
theorem zkc:ze6 X (.type "int") (fun xs H Q=>(∃ i,xs=[.int i]∧Q (.int i) H)∨∃ k,xs=[.bl k]∧Q (.int (if k then 1 else 0)) H):=by
 intro pins s σ H xs us Q I r h
 rcases h with ⟨i,rfl,q⟩ | ⟨k,rfl,q⟩
 ·obtain ⟨u,rfl,t,rfl⟩:=zfG r
  exact call_int_int ⟨.int i,H,I,⟨_,rfl⟩,q⟩
 ·obtain ⟨u,rfl,r1⟩:=zfG r
  cases r1
  exact call_int_bool ⟨.int (if k then 1 else 0),H,I.tok _,⟨_,rfl⟩,q⟩
theorem zj7:ze6 X (.type "str") (fun xs H Q=>∃ i,xs=[.int i]∧i.natAbs.log2<1920∧Q (.str (toString i)) H):=by
 intro pins s σ H xs us Q I r h
 obtain ⟨i,rfl,hz,q⟩:=h
 obtain ⟨u,rfl,t,rfl⟩:=zfG r
 exact PySem.P.str_of_int hz ⟨.str _,H,I.tok _,⟨_,rfl⟩,q⟩
def LenV (K:PySem.W.Frag) (x:V) (H:Hp) (n:Nat):Prop :=
 match x with
 | .str y=>y.length≤sizeLine∧n=y.length
 | .byt y=>y.size≤sizeLine∧n=y.size
 | .ref p=>(∃ xs,SqL K H p xs∧n=xs.length)∨∃ xs,SqT K H p xs∧n=xs.length
 | _=>False
theorem zqP:ze6 X (.builtin "len") (fun xs H Q=>∃ x n,xs=[x]∧LenV X.K x H n∧Q (.int n) H):=by
 intro pins s σ H xs us Q I r h
 obtain ⟨x,n,rfl,e,q⟩:=h
 obtain ⟨u,rfl,rx⟩:=zfG r
 have hl:=zjR
 have hs:sizeLine=16777216:=sizeLine_eq
 cases x with
 | str y =>
  obtain ⟨t,rfl⟩:=rx
  obtain ⟨hy,e'⟩:y.length≤sizeLine∧n=y.length:=e
  subst e'
  exact len_str (by (first|lia|omega)) ⟨.int _,H,I.tok _,⟨_,rfl⟩,q⟩
 | byt y =>
  obtain ⟨t,rfl⟩:=rx
  obtain ⟨hy,e'⟩:y.size≤sizeLine∧n=y.size:=e
  subst e'
  exact PySem.W.len_bytes (by (first|lia|omega)) ⟨.int _,H,I.tok _,⟨_,rfl⟩,q⟩
 | ref p =>
  cases rx
  have e':(∃ xs,SqL X.K H p xs∧n=xs.length)∨∃ xs,SqT X.K H p xs∧n=xs.length:=e
  rcases e' with ⟨xs,hx,e'⟩ | ⟨xs,hx,e'⟩
  ·subst e'
   obtain ⟨its,r',pl,hz⟩:=I.list hx
   have hlen:=r'.length
   exact Calls.call_len_list pl.isList (by simp only [List.size_toArray];(first|lia|omega)) ⟨.int xs.length,H,I.tok _,⟨_,by simp only [List.size_toArray];rw [hlen]⟩,q⟩
  ·subst e'
   obtain ⟨its,r',pl,hz⟩:=I.tuple hx
   have hlen:=r'.length
   exact len_tuple pl (by simp only [List.size_toArray];(first|lia|omega)) ⟨.int xs.length,H,I.tok _,⟨_,by simp only [List.size_toArray];rw [hlen]⟩,q⟩
 | _=>exact (show False from e).elim
end
end L2
namespace L2
open PySem PySem.Spec PyProof.Rows
structure ObjM (h:Heap) (x dx C:Addr) (mA:Str→Option Value):Prop where
 obj:h.get? x=some (PySem.W.instObj C dx)
 ns:h.Ns1 dx mA
 ne:dx≠x
theorem zj8 {h:Heap} {dx:Addr} {mA:Str→Option Value} (n:h.Ns1 dx mA):∃ od,h.get? dx=some od∧∀ name,PySem.W.lookIn name od=some (mA name):=by
 obtain ⟨o,es,ep,ho,hd,hk,_,hm⟩:=n
 refine ⟨o,ho,fun name=>?_⟩
 have e:=hm name
 unfold nsFind findBy at e
 rw [← Array.find?_toList] at e
 unfold PySem.W.lookIn
 rw [hd]
 dsimp only
 split
 ·rename_i y q
  rw [q] at e
  exact congrArg some e
 ·rename_i q
  rw [q] at e
  have a:es.toList.any (·.refKey)=false:=by
   rw [List.any_eq_false]
   intro y hy
   obtain ⟨z,t,hkey⟩:=hk y (Array.mem_toList_iff.mp hy)
   simp [DictEntry.refKey,hkey]
  have a':¬ es.toList.any (·.refKey)=true:=by rw [a];exact Bool.false_ne_true
  rw [if_neg a']
  exact congrArg some e
theorem ObjM.look {h:Heap} {x dx C:Addr} {mA:Str→Option Value} (I:ObjM h x dx C mA):∃ od,PySem.W.InstAt h x (PySem.W.instObj C dx) C (some od)∧∀ name,PySem.W.lookIn name od=some (mA name) :=
 let ⟨od,ho,hl⟩:=zj8 I.ns
 ⟨od,⟨I.obj,rfl,rfl,ho⟩,hl⟩
section
variable {prog:Program} {w:World} {A:Around} {E:Value→Shared→Prop} {s:Shared} {K:PySem.W.Frag} {x dx C f:Addr} {mA:Str→Option Value} {name:Str} {v:Value}
end
theorem zoz.some_of {v:V} {o:Option Value} (r:zoz (some v) o):∃ u,o=some u∧zca v u:=by
 cases o with
 | none=>exact (show False from r).elim
 | some u=>exact ⟨u,rfl,r⟩
theorem zod {v:V} {u:Value} (r:zca v u):PySem.W.handedIn u=true:=by
 cases v with
 | non=>cases (show u=Value.none from r);rfl
 | bl b=>cases (show u=Value.bool b from r);rfl
 | int i=>obtain ⟨t,e⟩:=(show ∃ t,u=Value.int i t from r);cases e;rfl
 | str x=>obtain ⟨t,e⟩:=(show ∃ t,u=Value.str x t from r);cases e;rfl
 | byt b=>obtain ⟨t,e⟩:=(show ∃ t,u=Value.bytes b t from r);cases e;rfl
 | flt b=>obtain ⟨t,e⟩:=(show ∃ t,u=Value.float b t from r);cases e;rfl
 | ref a=>cases (show u=Value.ref a from r);rfl
 | ty n=>cases (show u=Value.type n from r);rfl
section
variable {P:Program} {w:World} {H H':Hp} {h h':Heap} {a C dx:Addr} {fs fs':List (Str×V)}
theorem ztT (hok:HOk P w H h) (e:H a=some (.ins C dx fs)):∃ mA,ObjM h a dx C mA∧(∀ f,zoz (fs.lookup f) (mA f))∧PySem.Within mA (fs.map (·.1))∧fs.length≤1000∧H dx=some (.own a):=by
 obtain ⟨d,z,ne,ob,mA,n,r,q⟩:=(show zbH P w H h a (.ins C dx fs) from hok a _ e)
 exact ⟨mA,⟨ob,n,ne⟩,r,q,z,d⟩
end
structure Cls (K:PySem.W.Frag) (C:Addr):Prop where
 pg:PySem.W.plainGet K C Str.empty=true
 hd:PySem.W.hasDictIn K C=true
 po:PySem.W.plainOver K C=true
 sa:PySem.W.findIn K (.ref C) "__setattr__"=some (some (.builtin "object.__setattr__"))
theorem Cls.get {K:PySem.W.Frag} {C:Addr} (c:Cls K C) (f:Str):PySem.W.plainGet K C f=true:=c.pg
section
variable {X:Cx} {pins:List (Addr×Obj)} {σ:St} {H:Hp} {s:Shared} {a C dx:Addr} {fs:List (Str×V)} {f:Str} {v:V} {A:Around} {E:Value→Shared→Prop}
theorem zsh {prog:Program} {w:World} {env:Env} {e:Expr} {f:Str} {pos:Pos} {s:Shared} {Q:Value→Shared→Prop} (hb:attributeBase e f env (eval e env)=eval e env)
  (h:wpAny (model prog w) A (eval e env) (fun o s₁=>wpAny (model prog w) A (getAttr o f true) Q E s₁) E s):wpAny (model prog w) A (eval (.Attribute e f pos) env) Q E s :=
 Attribute_any_ h (by rw [arm_eval_Attribute,hb])
end
section
variable {X:Cx} {o e value:Expr} {f:Str} {pos pos' tpos:Pos} {ta tv:TE}
end
section
variable {X:Cx} {pins:List (Addr×Obj)} {σ:St} {H:Hp} {s:Shared} {A:Around} {E:Value→Shared→Prop} {Q:Value→Shared→Prop} {c:Value} {b:Bool}
inductive zlC (K:PySem.W.Frag) (H:Hp):V→Value→Prop where
 | non:zlC K H .non (.type "NoneType")
 | bl (x:Bool):zlC K H (.bl x) (.type "bool")
 | int (i:Int):zlC K H (.int i) (.type "int")
 | str (x:Str):zlC K H (.str x) (.type "str")
 | flt (x:UInt64):zlC K H (.flt x) (.type "float")
 | lst {a:Addr} {xs:List V} (e:H a=some (.lst xs)):zlC K H (.ref a) (.type "list")
 | frz {a:Addr} {o:Obj} {xs:List V} (e:H a=some (.frz o (.lst xs))):zlC K H (.ref a) (.type "list")
 | tup {a:Addr} {xs:List V} (e:H a=some (.tup xs)):zlC K H (.ref a) (.type "tuple")
 | dK {a:Addr} {kvs:List (Key×V)} (e:H a=some (.dK kvs)):zlC K H (.ref a) (.type "dict")
 | dT {a:Addr} {kvs:List (List Key×V)} (e:H a=some (.dT kvs)):zlC K H (.ref a) (.type "dict")
 | ins {a C dx:Addr} {fs:List (Str×V)} (e:H a=some (.ins C dx fs)) (cl:Cls K C) (ha:PySem.W.findIn K (.ref C) "__class__"=some (some (.builtin "object.__class__")))
   (hn:PySem.W.specialIn K (.builtin "object.__class__") "__get__"=some (some (.builtin "getset_descriptor.__get__"))) (htk:PySem.W.takesIn K (.builtin "object.__class__")=some true)
   (hm:PySem.W.mroIn K C (.type "object")=some true):zlC K H (.ref a) (.ref C)
theorem zo6 {x:V} {u t:Value} (I:Inv X pins σ H s) (rx:zca x u) (ty:zlC X.K H x t) (e:PySem.W.kitOne X.K t c=some b) (h:∀ tk,Q (.bool b) { s with toks:=tk }) :
  wpAny (model X.prog X.w) A (call (.builtin "isinstance") [u,c]) Q E s:=by
 cases ty with
 | non=>cases (show u=Value.none from rx);exact PySem.W.kia_one PySem.W.kitx_none I.kIn True.intro e (fun z=>nomatch z) h
 | bl y=>cases (show u=Value.bool y from rx);exact PySem.W.kia_one PySem.W.kitx_bool I.kIn True.intro e (fun z=>nomatch z) h
 | int i=>obtain ⟨t,q⟩:=(show ∃ t,u=Value.int i t from rx);cases q;exact PySem.W.kia_one PySem.W.kitx_int I.kIn True.intro e (fun z=>nomatch z) h
 | str y=>obtain ⟨t,q⟩:=(show ∃ t,u=Value.str y t from rx);cases q;exact PySem.W.kia_one PySem.W.kitx_str I.kIn True.intro e (fun z=>nomatch z) h
 | flt y=>obtain ⟨t,q⟩:=(show ∃ t,u=Value.float y t from rx);cases q;exact PySem.W.kia_one PySem.W.kitx_float I.kIn True.intro e (fun z=>nomatch z) h
 | @lst a xs ea =>
  cases (show u=Value.ref a from rx)
  obtain ⟨_,_,n,_,h1⟩:=(show zbH X.prog X.w H s.heap a (.lst xs) from I.hok a _ ea)
  exact PySem.W.kia_one PySem.W.kitx_list I.kIn ⟨_,h1,rfl⟩ e (fun z=>nomatch z) h
 | @frz a ob xs ea =>
  cases (show u=Value.ref a from rx)
  obtain ⟨_,_,_,n,_,h1⟩:=(show zbH X.prog X.w H s.heap a (.frz ob (.lst xs)) from I.hok a _ ea)
  exact PySem.W.kia_one PySem.W.kitx_list I.kIn ⟨_,h1,rfl⟩ e (fun z=>nomatch z) h
 | @tup a xs ea =>
  cases (show u=Value.ref a from rx)
  obtain ⟨_,_,_,p⟩:=(show zbH X.prog X.w H s.heap a (.tup xs) from I.hok a _ ea)
  obtain ⟨o,h1,h2,_⟩:=p
  exact PySem.W.kia_one PySem.W.kitx_tuple I.kIn ⟨o,h1,h2⟩ e (fun z=>nomatch z) h
 | @dK a kvs ea =>
  cases (show u=Value.ref a from rx)
  obtain ⟨_,_,vs,_,p⟩:=(show zbH X.prog X.w H s.heap a (.dK kvs) from I.hok a _ ea)
  obtain ⟨o,es,ep,h1,h2,_⟩:=p
  exact PySem.W.kia_one PySem.W.kitx_dict I.kIn ⟨o,h1,h2.1⟩ e (fun z=>nomatch z) h
 | @dT a kvs ea =>
  cases (show u=Value.ref a from rx)
  obtain ⟨_,_,xs,_,o,es,ep,h1,h2,_⟩:=(show zbH X.prog X.w H s.heap a (.dT kvs) from I.hok a _ ea)
  exact PySem.W.kia_one PySem.W.kitx_dict I.kIn ⟨o,h1,h2.1⟩ e (fun z=>nomatch z) h
 | @ins a C dx fs ea cl ha hn htk hm =>
  cases (show u=Value.ref a from rx)
  obtain ⟨mA,O,_⟩:=ztT I.hok ea
  obtain ⟨od,J,_⟩:=O.look
  exact PySem.W.kia_one (PySem.W.kitx_own (cl.get _) cl.hd ha hn htk hm) I.kIn J e (fun z=>nomatch z) h
end
end L2
namespace L2
open PySem PySem.Spec PyProof.Rows
structure zej (k:Nat) (A:Around):Prop where
 hd:A.handled=none
 dp:A.depth+3*k+5<recursionLimit
 un:A.units+16*k+200<cLine
theorem zej.mono {j k:Nat} {A:Around} (r:zej k A) (h:j≤k):zej j A:=⟨r.hd,by have:=r.dp;(first|lia|omega),by have:=r.un;(first|lia|omega)⟩
theorem zej.deeper {k:Nat} {A:Around} (r:zej (k+1) A) (env:Env):zej k (A.deeper env) :=
 ⟨r.hd,by have:=r.dp;show A.depth+1+3*k+5<_;(first|lia|omega),by have:=r.un;show A.units+3+16*k+200<_;(first|lia|omega)⟩
theorem zh7 {A:Around} {C:Addr} {us:List Value} {kw:List (Str×Value)}:(A.under (.builtin "type.__call__" ⟨.ref C::us,kw⟩)).depth=A.depth+1:=by
 first | rfl | simp [Around.under,Code.weight,Code.isCreation,Code.isGuard,Code.isCaller,Code.frames,Code.isFrame,guardIds]
theorem zid {A:Around} {C:Addr} {us:List Value} {kw:List (Str×Value)}:(A.under (.builtin "type.__call__" ⟨.ref C::us,kw⟩)).units=A.units+1:=by
 first | rfl | simp [Around.under,Code.cUnits,Code.frames,Code.isFrame]
theorem zej.make {k:Nat} {A:Around} (r:zej (k+1) A) (C:Addr) (us:List Value) (kw:List (Str×Value)):zej k (A.under (.builtin "type.__call__" ⟨.ref C::us,kw⟩)) :=
 ⟨r.hd,by have:=r.dp;rw [zh7];(first|lia|omega),by have:=r.un;rw [zid];(first|lia|omega)⟩
theorem zej.depth {k:Nat} {A:Around} (r:zej k A):A.depth<recursionLimit:=by have:=r.dp;(first|lia|omega)
theorem zej.units {k:Nat} {A:Around} (r:zej k A):A.units+64<cLine:=by have:=r.un;(first|lia|omega)
def zav:TA:=fun _ H Q=>Q [] H
def zab (ta:TE) (tr:TA):TA:=fun σ H Q=>ta σ H fun x H1=>tr σ H1 fun xs H2=>Q (x::xs) H2
section
variable {X:Cx} {e:Expr} {es:List Expr} {te:TE} {t:TA} {pos:Pos}
theorem zae:PA X [] zav:=fun _ _ _ _ H Q I h=>Calls.spliced_nil ⟨[],H,I,.nil,h⟩
theorem zaa (ha:PE X e te) (hr:PA X es t) (hs:starEach (e::es) X.env=(false,eval e X.env)::starEach es X.env:=by rfl):PA X (e::es) (zab te t):=by
 intro pos pins s σ H Q I h
 rw [hs]
 show wpAny _ _ (spliced ((false,eval e X.env)::backTo pos (starEach es X.env))) _ _ s
 refine Calls.spliced_cons (thn (ha pins s σ H _ I h) fun u s1 hQ'=>?_)
 obtain ⟨x,H1,I1,r1,q1⟩:=hQ'
 exact thn (hr pos pins s1 σ H1 _ I1 q1) fun us s2 ⟨xs,H2,I2,r2,q2⟩=>⟨x::xs,H2,I2,.cons r1 r2,q2⟩
def zgZ (t:TA):TE:=fun σ H Q=>t σ H fun xs H1=>xs.length≤sizeLine∧∀ p,H1 p=none→Q (.ref p) (upd H1 p (.tup xs))
def zdM (t:TA):TE:=fun σ H Q=>t σ H fun xs H1=>xs.length≤sizeLine∧∀ p,H1 p=none→Q (.ref p) (upd H1 p (.lst xs))
theorem zdj {x1} (h:PA X es t):PE X (.Tuple es x1 pos) (zgZ t):=by
 intro pins s σ H Q I hq
 refine wpAny_Tuple_spliced (thn (h pos pins s σ H _ I hq) fun us s1 ⟨xs,H1,I1,r,z,q⟩=>⟨by rw [← r.length];exact z,?_⟩)
 have hf:H1 s1.heap.objs.size=none:=I1.hok.fresh (Nat.le_refl _)
 refine ⟨.ref s1.heap.objs.size,upd H1 s1.heap.objs.size (.tup xs),I1.laid (t':=s1.toks) (fun b u e=>Heap.get?_push_of_some _ e) (Nat.le_refl _) ?_,rfl,q _ hf⟩
 exact ⟨z,us,r,⟨_,Heap.get?_push_size _ rfl,rfl,_,rfl⟩⟩
theorem zbX (h:PA X es t):PE X (.List es pos) (zdM t):=by
 intro pins s σ H Q I hq
 refine wpAny_List_spliced (thn (h pos pins s σ H _ I hq) fun us s1 ⟨xs,H1,I1,r,z,q⟩=>⟨by rw [← r.length];exact z,?_⟩)
 have hf:H1 s1.heap.objs.size=none:=I1.hok.fresh (Nat.le_refl _)
 refine ⟨.ref s1.heap.objs.size,upd H1 s1.heap.objs.size (.lst xs),I1.laid (t':=s1.toks) (fun b u e=>Heap.get?_push_of_some _ e) (Nat.le_refl _) ?_,rfl,q _ hf⟩
 exact ⟨z,us,0,r,Heap.get?_push_size _ rfl⟩
end
abbrev Sp:=List V→Hp→VK→XK→Prop
abbrev CXT:=List Env→Hp→Shared→XK→Value→Shared→Prop
structure zm6 (P:Program) (w:World) (K:PySem.W.Frag) (mg:Str→Option Value) (base:Heap) (A:Around) (outer:List Env) (s:Shared) (H:Hp):Prop where
 frames:A.frames=some outer
 mod:Mod K mg base
 bs:∀ b o,base.get? b=some o→s.heap.get? b=some o∧H b=none
 bsz:base.objs.size≤s.heap.objs.size
 funs:s.heap.FunFrames base outer
 frf:∀ b∈frs outer,H b=none
 hok:HOk P w H s.heap
 bare:AllBare s.gens
def CE (outer:List Env) (P:Program) (w:World) (H:Hp) (s:Shared) (Q:VK) (u:Value) (s':Shared):Prop :=
 ∃ v H',s'.os=s.os∧AllBare s'.gens∧Un (frs outer) [] H H' s.heap s'.heap∧HOk P w H' s'.heap∧zca v u∧Q v H'
def CR (CX:CXT) (outer:List Env) (P:Program) (w:World) (H:Hp) (s:Shared) (Q:VK) (E:XK) (r:Result) (s':Shared):Prop :=
 match r with
 | .ok (.ret u)=>CE outer P w H s Q u s'
 | .ok _=>False
 | .error e=>CX outer H s E e s'
structure zcW (P:Program) (w:World) (K:PySem.W.Frag) (mg:Str→Option Value) (base:Heap) (CX:CXT) (k:Nat) (f:Addr) (fd:FuncData) (ps:List Str) (sp:Sp):Prop where
 len:∀ vs H Q E,sp vs H Q E→vs.length=ps.length
 run:∀ (A:Around) (outer:List Env) (s:Shared) (H:Hp) (args:Args) (us:List Value) (vs:List V) (Q:VK) (E:XK),zej k A→zm6 P w K mg base A outer s H→BindsTo s fd args (ps.zip us)→zbZ vs us→sp vs H Q E →
  codeAny (model P w) A (.call (.ref f) args) (CR CX outer P w H s Q E) s
theorem zm6.make {P:Program} {w:World} {K:PySem.W.Frag} {mg:Str→Option Value} {base:Heap} {A:Around} {outer:List Env} {s:Shared} {H:Hp} (e:zm6 P w K mg base A outer s H) (C:Addr) (us:List Value) (kw:List (Str×Value)) :
  zm6 P w K mg base (A.under (.builtin "type.__call__" ⟨.ref C::us,kw⟩)) outer s H:=⟨by first | exact e.frames | (simpa [Around.under,Code.envs,Code.isFrame,pushEnvs] using e.frames),e.mod,e.bs,e.bsz,e.funs,e.frf,e.hok,e.bare⟩
section
variable {X:Cx} {pins:List (Addr×Obj)} {σ:St} {H:Hp} {s s':Shared}
theorem Inv.env0 (I:Inv X pins σ H s):zm6 X.prog X.w X.K X.mg X.base X.A X.stack s H :=
 ⟨I.ok.frames,I.ok.mod,I.bs,Nat.le_trans I.ok.bsz I.sz,I.stack,I.stkFree,I.hok,I.bare⟩
theorem Inv.after {Q:VK} {u:Value} (I:Inv X pins σ H s) (h:CE X.stack X.prog X.w H s Q u s'):EP X pins σ Q u s':=by
 obtain ⟨v,H',os,bare,un,hok,r,q⟩:=h
 obtain ⟨hh,g,d,t,os'⟩:=s'
 obtain rfl:os'=s.os:=os
 exact ⟨v,H',I.call (h':=hh) (g':=g) (d':=d) (t':=t) (ch:=[]) un hok bare (fun b z=>absurd z (by simp)),r,q⟩
end
def zaZ (sp:Sp) (dvs:List V) (E:XK) (t:TA):TE:=fun σ H Q=>t σ H fun vs H1=>sp (vs++dvs) H1 Q E
def zbF (K:PySem.W.Frag) (fd:FuncData) (ps:List Str) (ds:List Value):Prop :=
 ∀ (s:Shared) (us:List Value),K.In s.heap→(us++ds).length=ps.length→BindsTo s fd ⟨us,[]⟩ (ps.zip (us++ds))
theorem zbF.all {K:PySem.W.Frag} {fd:FuncData} {ps:List Str} (h:∀ us:List Value,us.length=ps.length→bindArgs fd ⟨us,[]⟩=pure (ps.zip us)):zbF K fd ps []:=fun s us _ hl=>by
 rw [List.append_nil] at hl ⊢
 exact .of_eq (h us hl)
def zgb (CX:CXT) (X:Cx) (E:XK):Prop:=∀ (pins:List (Addr×Obj)) (σ:St) (H:Hp) (s:Shared) (e:Value) (s':Shared),Inv X pins σ H s→CX X.stack H s E e s'→X.xe e s'
section
variable {X:Cx} {CX:CXT} {k:Nat} {f C:Addr} {fd:FuncData} {ps:List Str} {sp:Sp} {dvs:List V} {ds:List Value} {E:XK} {x m:Str} {p pos apos:Pos} {e o:Expr} {es:List Expr} {ta:TE} {t:TA}
theorem zu4 {pins:List (Addr×Obj)} {σ:St} {H:Hp} {s:Shared} {Q:VK} {us:List Value} {vs:List V} (F:zcW X.prog X.w X.K X.mg X.base CX k f fd ps sp) (hr:zej k X.A) (hb:zbF X.K fd ps ds) (hd:zbZ dvs ds) (hx:zgb CX X E)
  (I:Inv X pins σ H s) (r:zbZ vs us) (h:sp (vs++dvs) H Q E):wpAny (model X.prog X.w) X.A (call (.ref f) us) (EP X pins σ Q) X.xe s:=by
 have r2:zbZ (vs++dvs) (us++ds):=r.append hd
 have hl:(us++ds).length=ps.length:=by rw [← r2.length];exact F.len _ _ _ _ h
 refine wpAny_call (codeAny_mono (F.run X.A X.stack s H ⟨us,[]⟩ (us++ds) (vs++dvs) Q E hr I.env0 (hb s us I.kIn hl) r2 h) fun r s' hq=>?_)
 cases r with
 | error e=>exact hx pins σ H s e s' I hq
 | ok fl =>
  cases fl with
  | ret u=>exact I.after hq
  | next=>exact False.elim hq
  | brk=>exact False.elim hq
  | cont=>exact False.elim hq
theorem zaG (F:zcW X.prog X.w X.K X.mg X.base CX k f fd ps sp) (hr:zej k X.A) (hg:Gl X x) (hm:X.mg x=some (.ref f)) (hk:PySem.W.keepIn X.K (.ref f)=true) (hb:zbF X.K fd ps ds) (hd:zbZ dvs ds) (hx:zgb CX X E)
  (ha:PA X (e::es) t) (hdb:(x == ("__debug__":Str))=false:=by decide) (he:starEach (e::es) X.env=(false,eval e X.env)::starEach es X.env:=by rfl) (hpl:(backTo pos (starEach es X.env)).any (·.1)=false:=by rfl) :
  PE X (.Call (.Name x p) (e::es) [] pos) (zaZ sp dvs E t):=by
 intro pins s σ H Q I h
 refine wpAny_Call_Name_kw (zdg I hg hm ?_ hdb)
 refine PySem.W.callWith_K (h₀:=X.base) I.ok.mod.kin hk (thn (ha pos pins s σ H _ I h) fun us s1 ⟨vs,H1,I1,r,q⟩=>⟨I1.kIn,?_⟩) he hpl
 exact zu4 F hr hb hd hx I1 r q
end
section
variable {X:Cx} {CX:CXT} {k:Nat} {f C:Addr} {fd:FuncData} {ps ks:List Str} {sp:Sp} {E:XK} {x m:Str} {p pos apos kpos:Pos} {e o:Expr} {es:List Expr} {kws:List Keyword} {te ta:TE} {t tk:TA} {nm:Option Str}
variable {g:List Value→List Value→List Value} {gV:List V→List V→List V}
end
structure zaP (N P:List Str) (sc:Scope):Prop where
 kind:sc.kind=.function
 co:sc.isCoroutine=false
 gen:sc.isGenerator=false
 nd:N.Nodup
 pre:N.take P.length=P
 par:∀ x∈P,sc.names.lookup x=some .local∨sc.names.lookup x=some .cell
 nofree:∀ y∈sc.names,y.2≠.free
theorem zjv {kindOf:Str→Option NameKind} {x:Str}:∀ {binds:List (Str×Value)} {m:Str→Option Value},(∀ v,(x,v)∉binds)→bindL kindOf binds m x=m x
 | [],_,_=>rfl
 | (n,v)::r,m,h=>by
  unfold bindL
  rw [zjv fun w hw=>h w (List.mem_cons_of_mem _ hw)]
  split
  ·have:x≠n:=by rintro rfl;exact h v List.mem_cons_self
   simp [this]
  ·rfl
theorem zjJ {kindOf:Str→Option NameKind} {x:Str}:∀ {binds:List (Str×Value)} {m:Str→Option Value},(∀ v,(x,v)∉binds)→bindC kindOf binds m x=m x
 | [],_,_=>rfl
 | (n,v)::r,m,h=>by
  unfold bindC
  rw [zjJ fun w hw=>h w (List.mem_cons_of_mem _ hw)]
  split
  ·rfl
  ·have:x≠n:=by rintro rfl;exact h v List.mem_cons_self
   simp [this]
theorem zke {kindOf:Str→Option NameKind} {x:Str} {v:Value}:∀ {P:List Str} {vs:List Value} {i:Nat} {m:Str→Option Value},P.Nodup→P[i]?=some x→vs[i]?=some v→kindOf x=some .local →
  bindL kindOf (P.zip vs) m x=some v
 | [],_,_,_,_,h,_,_=>by simp at h
 | _::_,[],_,_,_,_,h,_=>by simp at h
 | p::P,w::vs,0,m,nd,h1,h2,hk=>by
  simp at h1 h2;subst h1;subst h2
  show bindL kindOf ((p,w)::P.zip vs) m p=_
  unfold bindL
  rw [zjv fun v hv=>(List.nodup_cons.mp nd).1 (List.of_mem_zip hv).1,if_pos hk]
  simp
 | p::P,w::vs,i+1,m,nd,h1,h2,hk=>by
  show bindL kindOf ((p,w)::P.zip vs) m x=_
  unfold bindL
  exact zke (i:=i) (List.nodup_cons.mp nd).2 (by simpa using h1) (by simpa using h2) hk
theorem zjD {kindOf:Str→Option NameKind} {x:Str} {v:Value}:∀ {P:List Str} {vs:List Value} {i:Nat} {m:Str→Option Value},P.Nodup→P[i]?=some x→vs[i]?=some v→kindOf x≠some .local →
  bindC kindOf (P.zip vs) m x=some v
 | [],_,_,_,_,h,_,_=>by simp at h
 | _::_,[],_,_,_,_,h,_=>by simp at h
 | p::P,w::vs,0,m,nd,h1,h2,hk=>by
  simp at h1 h2;subst h1;subst h2
  show bindC kindOf ((p,w)::P.zip vs) m p=_
  unfold bindC
  rw [zjJ fun v hv=>(List.nodup_cons.mp nd).1 (List.of_mem_zip hv).1,if_neg hk]
  simp
 | p::P,w::vs,i+1,m,nd,h1,h2,hk=>by
  show bindC kindOf ((p,w)::P.zip vs) m x=_
  unfold bindC
  exact zjD (i:=i) (List.nodup_cons.mp nd).2 (by simpa using h1) (by simpa using h2) hk
def zbB (N:List Str) (vs:List V):St:=vs.map some++List.replicate (N.length - vs.length) none
def zjY (CX:CXT) (P:Program) (w:World) (K:PySem.W.Frag) (mg:Str→Option Value) (base:Heap) (N:List Str) (qual:Str) (scope:Scope) (f:Addr) (cd:Value) (A:Around) (outer:List Env) (s:Shared) (H:Hp) (E:XK):Cx where
 prog:=P
 w:=w
 K:=K
 mg:=mg
 base:=base
 A:=A.deeper (envOfC qual scope s.heap.objs.size f cd)
 N:=N
 s₀:=s
 H₀:=H
 env:=envOfC qual scope s.heap.objs.size f cd
 outer:=outer
 stack:=envOfC qual scope s.heap.objs.size f cd::outer
 ex:=[]
 calm:=true
 fn:=fun _=>true
 pn:=[]
 xe:=fun e s'=>wpAny (model P w) (A.deeper (envOfC qual scope s.heap.objs.size f cd)) (leaving (envOfC qual scope s.heap.objs.size f cd) e) (fun _ s''=>CX outer H s E e s'') (fun e' s''=>CX outer H s E e' s'') s'
theorem zlK {sc:Scope} {n:Nat} {x:Str} (h:sc.names.lookup x=some .cell):∃ c,(cellsFrom n sc.names []).lookup x=some c:=by
 have q:=PySem.W.cellsFrom_some sc.names n [] (.inl h)
 exact Option.isSome_iff_exists.mp q
theorem zjf {CX:CXT} {P:Program} {w:World} {K:PySem.W.Frag} {mg:Str→Option Value} {base:Heap} {N ps:List Str} {qual:Str} {scope:Scope} {f:Addr} {cd:Value} {A:Around} {outer:List Env} {s s1:Shared} {H:Hp} {E:XK} {us:List Value} {vs:List V}
  (S:zaP N ps scope) (hd:A.handled=none) (e0:zm6 P w K mg base A outer s H) (hl:vs.length=ps.length) (r:zbZ vs us)
  (x:InCallC s s.heap.objs.size (bindL (envOfC qual scope s.heap.objs.size f cd).kindOf (ps.zip us) fun _=>none) (cellsFrom (s.heap.objs.size+1) scope.names []) (bindC (envOfC qual scope s.heap.objs.size f cd).kindOf (ps.zip us) fun _=>none) s1) :
  Inv (zjY CX P w K mg base N qual scope f cd A outer s H E) [] (zbB N vs) H s1:=by
 have hpl:ps.length≤N.length:=by have:=congrArg List.length S.pre;rw [List.length_take] at this;(first|lia|omega)
 obtain ⟨h1,tk,rfl,hk⟩:=x.done
 have noA:∀ b:Addr,b∉(zjY CX P w K mg base N qual scope f cd A outer s H E).ex:=fun b z=>absurd (show b∈([]:List Addr) from z) (by simp)
 refine ⟨⟨e0.mod,S.kind,rfl,rfl,Nat.le_refl _,fun y z c h1 h2=>?_,fun y hy=>?_,fun y c _ h=>?_,fun _=>hd,Around.frames_deeper e0.frames,.inr ⟨rfl,rfl⟩,fun b z=>absurd z (noA b),e0.bs,e0.bsz,fun b _ _=>noA b,fun b z=>absurd z (noA b),e0.funs,e0.frf⟩,
  rfl,e0.bare,Un.kept hk,⟨_,x.toInCall.ns,fun i y v h1 h2 h3=>?_⟩,fun y c h=>⟨_,x.cell y c h⟩,e0.hok.fresh (Nat.le_refl _),fun y c h=>?_,fun p hp=>absurd (show p∈([]:List (Addr×Obj)) from hp) (by simp),e0.hok.kept hk,?_⟩
 ·exact name_of_addr x.apart (PySem.mem_of_lookup h1) (PySem.mem_of_lookup h2)
 ·have hy:scope.names.lookup y=some .cell∨scope.names.lookup y=some .free:=hy
  rcases hy with hy | hy
  ·exact zlK hy
  ·exact absurd rfl (S.nofree _ (PySem.mem_of_lookup hy))
 ·exact Nat.le_of_lt (x.above y c (PySem.mem_of_lookup h))
 ·have hi:i<vs.length:=by
   unfold zbB at h2
   by_cases hi:i<vs.length
   ·exact hi
   ·rw [List.getElem?_append_right (by simpa using hi)] at h2
    rw [List.getElem?_replicate] at h2
    split at h2 <;> cases h2
  have ha:vs[i]?=some v:=by
   unfold zbB at h2
   rw [List.getElem?_append_left (by simpa using hi),List.getElem?_map] at h2
   cases e:vs[i]? with
   | none=>rw [e] at h2;cases h2
   | some a=>rw [e] at h2;cases h2;rfl
  obtain ⟨u,hu,rv⟩:=r.get ha
  have hp:ps[i]?=some y:=by
   rw [← S.pre,List.getElem?_take_of_lt (by (first|lia|omega))];exact h1
  have ndP:ps.Nodup:=by rw [← S.pre];exact S.nd.sublist (List.take_sublist _ _)
  refine ⟨u,rv,?_⟩
  rcases S.par y (List.mem_of_getElem? hp) with k | k
  ·exact .inl ⟨k,zke ndP hp hu k⟩
  ·obtain ⟨c,e⟩:=zlK (n:=s.heap.objs.size+1) k
   refine .inr ⟨.inl k,c,e,?_⟩
   have q:=x.cell y c e
   rw [zjD ndP hp hu (by show scope.names.lookup y≠_;rw [k];decide)] at q
   exact q
 ·exact e0.hok.fresh (Nat.le_of_lt (x.above y c (PySem.mem_of_lookup h)))
 ·unfold zbB
  show _=N.length
  rw [List.length_append,List.length_map,List.length_replicate]
  (first|lia|omega)
theorem zpS {CX:CXT} {P:Program} {w:World} {K:PySem.W.Frag} {mg:Str→Option Value} {base:Heap} {k:Nat} {f:Addr} {name qual:Str} {params:Arguments} {body:List Stmt} {scope:Scope} {dV kV doc pm cdv ct oc:Value} {an od:Option Addr}
  {osl:Array (Option Value)} {N ps:List Str} {sp:Sp} (lk:K.lookup f=some ⟨oc,od,.func (PySem.W.fnOf name qual params body scope dV kV doc pm an cdv ct),osl⟩) (hcd:PySem.W.codeIn K cdv qual=true) (S:zaP N ps scope)
  (len:∀ vs H Q E,sp vs H Q E→vs.length=ps.length)
  (hbody:∀ (A:Around) (outer:List Env) (s:Shared) (H:Hp) (vs:List V) (Q:VK) (E:XK),zej k (A.deeper (envOfC qual scope s.heap.objs.size f cdv))→sp vs H Q E →
   ∃ t,PSs (zjY CX P w K mg base N qual scope f cdv A outer s H E) body t∧t { nx:=fun _ H'=>Q .non H',rt:=Q } (zbB N vs) H) :
  zcW P w K mg base CX (k+1) f (PySem.W.fnOf name qual params body scope dV kV doc pm an cdv ct) ps sp:=by
 refine ⟨len,fun A outer s H args us vs Q E hr e0 hb r hsp=>?_⟩
 have hl:=len _ _ _ _ hsp
 have KX:K.In s.heap:=e0.mod.kin.keeps fun b o e=>(e0.bs b o e).1
 have lim:s.heap.NoLimit:=e0.mod.nolimit.keeps fun b o e=>(e0.bs b o e).1
 have hkind:∀ y∈ps.zip us,scope.names.lookup y.1=some .local∨(scope.names.lookup y.1=some .cell∧((cellsFrom (s.heap.objs.size+1) scope.names []).lookup y.1).isSome=true):=fun ⟨n,v⟩ hy=>by
  rcases S.par n (List.of_mem_zip hy).1 with q | q
  ·exact .inl q
  ·exact .inr ⟨q,PySem.W.cellsFrom_some _ _ _ (.inl q)⟩
 refine codeAny_call_function hr.depth (KX _ _ lk) rfl S.co S.gen rfl (PySem.W.codeRec_of KX hcd) (hb _ _ _ _ ?_)
 refine wpAny_newFunctionEnv_cells S.kind hkind fun env he s1 x=>?_
 subst he
 refine ⟨lim.keeps x.toInCall.keep,codeAny_func ?_⟩
 obtain ⟨t,ht,hq⟩:=hbody A outer s H vs Q E (hr.deeper _) hsp
 have I:Inv (zjY CX P w K mg base N qual scope f cdv A outer s H E) [] (zbB N vs) H s1:=zjf S hr.hd e0 hl r x
 refine wpAny_mono (ht [] s1 (zbB N vs) H _ I hq) (fun fl s' hs=>?_) fun e s' hs=>hs
 have fin:∀ {σ':St} {H':Hp} {v:V} {u:Value},Inv (zjY CX P w K mg base N qual scope f cdv A outer s H E) [] σ' H' s'→zca v u→Q v H'→CE outer P w H s Q u s' :=
  fun {σ' H' v u} J rv q=>⟨v,H',J.os,J.bare,J.base,J.hok,rv,q⟩
 cases fl with
 | ret u =>
  obtain ⟨v,σ',H',J,rv,q⟩:=hs
  exact fin J rv q
 | next =>
  obtain ⟨σ',H',J,q⟩:=hs
  exact fin (v:=V.non) (u:=Value.none) J rfl q
 | brk =>
  obtain ⟨_,_,_,q⟩:=hs
  exact False.elim q
 | cont =>
  obtain ⟨_,_,_,q⟩:=hs
  exact False.elim q
end L2
namespace L2
open PySem PySem.Spec PyProof.Rows
section
variable {X:Cx} {x:Str} {p pos:Pos} {e:Expr} {es:List Expr} {t:TA} {id T:String} {r:List V→Hp→VK→Prop}
def tCB (r:List V→Hp→VK→Prop) (t:TA):TE:=fun σ H Q=>t σ H fun vs H1=>r vs H1 Q
theorem zax (hc:ze6 X (.builtin id) r) (hg:Gl X x) (hm:X.mg x=none) (hv:bootBuiltins x=some (.builtin id)) (ha:PA X (e::es) t) (hn:x≠"__name__":=by decide) (hdb:(x == ("__debug__":Str))=false:=by decide)
  (he:starEach (e::es) X.env=(false,eval e X.env)::starEach es X.env:=by rfl) (hpl:(backTo pos (starEach es X.env)).any (·.1)=false:=by rfl):PE X (.Call (.Name x p) (e::es) [] pos) (tCB r t):=by
 intro pins s σ H Q I h
 refine wpAny_Call_Name_kw (zij I hg hm hv ?_ hn hdb)
 exact PyProof.Rows.callWith_builtin1 (thn (ha pos pins s σ H _ I h) fun us s1 ⟨vs,H1,I1,r1,q1⟩=>hc pins s1 σ H1 vs us Q I1 r1 q1) he hpl
theorem zbA (hc:ze6 X (.type T) r) (hg:Gl X x) (hm:X.mg x=none) (hv:bootBuiltins x=some (.type T)) (ha:PA X (e::es) t) (hn:x≠"__name__":=by decide) (hdb:(x == ("__debug__":Str))=false:=by decide)
  (he:starEach (e::es) X.env=(false,eval e X.env)::starEach es X.env:=by rfl) (hpl:(backTo pos (starEach es X.env)).any (·.1)=false:=by rfl):PE X (.Call (.Name x p) (e::es) [] pos) (tCB r t):=by
 intro pins s σ H Q I h
 refine wpAny_Call_Name_kw (zij I hg hm hv ?_ hn hdb)
 exact PyProof.Rows.callWith_type1 (thn (ha pos pins s σ H _ I h) fun us s1 ⟨vs,H1,I1,r1,q1⟩=>hc pins s1 σ H1 vs us Q I1 r1 q1) he hpl
end
end L2
namespace HT
open PySem PyProof.Rows
section
open PySem.SeqAt
open PySem.AutoSeq1 (wpAny_loadPart')
open PySem.MeetsSeq PySem.MeetsSeq2 PySem.MeetsSeq3
end
section
variable {prog:Program} {w:World} {A:Around} {E:Value→Shared→Prop} {s:Shared}
def sIx (n d:Nat):Option Int→Nat
 | none=>d
 | some v=>if v<0 then (v+(n:Int)).toNat else min v.toNat n
theorem sIx_none (n d:Nat):sIx n d none=d:=rfl
theorem sIx_nat (n d k:Nat):sIx n d (some (k:Int))=min k n:=by
 show (if (k:Int)<0 then ((k:Int)+(n:Int)).toNat else min (k:Int).toNat n)=min k n
 rw [if_neg (by (first|lia|omega)),Int.toNat_natCast]
theorem sIx_le (n d:Nat) (hd:d≤n) (o:Option Int):sIx n d o≤n:=by
 cases o with
 | none=>exact hd
 | some v =>
  show (if v<0 then (v+(n:Int)).toNat else min v.toNat n)≤n
  by_cases hv:v<0
  ·rw [if_pos hv];(first|lia|omega)
  ·rw [if_neg hv];exact Nat.min_le_right _ _
end
end HT
namespace L2
open PySem PySem.Spec PyProof.Rows
abbrev TO:=St→Hp→(Option Int→Hp→Prop)→Prop
def PO (X:Cx) (e:Option Expr) (t:TO):Prop :=
 ∀ (pins:List (Addr×Obj)) (s:Shared) (σ:St) (H:Hp) (Q:Option Int→Hp→Prop),Inv X pins σ H s→t σ H Q →
  wpAny (model X.prog X.w) X.A (evalPart e X.env) (fun u s'=>∃ o H',Inv X pins σ H' s'∧IsPart u o∧Q o H') X.xe s
def zcm:TO:=fun _ H Q=>Q none H
def zfC (t:TE):TO:=fun σ H Q=>t σ H fun x H1=>∃ i,x=.int i∧Q (some i) H1
section
variable {X:Cx} {e:Expr} {te:TE} {lo hi:Option Expr} {tl th:TO} {pos p2:Pos}
theorem zd0:PO X none zcm:=by
 intro pins s σ H Q I h
 rw [evalPart_none]
 exact wpAny_pure ⟨none,H,I,.none,h⟩
theorem zd9 (h:PE X e te):PO X (some e) (zfC te):=by
 intro pins s σ H Q I hw
 rw [evalPart_some]
 refine thn (h pins s σ H _ I hw) fun u s1 hQ'=>?_
 obtain ⟨x,H1,I1,r1,q1⟩:=hQ'
 obtain ⟨i,rfl,q⟩:=q1
 obtain ⟨t,rfl⟩:=r1
 exact ⟨some i,H1,I1,.int i t,q⟩
def SlR (X:Cx) (r:V→Option Int→Option Int→Hp→VK→Prop):Prop :=
 ∀ (pins:List (Addr×Obj)) (s:Shared) (σ:St) (H:Hp) (x:V) (v vl vu:Value) (lo hi:Option Int) (sl:Addr) (Q:VK),Inv X pins σ H s→zca x v→s.heap.IsSliceOf sl vl vu .none→IsPart vl lo→IsPart vu hi→r x lo hi H Q →
  ∃ T id,typeLookup (.type T) "__getitem__"=pure (some (.builtin id))∧s.TypeIs v T∧wpAny (model X.prog X.w) X.A (getItem v (.ref sl)) (EP X pins σ Q) X.xe s
def tSl (r:V→Option Int→Option Int→Hp→VK→Prop) (te:TE) (tl th:TO):TE:=fun σ H Q=>te σ H fun x H1=>tl σ H1 fun l H2=>th σ H2 fun u H3=>r x l u H3 Q
theorem zc1 {r:V→Option Int→Option Int→Hp→VK→Prop} (hr:SlR X r) (he:PE X e te) (hl:PO X lo tl) (hu:PO X hi th):PE X (.Subscript e (.Slice lo hi none p2) pos) (tSl r te tl th):=by
 intro pins s σ H Q I h
 refine Subscript_ (thn (he pins s σ H _ I h) fun v s1 hQ'=>?_)
 obtain ⟨x,H1,I1,r1,q1⟩:=hQ'
 refine wpAny_Slice (thn (hl pins s1 σ H1 _ I1 q1) fun vl s2 ⟨l,H2,I2,pl,q2⟩=>thn (hu pins s2 σ H2 _ I2 q2) fun vu s3 hQ'=>?_)
 obtain ⟨u,H3,I3,pu,q3⟩:=hQ'
 rw [evalPart_none]
 refine wpAny_pure ?_
 have I4:Inv X pins σ H3 { s3 with heap:=s3.heap.push { cls:=.type "slice",data:=.fields #[vl,vu,.none] } }:=I3.kept (t':=s3.toks) fun b ob q=>Heap.get?_push_of_some _ q
 obtain ⟨T,id,hT,ht,hg⟩:=hr pins { s3 with heap:=s3.heap.push { cls:=.type "slice",data:=.fields #[vl,vu,.none] } } σ H3 x v vl vu l u s3.heap.objs.size Q I4 r1 (Heap.IsSliceOf.new ..) pl pu q3
 show wpAny (model X.prog X.w) X.A (subscriptTail e (.Slice lo hi none p2) v (.ref s3.heap.objs.size)) (EP X pins σ Q) X.xe { s3 with heap:=s3.heap.push { cls:=.type "slice",data:=.fields #[vl,vu,.none] } }
 exact tail_any (ops:=[.ref s3.heap.objs.size,v]) ht hT hg (by with_unfolding_all rfl)
def znT (xs:List V) (lo hi:Option Int):List V:=(xs.drop (HT.sIx xs.length 0 lo)).take (HT.sIx xs.length xs.length hi - HT.sIx xs.length 0 lo)
theorem zk6 (xs:List V) (lo hi:Option Int):(znT xs lo hi).length≤xs.length:=by
 unfold znT
 rw [List.length_take,List.length_drop]
 (first|lia|omega)
end
end L2
namespace L2
open PySem PySem.Spec PyProof.Rows
def ixN (n:Nat) (i:Int):Option Nat:=if 0≤i then (if i<n then some i.toNat else none) else if -(n:Int)≤i then some (i+n).toNat else none
def atI {α:Type} (xs:List α) (i:Int):Option α:=(ixN xs.length i).bind fun j=>xs[j]?
theorem zsV {n:Nat} {i:Int} {j:Nat} (h:ixN n i=some j):seqIndex? i n=some j∧j<n∧-(n:Int)≤i∧i<n:=by
 unfold ixN at h
 by_cases h0:0≤i
 ·rw [if_pos h0] at h
  by_cases h1:i<n
  ·rw [if_pos h1] at h
   have e:i.toNat=j:=Option.some.inj h
   exact ⟨by rw [seqIndex_of h0 h1,e],by (first|lia|omega),by (first|lia|omega),h1⟩
  ·rw [if_neg h1] at h;cases h
 ·rw [if_neg h0] at h
  by_cases h1:-(n:Int)≤i
  ·rw [if_pos h1] at h
   have e:(i+n).toNat=j:=Option.some.inj h
   exact ⟨by rw [seqIndex_neg (by (first|lia|omega)) h1,e],by (first|lia|omega),h1,by (first|lia|omega)⟩
  ·rw [if_neg h1] at h;cases h
theorem zn8 {α:Type} {xs:List α} {i:Int} {v:α} (h:atI xs i=some v):∃ j,seqIndex? i xs.length=some j∧xs[j]?=some v∧j<xs.length∧-(xs.length:Int)≤i∧i<xs.length:=by
 unfold atI at h
 cases e:ixN xs.length i with
 | none=>rw [e] at h;cases h
 | some j =>
  rw [e] at h
  obtain ⟨h1,h2,h3,h4⟩:=zsV e
  exact ⟨j,h1,h,h2,h3,h4⟩
theorem zbJ {α:Type} {xs:List α} {j:Nat} {v:α} (h:xs[j]?=some v):atI xs (j:Int)=some v:=by
 have hj:j<xs.length:=(List.getElem?_eq_some_iff.mp h).1
 have e:ixN xs.length (j:Int)=some j:=by
  unfold ixN
  rw [if_pos (by (first|lia|omega)),if_pos (by (first|lia|omega))];simp
 unfold atI;rw [e];exact h
theorem zq7 {α:Type} (xs:List α) (v:α):atI (xs++[v]) (-1)=some v:=by
 have hl:(xs++[v]).length=xs.length+1:=by simp
 have e:ixN (xs++[v]).length (-1)=some xs.length:=by
  unfold ixN
  rw [hl,if_neg (by decide),if_pos (by (first|lia|omega))]
  congr 1
  (first|lia|omega)
 unfold atI
 rw [e]
 show (xs++[v])[xs.length]?=some v
 simp
def zsm (b:Expr):Prop:=∀ o i,subscripted b false o i=operate [o,i] (getItem o i)
def IxR (X:Cx) (r:R2):Prop :=
 ∀ (value slice:Expr) (pins:List (Addr×Obj)) (s:Shared) (σ:St) (H:Hp) (x y:V) (v u:Value) (Q:VK),Inv X pins σ H s→zca x v→zca y u→r x y H Q →
  subscripted slice false v u=operate [v,u] (getItem v u)→wpAny (model X.prog X.w) X.A (subscriptTail value slice v u) (EP X pins σ Q) X.xe s
def MtR (X:Cx) (id:String) (r:V→List V→Hp→VK→Prop):Prop :=
 ∀ (pins:List (Addr×Obj)) (s:Shared) (σ:St) (H:Hp) (x:V) (xs:List V) (v:Value) (us:List Value) (Q:VK),Inv X pins σ H s→zca x v→zbZ xs us→r x xs H Q →
  wpAny (model X.prog X.w) X.A (call (.builtin id) (v::us)) (EP X pins σ Q) X.xe s
section
variable {X:Cx} {a b:Expr} {ta tb:TE} {pos:Pos}
theorem zcN {r:R2} (hr:IxR X r) (ha:PE X a ta) (hb:PE X b tb) (hs:zsm b):PE X (.Subscript a b pos) (tOp r ta tb):=by
 intro pins s σ H Q I h
 exact Subscript_ (binT ha hb I h fun v u s2 x y H2 I2 rx ry q=>hr a b pins s2 σ H2 x y v u Q I2 rx ry q (hs _ _))
def zeA (K:PySem.W.Frag):R2:=fun x y H Q=>∃ p xs i v,x=.ref p∧y=.int i∧SqL K H p xs∧atI xs i=some v∧Q v H
def zjO (K:PySem.W.Frag):R2:=fun x y H Q=>∃ p xs i v,x=.ref p∧y=.int i∧SqT K H p xs∧atI xs i=some v∧Q v H
theorem zbT:IxR X (zeA X.K):=by
 intro value slice pins s σ H x y v u Q I rx ry h hs
 obtain ⟨p,xs,i,z,rfl,rfl,hq,he,q⟩:=h
 cases rx
 obtain ⟨t,rfl⟩:=ry
 obtain ⟨its,r,pl,hz⟩:=I.list hq
 obtain ⟨j,h1,h2,h3,h4,h5⟩:=zn8 he
 obtain ⟨w,ew,rw'⟩:=r.get h2
 have hl:=r.length
 have hn:=zjR
 have fin:EP X pins σ Q w s:=⟨z,H,I,rw',q⟩
 by_cases h0:0≤i
 ·have hj:i.toNat=j:=by
   rw [seqIndex_of h0 h5] at h1
   exact Option.some.inj h1
  exact item_listR pl.isList h0 (by (first|lia|omega)) (by rw [hj];simpa using ew) fin hs
 ·have hj:(i+(its.toArray.size:Int)).toNat=j:=by
   rw [seqIndex_neg (by (first|lia|omega)) h4] at h1
   rw [List.size_toArray,← hl]
   exact Option.some.inj h1
  exact subscriptTail_builtinR (x:=w) pl.isList.typeIs slot_list_getitem.lookup
   (wpAny_getItem_list_neg (Q:=fun r s'=>r=w∧EP X pins σ Q r s') pl.isList (by (first|lia|omega)) (by rw [List.size_toArray] <;> (first|lia|omega)) (by (first|lia|omega)) (by rw [hj];simpa using ew) ⟨rfl,fin⟩) hs
theorem zg6:IxR X (zjO X.K):=by
 intro value slice pins s σ H x y v u Q I rx ry h hs
 obtain ⟨p,xs,i,z,rfl,rfl,hq,he,q⟩:=h
 cases rx
 obtain ⟨t,rfl⟩:=ry
 obtain ⟨its,r,pl,hz⟩:=I.tuple hq
 obtain ⟨j,h1,h2,h3,h4,h5⟩:=zn8 he
 obtain ⟨w,ew,rw'⟩:=r.get h2
 have hl:=r.length
 have hn:=zjR
 have fin:EP X pins σ Q w s:=⟨z,H,I,rw',q⟩
 exact subscriptTail_builtinR (x:=w) pl.typeIs slot_tuple_getitem.lookup
  (getItem_tuple (j:=j) (Q:=fun r s'=>r=w∧EP X pins σ Q r s') pl (by (first|lia|omega)) (by (first|lia|omega)) (by rw [List.size_toArray,← hl];exact h1) (by simpa using ew) ⟨rfl,fin⟩) hs
theorem zjh (lo hi:Option Int) (n:Nat):(sliceBounds lo hi none n).1=((HT.sIx n 0 lo:Nat):Int)∧(sliceBounds lo hi none n).2.1=((HT.sIx n n hi:Nat):Int)∧(sliceBounds lo hi none n).2.2=1:=by
 refine ⟨?_,?_,rfl⟩
 ·cases lo with
  | none=>simp [sliceBounds,HT.sIx]
  | some i =>
   simp only [sliceBounds,HT.sIx,Option.getD_none,show (1:Int) > 0 by decide,if_true]
   by_cases h:i<0
   ·simp only [h,if_true] <;> (first|lia|omega)
   ·simp only [h,if_false] <;> (first|lia|omega)
 ·cases hi with
  | none=>simp [sliceBounds,HT.sIx]
  | some i =>
   simp only [sliceBounds,HT.sIx,Option.getD_none,show (1:Int) > 0 by decide,if_true]
   by_cases h:i<0
   ·simp only [h,if_true] <;> (first|lia|omega)
   ·simp only [h,if_false] <;> (first|lia|omega)
theorem zit (its:List Value) (lo hi:Option Int):slicePick its.toArray lo hi none=((its.drop (HT.sIx its.length 0 lo)).take (HT.sIx its.length its.length hi - HT.sIx its.length 0 lo)).toArray:=by
 obtain ⟨h1,h2,h3⟩:=zjh lo hi its.toArray.size
 unfold slicePick
 rw [h1,h2,h3]
 simp only [sliceRange_one,pick_run,List.size_toArray] <;> rfl
def zpJ (K:PySem.W.Frag):V→Option Int→Option Int→Hp→VK→Prop:=fun x lo hi H Q=>∃ a xs,x=.ref a∧SqL K H a xs∧∀ p,H p=none→Q (.ref p) (upd H p (.lst (znT xs lo hi)))
theorem zhC:SlR X (zpJ X.K):=by
 intro pins s σ H x v vl vu lo hi sl Q I rx hs pl pu h
 obtain ⟨a,xs,rfl,hx,q⟩:=h
 cases rx
 obtain ⟨its,r,ht,hz⟩:=I.list hx
 have hlen:=r.length
 refine ⟨"list",_,slot_list_getitem.lookup,ht.isList.typeIs,?_⟩
 refine wpAny_getItem_list_slice ht.isList hs pl pu .none (by simp) ?_ (by rw [List.size_toArray] <;> (first|lia|omega))
 rw [zit,← hlen]
 refine ⟨.ref s.heap.objs.size,_,I.laid (t':=s.toks) (o:=.lst (znT xs lo hi)) (fun b ob q=>Heap.get?_push_of_some _ q) (Nat.le_refl _) ?_,rfl,q _ (I.hok.fresh (Nat.le_refl _))⟩
 exact ⟨Nat.le_trans (zk6 xs lo hi) hz,_,0,(r.drop (HT.sIx xs.length 0 lo)).take (HT.sIx xs.length xs.length hi - HT.sIx xs.length 0 lo),Heap.get?_push_size _ rfl⟩
def ze5:V→Bool
 | .non=>true
 | .bl _=>true
 | .int _=>true
 | .str _=>true
 | _=>false
def eqV:V→V→Bool
 | .non,.non=>true
 | .bl a,.bl b=>a == b
 | .bl a,.int b=>(if a then 1 else 0) == b
 | .int a,.bl b=>a == (if b then 1 else 0)
 | .int a,.int b=>a == b
 | .str a,.str b=>a == b
 | _,_=>false
theorem zvl {A:Around} {s:Shared} {y x:V} {u v:Value} (ry:zca y u) (rx:zca x v) (fy:ze5 y=true) (fx:ze5 x=true):SeqAt.EqAt A s u v (eqV y x):=by
 cases y with
 | non =>
  cases ry
  cases x with
  | non=>cases rx;exact SeqAt.EqAt.same _
  | bl b=>cases rx;exact SeqAt.EqAt.none_bool b
  | int b=>obtain ⟨t,rfl⟩:=rx;exact SeqAt.EqAt.none_int b t
  | str b=>obtain ⟨t,rfl⟩:=rx;exact SeqAt.EqAt.none_str b t
  | _=>exact absurd (show false=true from fx) Bool.false_ne_true
 | bl a =>
  cases ry
  cases x with
  | non=>cases rx;exact SeqAt.EqAt.bool_none a
  | bl b=>cases rx;exact SeqAt.EqAt.bool_bool a b
  | int b=>obtain ⟨t,rfl⟩:=rx;exact SeqAt.EqAt.bool_int a b t
  | str b=>obtain ⟨t,rfl⟩:=rx;exact SeqAt.EqAt.bool_str a b t
  | _=>exact absurd (show false=true from fx) Bool.false_ne_true
 | int a =>
  obtain ⟨t',rfl⟩:=ry
  cases x with
  | non=>cases rx;exact SeqAt.EqAt.int_none a t'
  | bl b=>cases rx;exact SeqAt.EqAt.int_bool a t' b
  | int b=>obtain ⟨t,rfl⟩:=rx;exact SeqAt.EqAt.int_int a t' b t
  | str b=>obtain ⟨t,rfl⟩:=rx;exact SeqAt.EqAt.int_str a t' b t
  | _=>exact absurd (show false=true from fx) Bool.false_ne_true
 | str a =>
  obtain ⟨t',rfl⟩:=ry
  cases x with
  | non=>cases rx;exact SeqAt.EqAt.str_none a t'
  | bl b=>cases rx;exact SeqAt.EqAt.str_bool a t' b
  | int b=>obtain ⟨t,rfl⟩:=rx;exact SeqAt.EqAt.str_int a t' b t
  | str b=>obtain ⟨t,rfl⟩:=rx;exact SeqAt.EqAt.str_str a t' b t
  | _=>exact absurd (show false=true from fx) Bool.false_ne_true
 | _=>exact absurd (show false=true from fy) Bool.false_ne_true
def eqU (x:V) (u:Value):Bool:=match u with
 | .none=>eqV .non x
 | .bool b=>eqV (.bl b) x
 | .int i _=>eqV (.int i) x
 | .str z _=>eqV (.str z) x
 | _=>false
theorem zlJ {x y:V} {u:Value} (r:zca y u) (f:ze5 y=true):eqU x u=eqV y x:=by
 cases y with
 | non=>cases r;rfl
 | bl b=>cases r;rfl
 | int i=>obtain ⟨t,rfl⟩:=r;rfl
 | str z=>obtain ⟨t,rfl⟩:=r;rfl
 | _=>exact absurd (show false=true from f) Bool.false_ne_true
theorem zg8 {x:V}:∀ {xs:List V} {us:List Value},zbZ xs us→xs.all ze5=true→us.any (eqU x)=xs.any fun y=>eqV y x
 | _,_,.nil,_=>rfl
 | y::xs,u::us,.cons r t,f=>by
  rw [List.all_cons,Bool.and_eq_true] at f
  rw [List.any_cons,List.any_cons,zlJ r f.1,zg8 t f.2]
theorem zdY {A:Around} {s:Shared} {x:V} {v:Value} (rx:zca x v) (fx:ze5 x=true):∀ {xs:List V} {us:List Value},zbZ xs us→xs.all ze5=true→∀ u∈us,SeqAt.EqAt A s u v (eqU x u)
 | _,_,.nil,_=>fun u hu=>by cases hu
 | y::xs,u::us,.cons r t,f=>fun u' hu=>by
  rw [List.all_cons,Bool.and_eq_true] at f
  rcases List.mem_cons.mp hu with rfl | hu
  ·rw [zlJ r f.1];exact zvl r rx f.1 fx
  ·exact zdY rx fx t f.2 u' hu
def inV (x:V) (xs:List V):Bool:=xs.any fun y=>eqV y x
def rIn (K:PySem.W.Frag) (neg:Bool):R2:=fun x y H Q=>∃ p xs,y=.ref p∧(SqL K H p xs∨SqT K H p xs)∧ze5 x=true∧xs.all ze5=true∧Q (.bl (if neg then !inV x xs else inV x xs)) H
theorem znI:OpR X (compareOp .In) (rIn X.K false):=by
 intro pins s σ H x y v u Q I rx ry h
 obtain ⟨p,xs,rfl,hq,fx,fs,q⟩:=h
 cases ry
 rcases hq with hq | hq
 ·obtain ⟨its,r,pl,hz⟩:=I.list hq
  refine SeqAt.in_listAt (eqU x) pl.isList (fun w hw=>zdY rx fx r fs w (by simpa using hw)) ⟨.bl _,H,I,rfl,?_⟩
  rw [show its.toArray.any (eqU x)=its.any (eqU x) by simp,zg8 r fs]
  exact q
 ·obtain ⟨its,r,pl,hz⟩:=I.tuple hq
  refine SeqAt.in_tupleAt (eqU x) pl (fun w hw=>zdY rx fx r fs w (by simpa using hw)) ⟨.bl _,H,I,rfl,?_⟩
  rw [show its.toArray.any (eqU x)=its.any (eqU x) by simp,zg8 r fs]
  exact q
theorem zgH:OpR X (compareOp .NotIn) (rIn X.K true):=by
 intro pins s σ H x y v u Q I rx ry h
 obtain ⟨p,xs,rfl,hq,fx,fs,q⟩:=h
 cases ry
 rcases hq with hq | hq
 ·obtain ⟨its,r,pl,hz⟩:=I.list hq
  refine SeqAt.notIn_listAt (eqU x) pl.isList (fun w hw=>zdY rx fx r fs w (by simpa using hw)) ⟨.bl _,H,I,rfl,?_⟩
  rw [show its.toArray.any (eqU x)=its.any (eqU x) by simp,zg8 r fs]
  exact q
 ·obtain ⟨its,r,pl,hz⟩:=I.tuple hq
  refine SeqAt.notIn_tupleAt (eqU x) pl (fun w hw=>zdY rx fx r fs w (by simpa using hw)) ⟨.bl _,H,I,rfl,?_⟩
  rw [show its.toArray.any (eqU x)=its.any (eqU x) by simp,zg8 r fs]
  exact q
theorem zaY:ze6 X (.builtin "len") (fun xs H Q=>∃ p ys,xs=[.ref p]∧(SqL X.K H p ys∨SqT X.K H p ys)∧Q (.int ys.length) H):=by
 intro pins s σ H xs us Q I r h
 obtain ⟨p,ys,rfl,hq,q⟩:=h
 obtain ⟨u,rfl,rx⟩:=zfG r
 cases rx
 have hn:=zjR
 rcases hq with hq | hq
 ·obtain ⟨its,r',pl,hz⟩:=I.list hq
  have hlen:=r'.length
  exact Calls.call_len_list pl.isList (by simp only [List.size_toArray] <;> (first|lia|omega)) ⟨.int ys.length,H,I.tok _,⟨s.toks+1,by rw [List.size_toArray,hlen]⟩,q⟩
 ·obtain ⟨its,r',pl,hz⟩:=I.tuple hq
  have hlen:=r'.length
  exact len_tuple pl (by simp only [List.size_toArray] <;> (first|lia|omega)) ⟨.int ys.length,H,I.tok _,⟨s.toks+1,by rw [List.size_toArray,hlen]⟩,q⟩
theorem zjW:ze6 X (.type "list") (fun xs H Q=>∃ p ys,xs=[.ref p]∧(SqL X.K H p ys∨SqT X.K H p ys)∧∀ l,H l=none→Q (.ref l) (upd H l (.lst ys))):=by
 intro pins s σ H xs us Q I r h
 obtain ⟨p,ys,rfl,hq,q⟩:=h
 obtain ⟨u,rfl,rx⟩:=zfG r
 cases rx
 have fin:∀ (its:List Value),zbZ ys its→ys.length≤sizeLine→∀ (h':Heap) (c':Nat),(∀ b o',s.heap.get? b=some o'→h'.get? b=some o') →
   h'.get? s.heap.objs.size=some { cls:=.type "list",dict:=none,data:=.seq its.toArray c',slots:=#[] }→EP X pins σ Q (.ref s.heap.objs.size) { s with heap:=h' }:=fun its r' hz h' c' kp e =>
  ⟨.ref s.heap.objs.size,_,I.laid (t':=s.toks) kp (Nat.le_refl _) (show zbH X.prog X.w _ h' _ (.lst ys) from ⟨hz,its,c',r',e⟩),rfl,q _ (I.hok.fresh (Nat.le_refl _))⟩
 rcases hq with hq | hq
 ·obtain ⟨its,r',pl,hz⟩:=I.list hq
  have hlen:=r'.length
  obtain ⟨o,ho,hc,n,hd⟩:=pl.isList
  exact call_list_seq p (.inl rfl) ho hc hd (fun h' c' kp e=>fin its r' hz h' c' kp e) (by simp only [List.size_toArray] <;> (first|lia|omega))
 ·obtain ⟨its,r',pl,hz⟩:=I.tuple hq
  have hlen:=r'.length
  obtain ⟨o,ho,hc,n,hd⟩:=pl
  exact call_list_seq p (.inr rfl) ho hc hd (fun h' c' kp e=>fin its r' hz h' c' kp e) (by simp only [List.size_toArray] <;> (first|lia|omega))
theorem zd7:ze6 X (.type "tuple") (fun xs H Q=>∃ p ys,xs=[.ref p]∧((SqL X.K H p ys∧∀ l,H l=none→Q (.ref l) (upd H l (.tup ys)))∨(SqT X.K H p ys∧Q (.ref p) H))):=by
 intro pins s σ H xs us Q I r h
 obtain ⟨p,ys,rfl,h⟩:=h
 obtain ⟨u,rfl,rx⟩:=zfG r
 cases rx
 rcases h with ⟨hq,q⟩ | ⟨hq,q⟩
 ·obtain ⟨its,r',pl,hz⟩:=I.list hq
  have hlen:=r'.length
  refine call_tuple_list pl.isList (fun h' kp=>?_) (by simp only [List.size_toArray] <;> (first|lia|omega))
  have I1:Inv X pins σ H { s with heap:=h' }:=I.kept (t':=s.toks) kp
  have I2:Inv X pins σ (upd H h'.objs.size (.tup ys)) { s with heap:=h'.push { cls:=.type "tuple",data:=.seq its.toArray } } :=
   I1.laid (t':=s.toks) (fun b o e=>Heap.get?_push_of_some _ e) (Nat.le_refl _) (show zbH X.prog X.w _ _ _ (.tup ys) from ⟨hz,its,r',IsTup.new _ _⟩)
  exact ⟨.ref h'.objs.size,_,I2,rfl,q _ (I1.hok.fresh (Nat.le_refl _))⟩
 ·obtain ⟨its,r',pl,hz⟩:=I.tuple hq
  exact call_tuple_same pl ⟨.ref p,H,I,rfl,q⟩
def tyV (K:PySem.W.Frag) (T:String) (x:V) (H:Hp):Prop:=match x with
 | .str _=>T="str"
 | .int _=>T="int"
 | .ref p=>(T="list"∧∃ xs,SqL K H p xs)∨(T="tuple"∧∃ o,K.lookup p=some o∧o.cls=.type "tuple"∧o.dict=none) ∨
   (T="dict"∧((∃ kvs,H p=some (.dK kvs))∨∃ kvs,H p=some (.dT kvs)))∨(T="set"∧∃ S n,H p=some (.set S n))
 | _=>False
theorem zrA {pins:List (Addr×Obj)} {σ:St} {H:Hp} {s:Shared} {T:String} {x:V} {v:Value} (I:Inv X pins σ H s) (r:zca x v) (ty:tyV X.K T x H) :
  s.TypeIs v T∧∀ a,v=.ref a→∃ ob,s.heap.get? a=some ob∧ob.dict=none:=by
 cases x with
 | str z =>
  obtain ⟨t,rfl⟩:=r
  cases (show T="str" from ty)
  exact ⟨typeIs_str s z t,fun _ e=>nomatch e⟩
 | int i =>
  obtain ⟨t,rfl⟩:=r
  cases (show T="int" from ty)
  exact ⟨typeIs_int s i t,fun _ e=>nomatch e⟩
 | ref p =>
  cases r
  rcases ty with ⟨rfl,xs,hq⟩ | ⟨rfl,o,hk,hc,hd⟩ | ⟨rfl,hk⟩ | ⟨rfl,S,n,hk⟩
  ·obtain ⟨its,_,pl,_⟩:=I.list hq
   refine ⟨pl.isList.typeIs,fun a e=>?_⟩
   cases e
   obtain ⟨o,n,e,c,hd,_⟩:=pl
   exact ⟨o,e,hd⟩
  ·refine ⟨⟨o,I.kIn p o hk,hc⟩,fun a e=>?_⟩
   cases e
   exact ⟨o,I.kIn _ o hk,hd⟩
  ·have z:∃ o,s.heap.get? p=some o∧o.ExactDict:=by
    rcases hk with ⟨kvs,hk⟩ | ⟨kvs,hk⟩
    ·obtain ⟨_,_,_,_,o,_,_,e,ex,_⟩:=I.hok p _ hk
     exact ⟨o,e,ex⟩
    ·obtain ⟨_,_,_,_,o,_,_,e,ex,_⟩:=I.hok p _ hk
     exact ⟨o,e,ex⟩
   obtain ⟨o,e,ex⟩:=z
   refine ⟨⟨o,e,ex.1⟩,fun a e2=>?_⟩
   cases e2
   exact ⟨o,e,ex.2.1⟩
  ·obtain ⟨o,_,_,_,e,ex,_⟩:=I.hok p _ hk
   refine ⟨⟨o,e,ex.1⟩,fun a e2=>?_⟩
   cases e2
   exact ⟨o,e,ex.2.1⟩
 | _=>exact False.elim ty
def zuc (K:PySem.W.Frag) (T:String) (r:V→List V→Hp→VK→Prop) (to:TE):TE:=fun σ H Q=>to σ H fun x H1=>tyV K T x H1∧r x [] H1 Q
def tBM (K:PySem.W.Frag) (T:String) (r:V→List V→Hp→VK→Prop) (to:TE) (t:TA):TE:=fun σ H Q=>to σ H fun x H1=>tyV K T x H1∧t σ H1 fun xs H2=>r x xs H2 Q
variable {o e:Expr} {es:List Expr} {to:TE} {t:TA} {name:Str} {apos cpos:Pos} {T id:String} {r:V→List V→Hp→VK→Prop}
theorem zrw (pa:PlainAttrs T) (slot:Slot T name id) (hty:typeOf (.builtin id)=pure (.type "method_descriptor")) (hm:MtR X id r) (ho:PE X o to)
  (hbase:attributeBase o name X.env (eval o X.env)=eval o X.env:=by rfl) (hline:(apos.endLine == cpos.line)=true:=by rfl):PE X (.Call (.Attribute o name apos) [] [] cpos) (zuc X.K T r to):=by
 intro pins s σ H Q I h
 refine wpAny_Call_method0_late hbase hline (thn (ho pins s σ H _ I h) fun v s1 hQ'=>?_)
 obtain ⟨x,H1,I1,r1,ty,q1⟩:=hQ'
 obtain ⟨h1,h2⟩:=zrA I1 r1 ty
 exact ⟨T,id,pa,slot,hty,h1,h2,Calls.callWith_builtin rfl (PySem.evalArgs_none (hm pins s1 σ H1 x [] v [] Q I1 r1 .nil q1))⟩
theorem zdN (pa:PlainAttrs T) (slot:Slot T name id) (hty:typeOf (.builtin id)=pure (.type "method_descriptor")) (hm:MtR X id r) (ho:PE X o to) (ha:PA X (e::es) t)
  (hbase:attributeBase o name X.env (eval o X.env)=eval o X.env:=by rfl)
  (hfew:((backTo cpos (starEach (e::es) X.env)).all (fun x=>!x.1)&&(backToKw cpos (keywordEach [] X.env)).all (fun x=>x.1.isSome)
   && decide ((e::es).length+([]:List Keyword).length+(if ([]:List Keyword).isEmpty then 0 else 1)<30))=true:=by rfl)
  (hline:(apos.endLine == cpos.line)=true:=by rfl) (hs:starEach (e::es) X.env=(false,eval e X.env)::starEach es X.env:=by rfl) (hplain:(backTo cpos (starEach es X.env)).any (·.1)=false:=by rfl) :
  PE X (.Call (.Attribute o name apos) (e::es) [] cpos) (tBM X.K T r to t):=by
 intro pins s σ H Q I h
 refine wpAny_Call_method_late hbase hfew hline rfl (thn (ho pins s σ H _ I h) fun v s1 hQ'=>?_)
 obtain ⟨x,H1,I1,r1,ty,q1⟩:=hQ'
 obtain ⟨h1,h2⟩:=zrA I1 r1 ty
 refine ⟨T,id,pa,slot,hty,h1,h2,?_⟩
 have hA:=ha cpos pins s1 σ H1 _ I1 q1
 rw [hs] at hA ⊢
 refine Calls.callWith_builtin (by show (false || (backTo cpos (starEach es X.env)).any (·.1))=false;rw [hplain] <;> rfl) (Calls.evalArgs_plain ?_)
 exact thn hA fun us s2 ⟨vs,H2,I2,r2,q2⟩=>hm pins s2 σ H2 x vs v us Q I2 r1 r2 q2
end
end L2
namespace L2
open PySem PySem.Spec PyProof.Rows
def MtM (X:Cx) (id:String) (r:V→List V→Hp→VK→Prop):Prop :=
 ∀ (pins:List (Addr×Obj)) (s:Shared) (σ:St) (H:Hp) (x:V) (xs:List V) (v:Value) (us:List Value) (Q:VK),Inv X pins σ H s→zca x v→zbZ xs us→r x xs H Q →
  wpAny (model X.prog X.w) X.A (call (.builtin id) (v::us)) (EP X pins σ Q) X.xe s
theorem zbZ.one:∀ {x:V} {us:List Value},zbZ [x] us→∃ u,us=[u]∧zca x u
 | _,_,.cons r .nil=>⟨_,rfl,r⟩
theorem zbZ.two:∀ {x y:V} {us:List Value},zbZ [x,y] us→∃ u v,us=[u,v]∧zca x u∧zca y v
 | _,_,_,.cons r (.cons q .nil)=>⟨_,_,rfl,r,q⟩
theorem zbZ.zero:∀ {us:List Value},zbZ [] us→us=[]
 | _,.nil=>rfl
section
variable {X:Cx} {pins:List (Addr×Obj)} {σ:St} {H:Hp} {s:Shared} {l b:Addr} {xs ys zs:List V}
theorem Inv.lset {its its':List Value} {n:Nat} {f:Array Value→Array Value} {t':Nat} (I:Inv X pins σ H s) (hH:H l=some (.lst xs))
  (e:s.heap.get? l=some { cls:=.type "list",data:=.seq its.toArray n }) (hf:f its.toArray=its'.toArray) (hv:zbZ ys its') (hz:ys.length≤sizeLine) :
  Inv X pins σ (upd H l (.lst ys)) { s with heap:=s.heap.update l (Obj.mapSeq f),toks:=t' }:=by
 have q:=PySem.IsL.update e f
 rw [hf] at q
 refine I.write (x:=l) (e:=l) (by rw [hH];exact trivial) (.inl rfl) (fun b' u hb hu=>(Heap.get?_update_other s.heap (Obj.mapSeq f) (Ne.symm hb)).trans hu) ⟨_,q⟩ ?_
 exact ⟨hz,its',_,hv,q⟩
theorem Inv.lnew {its:List Value} {t':Nat} (I:Inv X pins σ H s) (hv:zbZ ys its) (hz:ys.length≤sizeLine) :
  Inv X pins σ (upd H s.heap.objs.size (.lst ys)) { s with heap:=s.heap.push { cls:=.type "list",data:=.seq its.toArray },toks:=t' } :=
 I.laid (fun _ _ q=>Heap.get?_push_of_some _ q) (Nat.le_refl _) ⟨hz,its,0,hv,Heap.get?_push_size _ rfl⟩
theorem Inv.fresh (I:Inv X pins σ H s):H s.heap.objs.size=none:=I.hok.fresh (Nat.le_refl _)
theorem Inv.lstM (I:Inv X pins σ H s) (hH:H l=some (.lst xs)):xs.length≤sizeLine∧∃ (its:List Value) (n:Nat),zbZ xs its∧xs.length=its.length∧s.heap.get? l=some { cls:=.type "list",data:=.seq its.toArray n }:=by
 obtain ⟨z,its,n,r,e⟩:=I.hok l _ hH
 exact ⟨z,its,n,r,r.length,e⟩
end
section
variable {X:Cx}
def zbK:V→List V→Hp→VK→Prop:=fun x vs H Q=>∃ l xs y,x=.ref l∧vs=[y]∧H l=some (.lst xs)∧xs.length<sizeLine∧Q .non (upd H l (.lst (xs++[y])))
theorem zda:MtM X "list.append" zbK:=by
 intro pins s σ H x vs v us Q I rx rv h
 obtain ⟨l,xs,y,rfl,rfl,hH,hz,q⟩:=h
 cases rx
 obtain ⟨u,rfl,ru⟩:=rv.one
 obtain ⟨z,its,n,r,hl,e⟩:=I.lstM hH
 refine call_meets F.slot_list_append ⟨_,e,rfl⟩ F.entry_list_append (F.args_list_append_2 _ _) (PySem.list_append l its.toArray n u (by rw [List.size_toArray];(first|lia|omega))) ⟨e,?_⟩
 refine ⟨.non,_,I.lset (its':=its++[u]) hH e (by simp) (r.append (.cons ru .nil)) ?_,rfl,q⟩
 rw [List.length_append,List.length_singleton]
 (first|lia|omega)
def zh8:V→List V→Hp→VK→Prop:=fun x vs H Q=>∃ l xs,x=.ref l∧vs=[]∧H l=some (.lst xs)∧Q .non (upd H l (.lst []))
theorem zlL:MtM X "list.clear" zh8:=by
 intro pins s σ H x vs v us Q I rx rv h
 obtain ⟨l,xs,rfl,rfl,hH,q⟩:=h
 cases rx
 have hus:=rv.zero
 subst hus
 obtain ⟨z,its,n,r,hl,e⟩:=I.lstM hH
 refine call_meets F.slot_list_clear ⟨_,e,rfl⟩ F.entry_list_clear (F.args_list_clear_1 _) (AutoSeq1.list_clear_list_0 l its.toArray n (by rw [List.size_toArray];(first|lia|omega))) ⟨e,?_⟩
 exact ⟨.non,_,I.lset (its':=[]) (ys:=[]) hH e rfl .nil (Nat.zero_le _),rfl,q⟩
def zlE:R2:=fun x y H Q=>∃ l b xs zs,x=.ref l∧y=.ref b∧H l=some (.lst xs)∧H b=some (.lst zs)∧xs.length+zs.length≤sizeLine∧∀ p,H p=none→Q (.ref p) (upd H p (.lst (xs++zs)))
theorem zh6:OpR X (binaryOp .Add) zlE:=by
 intro pins s σ H x y v u Q I rx ry h
 obtain ⟨l,b,xs,zs,rfl,rfl,hH,hB,hz,q⟩:=h
 cases rx
 cases ry
 obtain ⟨z,its,n,r,hl,e⟩:=I.lstM hH
 obtain ⟨z2,its2,n2,r2,hl2,e2⟩:=I.lstM hB
 refine PySem.P.add_list e e2 ?_ (by rw [List.size_toArray,List.size_toArray];(first|lia|omega))
 have ea:its.toArray++its2.toArray=(its++its2).toArray:=by simp
 rw [ea]
 exact ⟨.ref _,_,I.lnew (t':=s.toks) (r.append r2) (by rw [List.length_append];(first|lia|omega)),rfl,q _ I.fresh⟩
end
section
variable {prog:Program} {w:World} {A:Around} {E:Value→Shared→Prop} {s:Shared}
end
section
variable {X:Cx}
end
end L2
namespace Att
open PySem PySem.W PySem.Calls PyProof.Rows
theorem zhw {P:Params} {h:Heap}:∀ (ns:List Int) (vs:List Value),WellAll P h vs (ns.map WData.int)→IntsAre vs ns:=by
 intro ns
 induction ns with
 | nil =>
  intro vs w
  rw [List.map_nil] at w
  cases w
  exact .nil
 | cons n ns ih =>
  intro vs w
  rw [List.map_cons] at w
  cases w with
  | cons a b =>
   cases a
   exact .cons _ _ (ih _ b)
theorem znv {l:OpenLaw} {n:Nat} (hn:l.most=some n) {P:Params} {h:Heap} {args:List WData} {vals:List Value}
  (hpre:l.row.toRowW.claim.pre args=true) (hwl:WellAll P h vals args) :
  ∃ a vs ns,vals=[Value.ref a]∧args=[WData.list (ns.map WData.int)]∧h.get? a=some { cls:=.type "list",data:=.seq vs.toArray }∧IntsAre vs ns∧ns.length≤n:=by
 have hsh:WShape.hasAll [] args [.list .int]=true:=(pre_splitW hpre).1
 have hc:l.pre.holds [] { args:=args }=true:=(pre_splitW hpre).2
 obtain ⟨d,r,rfl,h1,h2⟩:=hasAllW_cons hsh
 obtain rfl:=hasAllW_nil h2
 obtain ⟨xs,rfl,h3⟩:=hasW_list h1
 obtain ⟨ns,rfl⟩:=items_int h3
 have hlen:ns.length≤n:=by
  unfold OpenLaw.pre at hc
  have h4:(WTm.not (.lt (.lit (.int (n:Int))) (.len (.arg 0)))).holds [] { args:=[.list (ns.map .int)] }=true:=by
   have h4:=(holds_andW hc).1
   rw [hn] at h4
   exact h4
  have h5:=condW_of h4 (w_not (w_lt w_lit (w_len_list (w_arg rfl))))
  rw [List.length_map] at h5
  refine Nat.le_of_not_lt fun q=>?_
  have q':(n:Int)<((ns.length:Nat):Int):=by (first|lia|omega)
  first
   | (rw [decide_eq_true q'] at h5;exact absurd h5 (by decide))
   | (simp at h5;(first|lia|omega))
 cases hwl with
 | cons w1 w2 =>
  cases w2
  cases w1 with
  | list ho hall=>exact ⟨_,_,ns,rfl,rfl,ho,zhw ns _ hall,hlen⟩
theorem zou (l:OpenLaw) (args:List WData):l.row.toRowW.claim.post args (.bool true) args=true :=
 postW_of (r:=l.row.toRowW) (X:=(true == true))
  (show WShape.has [] (.bool true) .bool=true by first | rfl | decide | simp [WShape.has,WShape.arms,WShape.armsAll])
  (show (WTm.eq .res (.lit (.bool true))).value [] { args:=args,res:=some (.bool true),after:=args }=some (.bool (true == true)) from w_eq_bool (w_res rfl) w_lit) rfl
section
variable {prog:Program} {w:World} {A:Around} {E:Value→Shared→Prop} {s:Shared} {K:Frag}
end
end Att
namespace L2
open PySem PySem.Spec PyProof.Rows
theorem zjU:∀ {vs:List Value} {ns:List Int},IntsAre vs ns→zbZ (ns.map V.int) vs
 | _,_,.nil=>.nil
 | _,_,.cons n t h=>.cons ⟨t,rfl⟩ (zjU h)
end L2
namespace L2
open PySem PySem.Spec PyProof.Rows
end L2
namespace L2
open PySem PySem.Spec PyProof.Rows
def zdf (s:Stmt):Arguments:=match s with
 | .FunctionDef _ a _ _ _ _ _ _ _ _=>a
 | _=>{ posonlyargs:=[],args:=[],vararg:=none,kwonlyargs:=[],kw_defaults:=[],kwarg:=none,defaults:=[] }
def zb0 (s:Stmt):List Stmt:=match s with
 | .FunctionDef _ _ b _ _ _ _ _ _ _=>b
 | _=>[]
def zau (s:Stmt):Scope:=match s with
 | .FunctionDef _ _ _ _ _ _ sc _ _ _=>sc
 | _=>{ kind:=.function,names:=[],isGenerator:=false,isCoroutine:=false }
abbrev CX0:CXT:=fun _ _ _ _ _ _=>False
abbrev E0:XK:=fun _ _ _=>False
theorem zbs {X:Cx}:zgb CX0 X E0:=fun _ _ _ _ _ _ _ h=>h.elim
structure Fun (K:PySem.W.Frag) (x qual:Str) (st:Stmt) (f:Addr) (fd:FuncData):Prop where
 ex:∃ (oc:Value) (od:Option Addr) (kV doc pm:Value) (an:Option Addr) (cdv ct:Value) (osl:Array (Option Value)),
  fd=PySem.W.fnOf x qual (zdf st) (zb0 st) (zau st) .none kV doc pm an cdv ct∧K.lookup f=some ⟨oc,od,.func fd,osl⟩∧PySem.W.codeIn K cdv qual=true
 kp:PySem.W.keepIn K (.ref f)=true
section
variable {P:Program} {w:World} {K:PySem.W.Frag} {mg:Str→Option Value} {base:Heap}
theorem Fun.ok {x qual:Str} {st:Stmt} {f:Addr} {fd:FuncData} {N ps:List Str} {k:Nat} {sp:Sp} (F:Fun K x qual st f fd) (S:zaP N ps (zau st)) (len:∀ vs H Q E,sp vs H Q E→vs.length=ps.length)
  (hbody:∀ (cdv:Value) (A:Around) (outer:List Env) (s:Shared) (H:Hp) (vs:List V) (Q:VK) (E:XK),zej k (A.deeper (envOfC qual (zau st) s.heap.objs.size f cdv))→sp vs H Q E →
   ∃ t,PSs (zjY CX0 P w K mg base N qual (zau st) f cdv A outer s H E).nox (zb0 st) t∧t { nx:=fun _ H'=>Q .non H',rt:=Q } (zbB N vs) H):zcW P w K mg base CX0 (k+1) f fd ps sp:=by
 obtain ⟨oc,od,kV,doc,pm,an,cdv,ct,osl,rfl,lk,hcd⟩:=F.ex
 refine zpS lk hcd S len fun A outer s H vs Q E hr hsp=>?_
 obtain ⟨t,h,q⟩:=hbody cdv A outer s H vs Q E hr hsp
 exact ⟨t,h.nox,q⟩
theorem Fun.binds {x qual:Str} {st:Stmt} {f:Addr} {fd:FuncData} {ps:List Str} (F:Fun K x qual st f fd)
  (h:∀ (kV doc pm:Value) (an:Option Addr) (cdv ct:Value) (us:List Value),us.length=ps.length→bindArgs (PySem.W.fnOf x qual (zdf st) (zb0 st) (zau st) .none kV doc pm an cdv ct) ⟨us,[]⟩=pure (ps.zip us)):zbF K fd ps []:=by
 obtain ⟨oc,od,kV,doc,pm,an,cdv,ct,osl,rfl,lk,hcd⟩:=F.ex
 exact .all (h kV doc pm an cdv ct)
theorem zbD {x qual:Str} {st:Stmt} {f:Addr} {oc:Value} {od an:Option Addr} {osl:Array (Option Value)} {kV doc pm cdv ct:Value} (l:K.lookup f=some ⟨oc,od,.func (PySem.W.fnOf x qual (zdf st) (zb0 st) (zau st) .none kV doc pm an cdv ct),osl⟩)
  (c:PySem.W.codeIn K cdv qual=true) (k:PySem.W.keepIn K (.ref f)=true):Fun K x qual st f (PySem.W.fnOf x qual (zdf st) (zb0 st) (zau st) .none kV doc pm an cdv ct):=⟨⟨oc,od,kV,doc,pm,an,cdv,ct,osl,rfl,l,c⟩,k⟩
end
theorem zqH {A:Around} {k:Nat} (hr:zej k A):A.units+1<cLine:=Nat.lt_of_le_of_lt (Nat.add_le_add_left (by decide:1≤64) _) hr.units
theorem zoP {n:Nat} (h:n≤1000):n<sizeLine:=Nat.lt_of_le_of_lt h (by decide)
section
variable {X:Cx}
theorem pv (i:Nat) {x:Str} {pos:Pos} (hN:X.N[i]?=some x:=by rfl) (hv:Vis X.env.scope x:=by first | exact Or.inl rfl | exact Or.inr (Or.inl rfl) | exact Or.inr (Or.inr rfl)) (hd:(x == ("__debug__":Str))=false:=by decide)
  (hcd:(x == ("__classdict__":Str))=false:=by decide):PE X (.Name x pos) (zac i):=znk hN hv hd hcd
end
theorem zrO {A B:Prop} (h:B):if false=true then A else B:=by
 rw [if_neg Bool.false_ne_true]
 exact h
theorem zsa {A B:Prop} (h:A):if true=true then A else B:=by
 rw [if_pos rfl]
 exact h
theorem zdU {c A B:Prop} [Decidable c] (h1:c→A) (h2:¬ c→B):if c then A else B:=by
 by_cases h:c
 ·rw [if_pos h]
  exact h1 h
 ·rw [if_neg h]
  exact h2 h
def zaQ (H H':Hp):Prop:=∀ b o,H b=some o→H' b=some o
theorem zaQ.refl (H:Hp):zaQ H H:=fun _ _ h=>h
theorem zaQ.trans {H H1 H2:Hp} (a:zaQ H H1) (b:zaQ H1 H2):zaQ H H2:=fun c o h=>b c o (a c o h)
theorem zaQ.free {H H':Hp} (e:zaQ H H') {l:Addr} (h:H' l=Option.none):H l=Option.none:=by
 cases q:H l with
 | none=>rfl
 | some o =>
  rw [e l o q] at h
  cases h
theorem zaQ.seq {K:PySem.W.Frag} {H H':Hp} {a:Addr} {xs:List V} (e:zaQ H H') (h:SqL K H a xs):SqL K H' a xs:=by
 rcases h with (h | ⟨o,h⟩) | h
 ·exact .inl (.inl (e _ _ h))
 ·exact .inl (.inr ⟨o,e _ _ h⟩)
 ·exact .inr h
end L2
namespace L2
open PySem PySem.Spec PyProof.Rows
section
variable {X:Cx}
theorem zci:OpR X (binaryOp .FloorDiv) (rI (fun _ j=>0<j∧j.natAbs.log2<9000) fun i j=>.int (i / j)):=opI fun i j _ _ _ _ _ hc q=>by
 have h1:(0:Int)<j:=hc.1
 exact floordiv_int (by (first|lia|omega)) (by rw [Int.fdiv_eq_ediv_of_nonneg i (by (first|lia|omega))];exact q) (.inl (PyProof.noPylong_of_log2 hc.2))
theorem zgn:OpR X (binaryOp .Mult) (rI IntMulOk fun i j=>.int (i*j)):=opI fun _ _ _ _ _ _ _ hc q=>mul_int q hc
theorem mulR {i j:Int} (h1:-(2 ^ 64)<j) (h2:j<2 ^ 64):IntMulOk i j:=.of_right (intBits_le_64 h1 h2)
theorem mulL {i j:Int} (h1:-(2 ^ 64)<i) (h2:i<2 ^ 64):IntMulOk i j:=.of_left (intBits_le_64 h1 h2)
theorem zds:bootBuiltins "int"=some (.type "int"):=by decide +kernel
theorem zgg:bootBuiltins "bool"=some (.type "bool"):=by decide +kernel
theorem zdn:bootBuiltins "str"=some (.type "str"):=by decide +kernel
theorem zeq:bootBuiltins "list"=some (.type "list"):=by decide +kernel
theorem zhz:bootBuiltins "ValueError"=some (.type "ValueError"):=by decide +kernel
theorem zcp:bootBuiltins "tuple"=some (.type "tuple"):=by decide +kernel
theorem zgF (K:PySem.W.Frag):PySem.W.kitOne K (.type "int") (.type "bool")=some false:=by first | rfl | kernel_rfl
def zst (a:Addr) (c:Value) (h:Heap):Prop:=∃ oe vs,h.get? a=some oe∧oe.cls=c∧oe.data=.fields vs
def excO (a:Addr) (c:Value):HO:=.ext (zst a c)
structure zfP (K:PySem.W.Frag) (c:Value):Prop where
 kit:∀ a:Addr,PySem.W.KitX K (.ref a) c (zst a c)
inductive TyX (K:PySem.W.Frag) (H:Hp):V→Value→Prop where
 | of {x:V} {t:Value} (h:zlC K H x t):TyX K H x t
 | exc {a:Addr} {c:Value} (h:H a=some (excO a c)) (k:zfP K c):TyX K H (.ref a) c
def clsV:V→Option Value
 | .ty n=>some (.type n)
 | .ref c=>some (.ref c)
 | _=>none
def zdV (K:PySem.W.Frag):List V→Hp→VK→Prop:=fun xs H Q=>∃ x c t cv b,xs=[x,c]∧clsV c=some cv∧TyX K H x t∧PySem.W.kitOne K t cv=some b∧Q (.bl b) H
def znR (C:Value) (E:XK):TS:=fun _ _ H=>E C none H
def zin (sp:Sp) (dvs:List V) (E:St→XK) (t:TA):TE:=fun σ H Q=>t σ H fun vs H1=>sp (vs++dvs) H1 Q (E σ)
theorem zfB {K:PySem.W.Frag} {H:Hp} {Q:VK} {i:Int} (q:Q (.bl true) H):zdV K [.int i,.ty "int"] H Q:=⟨_,_,_,_,true,rfl,rfl,.of (.int i),rfl,q⟩
theorem zgP {K:PySem.W.Frag} {H:Hp} {Q:VK} {i:Int} (q:Q (.bl false) H):zdV K [.int i,.ty "bool"] H Q:=⟨_,_,_,_,false,rfl,rfl,.of (.int i),zgF K,q⟩
theorem zc8 {K:PySem.W.Frag} {H:Hp} {Q:VK} {r:Addr} {xs:List V} (h:H r=some (.tup xs)) (q:Q (.bl true) H):zdV K [.ref r,.ty "tuple"] H Q:=⟨_,_,_,_,true,rfl,rfl,.of (.tup h),rfl,q⟩
theorem zlZ {c:V} {u cv:Value} (r:zca c u) (h:clsV c=some cv):u=cv:=by
 cases c with
 | ty n=>cases r;exact Option.some.inj h
 | ref a=>cases r;exact Option.some.inj h
 | _=>cases h
theorem zaS:ze6 X (.builtin "isinstance") (zdV X.K):=by
 intro pins s σ H xs us Q I r h
 obtain ⟨x,c,t,cv,b,rfl,hc,ty,e,q⟩:=h
 obtain ⟨u,w',rfl,rx,rw'⟩:=zmx r
 obtain rfl:=zlZ rw' hc
 cases ty with
 | of ty=>exact zo6 I rx ty e fun tk=>⟨.bl b,H,I.tok tk,rfl,q⟩
 | @exc a c h k =>
  cases (show u=Value.ref a from rx)
  obtain ⟨p,_,_⟩:=(show zbH X.prog X.w H s.heap a (excO a t) from I.hok a _ h)
  exact PySem.W.kia_one (k.kit a) I.kIn p e (fun z=>nomatch z) fun tk=>⟨.bl b,H,I.tok tk,rfl,q⟩
def zlH (K:PySem.W.Frag):V→List V→Hp→VK→Prop:=fun x vs H Q=>∃ l xs y,x=.ref l∧vs=[y]∧SqL K H l xs∧ze5 y=true∧xs.all ze5=true∧Q (.int ((xs.countP fun z=>eqV z y:Nat):Int)) H
theorem ziq {x:V}:∀ {xs:List V} {us:List Value},zbZ xs us→xs.all ze5=true→us.countP (eqU x)=xs.countP fun y=>eqV y x
 | _,_,.nil,_=>rfl
 | y::xs,u::us,.cons r t,f=>by
  rw [List.all_cons,Bool.and_eq_true] at f
  rw [List.countP_cons,List.countP_cons,zlJ r f.1,ziq t f.2]
theorem zpB:MtR X "list.count" (zlH X.K):=by
 intro pins s σ H x vs v us Q I rx rv h
 obtain ⟨l,xs,y,rfl,rfl,hl,fy,fs,q⟩:=h
 cases rx
 obtain ⟨u,rfl,ru⟩:=rv.one
 obtain ⟨its,r,⟨⟨cls,dd,data,sl⟩,n,e,hc,hdn,hd⟩,_⟩:=I.list hl
 simp only at hc hd
 subst hc hd
 refine call_meets F.slot_list_count ⟨_,e,rfl⟩ F.entry_list_count (F.args_list_count_2 _ _) (SeqAt.list_countAt l its.toArray n dd sl u (eqU y)) ⟨e,fun w hw=>zdY ru fy r fs w (by simpa using hw),?_⟩
 refine ⟨.int _,H,I.tok _,⟨_,rfl⟩,?_⟩
 rw [List.toList_toArray,ziq r fs]
 exact q
def znK (K:PySem.W.Frag):V→List V→Hp→VK→Prop:=fun x vs H Q=>∃ l xs y j,x=.ref l∧vs=[y]∧SqL K H l xs∧ze5 y=true∧xs.all ze5=true∧xs.findIdx? (fun z=>eqV z y)=some j∧j<1000000∧Q (.int (j:Nat)) H
theorem zhr {x:V}:∀ {xs:List V} {us:List Value},zbZ xs us→xs.all ze5=true→us.findIdx? (eqU x)=xs.findIdx? fun y=>eqV y x
 | _,_,.nil,_=>rfl
 | y::xs,u::us,.cons r t,f=>by
  rw [List.all_cons,Bool.and_eq_true] at f
  rw [List.findIdx?_cons,List.findIdx?_cons,zlJ r f.1,zhr t f.2]
theorem zqC:MtR X "list.index" (znK X.K):=by
 intro pins s σ H x vs v us Q I rx rv h
 obtain ⟨l,xs,y,j,rfl,rfl,hl,fy,fs,hj,hs,q⟩:=h
 cases rx
 obtain ⟨u,rfl,ru⟩:=rv.one
 obtain ⟨its,r,⟨⟨cls,dd,data,sl⟩,n,e,hc,hdn,hd⟩,_⟩:=I.list hl
 simp only at hc hd
 subst hc hd
 rw [← zhr r fs] at hj
 obtain ⟨hlt,h1,h2⟩:=List.findIdx?_eq_some_iff_getElem.mp hj
 refine call_meets F.slot_list_index ⟨_,e,rfl⟩ F.entry_list_index (F.args_list_index_2 _ _) (SeqAt.list_indexAt l its.toArray n dd sl u (eqU y) j (by simpa using hlt) (by (first|lia|omega)) (by simpa using h1) (fun m hm hmj=>by simpa using h2 m hmj)) ⟨e,fun w hw=>zdY ru fy r fs w (by simpa using hw),?_⟩
 exact ⟨.int _,H,I.tok _,⟨_,rfl⟩,q⟩
def zsz (K:PySem.W.Frag) (ta:TE):TT:=fun σ H Q=>ta σ H fun x H'=>∃ k,zuh K x H' k∧Q k H'
def zei (t:TS):TS:=fun D σ H=>∃ R:St→Hp→Prop,t { D with nx:=R } σ H∧∀ σ' H',R σ' H'→D.nx σ' H'
theorem zbG {st:Stmt} {t:TS} (h:PS X st t):PS X st (zei t):=by
 intro pins s σ H D I hw
 obtain ⟨R,hw,hR⟩:=hw
 refine thn (h pins s σ H _ I hw) fun f s' q=>?_
 cases f with
 | next=>obtain ⟨σ',H',I',q⟩:=q;exact ⟨σ',H',I',hR _ _ q⟩
 | brk=>exact q
 | cont=>exact q
 | ret u=>exact q
end
theorem zai {H:Hp} {p:Addr} (h:H p=none) (o:HO):zaQ H (upd H p o):=fun b u q=>by rw [zaj (zaz q h)];exact q
theorem zaQ.add {H0 H:Hp} {p:Addr} {o:HO} (s:zaQ H0 H) (h:H p=none):zaQ H0 (upd H p o):=s.trans (zai h o)
theorem zaQ.put {H0 H:Hp} {p:Addr} {o:HO} (s:zaQ H0 H) (h:H0 p=none):zaQ H0 (upd H p o):=fun b u q=>by rw [zaj (zaz q h)];exact s _ _ q
theorem zqY {K:PySem.W.Frag} {i:Int} {H:Hp} {k:Bool}:zuh K (.int i) H k=(k=(i != 0)):=rfl
theorem ztn {K:PySem.W.Frag} {i:Bool} {H:Hp} {k:Bool}:zuh K (.bl i) H k=(k=i):=rfl
theorem zrr (a b:Int):scal (.int a) (.int b)=true:=rfl
theorem ztj (a b:Bool):scal (.bl a) (.bl b)=true:=rfl
theorem zsf {ns:List Int} {k:Int} (h0:0≤k) (h:k<(ns.length:Int)):∃ v:Int,atI (ns.map V.int) k=some (.int v)∧ns[k.toNat]?=some v:=by
 have hk:k.toNat<ns.length:=by (first|lia|omega)
 have ek:k=((k.toNat:Nat):Int):=by (first|lia|omega)
 have q:atI (ns.map V.int) ((k.toNat:Nat):Int)=some (.int ns[k.toNat]):=zbJ (by rw [List.getElem?_map,List.getElem?_eq_getElem hk] <;> rfl)
 rw [← ek] at q
 exact ⟨ns[k.toNat],q,List.getElem?_eq_getElem hk⟩
def zl9 (J:It) (g:TG) (tb:TS):TS:=fun D σ H=>∃ W:Nat→Nat→St→Hp→Prop,(∃ m,W 0 m σ H)∧∀ i m σ H,W i m σ H →
 (J.stop i H∧D.nx σ H)∨(J.go i H∧∃ N:St→Hp→Prop,(∀ σ' H',N σ' H'→∃ m',m'<m∧W (i+1) m' σ' H')∧∀ x H',J.yld i H x H'→g x σ H' fun σ2 H2=>tb { D with nx:=N,ct:=N,bk:=D.nx } σ2 H2)
theorem zt4 {wi:TI} {g:TG} {tb:TS} {D:zb9} {σ:St} {H:Hp}:zg3 wi g tb D σ H=wi σ H fun J H1=>zl9 J g tb D σ H1:=rfl
theorem zdR {lo:Int} {n:Nat} {g:TG} {tb:TS} {D:zb9} {σ:St} {H:Hp} (Pv:Nat→St→Hp→Prop) (h0:Pv 0 σ H)
  (hs:∀ i σ H,i<n→Pv i σ H→g (.int (lo+i)) σ H fun σ2 H2=>tb { D with nx:=Pv (i+1),ct:=Pv (i+1),bk:=D.nx } σ2 H2) (hd:∀ σ H,Pv n σ H→D.nx σ H):zl9 (Itr lo n) g tb D σ H:=znh Pv h0 hs hd
theorem zet {K:PySem.W.Frag} {a:Addr} {xs:List V} {g:TG} {tb:TS} {D:zb9} {σ:St} {H:Hp} (Pv:Nat→St→Hp→Prop) (h0:Pv 0 σ H) (hl:∀ i σ H,i≤xs.length→Pv i σ H→SqL K H a xs)
  (hs:∀ i x σ H,xs[i]?=some x→Pv i σ H→g x σ H fun σ2 H2=>tb { D with nx:=Pv (i+1),ct:=Pv (i+1),bk:=D.nx } σ2 H2) (hd:∀ σ H,Pv xs.length σ H→D.nx σ H):zl9 (Itl K a) g tb D σ H:=zrg Pv h0 hl hs hd
end L2
namespace L2
open PySem PySem.Spec PyProof.Rows
section
variable {P:Program} {w:World}
theorem zbH.there {H:Hp} {h:Heap} {a:Addr} {o:HO} (x:zbH P w H h a o):∃ ob,h.get? a=some ob:=by
 cases o with
 | lst xs=>obtain ⟨_,_,_,_,e⟩:=x;exact ⟨_,e⟩
 | tup xs=>obtain ⟨_,_,_,ob,e,_⟩:=x;exact ⟨ob,e⟩
 | dK kvs=>obtain ⟨_,_,_,_,ob,_,_,e,_⟩:=x;exact ⟨ob,e⟩
 | dT kvs=>obtain ⟨_,_,_,_,ob,_,_,e,_⟩:=x;exact ⟨ob,e⟩
 | set S n=>obtain ⟨ob,_,_,_,e,_⟩:=x;exact ⟨ob,e⟩
 | ins C dx fs=>obtain ⟨_,_,_,e,_⟩:=x;exact ⟨_,e⟩
 | own y=>exact x
 | xd fs=>obtain ⟨_,⟨ob,_,_,e,_⟩,_⟩:=x;exact ⟨ob,e⟩
 | rng lo hi=>obtain ⟨_,_,_,e⟩:=x;exact ⟨_,e⟩
 | frz ob u=>obtain ⟨e,_⟩:=x;exact ⟨ob,e⟩
 | tbl ps=>exact ⟨_,(show h.get? a=some _ from x)⟩
 | met f y=>exact ⟨_,(show h.get? a=some _ from x)⟩
 | ext φ=>obtain ⟨_,⟨ob,e⟩,_⟩:=x;exact ⟨ob,e⟩
structure ztL (P:Program) (w:World) (outer:List Env) (H:Hp) (s:Shared) (E:XK) (ea:Addr) (s':Shared) (B:Heap) (cls a0:Value) (H':Hp):Prop where
 os:s'.os=s.os
 bare:AllBare s'.gens
 un:Un (frs outer) [] H H' s.heap s'.heap
 hokB:HOk P w H' B
 fly:Heap.FlyingW B outer ea cls a0 s'.heap
 cov:∀ b o,s.heap.get? b=some o→H b=none→b∉frs outer→B.get? b=some o
 covT:∀ b o,s.heap.get? b=some o→b∉frs outer→∃ o',B.get? b=some o'
 new:s.heap.get? ea=none
 free:H' ea=none
 want:E cls none H'
theorem ztL.later {outer:List Env} {H H':Hp} {s s':Shared} {E:XK} {ea:Addr} {B h:Heap} {cls a0:Value} (x:ztL P w outer H s E ea s' B cls a0 H') (st:B.StaysIn h) (sm:s'.heap.UpToSlots h)
  (ff:s'.heap.FunFrames B outer):Un (frs outer) [] H H' s.heap h∧HOk P w H' h:=by
 have slot:∀ b o,s'.heap.get? b=some o→b∈frs outer→∃ sl,h.get? b=some { o with slots:=sl }:=fun b o e hb=>by
  obtain ⟨_,o',e',nf⟩:=ff.mem hb
  rw [e] at e'
  cases e'
  exact sm b o e nf
 refine ⟨⟨fun b o e n hb _=>st b o (x.cov b o e n hb),fun b o e n hb hx=>?_,x.un.free,fun b o e hx=>?_,x.un.tups,x.un.frzs,x.un.tbls⟩,x.hokB.kept st⟩
 ·obtain ⟨sl,e1⟩:=x.un.slot b o e n hb hx
  obtain ⟨sl',e2⟩:=slot b _ e1 hb
  exact ⟨sl',e2⟩
 ·by_cases hb:b∈frs outer
  ·obtain ⟨o1,e1⟩:=x.un.there b o e hx
   obtain ⟨sl,e2⟩:=slot b o1 e1 hb
   exact ⟨_,e2⟩
  ·obtain ⟨o',e'⟩:=x.covT b o e hb
   exact ⟨o',st b o' e'⟩
end
section
variable {P:Program} {w:World} {K:PySem.W.Frag} {mg:Str→Option Value} {base:Heap} {N:List Str} {qual:Str} {scope:Scope} {f:Addr} {cd:Value} {A:Around} {outer:List Env} {s₀:Shared} {H₀:Hp} {E:XK}
end
def zru (X:Cx) (C:Addr) (E:XK):Prop:=∀ (pins:List (Addr×Obj)) (σ:St) (H:Hp) (s:Shared) (ea:Addr) (h':Heap) (args:List Value),Inv X pins σ H s→Heap.MadeExcOf s.heap h' ea (.ref C) args→E (.ref C) none H→X.xe (.ref ea) { s with heap:=h' }
section
variable {P:Program} {w:World} {K:PySem.W.Frag} {mg:Str→Option Value} {base:Heap} {N:List Str} {qual:Str} {scope:Scope} {f:Addr} {cd:Value} {A:Around} {outer:List Env} {s₀:Shared} {H₀:Hp} {E:XK}
end
abbrev zez:List Value:=[.type "ValueError",.type "Exception",.type "BaseException",.type "object"]
def zr3 (h:Heap) (C:Addr):Prop:=∃ bm N nm q bs hdct sn sub ab col dd k0 k1 k2 k3 k5 mN,h.get? C=some (excClassObj nm q C N bs bm hdct sn sub ab col dd k0 k1 k2 k3 k5 "ValueError.__new__")∧h.Ns N mN∧mN "__init__"=none∧OwnTail h zez bm
theorem zf9 {K:PySem.W.Frag} {h:Heap} {C:Addr} (X:K.In h) (q:PySem.W.excIn K C zez "ValueError.__new__"=true):zr3 h C:=by
 unfold PySem.W.excIn at q
 split at q
 ·rename_i dd cd sl ho
  split at q
  ·rename_i C2 bm k0 k1 k2 k3 n k5 hm hs
   simp only [Bool.and_eq_true,beq_iff_eq,Bool.not_eq_true'] at q
   obtain ⟨⟨⟨⟨⟨r1,r2⟩,r3⟩,r4⟩,r5⟩,r6⟩:=q
   subst r1 r2
   obtain ⟨a1,a2,a3,a4,a5,a6,a7,a8,a9,a10,a11⟩:=cd
   dsimp only at hm r3 r5 r6
   subst hm r3
   have z:sl=#[k0,k1,k2,k3,some (.builtin "ValueError.__new__"),k5]:=by
    obtain ⟨l⟩:=sl
    exact congrArg Array.mk hs
   subst z
   exact ⟨bm,_,_,_,_,_,_,_,_,_,_,k0,k1,k2,k3,k5,_,X _ _ ho,.of_isNs (PySem.W.isNs_of_in X r5),PySem.W.nsMap_none_of_in X r5 r6,PySem.W.tail_of_in X r4⟩
  ·cases q
 ·cases q
theorem zp8 {X:Cx} {x:Str} {C:Addr} {E:XK} {z:Str} {j:Nat} {np cpos pos pz:Pos} (hm:X.mg x=some (.ref C)) (hq:PySem.W.excIn X.K C zez "ValueError.__new__"=true) (hg:Gl X x) (hc:X.calm=true) (hT:zru X C E)
  (hd:(x == ("__debug__":Str))=false:=by decide):PS X (.Raise (some (.Call (.Name x np) [.Constant (.str z) j pz] [] cpos)) none pos) (znR (.ref C) E):=by
 intro pins s σ H D I h
 have hw:E (.ref C) none H:=h
 have O:=zf9 I.ok.mod.kin hq
 obtain ⟨b1,b2,b3,b4,b5,b6,b7,b8,b9,b10,b11,b12,b13,b14,b15,b16,b17,hC,hN,hni,T⟩:=O
 refine wpAny_Raise_call_subT (C:=C) (nm:=b3) (q:=b4) (N:=b2) (bs:=b5) (bm:=b1) (hdct:=b6) (sn:=b7) (sub:=b8) (ab:=b9) (col:=b10) (dd:=b11) (k0:=b12) (k1:=b13) (k2:=b14) (k3:=b15) (k5:=b16) (mN:=b17)
  PySem.F.excBase_ValueError (T.hasType PySem.F.excBase_ValueError.hasBase) (I.ok.hd hc) rfl hni (zdg I hg hm ⟨rfl,?_⟩ hd)
 refine Calls.evalArgs_plain ?_
 refine thn ((zaa (X:=X) (zaR (x:=z) (j:=j) (pos:=pz)) zae (by rfl)) cpos pins s σ H (fun vs H1=>vs=[.str z]∧H1=H) I ⟨rfl,rfl⟩) fun us s2 hQ'=>?_
 obtain ⟨vs,H1,I1,r,e1,e2⟩:=hQ'
 subst e1 e2
 have hl:=r.length
 refine ⟨rfl,by rw [← hl];exact Nat.le_of_lt (zoP (by show 1≤1000;decide)),I1.bk _ _ hC,hN.keeps I1.bk,T.keeps I1.bk,fun h' e hmade=>?_⟩
 exact hT pins σ _ s2 e h' us I1 hmade hw
section
variable {X:Cx} {CX:CXT} {k:Nat} {f:Addr} {fd:FuncData} {ps:List Str} {sp:Sp} {dvs:List V} {ds:List Value} {E:St→XK} {x:Str} {p pos:Pos} {e:Expr} {es:List Expr} {t:TA}
def zk8 (CX:CXT) (X:Cx) (E:St→XK):Prop:=∀ (pins:List (Addr×Obj)) (σ:St) (H:Hp) (s:Shared) (e:Value) (s':Shared),Inv X pins σ H s→CX X.stack H s (E σ) e s'→X.xe e s'
theorem zg0 (F:zcW X.prog X.w X.K X.mg X.base CX k f fd ps sp) (hr:zej k X.A) (hg:Gl X x) (hm:X.mg x=some (.ref f)) (hk:PySem.W.keepIn X.K (.ref f)=true) (hb:zbF X.K fd ps ds) (hd:zbZ dvs ds) (hx:zk8 CX X E)
  (ha:PA X (e::es) t) (hdb:(x == ("__debug__":Str))=false:=by decide) (he:starEach (e::es) X.env=(false,eval e X.env)::starEach es X.env:=by rfl) (hpl:(backTo pos (starEach es X.env)).any (·.1)=false:=by rfl) :
  PE X (.Call (.Name x p) (e::es) [] pos) (zin sp dvs E t):=by
 intro pins s σ H Q I h
 refine wpAny_Call_Name_kw (zdg I hg hm ?_ hdb)
 refine PySem.W.callWith_K (h₀:=X.base) I.ok.mod.kin hk (thn (ha pos pins s σ H _ I h) fun us s1 ⟨vs,H1,I1,r,q⟩=>⟨I1.kIn,?_⟩) he hpl
 have r2:zbZ (vs++dvs) (us++ds):=r.append hd
 have hl:(us++ds).length=ps.length:=by rw [← r2.length];exact F.len _ _ _ _ q
 refine wpAny_call (codeAny_mono (F.run X.A X.stack s1 H1 ⟨us,[]⟩ (us++ds) (vs++dvs) Q (E σ) hr I1.env0 (hb s1 us I1.kIn hl) r2 q) fun res s' hq=>?_)
 cases res with
 | error e=>exact hx pins σ H1 s1 e s' I1 hq
 | ok fl =>
  cases fl with
  | ret u=>exact I1.after hq
  | next=>exact False.elim hq
  | brk=>exact False.elim hq
  | cont=>exact False.elim hq
end
theorem Cx.Ok.pinned {X:Cx} (ok:X.Ok) (pn:List (Addr×Obj)) (xe:Value→Shared→Prop):Cx.Ok { X with pn:=pn,xe:=xe } :=
 ⟨ok.mod,ok.kind,ok.glob,ok.blt,ok.above,ok.inj,ok.has,ok.cab,ok.hd,ok.frames,ok.stk,ok.exf,ok.bs,ok.bsz,ok.noex,ok.exfs,ok.funs,ok.frf⟩
theorem Inv.ofTry {X:Cx} {pins pins':List (Addr×Obj)} {xe:Value→Shared→Prop} {σ:St} {H:Hp} {s:Shared} (I:Inv { X with pn:=X.pn++pins,xe:=xe } pins' σ H s) (ok:X.Ok):Inv X pins σ H s :=
 ⟨ok,I.os,I.bare,I.base,I.loc,I.cell,I.free,I.freeC,fun p hp=>I.pin p (List.mem_append_left _ hp),I.hok,I.len⟩
theorem Inv.track {X:Cx} {pins:List (Addr×Obj)} {σ:St} {H:Hp} {s:Shared} {a:Addr} {o:HO} (I:Inv X pins σ H s) (hn:H a=none) (h0:X.s₀.heap.get? a=none) (hL:a≠X.env.locals) (hc:∀ x c,X.env.cells.lookup x=some c→c≠a)
  (hp:∀ p∈X.pn++pins,p.1≠a) (new:zbH X.prog X.w (upd H a o) s.heap a o):Inv X pins σ (upd H a o) s:=by
 refine ⟨I.ok,I.os,I.bare,⟨I.base.keep,I.base.slot,fun b u q n hx=>?_,I.base.there,fun b xs q=>?_,fun b u xs q=>?_,fun b ps q=>?_⟩,I.loc,I.cell,?_,fun x c e=>?_,fun p q=>?_,fun b u e=>?_,I.len⟩
 ·have nb:b≠a:=fun z=>by rw [z,h0] at q;cases q
  rw [zaj nb]
  exact I.base.free b u q n hx
 ·have q2:=I.base.tups b xs q
  rw [zaj (zaz q2 hn)]
  exact q2
 ·have q2:=I.base.frzs b u xs q
  rw [zaj (zaz q2 hn)]
  exact q2
 ·obtain ⟨m,q2⟩:=I.base.tbls b ps q
  exact ⟨m,by rw [zaj (zaz q2 hn)];exact q2⟩
 ·rw [zaj hL.symm]
  exact I.free
 ·rw [zaj (hc x c e)]
  exact I.freeC x c e
 ·obtain ⟨e,n,r⟩:=I.pin p q
  exact ⟨e,by rw [zaj (hp p q)];exact n,r⟩
 ·by_cases hb:b=a
  ·subst hb
   rw [zad] at e
   cases e
   exact new
  ·rw [zaj hb] at e
   exact (I.hok b u e).stay (fun c v _ q=>q) (fun c q=>by rw [zaj (zaz q hn)];exact q) fun c xs q=>by rw [zaj (zaz q hn)];exact q
theorem ziP {X:Cx} {pins:List (Addr×Obj)} {σ:St} {H:Hp} {s:Shared} {M:Model} {A:Around} {E:Value→Shared→Prop} {i:Nat} {n:Str} {pos:Pos} {Q:Unit→Shared→Prop} (I:Inv X pins σ H s) (hN:X.N.Nodup) (hi:X.N[i]?=some n)
  (hk:X.env.scope.names.lookup n=some .local) (h:∀ s',Inv X pins (σ.set i none) H s'→Q () s'):wpAny M A (do bindName X.env n .none;unbindBehindTheSuite X.env n pos) Q E s:=by
 obtain ⟨m,hn,hl⟩:=id I.loc
 have hcls:(X.env.scope.kind == .class || (X.env.scope.kind == .module&&X.env.locals != X.env.globals))=false:=by rw [I.ok.kind];rfl
 have hiσ:i<σ.length:=by rw [I.len];exact (List.getElem?_eq_some_iff.mp hi).1
 obtain ⟨oL,_,_,hoL,_⟩:=id hn
 refine wpAny_nameGoes_keeps hk hn hcls fun h' v hn' hs=>?_
 have below:∀ b o,X.s₀.heap.get? b=some o→b≠X.env.locals:=fun b o e=>Nat.ne_of_lt (Nat.lt_of_lt_of_le (Heap.lt_size e) I.ok.above)
 refine h _ ⟨I.ok,I.os,I.bare,⟨fun b o e n hb hx=>?_,fun b o e n hb hx=>?_,I.base.free,fun b o e hx=>?_,I.base.tups,I.base.frzs,I.base.tbls⟩,⟨_,hn',fun j y v' e1 e2 e3=>?_⟩,fun y c e=>?_,I.free,I.freeC,fun p hp=>?_,fun b ob e=>?_,by simpa using I.len⟩
 ·exact (hs.2 b (below b o e)).trans (I.base.keep b o e n hb hx)
 ·obtain ⟨sl,e1⟩:=I.base.slot b o e n hb hx
  exact ⟨sl,(hs.2 b (below b o e)).trans e1⟩
 ·obtain ⟨o',e1⟩:=I.base.there b o e hx
  exact ⟨o',(hs.2 b (below b o e)).trans e1⟩
 ·have hj:j≠i:=fun z=>by
   rw [z,List.getElem?_set_self hiσ] at e2
   cases e2
  rw [List.getElem?_set_ne (Ne.symm hj)] at e2
  obtain ⟨u',r',q⟩:=hl j y v' e1 e2 e3
  refine ⟨u',r',?_⟩
  rcases q with ⟨k,e⟩ | ⟨k,c,e,z⟩
  ·refine .inl ⟨k,?_⟩
   have:y≠n:=fun e=>hj (zi9 hN e1 (e ▸ hi))
   simp [this,e]
  ·exact .inr ⟨k,c,e,z.sameBut hs (I.cne y c e)⟩
 ·obtain ⟨w',z⟩:=I.cell y c e
  exact ⟨w',z.sameBut hs (I.cne y c e)⟩
 ·obtain ⟨e,n,ne,nf,d⟩:=I.pin p hp
  exact ⟨(hs.2 p.1 ne).trans e,n,ne,nf,d⟩
 ·refine (I.hok b ob e).stay (fun c w' hc q=>(hs.2 c ?_).trans q) (fun _ q=>q) fun _ _ q=>q
  rintro rfl
  rcases hc with rfl | hc
  ·rw [I.free] at e;cases e
  ·rw [I.free] at hc;cases hc
theorem zhZ {M:Model} {A:Around} {E:Value→Shared→Prop} {h:Heap} {g:Array GenState} {d:Drawn} {t:Nat} {os:OsState} {e D:Addr} {oe:Obj} {cls:Value} {Q:Bool→Shared→Prop} (he:h.get? e=some oe) (hcls:oe.cls=cls)
  (O:zr3 h D) (L:PySem.W.Looks M h (isSubtype cls (.ref D)) true) (hq:Q true ⟨h,g,d,t,os⟩):wpAny M A (excMatches (.ref e) (.ref D)) Q E ⟨h,g,d,t,os⟩:=by
 obtain ⟨b1,b2,b3,b4,b5,b6,b7,b8,b9,b10,b11,b12,b13,b14,b15,b16,b17,hD,hN,hni,T⟩:=O
 have hcB:(Value.ref D::b1).contains (.type "BaseException")=true:=by rw [List.contains_cons,T.hasType PySem.F.excBase_ValueError.hasBase,Bool.or_true]
 have f:=tc_notTuple
 unfold excMatches
 repeat (first | (with_reducible refine wpAny_loadPart_at he ?_;rw [hcls]) | with_reducible refine wpAny_loadPart_at hD ?_ | (with_reducible refine wpAny_isSubtype_exc hD ?_;rw [hcB]) | (with_reducible refine L.at ?_) | wp_step)
 exact hq
def Cx.inExc (X:Cx) (ea:Addr):Cx:={ X with A:=X.A.mark (some (.ref ea)),calm:=false }
theorem Inv.toExc {X:Cx} {pins:List (Addr×Obj)} {σ:St} {H:Hp} {s:Shared} {ea:Addr} (I:Inv X pins σ H s) (hf:(X.A.mark (some (.ref ea))).frames=some X.stack):Inv (X.inExc ea) pins σ H s :=
 ⟨⟨I.ok.mod,I.ok.kind,I.ok.glob,I.ok.blt,I.ok.above,I.ok.inj,I.ok.has,I.ok.cab,(by intro z;cases z),hf,I.ok.stk,I.ok.exf,I.ok.bs,I.ok.bsz,I.ok.noex,I.ok.exfs,I.ok.funs,I.ok.frf⟩,I.os,I.bare,I.base,I.loc,I.cell,I.free,I.freeC,I.pin,I.hok,I.len⟩
theorem Inv.ofExc {X:Cx} {pins:List (Addr×Obj)} {σ:St} {H:Hp} {s:Shared} {ea:Addr} (I:Inv (X.inExc ea) pins σ H s) (ok:X.Ok):Inv X pins σ H s :=
 ⟨ok,I.os,I.bare,I.base,I.loc,I.cell,I.free,I.freeC,I.pin,I.hok,I.len⟩
structure zcC (K:PySem.W.Frag) (C:Addr):Prop where
 ga:PySem.W.findIn K (.ref C) "__getattribute__"=some (some (.builtin "BaseException.__getattribute__"))
 gn:PySem.W.findIn K (.ref C) "__getattr__"=some none
 cl:PySem.W.findIn K (.ref C) "__class__"=some (some (.builtin "object.__class__"))
 mb:PySem.W.mroIn K C (.type "BaseException")=some true
 mo:PySem.W.mroIn K C (.type "object")=some true
structure zoX (K:PySem.W.Frag) (C:Addr):Prop where
 ga:PySem.W.findIn K (.ref C) "__getattribute__"=some (some (.builtin "BaseException.__getattribute__"))
 gn:PySem.W.findIn K (.ref C) "__getattr__"=some none
 cl:PySem.W.findIn K (.ref C) "__class__"=some (some (.builtin "object.__class__"))
 mb:PySem.W.mroIn K C (.type "BaseException")=some true
 mo:PySem.W.mroIn K C (.type "object")=some true
 ok:PySem.W.excIn K C zez "ValueError.__new__"=true
theorem zoX.five {K:PySem.W.Frag} {C:Addr} (Z:zoX K C):zcC K C:=⟨Z.ga,Z.gn,Z.cl,Z.mb,Z.mo⟩
section
open Builtin Builtin.ObjectAttr Builtin.Getset_descriptor PySem.W
variable {K:PySem.W.Frag} {prog:Program} {w:World} {A:Around} {E:Value→Shared→Prop} {h:Heap} {g:Array GenState} {d:Drawn} {t:Nat} {os:OsState} {a C:Addr} {o:Obj}
theorem zmt:splitId "BaseException.__getattribute__"=some ("BaseException","__getattribute__"):=by decide +kernel
theorem zmc:builtinKind "BaseException.__getattribute__"=some .slot:=by decide +kernel
theorem zme {R:Result→Shared→Prop} (X:K.In h) (Z:zcC K C) (hx:h.get? a=some o) (hc:o.cls=.ref C) (hq:R (.ok (.ret (.ref C))) ⟨h,g,d,t,os⟩) :
  codeAny (model prog w) A (.call (.builtin "getset_descriptor.__get__") ⟨[.builtin "object.__class__",.ref a,.ref C],[]⟩) R ⟨h,g,d,t,os⟩:=by
 have LT:PySem.W.Looks (model prog w) h (typeOf (.ref a)) (.ref C):=hc ▸ (PySem.W.Looks.ld hx).andThen .now
 have LM:=PySem.W.looks_mroIn (M:=model prog w) X Z.mo
 refine codeAny_call_builtin PySem.W.KF.slot_gs.plain PySem.W.KF.entry_gs (PySem.W.KF.slot_gs.check _ _ _ _ _ _ _ _ PySem.W.KF.type_class (PySem.W.KF.args_gs _ _ _) ?_)
 unfold Builtin.«getset_descriptor.__get__»
 unfold descrGet
 rw [PySem.W.dga_obj]
 refine wpAny_bind (wpAny_pure ?_)
 unfold descrGetter descrCheckInstance
 unfold descrNameAndClass isInstance
 simp only [PySem.W.KF.owner_class]
 repeat lk
 refine ⟨Code.quiet_builtin _ (by decide +kernel),codeAny_builtin PySem.W.KF.entry_class ?_⟩
 unfold Builtin.«object.__class__»
 unfold shownTypeOf
 repeat lk
 exact hq
theorem zji {tk:Tok} {Q:Fin→Shared→Prop} (X:K.In h) (Z:zcC K C) (hx:h.get? a=some o) (hc:o.cls=.ref C) (hq:Q (.done (.ret (.ref C))) ⟨h,g,d,t,os⟩) :
  wpAny (model prog w) A (Builtin.«object.__getattribute__» ⟨[.ref a,.str "__class__" tk],[]⟩) Q E ⟨h,g,d,t,os⟩:=by
 have LC:=PySem.W.looks_findIn (M:=model prog w) X Z.cl
 have h5:(⟨h,g,d,t,os⟩:Shared).TypeIs (.builtin "object.__class__") "getset_descriptor":=F.typeOf_object_class
 have f5:=F.typeOf_object_class
 have f6:=F.slot_gs_get.lookup
 have f7:=F.slot_gs_set.lookup
 repeat (any_goals (first | assumption | (with_reducible refine wpAny_loadPart_at hx ?_;rw [hc]) | with_reducible refine LC.at ?_ | wp_step))
 refine zme X Z hx hc ?_
 repeat (any_goals (first | assumption | wp_step))
theorem zgR {M:Model} {v:Value} {Q:Unit→Shared→Prop} (X:K.In h) (Z:zcC K C) (hx:h.get? a=some o) (hc:o.cls=.ref C) (hq:Q () ⟨h,g,d,t,os⟩) :
  wpAny M A (checkBuiltinCall "BaseException.__getattribute__" ⟨[.ref a,v],[]⟩) Q E ⟨h,g,d,t,os⟩:=by
 have LM:=PySem.W.looks_mroIn (M:=M) X Z.mb
 have LT:PySem.W.Looks M h (typeOf (.ref a)) (.ref C):=hc ▸ (PySem.W.Looks.ld hx).andThen .now
 have ao:=F.args_bexc_ga (.ref a) v
 simp only [checkBuiltinCall,zmc,zmt]
 refine wpAny_bind ?_
 unfold isInstance
 refine wpAny_bind (LT.at (LM.at ?_))
 repeat (any_goals (first | assumption | wp_step))
theorem zoQ {tk:Tok} {Q:Value→Shared→Prop} (X:K.In h) (Z:zcC K C) (FB:ExcAttrBase "ValueError" zez) (hx:h.get? a=some o) (hc:o.cls=.ref C) (hq:Q (.ref C) ⟨h,g,d,t,os⟩) :
  wpAny (model prog w) A (getAttrBy (.ref a) (.str "__class__" tk) false) Q E ⟨h,g,d,t,os⟩:=by
 have LG:=PySem.W.looks_findIn (M:=model prog w) X Z.ga
 have LN:=PySem.W.looks_findIn (M:=model prog w) X Z.gn
 have f3:=FB.ga.bind (.ref a)
 have n2:(Value.builtin "BaseException.__getattribute__" == Value.builtin "object.__getattribute__")=false:=by decide +kernel
 have n1:(onTheHeap (Value.ref C)&&(Value.builtin "BaseException.__getattribute__" == Value.builtin "object.__getattribute__"))=false:=by rw [n2];rfl
 repeat (any_goals (first | assumption | (with_reducible refine wpAny_loadPart_at hx ?_;rw [hc]) | with_reducible refine LG.at ?_ | with_reducible refine LN.at ?_ | wp_step))
 refine codeAny_call_builtin FB.ga.plain F.entry_bexc_ga (zgR X Z hx hc (zji X Z hx hc ?_))
 repeat (any_goals (first | assumption | wp_step))
theorem zhe {Q:Option Value→Shared→Prop} (X:K.In h) (Z:zcC K C) (FB:ExcAttrBase "ValueError" zez) (hx:h.get? a=some o) (hc:o.cls=.ref C) (hq:Q (some (.ref C)) ⟨h,g,d,t+1,os⟩) :
  wpAny (model prog w) A (getAttr? (.ref a) "__class__") Q E ⟨h,g,d,t,os⟩:=by
 unfold getAttr? getAttrBy?
 repeat (any_goals (first | assumption | with_reducible apply zoQ X Z FB hx hc | wp_step))
theorem znq (Z:zoX K C):zfP K (.ref C):=⟨fun x=>{
 ty:=fun M h _ p=>by
  obtain ⟨oe,vs,e,c,_⟩:=p
  exact c ▸ (PySem.W.Looks.ld e).andThen .now
 it:=fun M h X _=>by
  obtain ⟨b1,b2,b3,b4,b5,b6,b7,b8,b9,b10,b11,b12,b13,b14,b15,b16,b17,hC,_⟩:=zf9 X Z.ok
  intro A' Q' E' s' k q
  unfold isType loadHead
  exact wpAny_bind (wpAny_loadPart (k _ _ hC) (wpAny_pure q))
 ne:=fun h tp dd its n sl X htp=>by
  obtain ⟨b1,b2,b3,b4,b5,b6,b7,b8,b9,b10,b11,b12,b13,b14,b15,b16,b17,hC,_⟩:=zf9 X Z.ok
  refine Bool.eq_false_iff.mpr fun q=>?_
  have e:C=tp:=Value.ref.inj (beq_iff_eq.mp q)
  subst e
  rw [hC] at htp
  have z:=congrArg Obj.data (Option.some.inj htp)
  exact nomatch z
 ca:=fun {prog w A E Q s} X p q=>by
  obtain ⟨h,g,d,t,os⟩:=s
  obtain ⟨oe,vs,e,c,_⟩:=p
  exact zhe X Z.five PySem.F.attrBase_ValueError e c q }⟩
end
end L2
namespace L2
open PySem PySem.Spec PyProof.Rows
theorem zn6 {env:Env} {x:Str} {c:Addr} (h:env.cells.lookup x=some c):cellOf env x=pure c:=by
 unfold cellOf
 rw [h]
theorem zgp {env:Env}:∀ (l:List (Str×NameKind)) (cs:List (Str×Addr)),(∀ y∈l,y.2=.free→∃ c,env.cells.lookup y.1=some c)→(∀ x c,cs.lookup x=some c→env.cells.lookup x=some c) →
  ∃ cl,(forIn l cs fun (y:Str×NameKind) r=>(if (y.2 == .free)=true then do let c ← cellOf env y.1;pure (ForInStep.yield ((y.1,c)::r)) else pure (ForInStep.yield r):Sem (ForInStep (List (Str×Addr)))))=pure cl ∧
   (∀ x c,cl.lookup x=some c→env.cells.lookup x=some c)∧(∀ y∈l,y.2=.free→∃ c,cl.lookup y.1=some c)∧∀ x,(∃ c,cs.lookup x=some c)→∃ c,cl.lookup x=some c
 | [],cs,_,hc=>⟨cs,by simp,hc,by simp,fun _ h=>h⟩
 | y::l,cs,hf,hc=>by
  have hf':∀ z∈l,z.2=.free→∃ c,env.cells.lookup z.1=some c:=fun z hz=>hf z (List.mem_cons_of_mem _ hz)
  by_cases hy:y.2=.free
  ·obtain ⟨c,e⟩:=hf y List.mem_cons_self hy
   have hc':∀ x d,List.lookup x ((y.1,c)::cs)=some d→env.cells.lookup x=some d:=fun x d q=>by
    rw [List.lookup_cons] at q
    split at q
    ·rename_i b
     cases q
     rw [beq_iff_eq.mp b,e]
    ·exact hc x d q
   obtain ⟨cl,e1,e2,e3,e4⟩:=zgp l ((y.1,c)::cs) hf' hc'
   refine ⟨cl,?_,e2,fun z hz q=>?_,fun x ⟨d,q⟩=>e4 x ?_⟩
   ·rw [List.forIn_cons,if_pos (by rw [hy];rfl),zn6 e]
    simpa using e1
   ·rcases List.mem_cons.mp hz with r | r
    ·exact e4 z.1 ⟨c,by rw [r,List.lookup_cons];simp⟩
    ·exact e3 z r q
   ·rw [List.lookup_cons]
    split
    ·exact ⟨_,rfl⟩
    ·exact ⟨d,q⟩
  ·obtain ⟨cl,e1,e2,e3,e4⟩:=zgp l cs hf' hc
   refine ⟨cl,?_,e2,fun z hz q=>?_,e4⟩
   ·rw [List.forIn_cons,if_neg (by simpa using hy)]
    simpa using e1
   ·rcases List.mem_cons.mp hz with r | r
    ·rw [r] at q;exact absurd q hy
    ·exact e3 z r q
theorem zmu {scope:Scope} {env:Env} (h:∀ y∈scope.names,y.2=.free→∃ c,env.cells.lookup y.1=some c) :
  ∃ cl,closureFor scope env=pure cl∧(∀ x c,cl.lookup x=some c→env.cells.lookup x=some c)∧∀ y∈scope.names,y.2=.free→∃ c,cl.lookup y.1=some c:=by
 obtain ⟨cl,e1,e2,e3,_⟩:=zgp scope.names [] h (by simp)
 refine ⟨cl,?_,e2,e3⟩
 unfold closureFor
 simp only [bind_pure]
 exact e1
theorem zjX {P:Program} {w:World} {A:Around} {R:Result→Shared→Prop} {s:Shared} {elt target iter:Expr} {ifs:List Expr} {scope:Scope} {pos:Pos} {it acc:Value} {env:Env} {Z:Value→Shared→Prop} (J:Nat→Shared→Prop)
  (hZ:Z=notedBy (model P w) A env fun e s'=>R (.error e) s')
  (turn:∀ n s,J n s→wpAny (model P w) A (pyNext it) (fun r s1=>match r with
   | none=>R (.ok .next) s1
   | some v=>wpAny (model P w) A (letOwnedTupleGo target it v) (fun _ s2=>wpAny (model P w) A (assign target env v) (fun _ s3 =>
     wpAny (model P w) A (forIn ifs true fun c r=>if r=true then do let ok ← isTrue c env (eval c env);pure (ForInStep.yield ok) else pure (ForInStep.yield r)) (fun ok s4 =>
      if ok=true then wpAny (model P w) A (eval elt env) (fun x s5=>wpAny (model P w) A (call (.builtin "list.append") [acc,x]) (fun _ s6=>∃ m,m<n∧J m s6) Z s5) Z s4
      else ∃ m,m<n∧J m s4) Z s3) Z s2) Z s1) Z s)
  (n:Nat) (h:J n s):codeAny (model P w) A (.compLoop (.ListComp elt [⟨target,iter,ifs,0⟩] scope pos) 0 it acc env) R s:=by
 subst hZ
 refine codeAny_loop rfl J (fun n s hJ=>?_) n h
 show wpAny _ _ (Sem.onRaise (compTurn (.ListComp elt [⟨target,iter,ifs,0⟩] scope pos) 0 it acc env) fun x=>do noteFrame x env;theTreesLotGoes x) _ _ s
 refine wpAny_noted ?_
 rw [compTurn_list]
 refine wpAny_bind (wpAny_standAt (wpAny_bind (thn (turn n s hJ) fun r s1 h1=>?_)))
 cases r with
 | none=>exact wpAny_pure h1
 | some v =>
  refine wpAny_bind (thn h1 fun _ s2 h2=>wpAny_bind (thn h2 fun _ s3 h3=>wpAny_bind (thn h3 fun ok s4 h4=>?_)))
  cases ok with
  | false=>exact wpAny_pure ⟨rfl,h4⟩
  | true=>exact wpAny_bind (wpAny_bind (thn h4 fun x s5 h5=>wpAny_bind (thn h5 fun _ s6 h6=>wpAny_pure (wpAny_pure ⟨rfl,h6⟩))))
def PTs (X:Cx) (ifs:List Expr) (t:TT):Prop:=∀ (pins:List (Addr×Obj)) (s:Shared) (σ:St) (H:Hp) (Q:Bool→Hp→Prop),Inv X pins σ H s→t σ H Q →
 wpAny (model X.prog X.w) X.A (forIn ifs true fun c r=>if r=true then do let ok ← isTrue c X.env (eval c X.env);pure (ForInStep.yield ok) else pure (ForInStep.yield r)) (TP X pins σ Q) X.xe s
def zcB:TT:=fun _ H Q=>Q true H
theorem zgu {X:Cx}:PTs X [] zcB:=fun _ _ _ H _ I h=>wpAny_tests_nil ⟨H,I,h⟩
def zuj (cap:List (Option Nat)) (σ:St):St:=cap.map fun o=>o.bind fun j=>(σ[j]?).join
def zgT (wi:TI) (g:TG) (tt:TT) (te:TE) (cap:List (Option Nat)):TE:=fun σ H Q=>wi σ H fun J H1=>∀ D,H1 D=none→∃ W:Nat→Nat→St→Hp→Prop,(∃ m,W 0 m (zuj cap σ) (upd H1 D (.lst [])))∧∀ i m σc Hc,W i m σc Hc →
 (J.stop i Hc∧Q (.ref D) Hc)∨(J.go i Hc∧∃ N:St→Hp→Prop,(∀ σ' H',N σ' H'→∃ m',m'<m∧W (i+1) m' σ' H')∧∀ x H',J.yld i Hc x H'→g x σc H' fun σ2 H2=>tt σ2 H2 fun b H3=>if b=true then te σ2 H3 fun y H4=>zbK (.ref D) [y] H4 fun _ H5=>N σ2 H5 else N σ2 H3)
def Cx.blk (X:Cx) (Nc:List Str) (scope:Scope) (cl:List (Str×Addr)) (s:Shared) (H:Hp) (fp:List Addr):Cx:={ X with
 N:=Nc,s₀:=s,H₀:=H,env:=compEnvC scope cl s.heap.objs.size X.env,outer:=X.stack,stack:=X.stack,ex:=fp,fn:=fun _=>false,pn:=[],xe:=fun _ _=>False }
structure zmA (sc:Scope) (N Nc:List Str) (cap:List (Option Nat)) (scope:Scope):Prop where
 kind:scope.kind=.function
 nocell:∀ y∈scope.names,y.2≠.cell
 free:∀ y∈scope.names,y.2=.free→sc.names.lookup y.1=some .cell∨sc.names.lookup y.1=some .free
 once:∀ y∈scope.names,scope.names.lookup y.1=some y.2
 nd:Nc.Nodup
 len:cap.length=Nc.length
 cap:∀ (i:Nat) (y:Str) (j:Nat),Nc[i]?=some y→cap[i]?=some (some j)→N[j]?=some y∧scope.names.lookup y=some .free
def zrD (sc:Scope) (N Nc:List Str) (cap:List (Option Nat)) (scope:Scope):Bool :=
 scope.kind == .function&&scope.names.all (fun y=>y.2 != .cell&&scope.names.lookup y.1 == some y.2&&(y.2 != .free || sc.names.lookup y.1 == some .cell || sc.names.lookup y.1 == some .free))&&decide Nc.Nodup&&cap.length == Nc.length
  && (Nc.zip cap).all fun p=>p.2.all fun j=>N[j]? == some p.1&&scope.names.lookup p.1 == some .free
theorem zmA.of {sc:Scope} {N Nc:List Str} {cap:List (Option Nat)} {scope:Scope} (h:zrD sc N Nc cap scope=true):zmA sc N Nc cap scope:=by
 unfold zrD at h
 simp only [Bool.and_eq_true,beq_iff_eq,List.all_eq_true,bne_iff_ne,ne_eq,Bool.or_eq_true,decide_eq_true_eq] at h
 obtain ⟨⟨⟨⟨h1,h2⟩,h3⟩,h4⟩,h5⟩:=h
 refine ⟨h1,fun y hy=>(h2 y hy).1.1,fun y hy hf=>?_,fun y hy=>(h2 y hy).1.2,h3,h4,fun i y j e1 e2=>?_⟩
 ·rcases (h2 y hy).2 with (q | q) | q
  ·exact absurd hf q
  ·exact .inl q
  ·exact .inr q
 ·have m:(y,some j)∈Nc.zip cap:=by
   refine List.mem_of_getElem? (i:=i) ?_
   rw [List.getElem?_zip_eq_some]
   exact ⟨e1,e2⟩
  have z:=h5 _ m
  simpa using z
theorem zdw {env:Env} {x:Str}:∀ {names:List (Str×NameKind)} {k:NameKind},((names.map fun (n,k)=>if (k == NameKind.free&&env.scope.kind == .function&&env.kindOf n == some .cell) then (n,NameKind.cell) else (n,k)).lookup x=some k)→k≠.cell∧names.lookup x=some k∨(k=.cell∧(names.lookup x=some .cell∨names.lookup x=some .free))
 | [],_,h=>by simp at h
 | (n,q)::r,k,h=>by
  have ih:=@zdw env x r k
  rw [List.map_cons] at h
  dsimp only at h
  by_cases hx:(x == n)=true
  ·by_cases hc:(q == NameKind.free&&env.scope.kind == .function&&env.kindOf n == some .cell)=true
   ·rw [if_pos hc,List.lookup_cons,hx] at h
    cases h
    rw [Bool.and_eq_true,Bool.and_eq_true] at hc
    refine .inr ⟨rfl,.inr ?_⟩
    rw [List.lookup_cons,hx]
    exact congrArg some (beq_iff_eq.mp hc.1.1)
   ·rw [if_neg hc,List.lookup_cons,hx] at h
    cases h
    rw [List.lookup_cons,hx]
    by_cases z:q=.cell
    ·exact .inr ⟨z,.inl (congrArg some z)⟩
    ·exact .inl ⟨z,rfl⟩
  ·have hx':(x == n)=false:=by simpa using hx
   rw [List.lookup_cons,hx']
   refine ih ?_
   by_cases hc:(q == NameKind.free&&env.scope.kind == .function&&env.kindOf n == some .cell)=true
   ·rw [if_pos hc,List.lookup_cons,hx'] at h
    exact h
   ·rw [if_neg hc,List.lookup_cons,hx'] at h
    exact h
section
variable {X:Cx} {pins:List (Addr×Obj)} {σ:St} {H:Hp} {s:Shared}
theorem ztB {Nc:List Str} {cap:List (Option Nat)} {scope:Scope} {cl:List (Str×Addr)} {fp:List Addr} {h1:Heap} {tk:Nat} {m1:Str→Option Value} (I:Inv X pins σ H s) (B:zmA X.env.scope X.N Nc cap scope)
  (hsub:∀ x c,cl.lookup x=some c→X.env.cells.lookup x=some c) (hfr:∀ y∈scope.names,y.2=.free→∃ c,cl.lookup y.1=some c) (hf:∀ b∈fp,zkF X pins H b) (hin:∀ b∈fp,b<s.heap.objs.size)
  (hk:∀ b o,s.heap.get? b=some o→h1.get? b=some o) (hn:h1.Ns s.heap.objs.size m1):Inv (X.blk Nc scope cl s H fp) [] (zuj cap σ) H { s with heap:=h1,toks:=tk }:=by
 have ok:=I.ok
 have bsz:X.base.objs.size≤s.heap.objs.size:=Nat.le_trans ok.bsz I.sz
 refine ⟨⟨ok.mod,B.kind,ok.glob,ok.blt,Nat.le_refl _,fun x y c h1 h2=>ok.inj x y c (hsub x c h1) (hsub y c h2),fun x hx=>?_,(by intro x c z;cases z),ok.hd,ok.frames,.inl rfl,fun b hb=>⟨Nat.ne_of_lt (hin b hb),fun x c e=>(hf b hb).2.2.2.2.1 x c (hsub x c e)⟩,
  I.bs,bsz,fun b o e hb=>?_,fun b hb z=>?_,I.stack,I.stkFree⟩,rfl,I.bare,Un.kept hk,⟨m1,hn,fun i y v e1 e2 e3=>?_⟩,fun x c e=>?_,I.hok.fresh (Nat.le_refl _),fun x c e=>I.freeC x c (hsub x c e),(by intro p hp;cases hp),I.hok.kept hk,?_⟩
 ·have look:∀ k,(relabel scope X.env).names.lookup x=some k→k=.cell∨k=.free→∃ c,cl.lookup x=some c:=fun k q hk=>by
   rcases zdw q with ⟨n1,n2⟩ | ⟨_,n2 | n2⟩
   ·rcases hk with r | r
    ·exact absurd r n1
    ·exact hfr (x,k) (PySem.mem_of_lookup n2) r
   ·exact absurd rfl (B.nocell _ (PySem.mem_of_lookup n2))
   ·exact hfr (x,.free) (PySem.mem_of_lookup n2) rfl
  rcases hx with q | q
  ·exact look _ q (.inl rfl)
  ·exact look _ q (.inr rfl)
 ·rcases (hf b hb).2.2.2.1 with q | q
  ·exact ok.noex b o e q
  ·exact absurd (Nat.lt_of_lt_of_le (Heap.lt_size e) (Nat.le_trans ok.bsz q)) (Nat.lt_irrefl _)
 ·rcases List.mem_cons.mp (I.stkSub b z) with q | q
  ·exact (hf b hb).2.1 q
  ·exact (hf b hb).2.2.1 q
 ·have e2':(cap[i]?).map (fun o=>o.bind fun j=>(σ[j]?).join)=some (some v):=by rw [← List.getElem?_map];exact e2
  obtain ⟨o,ho,eo⟩:=Option.map_eq_some_iff.mp e2'
  obtain ⟨j,rfl,ej⟩:=Option.bind_eq_some_iff.mp eo
  have ej':σ[j]?=some (some v):=by
   cases q:σ[j]? with
   | none=>rw [q] at ej;cases ej
   | some z=>rw [q] at ej;cases ej;rfl
  obtain ⟨c1,c2⟩:=B.cap i y j e1 ho
  have vis:=B.free (y,.free) (PySem.mem_of_lookup c2) rfl
  obtain ⟨m,_,hl⟩:=I.loc
  obtain ⟨u,r,lk⟩:=hl j y v c1 ej' (.inr vis)
  obtain ⟨c',ec⟩:=hfr (y,.free) (PySem.mem_of_lookup c2) rfl
  have ec2:=hsub _ _ ec
  rcases lk with ⟨kl,_⟩ | ⟨_,c,e,z⟩
  ·have kl':X.env.scope.names.lookup y=some .local:=kl
   rcases vis with q | q
   ·have q':X.env.scope.names.lookup y=some .cell:=q
    rw [kl'] at q';cases q'
   ·have q':X.env.scope.names.lookup y=some .free:=q
    rw [kl'] at q';cases q'
  ·have ecc:X.env.cells.lookup y=some c':=ec2
   rw [e] at ecc
   cases ecc
   refine ⟨u,r,.inr ⟨?_,_,ec,?_⟩⟩
   ·rcases e3 with q | q | q
    ·rcases zdw q with ⟨_,n2⟩ | ⟨n1,_⟩
     ·rw [c2] at n2;cases n2
     ·cases n1
    ·exact .inl q
    ·exact .inr q
   ·obtain ⟨o,ho,hd⟩:=z
    exact ⟨o,hk _ _ ho,hd⟩
 ·obtain ⟨v,o,ho,hd⟩:=I.cell x c (hsub x c e)
  exact ⟨v,o,hk _ _ ho,hd⟩
 ·show (zuj cap σ).length=Nc.length
  rw [zuj,List.length_map,B.len]
theorem zpe {Nc:List Str} {scope:Scope} {cl:List (Str×Addr)} {fp:List Addr} {σc:St} {Hc:Hp} {s':Shared} {h':Heap} (I:Inv X pins σ H s) (hf:∀ b∈fp,zkF X pins H b) (J:Inv (X.blk Nc scope cl s H fp) [] σc Hc s')
  (hs:Heap.SameBut s.heap.objs.size s'.heap h'):Inv X pins σ Hc { s' with heap:=h' }:=by
 have ne:∀ b o,s.heap.get? b=some o→b≠s.heap.objs.size:=fun b o e=>Nat.ne_of_lt (Heap.lt_size e)
 have u:=J.base
 refine I.call' (ch:=fp) J.os ⟨fun b o e n hb hx=>(hs.2 b (ne b o e)).trans (u.keep b o e n hb hx),fun b o e n hb hx=>?_,u.free,fun b o e hx=>?_,u.tups,u.frzs,u.tbls⟩ (fun b ob e=>?_) J.bare fun b hb=>⟨(hf b hb).2.2.2.1,(hf b hb).2.1,(hf b hb).2.2.2.2.1,(hf b hb).2.2.2.2.2⟩
 ·obtain ⟨sl,q⟩:=u.slot b o e n hb hx
  exact ⟨sl,(hs.2 b (ne b o e)).trans q⟩
 ·obtain ⟨o',q⟩:=u.there b o e hx
  exact ⟨o',(hs.2 b (ne b o e)).trans q⟩
 ·have hC:Hc s.heap.objs.size=none:=J.free
  refine (J.hok b ob e).stay (fun c w' hc q=>(hs.2 c ?_).trans q) (fun _ q=>q) fun _ _ q=>q
  rintro rfl
  rcases hc with z | hc
  ·rw [← z,hC] at e;cases e
  ·rw [hC] at hc;cases hc
end
theorem Inv.turns {X:Cx} {pins:List (Addr×Obj)} {σ:St} {H:Hp} {s:Shared} {h':Heap} {t':Nat} {ch:List Addr} (I:Inv X pins σ H s) (k:∀ b o,b∉ch→s.heap.get? b=some o→h'.get? b=some o) (hf:∀ b∈ch,zkF X pins H b):Inv X pins σ H { s with heap:=h',toks:=t' }:=by
 refine I.call (g':=s.gens) (d':=s.drawn) (ch:=ch) ⟨fun b o e _ _ hx=>k b o hx e,fun b o e _ _ hx=>⟨o.slots,k b o hx e⟩,fun _ _ _ n _=>n,fun b o e hx=>⟨o,k b o hx e⟩,fun _ _ q=>q,fun _ _ _ q=>q,fun _ ps q=>⟨#[],by rw [q];simp⟩⟩ (fun b u e=>?_) I.bare
  fun b hb=>⟨(hf b hb).2.2.2.1,(hf b hb).2.1,(hf b hb).2.2.2.2.1,(hf b hb).2.2.2.2.2⟩
 refine (I.hok b u e).stay (fun c v hc q=>k c v (fun z=>?_) q) (fun _ q=>q) fun _ _ q=>q
 have n:=(hf c z).1
 rcases hc with r | r
 ·rw [r,e] at n;cases n
 ·rw [r] at n;cases n
theorem zjH {X:Cx} {pins:List (Addr×Obj)} {s:Shared} {σ:St} {H:Hp} {Q:VK} {sc:Scope} {N Nc:List Str} {cap:List (Option Nat)} {elt tg iter:Expr} {ifs:List Expr} {scope:Scope} {pos pos':Pos} {wi:TI} {g:TG} {tt:TT} {te:TE} {use:Option (Value→Sem Unit)} {QQ:Value→Shared→Prop}
  (hc:X.calm=true) (hsc:X.env.scope=sc) (hN:X.N=N) (B:zmA sc N Nc cap scope) (hi:PI X tg iter wi)
  (hg:∀ cl s H fp,PG (X.blk Nc scope cl s H fp) tg g) (ht:∀ cl s H fp,PTs (X.blk Nc scope cl s H fp) ifs tt) (he:∀ cl s H fp,PE (X.blk Nc scope cl s H fp) elt te)
  (hs:∀ x,foldedSetIterable iter X.env x=pure x) (I:Inv X pins σ H s) (h:zgT wi g tt te cap σ H Q)
  (fin:∀ (s3:Shared) (H3:Hp) (cl:List (Str×Addr)) (fp:List Addr) (D:Addr) (σc:St) (Hc:Hp) (s6:Shared),Inv X pins σ H3 s3→(∀ b∈fp,zkF X pins H3 b)→Inv (X.blk Nc scope cl s3 H3 fp) [] σc Hc s6→Q (.ref D) Hc→compPost (model X.prog X.w) X.A X.xe use QQ (.ref D) s3.heap.objs.size (.ok .next) s6) :
  wpAny (model X.prog X.w) X.A (comprehension (.ListComp elt [⟨tg,iter,ifs,0⟩] scope pos) scope X.env pos' (newList []) false (eval iter X.env) use) QQ X.xe s:=by
 subst hsc hN
 obtain ⟨cl,hclos,hsub,hfr⟩:=zmu (scope:=scope) (env:=X.env) fun y hy hf=>I.ok.has y.1 (B.free y hy hf)
 refine wpAny_comprehension_free (use:=use) rfl hs hclos B.kind (fun y hy hl=>by rw [B.once y hy,hl]) (thn (hi pins s σ H _ I h) fun v s1 h1=>thn h1 fun itv s2 h2=>?_)
 obtain ⟨it,fp,tn,J,H2,rfl,I2,T,st2,f2,hw⟩:=h2
 refine wpAny_newObj_type ?_
 have hfree:H2 s2.heap.objs.size=none:=I2.hok.fresh (Nat.le_refl _)
 have I3:=I2.laid (t':=s2.toks) (o:=.lst []) (fun b u e=>Heap.get?_push_of_some { cls:=.type "list",dict:=none,data:=.seq ([]:List Value).toArray } e) (Nat.le_refl _) ⟨by decide,[],0,.nil,Heap.get?_push_size _ rfl⟩
 obtain ⟨W,⟨m0,w0⟩,turn⟩:=hw _ hfree
 have keep23:∀ b o,s2.heap.get? b=some o→(s2.heap.push { cls:=.type "list",dict:=none,data:=.seq ([]:List Value).toArray }).get? b=some o:=fun b o e=>Heap.get?_push_of_some _ e
 have hin:∀ b∈fp,b<s2.heap.objs.size:=fun b hb=>let ⟨o,e,_⟩:=T.obj 0 _ st2 b hb;Heap.lt_size e
 have f3:∀ b∈fp,zkF X pins (upd H2 s2.heap.objs.size (.lst [])) b:=fun b hb=>⟨by rw [zaj (Nat.ne_of_lt (hin b hb))];exact (f2 b hb).1,(f2 b hb).2⟩
 have st3:=T.keep 0 _ _ st2 fun b _ o e=>keep23 b o e
 have hin3:∀ b∈fp,b<(s2.heap.push { cls:=.type "list",dict:=none,data:=.seq ([]:List Value).toArray }).objs.size:=fun b hb=>let ⟨o,e,_⟩:=T.obj 0 _ st3 b hb;Heap.lt_size e
 clear keep23 hin
 generalize s2.heap.push { cls:=.type "list",dict:=none,data:=.seq ([]:List Value).toArray }=h3 at I3 st3 hin3 ⊢
 generalize upd H2 s2.heap.objs.size (.lst [])=H3 at I3 f3 w0
 generalize s2.heap.objs.size=D at hfree w0 turn ⊢
 refine wpAny_newFunctionEnv B.nocell (by intro y hy;cases hy) (fun h1 hns hsb=>?_) B.kind
 have keep:∀ b o,h3.get? b=some o→h1.get? b=some o:=fun b o e=>(hsb.2 b (Nat.ne_of_lt (Heap.lt_size e))).trans (Heap.get?_push_of_some _ e)
 have I4:=ztB (tk:=s2.toks+([]:List (Str×Value)).length) I3 B hsub hfr f3 hin3 keep hns
 have st4:=T.keep 0 _ _ st3 fun b _ o e=>keep b o e
 have stat:∀ {H':Hp},(∀ b∈fp,H' b=none)→∀ b∈fp,zkF (X.blk Nc scope cl { s2 with heap:=h3,toks:=s2.toks } H3 fp) [] H' b:=fun hn b hb =>
  ⟨hn b hb,Nat.ne_of_lt (hin3 b hb),fun z=>by
   rcases List.mem_cons.mp (I3.stkSub b z) with q | q
   ·exact (f3 b hb).2.1 q
   ·exact (f3 b hb).2.2.1 q,.inl hb,fun x c e=>(f3 b hb).2.2.2.2.1 x c (hsub x c e),by intro p hp;cases hp⟩
 have hcb:(X.blk Nc scope cl { s2 with heap:=h3,toks:=s2.toks } H3 fp).calm=true:=hc
 have loop:codeAny (model X.prog X.w) X.A (.compLoop (.ListComp elt [⟨tg,iter,ifs,0⟩] scope pos) 0 (.ref it) (.ref D) (compEnvC scope cl h3.objs.size X.env)) (compPost (model X.prog X.w) X.A X.xe use QQ (.ref D) h3.objs.size) { s2 with heap:=h1,toks:=s2.toks+([]:List (Str×Value)).length }:=by
  refine zjX (fun n s'=>∃ i σ' H',Inv (X.blk Nc scope cl { s2 with heap:=h3,toks:=s2.toks } H3 fp) [] σ' H' s'∧tn i s'.heap∧(∀ b∈fp,H' b=none)∧W i n σ' H') rfl ?_ m0 ⟨0,_,H3,I4,st4,fun b hb=>(f3 b hb).1,w0⟩
  rintro n s5 ⟨i,σ5,H5,I5,st5,fr5,w5⟩
  rcases turn i n σ5 H5 w5 with ⟨stop,qn⟩ | ⟨go,N',hN',step⟩
  ·refine thn (T.done (X.blk Nc scope cl { s2 with heap:=h3,toks:=s2.toks } H3 fp) rfl rfl rfl hcb i [] s5 σ5 H5 _ I5 (stat fr5) st5 stop) fun r s6 hQ'=>?_
   obtain ⟨hr,I6⟩:=hQ'
   subst hr
   exact fin { s2 with heap:=h3,toks:=s2.toks } H3 cl fp D σ5 H5 s6 I3 f3 I6 qn
  ·refine thn (T.item (X.blk Nc scope cl { s2 with heap:=h3,toks:=s2.toks } H3 fp) rfl rfl rfl hcb i [] s5 σ5 H5 _ I5 (stat fr5) st5 go) fun r s6 hQ'=>?_
   obtain ⟨u,hr,h6⟩:=hQ'
   subst hr
   refine thn h6 fun _ s7 hQ'=>?_
   obtain ⟨x,H7,I7,r7,y7,st7,fr7⟩:=hQ'
   have I7':=I7.pinned (stat fr7) (T.obj _ _ st7)
   refine wpAny_mono (hg cl _ H3 fp _ s7 σ5 H7 x u _ I7' r7 (step x H7 y7)) (fun _ s8 hQ'=>?_) fun _ _ z=>z.elim
   obtain ⟨σ8,H8,I8,q8⟩:=hQ'
   have again:∀ {H9:Hp} {s9:Shared} {m:Nat},Inv (X.blk Nc scope cl { s2 with heap:=h3,toks:=s2.toks } H3 fp) ([]++zju fp s7.heap) σ8 H9 s9→m<n→W (i+1) m σ8 H9→∃ m,m<n∧∃ i σ' H',Inv (X.blk Nc scope cl { s2 with heap:=h3,toks:=s2.toks } H3 fp) [] σ' H' s9∧tn i s9.heap∧(∀ b∈fp,H' b=none)∧W i m σ' H':=fun {H9 s9 m} I9 hm w9=>by
    refine ⟨m,hm,i+1,σ8,H9,I9.unpinned,T.keep _ _ _ st7 fun b hb o e=>(I9.pin (b,o) (List.mem_append_right _ (List.mem_append_right _ (ze0 hb e)))).1,fun b hb=>?_,w9⟩
    obtain ⟨o,e,d⟩:=T.obj _ _ st7 b hb
    exact (I9.pin (b,o) (List.mem_append_right _ (List.mem_append_right _ (ze0 hb e)))).2.1
   refine wpAny_mono (ht cl _ H3 fp _ s8 σ8 H8 _ I8 q8) (fun b s9 hQ'=>?_) fun _ _ z=>z.elim
   obtain ⟨H9,I9,q9⟩:=hQ'
   cases b with
   | false =>
    rw [if_neg (by decide)] at q9
    obtain ⟨m',hm,w9⟩:=hN' _ _ q9
    exact again I9 hm w9
   | true =>
    rw [if_pos rfl] at q9
    refine wpAny_mono (he cl _ H3 fp _ s9 σ8 H9 _ I9 q9) (fun u s10 hQ'=>?_) fun _ _ z=>z.elim
    obtain ⟨y,H10,I10,r10,q10⟩:=hQ'
    refine wpAny_mono (zda (X:=X.blk Nc scope cl { s2 with heap:=h3,toks:=s2.toks } H3 fp) _ s10 σ8 H10 (.ref D) [y] (.ref D) [u] _ I10 rfl (.cons r10 .nil) q10) (fun _ s11 hQ'=>?_) fun _ _ z=>z.elim
    obtain ⟨_,H11,I11,_,q11⟩:=hQ'
    obtain ⟨m',hm,w11⟩:=hN' _ _ q11
    exact again I11 hm w11
 exact codeAny_compStart_list loop (T.self _ 0 _ _ _ st4 loop)
theorem zk5 {X:Cx} {sc:Scope} {N Nc:List Str} {cap:List (Option Nat)} {elt tg iter:Expr} {ifs:List Expr} {scope:Scope} {pos:Pos} {wi:TI} {g:TG} {tt:TT} {te:TE} (hc:X.calm=true) (hsc:X.env.scope=sc) (hN:X.N=N) (B:zmA sc N Nc cap scope) (hi:PI X tg iter wi)
  (hg:∀ cl s H fp,PG (X.blk Nc scope cl s H fp) tg g) (ht:∀ cl s H fp,PTs (X.blk Nc scope cl s H fp) ifs tt) (he:∀ cl s H fp,PE (X.blk Nc scope cl s H fp) elt te)
  (hs:∀ x,foldedSetIterable iter X.env x=pure x:=by intro _;rfl):PE X (.ListComp elt [⟨tg,iter,ifs,0⟩] scope pos) (zgT wi g tt te cap):=by
 intro pins s σ H Q I h
 rw [eval_ListComp]
 refine zjH hc hsc hN B hi hg ht he hs I h fun s3 H3 cl fp D σc Hc s6 I3 f3 I6 q=>?_
 obtain ⟨m,hn,_⟩:=id I6.loc
 exact ⟨m,hn,fun h' hs'=>⟨.ref D,Hc,zpe I3 f3 I6 hs',rfl,q⟩⟩
theorem zgr {X:Cx} {i:Nat} {y:Str} {py spos:Pos} {sc:Scope} {N Nc:List Str} {cap:List (Option Nat)} {elt tg iter:Expr} {ifs:List Expr} {scope:Scope} {pos:Pos} {wi:TI} {g:TG} {tt:TT} {te:TE} (hnd:X.N.Nodup) (hix:X.N[i]?=some y) (hl:X.env.scope.names.lookup y=some .local)
  (hc:X.calm=true) (hsc:X.env.scope=sc) (hN:X.N=N) (B:zmA sc N Nc cap scope) (hi:PI X tg iter wi)
  (hg:∀ cl s H fp,PG (X.blk Nc scope cl s H fp) tg g) (ht:∀ cl s H fp,PTs (X.blk Nc scope cl s H fp) ifs tt) (he:∀ cl s H fp,PE (X.blk Nc scope cl s H fp) elt te)
  (hsw:swapsWith (.ListComp elt [⟨tg,iter,ifs,0⟩] scope pos) (some (.Name y py)) spos.line X.env=pure true:=by rfl)
  (hs:∀ x,foldedSetIterable iter X.env x=pure x:=by intro _;rfl):PS X (.Assign [.Name y py] (.ListComp elt [⟨tg,iter,ifs,0⟩] scope pos) spos) (zbe (zgT wi g tt te cap) (zat i)):=by
 intro pins s σ H D0 I h
 rw [exec_Assign_Name_used _ _ _ _ hsw]
 refine wpAny_bind (wpAny_standAt (wpAny_bind (wpAny_bind (thn (zjH (use:=some (assign (.Name y py) X.env)) (QQ:=fun _ s'=>SP X pins D0 .next s') hc hsc hN B hi hg ht he hs I h fun s3 H3 cl fp D σc Hc s6 I3 f3 I6 q=>?_) fun _ s' hq=>wpAny_pure (wpAny_pure hq)))))
 have I6x:Inv X pins σ Hc s6:=zpe I3 f3 I6 (Heap.SameBut.refl ..)
 obtain ⟨m,hn,_⟩:=id I6.loc
 have hC:Hc s3.heap.objs.size=none:=I6.free
 have fpC:=I3.fpOk (b:=s3.heap.objs.size) (Nat.le_refl _) hC
 refine wpAny_assign_Name (zjd I6x hnd hix (.inl hl) (v:=.ref D) rfl (fun s7 I7 ch=>?_) (.inr hl))
 obtain ⟨a,same,ha⟩:=ch
 have nC:s3.heap.objs.size≠a:=by
  rcases ha with r | r
  ·rw [r];exact fpC.2.1
  ·exact (fpC.2.2.2.2.1 _ _ r).symm
 refine ⟨m,hn.sameBut same nC,fun h' hs'=>⟨_,_,I7.turns (t':=s7.toks) (ch:=[s3.heap.objs.size]) (fun b o hb e=>(hs'.2 b (by simpa using hb)).trans e) fun b hb=>?_,q⟩⟩
 have e:b=s3.heap.objs.size:=by simpa using hb
 rw [e]
 exact fpC
theorem zoY {K:PySem.W.Frag} {a:Addr} {xs:List V} {g:TG} {tt:TT} {te:TE} {σ:St} {H:Hp} {D:Addr} {Q:VK} (Pv:Nat→List V→St→Hp→Prop) (h0:Pv 0 [] σ (upd H D (.lst []))) (hl:∀ i ys σ H,i≤xs.length→Pv i ys σ H→SqL K H a xs)
  (hs:∀ i x ys σ H,xs[i]?=some x→H D=some (.lst ys)→Pv i ys σ H→g x σ H fun σ2 H2=>tt σ2 H2 fun b H3=>if b=true then te σ2 H3 fun y H4=>zbK (.ref D) [y] H4 fun _ H5=>∃ ys,H5 D=some (.lst ys)∧Pv (i+1) ys σ2 H5 else ∃ ys,H3 D=some (.lst ys)∧Pv (i+1) ys σ2 H3)
  (hd:∀ ys σ H,H D=some (.lst ys)→Pv xs.length ys σ H→Q (.ref D) H) :
  ∃ W:Nat→Nat→St→Hp→Prop,(∃ m,W 0 m σ (upd H D (.lst [])))∧∀ i m σc Hc,W i m σc Hc →
   ((Itl K a).stop i Hc∧Q (.ref D) Hc)∨((Itl K a).go i Hc∧∃ N:St→Hp→Prop,(∀ σ' H',N σ' H'→∃ m',m'<m∧W (i+1) m' σ' H')∧∀ x H',(Itl K a).yld i Hc x H'→g x σc H' fun σ2 H2=>tt σ2 H2 fun b H3=>if b=true then te σ2 H3 fun y H4=>zbK (.ref D) [y] H4 fun _ H5=>N σ2 H5 else N σ2 H3):=by
 refine ⟨fun i m σ H=>m=xs.length - i∧i≤xs.length∧∃ ys,H D=some (.lst ys)∧Pv i ys σ H,⟨_,rfl,Nat.zero_le _,[],zad,h0⟩,?_⟩
 rintro i m σ H ⟨rfl,hi,ys,hD,pv⟩
 have q:=hl i ys σ H hi pv
 by_cases hlt:i<xs.length
 ·refine .inr ⟨⟨xs,xs[i],q,by simp [hlt]⟩,fun σ H=>∃ ys,H D=some (.lst ys)∧Pv (i+1) ys σ H,fun σ' H' p'=>⟨_,by (first|lia|omega),rfl,hlt,p'⟩,fun x H' yl=>?_⟩
  obtain ⟨e,yl⟩:=yl
  subst e
  exact hs i x ys σ _ (yl xs q) hD pv
 ·have e:i=xs.length:=by (first|lia|omega)
  subst e
  exact .inl ⟨⟨xs,q,Nat.le_refl _⟩,hd ys σ H hD pv⟩
end L2
namespace L2
open PySem PySem.Spec PyProof.Rows
theorem zoM (bs:List Bool):(List.range bs.length).all (fun i=>bs.getD i false)=bs.all id:=by
 rw [Bool.eq_iff_iff,List.all_eq_true,List.all_eq_true]
 constructor
 ·intro h x hx
  obtain ⟨i,hi,e⟩:=List.getElem_of_mem hx
  have:=h i (List.mem_range.mpr hi)
  rw [List.getD_eq_getElem?_getD,List.getElem?_eq_getElem hi] at this
  rw [← e]
  exact this
 ·intro h i hi
  have hi:=List.mem_range.mp hi
  rw [List.getD_eq_getElem?_getD,List.getElem?_eq_getElem hi]
  exact h _ (List.getElem_mem hi)
def rAll (K:PySem.W.Frag):List V→Hp→VK→Prop:=fun xs H Q=>∃ (p:Addr) (bs:List Bool),xs=[.ref p]∧SqL K H p (bs.map V.bl)∧Q (.bl (bs.all id)) H
theorem zwk {bs:List Bool} {its:List Value} {i:Nat} {v:Value} (r:zbZ (bs.map V.bl) its) (e:its.toArray[i]?=some v):v=.bool (bs.getD i false):=by
 have l:=r.length
 rw [List.length_map] at l
 have e':its[i]?=some v:=by simpa using e
 have hi:i<bs.length:=by rw [l];exact (List.getElem?_eq_some_iff.mp e').1
 obtain ⟨u,hu,ru⟩:=r.get (i:=i) (x:=.bl bs[i]) (by rw [List.getElem?_map,List.getElem?_eq_getElem hi];rfl)
 rw [e'] at hu
 cases hu
 cases ru
 rw [List.getD_eq_getElem?_getD,List.getElem?_eq_getElem hi]
 rfl
theorem zqd {P:Program} {w:World} {A:Around} {bs:List Bool} {its:List Value} (r:zbZ (bs.map V.bl) its):TruthOf P w A (fun i v=>its.toArray[i]?=some v) fun i=>bs.getD i false:=fun i v s Q E hP hQ=>by
 rw [zwk r hP]
 exact wpAny_pure hQ
section
variable {X:Cx}
theorem zqi (hc:X.calm=true):ze6 X (.builtin "all") (rAll X.K):=by
 intro pins s σ H xs us Q I r h
 obtain ⟨p,bs,rfl,hl,q⟩:=h
 obtain ⟨u,rfl,ru⟩:=r.one
 cases ru
 obtain ⟨its,rv,pl,_⟩:=I.list hl
 have l:=rv.length
 rw [List.length_map] at l
 obtain ⟨o,n,e,_⟩:=id pl
 have hne:p≠s.heap.objs.size:=Nat.ne_of_lt (Heap.lt_size e)
 refine call_all_walk (wpAny_pyIter_list pl.isList ?_)
 refine ⟨s.heap.objs.size,_,_,_,_,_,fun i=>bs.getD i false,rfl,Walks.list (A:=X.A.in1) (I.ok.hd hc) _ p hne its.toArray,⟨⟨_,Heap.get?_push_size _ rfl,rfl,rfl⟩,?_⟩,zqd rv,fun h' tk hk=>⟨.bl _,H,I.kept fun b u eb=>?_,rfl,?_⟩⟩
 ·exact pl.isList.at fun o e=>Heap.get?_push_of_some _ e
 ·exact hk b u (fun z=>Nat.ne_of_lt (Heap.lt_size eb) (by simpa using z)) (Heap.get?_push_of_some _ eb)
 ·rw [List.size_toArray,← l,zoM]
  exact q
end
end L2
namespace L2
open PySem PySem.Spec PyProof.Rows
def Itz (K:PySem.W.Frag) (p q:Addr):It where
 go:=fun i H=>∃ xs ys a b,SqL K H p xs∧SqL K H q ys∧xs[i]?=some a∧ys[i]?=some b
 yld:=fun i H x H'=>∃ t a b,x=.ref t∧H t=none∧H'=upd H t (.tup [a,b])∧(∀ xs,SqL K H p xs→xs[i]?=some a)∧∀ ys,SqL K H q ys→ys[i]?=some b
 stop:=fun i H=>∃ xs ys,SqL K H p xs∧SqL K H q ys∧i=min xs.length ys.length
def tnZ (z TI TO i1 i2 p q:Addr) (i:Nat) (h:Heap):Prop:=IsZip h z TI TO .none∧IsPair h TI (.ref i1) (.ref i2)∧(∃ a b,IsPair h TO a b)∧h.IsListIter i1 p i∧h.IsListIter i2 q i
theorem zqS {z TI TO i1 i2 p q:Addr} {i:Nat} {h h':Heap} (st:tnZ z TI TO i1 i2 p q i h) (k:∀ b∈[z,TI,TO,i1,i2],∀ o,h.get? b=some o→h'.get? b=some o):tnZ z TI TO i1 i2 p q i h':=by
 obtain ⟨a1,a2,⟨x,y,a3⟩,a4,a5⟩:=st
 exact ⟨k z (by simp) _ a1,k TI (by simp) _ a2,⟨x,y,k TO (by simp) _ a3⟩,a4.at fun o e=>k i1 (by simp) o e,a5.at fun o e=>k i2 (by simp) o e⟩
theorem zbE {o:Obj} {vs:Array Value} (h:o.data=.fields vs):∀ v,o.data≠.cell v:=fun v z=>by rw [h] at z;cases z
theorem zpv {P:Program} {w:World} {K:PySem.W.Frag} {elts:List Expr} {k:Nat} {pos:Pos} {z TI TO i1 i2 p q:Addr} (D:ZipApart z TI TO i1 i2 p q):ztG P w K (.Tuple elts k pos) (Itz K p q) [z,TI,TO,i1,i2] z (tnZ z TI TO i1 i2 p q) where
 mem:=by simp
 obj:=fun i h st b hb=>by
  obtain ⟨a1,a2,⟨x,y,a3⟩,⟨o4,a4,_,d4⟩,⟨o5,a5,_,d5⟩⟩:=st
  simp only [List.mem_cons,List.not_mem_nil,or_false] at hb
  rcases hb with rfl | rfl | rfl | rfl | rfl
  ·exact ⟨_,a1,zbE rfl⟩
  ·exact ⟨_,a2,fun v z=>nomatch (show Data.seq _ _=Data.cell v from z)⟩
  ·exact ⟨_,a3,fun v z=>nomatch (show Data.seq _ _=Data.cell v from z)⟩
  ·exact ⟨_,a4,zbE d4⟩
  ·exact ⟨_,a5,zbE d5⟩
 keep:=fun i h h' st kk=>zqS st kk
 item:=by
  intro X hP hw hK hc i pins s σ H E I hf st hg
  subst hP hw hK
  obtain ⟨xs,ys,a,b,hx,hy,ea,eb⟩:=hg
  obtain ⟨its1,r1,pl1,z1⟩:=I.list hx
  obtain ⟨its2,r2,pl2,z2⟩:=I.list hy
  obtain ⟨ua,eua,rua⟩:=r1.get ea
  obtain ⟨ub,eub,rub⟩:=r2.get eb
  obtain ⟨s1,s2,s3,s4,s5⟩:=st
  have W:=WalksT.zip2 (prog:=X.prog) (w:=X.w) (A:=X.A) (I.ok.hd hc) z TI TO i1 i2 p q D its1.toArray its2.toArray
  have hi:i<min its1.toArray.size its2.toArray.size:=by
   have h1:=(List.getElem?_eq_some_iff.mp eua).1
   have h2:=(List.getElem?_eq_some_iff.mp eub).1
   simp only [List.size_toArray]
   (first|lia|omega)
  refine W.item i s _ _ hi ⟨s1,s2,s3,s4,s5,pl1.isList,pl2.isList⟩ fun T vals h' tk hp hT hTup mid kk=>⟨_,rfl,?_⟩
  obtain ⟨u,v,e1,e2,rfl⟩:=hp
  have e1':u=ua:=by
   have:its1[i]?=some u:=by simpa using e1
   rw [eua] at this;cases this;rfl
  have e2':v=ub:=by
   have:its2[i]?=some v:=by simpa using e2
   rw [eub] at this;cases this;rfl
  subst e1' e2'
  refine W.go elts k pos i T { s with heap:=h',toks:=tk } _ _ mid fun h2 st2 kk2=>?_
  obtain ⟨t1,t2,t3,t4,t5,_,_⟩:=st2
  have sub:∀ b∈[z,TO,i1,i2],b∈[z,TI,TO,i1,i2]:=fun b hb=>by
   simp only [List.mem_cons,List.not_mem_nil,or_false] at hb ⊢
   rcases hb with h | h | h | h <;> simp [h]
  have I1:Inv X pins σ H { s with heap:=h2,toks:=tk }:=I.turns (ch:=[z,TO,i1,i2]) (fun b o hb e=>kk2 b o hb (kk b o hb e)) fun b hb=>hf b (sub b hb)
  have nT:H T=none:=I.hok.fresh hT
  have I2:=I1.track (a:=T) (o:=.tup [a,b]) nT (Heap.get?_none_of_le (Nat.le_trans I.sz hT)) (Nat.ne_of_gt (Nat.lt_of_lt_of_le I.lt hT)) (fun x c e=>by
   obtain ⟨v,q⟩:=I.cell x c e
   exact Nat.ne_of_lt (Nat.lt_of_lt_of_le q.lt hT)) (fun p hp=>Nat.ne_of_lt (Nat.lt_of_lt_of_le (Heap.lt_size (I.pin p hp).1) hT)) (by
   refine ⟨by show 2≤sizeLine;decide,[u,v],.cons rua (.cons rub .nil),?_⟩
   obtain ⟨o,ho,hcl,hd⟩:=hTup
   exact ⟨o,kk2 T o (W.apart i T h' mid) ho,hcl,hd⟩)
  refine ⟨.ref T,_,I2,rfl,⟨T,a,b,rfl,nT,rfl,fun xs' h'=>?_,fun ys' h'=>?_⟩,⟨t1,t2,t3,t4,t5⟩,fun b hb=>?_⟩
  ·rw [I.list_inj h' hx];exact ea
  ·rw [I.list_inj h' hy];exact eb
  ·have hb2:∃ o,s.heap.get? b=some o:=by
    obtain ⟨x3,y3,s3⟩:=s3
    obtain ⟨o4,s4,_⟩:=s4
    obtain ⟨o5,s5,_⟩:=s5
    simp only [List.mem_cons,List.not_mem_nil,or_false] at hb
    rcases hb with h | h | h | h | h <;> rw [h] <;> first | exact ⟨_,s1⟩ | exact ⟨_,s2⟩ | exact ⟨_,s3⟩ | exact ⟨_,s4⟩ | exact ⟨_,s5⟩
   obtain ⟨o,e⟩:=hb2
   rw [zaj (Nat.ne_of_lt (Nat.lt_of_lt_of_le (Heap.lt_size e) hT))]
   exact (hf b hb).1
 done:=by
  intro X hP hw hK hc i pins s σ H E I hf st hg
  subst hP hw hK
  obtain ⟨xs,ys,hx,hy,rfl⟩:=hg
  obtain ⟨its1,r1,pl1,z1⟩:=I.list hx
  obtain ⟨its2,r2,pl2,z2⟩:=I.list hy
  obtain ⟨s1,s2,s3,s4,s5⟩:=st
  have W:=WalksT.zip2 (prog:=X.prog) (w:=X.w) (A:=X.A) (I.ok.hd hc) z TI TO i1 i2 p q D its1.toArray its2.toArray
  have sub:∀ b∈[z,TO,i1,i2],b∈[z,TI,TO,i1,i2]:=fun b hb=>by
   simp only [List.mem_cons,List.not_mem_nil,or_false] at hb ⊢
   rcases hb with h | h | h | h <;> simp [h]
  refine W.done s _ _ ?_ fun h' tk kk=>⟨rfl,I.turns (ch:=[z,TO,i1,i2]) (fun b o hb e=>kk b o hb e) fun b hb=>hf b (sub b hb)⟩
  rw [List.size_toArray,List.size_toArray,← r1.length,← r2.length]
  exact ⟨s1,s2,s3,s4,s5,pl1.isList,pl2.isList⟩
 self:=fun A i s Q E st h=>wpAny_pyIter_zip st.1 h
theorem ztC {K:PySem.W.Frag} {p q:Addr} {xs ys:List V} {g:TG} {tb:TS} {D:zb9} {σ:St} {H:Hp} (Pv:Nat→St→Hp→Prop) (h0:Pv 0 σ H) (hl:∀ i σ H,i≤min xs.length ys.length→Pv i σ H→SqL K H p xs∧SqL K H q ys)
  (hs:∀ i x y t σ H,xs[i]?=some x→ys[i]?=some y→Pv i σ H→H t=none→g (.ref t) σ (upd H t (.tup [x,y])) fun σ2 H2=>tb { D with nx:=Pv (i+1),ct:=Pv (i+1),bk:=D.nx } σ2 H2) (hd:∀ σ H,Pv (min xs.length ys.length) σ H→D.nx σ H) :
  ∃ W:Nat→Nat→St→Hp→Prop,(∃ m,W 0 m σ H)∧∀ i m σ H,W i m σ H →
   ((Itz K p q).stop i H∧D.nx σ H)∨((Itz K p q).go i H∧∃ N:St→Hp→Prop,(∀ σ' H',N σ' H'→∃ m',m'<m∧W (i+1) m' σ' H')∧∀ x H',(Itz K p q).yld i H x H'→g x σ H' fun σ2 H2=>tb { D with nx:=N,ct:=N,bk:=D.nx } σ2 H2):=by
 refine ⟨fun i m σ H=>m=min xs.length ys.length - i∧i≤min xs.length ys.length∧Pv i σ H,⟨_,rfl,Nat.zero_le _,h0⟩,?_⟩
 rintro i m σ H ⟨rfl,hi,pv⟩
 obtain ⟨hx,hy⟩:=hl i σ H hi pv
 by_cases hlt:i<min xs.length ys.length
 ·have l1:i<xs.length:=by (first|lia|omega)
  have l2:i<ys.length:=by (first|lia|omega)
  refine .inr ⟨⟨xs,ys,xs[i],ys[i],hx,hy,by simp [l1],by simp [l2]⟩,Pv (i+1),fun σ' H' p'=>⟨_,by (first|lia|omega),rfl,hlt,p'⟩,fun x H' yl=>?_⟩
  obtain ⟨t,a,b,rfl,ht,rfl,e1,e2⟩:=yl
  exact hs i a b t σ H (e1 xs hx) (e2 ys hy) pv ht
 ·have e:i=min xs.length ys.length:=by (first|lia|omega)
  subst e
  exact .inl ⟨⟨xs,ys,hx,hy,rfl⟩,hd σ H pv⟩
end L2
namespace L2
open PySem PySem.Spec PyProof.Rows
inductive Tr where
 | int (i:Int)
 | bl (b:Bool)
 | str (x:Str)
 | non
 | lst (l:List Tr)
 | tup (l:List Tr)
inductive zdK (K:PySem.W.Frag) (H:Hp):Nat→Tr→V→Prop where
 | int {n:Nat} (i:Int):zdK K H n (.int i) (.int i)
 | bl {n:Nat} (b:Bool):zdK K H n (.bl b) (.bl b)
 | str {n:Nat} (x:Str):zdK K H n (.str x) (.str x)
 | non {n:Nat}:zdK K H n .non .non
 | lst {n:Nat} {p:Addr} {xs:List V} {ts:List Tr} (h:SqL K H p xs) (l:xs.length=ts.length) (e:∀ (i:Nat) x t,xs[i]?=some x→ts[i]?=some t→zdK K H n t x):zdK K H (n+1) (.lst ts) (.ref p)
 | tup {n:Nat} {p:Addr} {xs:List V} {ts:List Tr} (h:SqT K H p xs) (l:xs.length=ts.length) (e:∀ (i:Nat) x t,xs[i]?=some x→ts[i]?=some t→zdK K H n t x):zdK K H (n+1) (.tup ts) (.ref p)
section
variable {X:Cx} {pins:List (Addr×Obj)} {σ:St} {H:Hp} {s:Shared}
theorem zeX {A:Around} {n:Nat} {xs ys:List V} {ts:List Tr} {us vs:List Value} (lx:xs.length=ts.length) (ly:ys.length=ts.length) (r1:zbZ xs us) (r2:zbZ ys vs)
  (ih:∀ (i:Nat) x t,xs[i]?=some x→ts[i]?=some t→∀ y,zdK X.K H n t y→∀ (u v:Value) (A:Around),zca x u→zca y v→A.units+n<cLine→SeqAt.EqAt A s u v true)
  (ey:∀ (i:Nat) y t,ys[i]?=some y→ts[i]?=some t→zdK X.K H n t y) (hu:A.units+(n+1)<cLine) :
  ∀ j (h1:j<us.toArray.size) (h2:j<vs.toArray.size),SeqAt.EqAt A.in1 s us.toArray[j] vs.toArray[j] true:=by
 intro j h1 h2
 have k1:j<xs.length:=by rw [r1.length];simpa using h1
 have k2:j<ys.length:=by rw [r2.length];simpa using h2
 have k3:j<ts.length:=by (first|lia|omega)
 obtain ⟨u,e1,ru⟩:=r1.get (List.getElem?_eq_getElem k1)
 obtain ⟨v,e2,rv⟩:=r2.get (List.getElem?_eq_getElem k2)
 have q1:us.toArray[j]=u:=by
  have:=(List.getElem?_eq_some_iff.mp e1).2
  simpa using this
 have q2:vs.toArray[j]=v:=by
  have:=(List.getElem?_eq_some_iff.mp e2).2
  simpa using this
 rw [q1,q2]
 exact ih j _ _ (List.getElem?_eq_getElem k1) (List.getElem?_eq_getElem k3) _ (ey j _ _ (List.getElem?_eq_getElem k2) (List.getElem?_eq_getElem k3)) u v A.in1 ru rv (by show A.units+1+n<cLine;(first|lia|omega))
theorem ze4 (n:Nat):(List.range n).all (fun _=>true)=true:=by simp
theorem ziJ (I:Inv X pins σ H s) {n:Nat} {t:Tr} {x:V} (hx:zdK X.K H n t x):∀ y,zdK X.K H n t y→∀ (u v:Value) (A:Around),zca x u→zca y v→A.units+n<cLine→SeqAt.EqAt A s u v true:=by
 induction hx with
 | int i =>
  intro y hy u v A ru rv hu
  cases hy
  obtain ⟨a,rfl⟩:=ru
  obtain ⟨b,rfl⟩:=rv
  have:=SeqAt.EqAt.int_int (A:=A) (s:=s) i a i b
  rw [beq_self_eq_true] at this
  exact this
 | bl b =>
  intro y hy u v A ru rv hu
  cases hy
  cases ru
  cases rv
  exact SeqAt.EqAt.same _
 | str x =>
  intro y hy u v A ru rv hu
  cases hy
  obtain ⟨a,rfl⟩:=ru
  obtain ⟨b,rfl⟩:=rv
  have:=SeqAt.EqAt.str_str (A:=A) (s:=s) x a x b
  rw [beq_self_eq_true] at this
  exact this
 | non =>
  intro y hy u v A ru rv hu
  cases hy
  cases ru
  cases rv
  exact SeqAt.EqAt.same _
 | @lst n p xs ts h l e ih =>
  intro y hy u v A ru rv hu
  cases hy with
  | @lst _ q ys _ h2 l2 e2 =>
   cases ru
   cases rv
   by_cases hpq:p=q
   ·subst hpq
    exact SeqAt.EqAt.same _
   ·obtain ⟨us,r1,p1,_⟩:=I.list h
    obtain ⟨vs,r2,p2,_⟩:=I.list h2
    have z:=SeqAt.RcAt.lists (A:=A) p1.isList p2.isList (by rw [List.size_toArray,List.size_toArray,← r1.length,← r2.length,l,l2]) (by (first|lia|omega)) (e:=fun _=>true) (zeX l l2 r1 r2 ih e2 hu)
    rw [ze4] at z
    exact SeqAt.EqAt.of_refs hpq z
 | @tup n p xs ts h l e ih =>
  intro y hy u v A ru rv hu
  cases hy with
  | @tup _ q ys _ h2 l2 e2 =>
   cases ru
   cases rv
   by_cases hpq:p=q
   ·subst hpq
    exact SeqAt.EqAt.same _
   ·obtain ⟨us,r1,p1,_⟩:=I.tuple h
    obtain ⟨vs,r2,p2,_⟩:=I.tuple h2
    have z:=SeqAt.RcAt.tuples (A:=A) p1 p2 (by (first|lia|omega)) (e:=fun _=>true) (zeX l l2 r1 r2 ih e2 hu)
    rw [ze4,List.size_toArray,List.size_toArray,← r1.length,← r2.length,l,l2,beq_self_eq_true,Bool.and_self] at z
    exact SeqAt.EqAt.of_refs hpq z
def rEqD (K:PySem.W.Frag):R2:=fun x y H Q=>∃ n ts,n≤60∧(zdK K H (n+1) (.lst ts) x∧zdK K H (n+1) (.lst ts) y∨zdK K H (n+1) (.tup ts) x∧zdK K H (n+1) (.tup ts) y)∧Q (.bl true) H
def rNeD (K:PySem.W.Frag):R2:=fun x y H Q=>∃ n ts,n≤60∧(zdK K H (n+1) (.lst ts) x∧zdK K H (n+1) (.lst ts) y∨zdK K H (n+1) (.tup ts) x∧zdK K H (n+1) (.tup ts) y)∧Q (.bl false) H
theorem zvu (hu:X.A.units+64<cLine):OpR X (compareOp .Eq) (rEqD X.K):=by
 intro pins s σ H x y v u Q I rx ry h
 obtain ⟨n,ts,hn,h,q⟩:=h
 have hu':X.A.units+(n+1)<cLine:=by (first|lia|omega)
 rcases h with ⟨h1,h2⟩ | ⟨h1,h2⟩
 ·cases h1 with
  | @lst _ p xs _ a1 a2 a3 =>
   cases h2 with
   | @lst _ p' ys _ b1 b2 b3 =>
    cases rx
    cases ry
    obtain ⟨us,r1,p1,_⟩:=I.list a1
    obtain ⟨vs,r2,p2,_⟩:=I.list b1
    have z:=SeqAt.RcAt.lists (A:=X.A) p1.isList p2.isList (by rw [List.size_toArray,List.size_toArray,← r1.length,← r2.length,a2,b2]) (by (first|lia|omega)) (e:=fun _=>true) (zeX a2 b2 r1 r2 (fun i x t e1 e2=>ziJ I (a3 i x t e1 e2)) b3 hu')
    rw [ze4] at z
    exact z X.prog X.w X.xe _ ⟨.bl true,H,I,rfl,q⟩
 ·cases h1 with
  | @tup _ p xs _ a1 a2 a3 =>
   cases h2 with
   | @tup _ p' ys _ b1 b2 b3 =>
    cases rx
    cases ry
    obtain ⟨us,r1,p1,_⟩:=I.tuple a1
    obtain ⟨vs,r2,p2,_⟩:=I.tuple b1
    have z:=SeqAt.RcAt.tuples (A:=X.A) p1 p2 (by (first|lia|omega)) (e:=fun _=>true) (zeX a2 b2 r1 r2 (fun i x t e1 e2=>ziJ I (a3 i x t e1 e2)) b3 hu')
    rw [ze4,List.size_toArray,List.size_toArray,← r1.length,← r2.length,a2,b2,beq_self_eq_true,Bool.and_self] at z
    exact z X.prog X.w X.xe _ ⟨.bl true,H,I,rfl,q⟩
theorem zu8 (hu:X.A.units+64<cLine):OpR X (compareOp .NotEq) (rNeD X.K):=by
 intro pins s σ H x y v u Q I rx ry h
 obtain ⟨n,ts,hn,h,q⟩:=h
 have hu':X.A.units+(n+1)<cLine:=by (first|lia|omega)
 rcases h with ⟨h1,h2⟩ | ⟨h1,h2⟩
 ·cases h1 with
  | @lst _ p xs _ a1 a2 a3 =>
   cases h2 with
   | @lst _ p' ys _ b1 b2 b3 =>
    cases rx
    cases ry
    obtain ⟨us,r1,p1,_⟩:=I.list a1
    obtain ⟨vs,r2,p2,_⟩:=I.list b1
    have z:=SeqAt.RcNeAt.lists (A:=X.A) p1.isList p2.isList (by rw [List.size_toArray,List.size_toArray,← r1.length,← r2.length,a2,b2]) (by (first|lia|omega)) (e:=fun _=>true) (zeX a2 b2 r1 r2 (fun i x t e1 e2=>ziJ I (a3 i x t e1 e2)) b3 hu')
    rw [ze4] at z
    exact z X.prog X.w X.xe _ ⟨.bl false,H,I,rfl,q⟩
 ·cases h1 with
  | @tup _ p xs _ a1 a2 a3 =>
   cases h2 with
   | @tup _ p' ys _ b1 b2 b3 =>
    cases rx
    cases ry
    obtain ⟨us,r1,p1,_⟩:=I.tuple a1
    obtain ⟨vs,r2,p2,_⟩:=I.tuple b1
    have z:=SeqAt.RcNeAt.tuples (A:=X.A) p1 p2 (by (first|lia|omega)) (e:=fun _=>true) (zeX a2 b2 r1 r2 (fun i x t e1 e2=>ziJ I (a3 i x t e1 e2)) b3 hu')
    rw [ze4,List.size_toArray,List.size_toArray,← r1.length,← r2.length,a2,b2,beq_self_eq_true,Bool.and_self] at z
    exact z X.prog X.w X.xe _ ⟨.bl false,H,I,rfl,q⟩
end
end L2
namespace L2
open PySem PySem.Spec PyProof.Rows
section
variable {X:Cx}
end
def zil (J:It) (g:TG) (tt:TT) (te:TE) (D:Addr) (Q:VK) (σ:St) (H:Hp):Prop:=∃ W:Nat→Nat→St→Hp→Prop,(∃ m,W 0 m σ H)∧∀ i m σc Hc,W i m σc Hc →
 (J.stop i Hc∧Q (.ref D) Hc)∨(J.go i Hc∧∃ N:St→Hp→Prop,(∀ σ' H',N σ' H'→∃ m',m'<m∧W (i+1) m' σ' H')∧∀ x H',J.yld i Hc x H'→g x σc H' fun σ2 H2=>tt σ2 H2 fun b H3=>if b=true then te σ2 H3 fun y H4=>zbK (.ref D) [y] H4 fun _ H5=>N σ2 H5 else N σ2 H3)
theorem zpA {wi:TI} {g:TG} {tt:TT} {te:TE} {cap:List (Option Nat)} {σ:St} {H:Hp} {Q:VK}:zgT wi g tt te cap σ H Q=wi σ H fun J H1=>∀ D,H1 D=none→zil J g tt te D Q (zuj cap σ) (upd H1 D (.lst [])):=rfl
theorem zeZ {K:PySem.W.Frag} {a:Addr} {xs:List V} {g:TG} {tt:TT} {te:TE} {σ:St} {H:Hp} {D:Addr} {Q:VK} (Pv:Nat→List V→St→Hp→Prop) (h0:Pv 0 [] σ (upd H D (.lst []))) (hl:∀ i ys σ H,i≤xs.length→Pv i ys σ H→SqL K H a xs)
  (hs:∀ i x ys σ H,xs[i]?=some x→H D=some (.lst ys)→Pv i ys σ H→g x σ H fun σ2 H2=>tt σ2 H2 fun b H3=>if b=true then te σ2 H3 fun y H4=>zbK (.ref D) [y] H4 fun _ H5=>∃ ys,H5 D=some (.lst ys)∧Pv (i+1) ys σ2 H5 else ∃ ys,H3 D=some (.lst ys)∧Pv (i+1) ys σ2 H3)
  (hd:∀ ys σ H,H D=some (.lst ys)→Pv xs.length ys σ H→Q (.ref D) H):zil (Itl K a) g tt te D Q σ (upd H D (.lst [])):=zoY Pv h0 hl hs hd
theorem zqc {K:PySem.W.Frag} {p q:Addr} {xs ys:List V} {g:TG} {tb:TS} {D:zb9} {σ:St} {H:Hp} (Pv:Nat→St→Hp→Prop) (h0:Pv 0 σ H) (hl:∀ i σ H,i≤min xs.length ys.length→Pv i σ H→SqL K H p xs∧SqL K H q ys)
  (hs:∀ i x y t σ H,xs[i]?=some x→ys[i]?=some y→Pv i σ H→H t=none→g (.ref t) σ (upd H t (.tup [x,y])) fun σ2 H2=>tb { D with nx:=Pv (i+1),ct:=Pv (i+1),bk:=D.nx } σ2 H2) (hd:∀ σ H,Pv (min xs.length ys.length) σ H→D.nx σ H):zl9 (Itz K p q) g tb D σ H:=ztC Pv h0 hl hs hd
end L2
namespace L2
open PySem PySem.Spec PyProof.Rows
theorem zro:bootBuiltins "enumerate"=some (.type "enumerate"):=by decide +kernel
def Ite (K:PySem.W.Frag) (p:Addr):It where
 go:=fun i H=>∃ xs a,SqL K H p xs∧xs[i]?=some a
 yld:=fun i H x H'=>∃ t a,x=.ref t∧H t=none∧H'=upd H t (.tup [.int (i:Int),a])∧∀ xs,SqL K H p xs→xs[i]?=some a
 stop:=fun i H=>∃ xs,SqL K H p xs∧i=xs.length
def tnE (e it p:Addr) (i:Nat) (h:Heap):Prop:=(∃ old,IsEnum h e it i old)∧h.IsListIter it p i
theorem zjb {e it p:Addr} {i:Nat} {h:Heap} (st:tnE e it p i h):∀ b∈[e,it],∃ o,h.get? b=some o∧∀ v,o.data≠.cell v:=fun b hb=>by
 obtain ⟨⟨old,a1⟩,⟨o2,a2,_,d2⟩⟩:=st
 simp only [List.mem_cons,List.not_mem_nil,or_false] at hb
 rcases hb with rfl | rfl
 ·exact ⟨_,a1,zbE rfl⟩
 ·exact ⟨_,a2,zbE d2⟩
theorem zoA {P:Program} {w:World} {K:PySem.W.Frag} {elts:List Expr} {k:Nat} {pos:Pos} {e it p:Addr} (d1:e≠it) (d2:p≠e) (d3:p≠it):ztG P w K (.Tuple elts k pos) (Ite K p) [e,it] e (tnE e it p) where
 mem:=by simp
 obj:=fun i h st=>zjb st
 keep:=fun i h h' st kk=>by
  obtain ⟨⟨old,a1⟩,a2⟩:=st
  exact ⟨⟨old,kk e (by simp) _ a1⟩,a2.at fun o x=>kk it (by simp) o x⟩
 item:=by
  intro X hP hw hK hc i pins s σ H E I hf st hg
  subst hP hw hK
  obtain ⟨xs,a,hx,ea⟩:=hg
  obtain ⟨its,r1,pl1,z1⟩:=I.list hx
  obtain ⟨ua,eua,rua⟩:=r1.get ea
  have there:=zjb st
  obtain ⟨s1,s2⟩:=st
  have W:=WalksT.enumerate (prog:=X.prog) (w:=X.w) (A:=X.A) (I.ok.hd hc) e it p d1 d2 d3 its.toArray
  have hi:i<its.toArray.size:=by
   have h1:=(List.getElem?_eq_some_iff.mp eua).1
   rw [List.size_toArray]
   exact h1
  refine W.item i s _ _ hi ⟨s1,s2,pl1.isList⟩ fun T vals h' tk hp hT hTup mid kk=>⟨_,rfl,?_⟩
  obtain ⟨t,u,e1,rfl⟩:=hp
  have e1':u=ua:=by
   have:its[i]?=some u:=by simpa using e1
   rw [eua] at this;cases this;rfl
  subst e1'
  refine W.go elts k pos i T { s with heap:=h',toks:=tk } _ _ mid fun h2 st2 kk2=>?_
  obtain ⟨t1,t2,_⟩:=st2
  have I1:Inv X pins σ H { s with heap:=h2,toks:=tk }:=I.turns (ch:=[e,it]) (fun b o hb q=>kk2 b o hb (kk b o hb q)) fun b hb=>hf b hb
  have nT:H T=none:=I.hok.fresh hT
  have I2:=I1.track (a:=T) (o:=.tup [.int (i:Int),a]) nT (Heap.get?_none_of_le (Nat.le_trans I.sz hT)) (Nat.ne_of_gt (Nat.lt_of_lt_of_le I.lt hT)) (fun x c q=>by
   obtain ⟨v,z⟩:=I.cell x c q
   exact Nat.ne_of_lt (Nat.lt_of_lt_of_le z.lt hT)) (fun y hy=>Nat.ne_of_lt (Nat.lt_of_lt_of_le (Heap.lt_size (I.pin y hy).1) hT)) (by
   refine ⟨by show 2≤sizeLine;decide,[.int i t,u],.cons ⟨t,rfl⟩ (.cons rua .nil),?_⟩
   obtain ⟨o,ho,hcl,hd⟩:=hTup
   exact ⟨o,kk2 T o (W.apart i T h' mid) ho,hcl,hd⟩)
  refine ⟨.ref T,_,I2,rfl,⟨T,a,rfl,nT,rfl,fun xs' h'=>?_⟩,⟨t1,t2⟩,fun b hb=>?_⟩
  ·rw [I.list_inj h' hx];exact ea
  ·obtain ⟨o,q,_⟩:=there b hb
   rw [zaj (Nat.ne_of_lt (Nat.lt_of_lt_of_le (Heap.lt_size q) hT))]
   exact (hf b hb).1
 done:=by
  intro X hP hw hK hc i pins s σ H E I hf st hg
  subst hP hw hK
  obtain ⟨xs,hx,rfl⟩:=hg
  obtain ⟨its,r1,pl1,z1⟩:=I.list hx
  obtain ⟨s1,s2⟩:=st
  have W:=WalksT.enumerate (prog:=X.prog) (w:=X.w) (A:=X.A) (I.ok.hd hc) e it p d1 d2 d3 its.toArray
  refine W.done s _ _ ?_ fun h' tk kk=>⟨rfl,I.turns (ch:=[e,it]) (fun b o hb q=>kk b o hb q) fun b hb=>hf b hb⟩
  rw [List.size_toArray,← r1.length]
  exact ⟨s1,s2,pl1.isList⟩
 self:=fun A i s Q E st h=>by
  obtain ⟨⟨old,a1⟩,_⟩:=st
  exact wpAny_pyIter_enum a1 h
def zm4 (K:PySem.W.Frag) (ta:TA):TI:=fun σ H R=>ta σ H fun vs H1=>∃ p,vs=[.ref p]∧(∃ xs,SqL K H1 p xs)∧R (Ite K p) H1
theorem zla {X:Cx} {a:Expr} {elts:List Expr} {k:Nat} {tp p pos:Pos} {ta:TA} (hg:Gl X "enumerate") (hm:X.mg "enumerate"=none) (ha:PA X [a] ta) (hs:starEach [a] X.env=[(false,eval a X.env)]:=by rfl) :
  PI X (.Tuple elts k tp) (.Call (.Name "enumerate" p) [a] [] pos) (zm4 X.K ta):=by
 intro pins s σ H R I h
 refine Call_ (zij I hg hm zro (PyProof.Rows.callWith_type1 (thn (ha pos pins s σ H _ I h) fun us s1 hQ'=>?_) (by rw [hs];rfl) rfl))
 obtain ⟨vs,H1,I1,r1,q1⟩:=hQ'
 obtain ⟨p1,rfl,⟨xs,hx⟩,q⟩:=q1
 obtain ⟨u,rfl,ru⟩:=r1.one
 cases ru
 obtain ⟨its,_,pl1,_⟩:=I1.list hx
 have a1:p1<s1.heap.objs.size:=by obtain ⟨_,e,_⟩:=pl1.isList;exact Heap.lt_size e
 refine call_enumerate_list pl1.isList fun h' he hi hsz hk=>?_
 refine wpAny_pyIter_enum he ?_
 refine ⟨_,_,_,_,H1,rfl,I1.kept (t':=s1.toks) hk,zoA (Nat.succ_ne_self _) (Nat.ne_of_lt (Nat.lt_succ_of_lt a1)) (Nat.ne_of_lt a1),⟨⟨_,he⟩,hi⟩,fun b hb=>?_,q⟩
 have hb':s1.heap.objs.size≤b:=by
  simp only [List.mem_cons,List.not_mem_nil,or_false] at hb
  rcases hb with h | h <;> rw [h] <;> first | exact Nat.le_refl _ | exact Nat.le_add_right _ _
 exact I1.fpOk hb' (I1.hok.fresh hb')
theorem zhk {K:PySem.W.Frag} {p:Addr} {xs:List V} {g:TG} {tb:TS} {D:zb9} {σ:St} {H:Hp} (Pv:Nat→St→Hp→Prop) (h0:Pv 0 σ H) (hl:∀ i σ H,i≤xs.length→Pv i σ H→SqL K H p xs)
  (hs:∀ i x t σ H,xs[i]?=some x→Pv i σ H→H t=none→g (.ref t) σ (upd H t (.tup [.int (i:Int),x])) fun σ2 H2=>tb { D with nx:=Pv (i+1),ct:=Pv (i+1),bk:=D.nx } σ2 H2) (hd:∀ σ H,Pv xs.length σ H→D.nx σ H):zl9 (Ite K p) g tb D σ H:=by
 refine ⟨fun i m σ H=>m=xs.length - i∧i≤xs.length∧Pv i σ H,⟨_,rfl,Nat.zero_le _,h0⟩,?_⟩
 rintro i m σ H ⟨rfl,hi,pv⟩
 have hx:=hl i σ H hi pv
 by_cases hlt:i<xs.length
 ·refine .inr ⟨⟨xs,xs[i],hx,by simp [hlt]⟩,Pv (i+1),fun σ' H' p'=>⟨_,by (first|lia|omega),rfl,hlt,p'⟩,fun x H' yl=>?_⟩
  obtain ⟨t,a,rfl,ht,rfl,e1⟩:=yl
  exact hs i a t σ H (e1 xs hx) pv ht
 ·have e:i=xs.length:=by (first|lia|omega)
  subst e
  exact .inl ⟨⟨xs,hx,rfl⟩,hd σ H pv⟩
end L2
namespace L2
open PySem PySem.Spec PyProof.Rows
section
variable {κ:Type} [DecidableEq κ]
def zfY (kvs:List (κ×V)) (k:κ):Option V:=(kvs.find? fun kv=>decide (kv.1=k)).map (·.2)
def zgO (kvs:List (κ×V)) (k:κ) (v:V):List (κ×V) :=
 if (kvs.any fun kv=>decide (kv.1=k))=true then kvs.map (fun kv=>if kv.1=k then (kv.1,v) else kv) else kvs++[(k,v)]
theorem zcj {p:κ×V} {r:List (κ×V)} {k:κ} (e:p.1=k):zfY (p::r) k=some p.2:=by simp [zfY,List.find?_cons,e]
theorem zcc {p:κ×V} {r:List (κ×V)} {k:κ} (e:¬ p.1=k):zfY (p::r) k=zfY r k:=by simp [zfY,List.find?_cons,e]
theorem ze1 (k:κ):∀ kvs:List (κ×V),(kvs.any fun kv=>decide (kv.1=k))=(zfY kvs k).isSome
 | []=>rfl
 | p::r=>by
  rw [List.any_cons]
  by_cases e:p.1=k
  ·simp only [zcj e,decide_eq_true e,Bool.true_or,Option.isSome_some]
  ·rw [zcc e,decide_eq_false e,Bool.false_or];exact ze1 k r
theorem zlR (k j:κ) (y:V):∀ kvs:List (κ×V),zfY (kvs.map fun kv=>if kv.1=k then (kv.1,y) else kv) j=(zfY kvs j).map fun x=>if j=k then y else x
 | []=>rfl
 | p::r=>by
  have ih:=zlR k j y r
  rw [List.map_cons]
  by_cases h:p.1=k
  ·rw [if_pos h]
   by_cases e:p.1=j
   ·rw [zcj (p:=(p.1,y)) e,zcj e,Option.map_some,if_pos (e.symm.trans h)]
   ·rw [zcc (p:=(p.1,y)) e,zcc e,ih]
  ·rw [if_neg h]
   by_cases e:p.1=j
   ·rw [zcj (p:=p) e,zcj e,Option.map_some,if_neg (fun z=>h (e.trans z))]
   ·rw [zcc (p:=p) e,zcc e,ih]
theorem zjI (k j:κ) (y:V):∀ kvs:List (κ×V),zfY kvs k=none→zfY (kvs++[(k,y)]) j=if j=k then some y else zfY kvs j
 | [],_=>by
  by_cases e:k=j
  ·rw [if_pos e.symm];exact zcj (p:=(k,y)) e
  ·rw [if_neg (fun z=>e z.symm)];exact zcc (p:=(k,y)) e
 | p::r,hn=>by
  rw [List.cons_append]
  have hk:¬ p.1=k:=fun z=>by rw [zcj z] at hn;cases hn
  rw [zcc hk] at hn
  have ih:=zjI k j y r hn
  by_cases e:p.1=j
  ·rw [zcj e,zcj e,if_neg (fun z=>hk (e.trans z))]
  ·rw [zcc e,zcc e,ih]
theorem zrq (kvs:List (κ×V)) (k j:κ) (y:V):zfY (zgO kvs k y) j=if j=k then some y else zfY kvs j:=by
 unfold zgO
 by_cases a:(kvs.any fun kv=>decide (kv.1=k))=true
 ·rw [if_pos a,zlR]
  rw [ze1] at a
  by_cases e:j=k
  ·obtain ⟨x,hx⟩:=Option.isSome_iff_exists.mp a
   rw [if_pos e,e,hx,Option.map_some,if_pos rfl]
  ·rw [if_neg e]
   cases zfY kvs j with
   | none=>rfl
   | some x=>rw [Option.map_some,if_neg e]
 ·rw [if_neg a]
  refine zjI k j y kvs ?_
  rw [ze1] at a
  cases q:zfY kvs k with
  | none=>rfl
  | some x=>rw [q] at a;exact (a rfl).elim
theorem zfy (kvs:List (κ×V)) (k:κ) (v:V):(zgO kvs k v).length≤kvs.length+1:=by
 unfold zgO
 split
 ·rw [List.length_map];(first|lia|omega)
 ·rw [List.length_append,List.length_cons,List.length_nil];(first|lia|omega)
theorem zrl {kvs:List (κ×V)} {k:κ} (v:V) (h:zfY kvs k=none):zgO kvs k v=kvs++[(k,v)]:=by
 unfold zgO
 rw [ze1,h]
 exact if_neg (by decide)
theorem zoz.isSome_eq {o:Option V} {u:Option Value} (r:zoz o u):o.isSome=u.isSome:=by
 cases o with
 | none=>cases u with
  | none=>rfl
  | some _=>exact (show False from r).elim
 | some _=>cases u with
  | none=>exact (show False from r).elim
  | some _=>rfl
theorem KV.val {kvs:List (κ×V)} {vs:List (κ×Value)} (r:KV kvs vs) (k:κ):zoz (zfY kvs k) (valueAt vs k):=by
 unfold KV at r
 induction r with
 | nil=>exact True.intro
 | @cons p q ps qs h t ih =>
  obtain ⟨h1,h2⟩:=h
  by_cases e:p.1=k
  ·have e':q.1=k:=h1.symm.trans e
   have b:valueAt (q::qs) k=some q.2:=by simp [valueAt,List.find?_cons,e']
   rw [zcj e,b];exact h2
  ·have e':¬ q.1=k:=fun z=>e (h1.trans z)
   have b:valueAt (q::qs) k=valueAt qs k:=by simp [valueAt,List.find?_cons,e']
   rw [zcc e,b];exact ih
theorem KV.any {kvs:List (κ×V)} {vs:List (κ×Value)} (r:KV kvs vs) (k:κ):(kvs.any fun kv=>decide (kv.1=k))=vs.any fun kv=>decide (kv.1=k):=by
 unfold KV at r
 induction r with
 | nil=>rfl
 | cons h t ih=>rw [List.any_cons,List.any_cons,ih,h.1]
theorem KV.repl {kvs:List (κ×V)} {vs:List (κ×Value)} (r:KV kvs vs) (k:κ) {y:V} {u:Value} (ry:zca y u) :
  KV (kvs.map fun kv=>if kv.1=k then (kv.1,y) else kv) (vs.map fun kv=>if kv.1=k then (kv.1,u) else kv):=by
 unfold KV at r ⊢
 induction r with
 | nil=>exact .nil
 | @cons p q ps qs h t ih =>
  rw [List.map_cons,List.map_cons]
  refine .cons ?_ ih
  obtain ⟨h1,h2⟩:=h
  by_cases e:p.1=k
  ·rw [if_pos e,if_pos (h1.symm.trans e)];exact ⟨h1,ry⟩
  ·rw [if_neg e,if_neg (fun z=>e (h1.trans z))];exact ⟨h1,h2⟩
theorem KV.put {kvs:List (κ×V)} {vs:List (κ×Value)} (r:KV kvs vs) (k:κ) {y:V} {u:Value} (ry:zca y u):KV (zgO kvs k y) (stored vs k u):=by
 unfold zgO stored
 rw [r.any k]
 by_cases e:(vs.any fun kv=>decide (kv.1=k))=true
 ·rw [if_pos e,if_pos e];exact r.repl k ry
 ·rw [if_neg e,if_neg e];exact Paired.snoc r ⟨rfl,ry⟩
theorem KV.length {kvs:List (κ×V)} {vs:List (κ×Value)} (r:KV kvs vs):kvs.length=vs.length:=Paired.length r
end
theorem zqM {P:Program} {w:World} {k:Key} {u:Value} (r:zca (kV k) u):(zcf P w).is k u=true:=by
 cases k with
 | inl i=>obtain ⟨t,e⟩:=(show ∃ t,u=Value.int i t from r);subst e;exact zks P w i t
 | inr x=>obtain ⟨t,e⟩:=(show ∃ t,u=Value.str x t from r);subst e;exact zkp P w x t
theorem zjw {P:Program} {w:World}:∀ {ks:List Key} {us:List Value},zbZ (ks.map kV) us→ItemsAre (zcf P w) ks us
 | [],_,r=>by rw [List.map_nil] at r;cases r;exact .nil
 | k::ks,_,r=>by
  rw [List.map_cons] at r
  cases r with
  | cons h t=>exact .cons (zqM h) (zjw t)
abbrev KT (H:Hp):List (List Key×V)→List (List Key×Addr×Value)→Prop:=Paired fun p q=>p.1=q.1∧H q.2.1=some (.tup (p.1.map kV))∧zca p.2 q.2.2
theorem KT.val {H:Hp} {kvs:List (List Key×V)} {xs:List (List Key×Addr×Value)} (r:KT H kvs xs) (k:List Key):zoz (zfY kvs k) ((atKey xs k).map (·.2)):=by
 induction r with
 | nil=>exact True.intro
 | @cons p q ps qs h t ih =>
  obtain ⟨h1,_,h2⟩:=h
  by_cases e:p.1=k
  ·have e':q.1=k:=h1.symm.trans e
   have b:atKey (q::qs) k=some q.2:=by simp [atKey,List.find?_cons,e']
   rw [zcj e,b];exact h2
  ·have e':¬ q.1=k:=fun z=>e (h1.trans z)
   have b:atKey (q::qs) k=atKey qs k:=by simp [atKey,List.find?_cons,e']
   rw [zcc e,b];exact ih
theorem KT.repl {H:Hp} {kvs:List (List Key×V)} {xs:List (List Key×Addr×Value)} (r:KT H kvs xs) (k:List Key) {y:V} {u:Value} (ry:zca y u) :
  KT H (kvs.map fun kv=>if kv.1=k then (kv.1,y) else kv) (xs.map (putAt k u)):=by
 induction r with
 | nil=>exact .nil
 | @cons p q ps qs h t ih =>
  rw [List.map_cons,List.map_cons]
  refine .cons ?_ ih
  obtain ⟨h1,h2,h3⟩:=h
  unfold putAt
  by_cases e:p.1=k
  ·rw [if_pos e,if_pos (h1.symm.trans e)];exact ⟨h1,h2,ry⟩
  ·rw [if_neg e,if_neg (fun z=>e (h1.trans z))];exact ⟨h1,h2,h3⟩
theorem KT.put {H:Hp} {kvs:List (List Key×V)} {xs:List (List Key×Addr×Value)} (r:KT H kvs xs) (k:List Key) {b:Addr} {y:V} {u:Value} (hb:H b=some (.tup (k.map kV))) (ry:zca y u) :
  KT H (zgO kvs k y) (storedH xs k b u):=by
 have e:(kvs.any fun kv=>decide (kv.1=k))=(atKey xs k).isSome:=by
  rw [ze1,(r.val k).isSome_eq,Option.isSome_map]
 unfold zgO storedH
 rw [e]
 by_cases q:(atKey xs k).isSome=true
 ·rw [if_pos q,if_pos q];exact r.repl k ry
 ·rw [if_neg q,if_neg q];exact Paired.snoc r ⟨rfl,hb,ry⟩
theorem KT.keeps {H H':Hp} {kvs:List (List Key×V)} {xs:List (List Key×Addr×Value)} (r:KT H kvs xs) (ht:∀ b ys,H b=some (.tup ys)→H' b=some (.tup ys)):KT H' kvs xs :=
 Paired.mapP r fun _ _ z=>⟨z.1,ht _ _ z.2.1,z.2.2⟩
section
variable {P:Program} {w:World} {H:Hp} {h:Heap} {a:Addr}
theorem zva {u:HO} (ok:HOk P w H h) (e:Rd H a u):zbH P w H h a u:=e.ok ok
theorem ztt {kvs:List (Key×V)} (ok:HOk P w H h) (e:Rd H a (.dK kvs)):kvs.length≤sizeLine∧(a == sysModules)=false∧∃ vs,KV kvs vs∧h.DictOf (zcf P w) a vs :=
 show zbH P w H h a (.dK kvs) from zva ok e
theorem zuk {kvs:List (Key×V)} (ok:HOk P w H h) (e:H a=some (.dK kvs)):kvs.length≤sizeLine∧(a == sysModules)=false∧∃ vs,KV kvs vs∧h.DictOf (zcf P w) a vs:=ztt ok (.inl e)
theorem zoE {ks:List Key} (ok:HOk P w H h) (e:H a=some (.tup (ks.map kV))):(tupleKind (zcf P w)).is h ks a:=by
 obtain ⟨_,its,r,o,h1,h2,n,h3⟩:=(show zbH P w H h a (.tup (ks.map kV)) from ok a _ e)
 exact ⟨o,its.toArray,n,h1,h2,h3,by simpa using zjw r⟩
theorem zwl {kvs:List (List Key×V)} (ok:HOk P w H h) (e:Rd H a (.dT kvs)):kvs.length≤sizeLine∧(a == sysModules)=false ∧
  ∃ xs,KT H kvs xs∧h.DictOfH (tupleKind (zcf P w)) a xs:=by
 obtain ⟨z,y,xs,r,o,es,ep,h1,h2,h3,h4,h5⟩:=(show zbH P w H h a (.dT kvs) from zva ok e)
 refine ⟨z,y,xs,r,o,es,ep,h1,h2,h3,h4,fun x hx=>?_,h5⟩
 have all:∀ {l:List (List Key×V)} {m:List (List Key×Addr×Value)},KT H l m→∀ x∈m,(tupleKind (zcf P w)).is h x.1 x.2.1:=by
  intro l m q
  induction q with
  | nil=>intro x hx;exact nomatch hx
  | @cons p q ps qs hq t ih =>
   intro x hx
   rcases List.mem_cons.mp hx with e | hx
   ·subst e
    exact zoE ok (by rw [← hq.1];exact hq.2.1)
   ·exact ih x hx
 exact all r x hx
theorem dt_of {kvs:List (List Key×V)} (ok:HOk P w H h) (e:H a=some (.dT kvs)):kvs.length≤sizeLine∧(a == sysModules)=false ∧
  ∃ xs,KT H kvs xs∧h.DictOfH (tupleKind (zcf P w)) a xs:=zwl ok (.inl e)
end
def zuf (H:Hp) (a:Addr) (y:V) (r:Option V):Prop :=
 (∃ kvs k,Rd H a (.dK kvs)∧y=kV k∧r=zfY kvs k)∨∃ kvs k b,Rd H a (.dT kvs)∧y=.ref b∧H b=some (.tup (k.map kV))∧r=zfY kvs k
def zrN (H:Hp) (a:Addr) (y v:V) (H':Hp):Prop :=
 (∃ kvs k,H a=some (.dK kvs)∧y=kV k∧kvs.length<sizeLine∧H'=upd H a (.dK (zgO kvs k v))) ∨
 ∃ kvs k b,H a=some (.dT kvs)∧y=.ref b∧H b=some (.tup (k.map kV))∧kvs.length<sizeLine∧H'=upd H a (.dT (zgO kvs k v))
theorem zuf.k {H:Hp} {a:Addr} {kvs:List (Key×V)} {k:Key} (e:H a=some (.dK kvs)):zuf H a (kV k) (zfY kvs k):=.inl ⟨kvs,k,.inl e,rfl,rfl⟩
theorem zrN.k {H:Hp} {a:Addr} {kvs:List (Key×V)} {k:Key} {v:V} (e:H a=some (.dK kvs)) (hl:kvs.length<sizeLine):zrN H a (kV k) v (upd H a (.dK (zgO kvs k v))):=.inl ⟨kvs,k,e,rfl,hl,rfl⟩
section
variable {X:Cx} {pins:List (Addr×Obj)} {σ:St} {H:Hp} {s:Shared} {a:Addr} {y v:V} {u r:Value} {o:Option V} {A:Around} {E:Value→Shared→Prop}
theorem Inv.big (I:Inv X pins σ H s):sysModules<s.heap.objs.size:=by
 have h:mainGlobals<s.heap.objs.size:=(I.mod.glob.keeps I.bk).lt
 exact Nat.lt_trans (by decide) h
theorem d_in {Q:Value→Shared→Prop} (hu:A.units+1<cLine) (I:Inv X pins σ H s) (g:zuf H a y o) (ry:zca y u) (h:∀ s',Inv X pins σ H s'→Q (.bool o.isSome) s') :
  wpAny (model X.prog X.w) A (compareOp .In u (.ref a)) Q E s:=by
 rcases g with ⟨kvs,k,e,ey,l⟩ | ⟨kvs,k,b,e,ey,eb,l⟩
 ·subst ey
  obtain ⟨z,hd,vs,rel,dd⟩:=ztt I.hok e
  refine wpAny_in_of (zqM ry) hd dd.mapOf ?_
  rw [← (rel.val k).isSome_eq,← l]
  exact h _ (I.tok _)
 ·subst ey
  cases (show u=Value.ref b from ry)
  obtain ⟨z,hd,xs,rel,dd⟩:=zwl I.hok e
  refine wpAny_in_heap (tupleKind_room_in1 hu) (zoE I.hok eb) hd dd ?_
  have q:=(rel.val k).isSome_eq
  rw [Option.isSome_map] at q
  rw [← q,← l]
  exact h _ (I.tok _)
theorem zld {h':Heap} {t':Nat} {ob:HO} (I:Inv X pins σ H s) (mu:Mut (H a)) (hs:Heap.SameBut a s.heap h') (he:∃ q,h'.get? a=some q) (new:zbH X.prog X.w (upd H a ob) h' a ob) :
  Inv X pins σ (upd H a ob) { s with heap:=h',toks:=t' } :=
 I.write (x:=a) (e:=a) mu (.inl rfl) (fun b q hb z=>(hs.2 b hb).trans z) he new
theorem zrB {P:Program} {w:World} {H':Hp} {h':Heap} {kvs:List (Key×V)} {vs:List (Key×Value)} (z:kvs.length≤sizeLine) (hd:(a == sysModules)=false) (rel:KV kvs vs) (dd:h'.DictOf (zcf P w) a vs) :
  zbH P w H' h' a (.dK kvs):=⟨z,hd,vs,rel,dd⟩
theorem znL {H':Hp} {Q:Unit→Shared→Prop} (hu:A.units+1<cLine) (I:Inv X pins σ H s) (g:zrN H a y v H') (ry:zca y u) (rv:zca v r) (h:∀ s',Inv X pins σ H' s'→Q () s') :
  wpAny (model X.prog X.w) A (setItem (.ref a) u r) Q E s:=by
 rcases g with ⟨kvs,k,e,ey,l,eH⟩ | ⟨kvs,k,b,e,ey,eb,l,eH⟩
 ·subst ey eH
  obtain ⟨z,hd,vs,rel,dd⟩:=zuk I.hok e
  have hz:vs.length≤sizeLine:=by rw [← rel.length];exact z
  have hl:(zgO kvs k v).length≤sizeLine:=by have:=zfy kvs k v;(first|lia|omega)
  refine wpAny_setItem_pairs (hsz:=hz) (zqM ry) dd fun h' dd' hs=>h _ ?_
  have he:∃ q,h'.get? a=some q:=let ⟨q,_,_,hq,_⟩:=dd';⟨q,hq⟩
  exact zld I (by rw [e];exact True.intro) hs he (zrB hl hd (rel.put k rv) dd')
 ·subst ey eH
  cases (show u=Value.ref b from ry)
  obtain ⟨z,hd,xs,rel,dd⟩:=dt_of I.hok e
  have hz:xs.length≤sizeLine:=by rw [← Paired.length rel];exact z
  have hl:(zgO kvs k v).length≤sizeLine:=by have:=zfy kvs k v;(first|lia|omega)
  refine wpAny_setItem_heap (hsz:=hz) (tupleKind_room_in1 hu) (zoE I.hok eb) dd fun h' dd' hs=>h _ ?_
  obtain ⟨q,es,ep,hq,h2,h3,h4,_,h5⟩:=dd'
  refine zld I (by rw [e];exact True.intro) hs ⟨q,hq⟩ ⟨hl,hd,_,(rel.put k eb rv).keeps fun c ys ec=>?_,q,es,ep,hq,h2,h3,h4,h5⟩
  rw [zaj (ne_of ec e (fun z=>nomatch z))]
  exact ec
end
section
variable {X:Cx} {pins:List (Addr×Obj)} {σ:St} {H:Hp} {s:Shared} {a:Addr} {kvs:List (Key×V)} {k:Key} {u:Value} {A:Around} {E:Value→Shared→Prop}
theorem d_len {Q:Value→Shared→Prop} (I:Inv X pins σ H s) (e:Rd H a (.dK kvs)) (h:∀ t s',Inv X pins σ H s'→Q (.int kvs.length t) s'):wpAny (model X.prog X.w) A (call (.builtin "len") [.ref a]) Q E s:=by
 obtain ⟨z,hd,vs,rel,dd⟩:=ztt I.hok e
 refine call_len_dict hd dd (by rw [← rel.length];rw [sizeLine_eq] at z;(first|lia|omega)) ?_
 rw [← rel.length]
 exact h _ _ (I.tok _)
end
def zui (ty td:TE):TE:=fun σ H Q=>ty σ H fun y H1=>td σ H1 fun x H2=>∃ a o,x=.ref a∧zuf H2 a y o∧Q (.bl o.isSome) H2
def zmK (td ty tv:TE):TS:=fun D σ H=>tv σ H fun v H1=>td σ H1 fun x H2=>ty σ H2 fun y H3=>∃ a H4,x=.ref a∧zrN H3 a y v H4∧D.nx σ H4
section
variable {X:Cx} {o i e value:Expr} {pos pos' tpos:Pos} {td ty tv:TE}
theorem zr8 (hu:X.A.units+1<cLine) (hi:PE X i ty) (ho:PE X o td):PC X .In i o (zui ty td):=by
 intro pins s σ H Q I h
 refine thn (hi pins s σ H _ I h) fun iv s1 ⟨y,H1,I1,ry,q1⟩=>thn (ho pins s1 σ H1 _ I1 q1) fun u s2 hQ'=>?_
 obtain ⟨x,H2,I2,rx,a,ov,ex,g,q2⟩:=hQ'
 subst ex
 obtain rfl:u=Value.ref a:=rx
 exact d_in hu I2 g ry fun s3 I3=>⟨.bl ov.isSome,H2,I3,rfl,q2⟩
theorem znw (hu:X.A.units+1<cLine) (ho:PE X o td) (hi:PE X i ty) (hv:PE X value tv) (hs:swapsWith value (some (.Subscript o i pos')) pos.line X.env=pure false) :
  PS X (.Assign [.Subscript o i pos'] value pos) (zmK td ty tv):=by
 intro pins s σ H D I h
 refine wpAny_Assign_Subscript (thn (hv pins s σ H _ I h) fun r s1 ⟨v,H1,I1,rv,q1⟩=>thn (ho pins s1 σ H1 _ I1 q1) fun u s2 ⟨x,H2,I2,rx,q2⟩=>thn (hi pins s2 σ H2 _ I2 q2) fun iv s3 hQ'=>?_) hs
 obtain ⟨y,H3,I3,ry,a,H4,ex,g,q3⟩:=hQ'
 subst ex
 obtain rfl:u=Value.ref a:=rx
 exact znL hu I3 g ry rv fun s4 I4=>⟨σ,H4,I4,q3⟩
end
theorem zpK {P:Program} {w:World} {H:Hp} (h:Heap) (hb:sysModules<h.objs.size):zbH P w H (h.push { cls:=.type "dict",data:=.dict #[] }) h.objs.size (.dK []) :=
 ⟨Nat.zero_le _,beq_eq_false_iff_ne.mpr (Ne.symm (Nat.ne_of_lt hb)),[],.nil,Heap.DictOf.new h⟩
section
variable {X:Cx} {pos:Pos}
end
def zlm:List (TE×TE)→St→Hp→(List (V×V)→Hp→Prop)→Prop
 | [],_,H,Q=>Q [] H
 | (tk,tv)::r,σ,H,Q=>tk σ H fun x H1=>tv σ H1 fun y H2=>zlm r σ H2 fun ps H3=>Q ((x,y)::ps) H3
abbrev VV:List (V×V)→List (Value×Value)→Prop:=Paired fun p q=>zca p.1 q.1∧zca p.2 q.2
def PPs (X:Cx) (pos:Pos) (keys:List (Option Expr)) (values:List Expr) (trs:List (TE×TE)):Prop :=
 ∀ (pins:List (Addr×Obj)) (s:Shared) (σ:St) (H:Hp) (Q:List (V×V)→Hp→Prop),Inv X pins σ H s→zlm trs σ H Q →
  wpAny (model X.prog X.w) X.A (evalPairs (pairTrees keys values X.env pos)) (fun vs s'=>∃ ps H',Inv X pins σ H' s'∧VV ps vs∧Q ps H') X.xe s
theorem zsn {X:Cx} {pos:Pos}:PPs X pos [] [] []:=fun pins s σ H Q I h=>pairTrees_nil_walk ⟨[],H,I,.nil,h⟩
theorem zpt {X:Cx} {pos:Pos} {k v:Expr} {ks:List (Option Expr)} {vs:List Expr} {tk tv:TE} {trs:List (TE×TE)} (hk:PE X k tk) (hv:PE X v tv) (hr:PPs X pos ks vs trs) :
  PPs X pos (some k::ks) (v::vs) ((tk,tv)::trs):=fun pins s σ H Q I h =>
 pairTrees_cons_walk (thn (hk pins s σ H _ I h) fun u s1 ⟨x,H1,I1,rx,q1⟩=>thn (hv pins s1 σ H1 _ I1 q1) fun w2 s2 ⟨y,H2,I2,ry,q2⟩ =>
  thn (hr pins s2 σ H2 _ I2 q2) fun ws s3 ⟨ps,H3,I3,rel,q3⟩=>⟨(x,y)::ps,H3,I3,.cons ⟨rx,ry⟩ rel,q3⟩)
def zjg (kvs more:List (Key×V)):List (Key×V):=more.foldl (fun acc kv=>zgO acc kv.1 kv.2) kvs
theorem KV.merge:∀ {more:List (Key×V)} {rs:List (Key×Value)} {kvs:List (Key×V)} {vs:List (Key×Value)},KV more rs→KV kvs vs→KV (zjg kvs more) (merged vs rs):=by
 intro more rs kvs vs r
 unfold KV at r
 induction r generalizing kvs vs with
 | nil=>intro q;exact q
 | @cons p q ps qs h t ih =>
  intro r0
  have e:KV (zgO kvs p.1 p.2) (stored vs q.1 q.2):=by
   have:=r0.put p.1 h.2
   rw [← h.1];exact this
  exact ih e
theorem zfV:∀ (more kvs:List (Key×V)),(zjg kvs more).length≤kvs.length+more.length
 | [],kvs=>by show kvs.length≤kvs.length+0;(first|lia|omega)
 | p::r,kvs=>by
  have h1:=zfV r (zgO kvs p.1 p.2)
  have h2:=zfy kvs p.1 p.2
  show (zjg (zgO kvs p.1 p.2) r).length≤_
  rw [List.length_cons];(first|lia|omega)
theorem zh3 {P:Program} {w:World}:∀ {kvs:List (Key×V)} {ws:List (Value×Value)},VV (kvs.map fun kv=>(kV kv.1,kv.2)) ws→∃ rs,Carries (zcf P w) ws rs∧KV kvs rs
 | [],_,r=>by rw [List.map_nil] at r;cases r;exact ⟨[],True.intro,.nil⟩
 | p::kvs,_,r=>by
  rw [List.map_cons] at r
  cases r with
  | @cons a b as bs h t =>
   obtain ⟨rs,c,q⟩:=zh3 (P:=P) (w:=w) t
   obtain ⟨b1,b2⟩:=b
   exact ⟨(p.1,b2)::rs,⟨zqM h.1,rfl,c⟩,.cons ⟨rfl,h.2⟩ q⟩
def ztz (trs:List (TE×TE)):TE:=fun σ H Q=>∀ p,H p=none→zlm trs σ (upd H p (.dK [])) fun ps H2=>H2 p=some (.dK [])∧∃ kvs:List (Key×V),ps=kvs.map (fun kv=>(kV kv.1,kv.2))∧kvs.length≤15∧Q (.ref p) (upd H2 p (.dK (zjg [] kvs)))
theorem zsR {X:Cx} {pos:Pos} {keys:List (Option Expr)} {values:List Expr} {trs:List (TE×TE)} (h:PPs X pos keys values trs) (hall:keys.all (·.isSome)=true) (hl:keys.length=values.length) (h0:keys≠[])
  (h15:keys.length≤15):PE X (.Dict keys values pos) (ztz trs):=by
 intro pins s σ H Q I q
 have hn:=I.hok.fresh (Nat.le_refl s.heap.objs.size)
 have I1:=I.laid (a:=s.heap.objs.size) (o:=.dK []) (h':=s.heap.push { cls:=.type "dict",data:=.dict #[] }) (t':=s.toks) (fun _ _ q=>Heap.get?_push_of_some _ q) (Nat.le_refl _) (zpK s.heap I.big)
 refine wpAny_Dict_walk (knd:=zcf X.prog X.w) hall hl h0 h15 (thn (h pins _ σ _ _ I1 (q _ hn)) fun ws s2 hQ'=>?_)
 obtain ⟨ps,H2,I2,rel,e,kvs,ep,lk,q2⟩:=hQ'
 subst ep
 obtain ⟨rs,c,rk⟩:=zh3 (P:=X.prog) (w:=X.w) rel
 obtain ⟨z,hd,vs0,r0,dd⟩:=zuk I2.hok e
 cases r0
 refine ⟨rs,c,dd,fun h' dd' hs=>⟨.ref s.heap.objs.size,_,?_,rfl,q2⟩⟩
 have hz:(zjg [] kvs).length≤sizeLine:=by
  have h1:=zfV kvs []
  rw [List.length_nil] at h1
  rw [sizeLine_eq];(first|lia|omega)
 have he:∃ q,h'.get? s.heap.objs.size=some q:=let ⟨q,_,_,hq,_⟩:=dd';⟨q,hq⟩
 exact zld I2 (by rw [e];exact True.intro) hs he (zrB hz hd (rk.merge .nil) dd')
section
variable {X:Cx} {pins:List (Addr×Obj)} {σ:St} {H:Hp} {s:Shared} {a:Addr} {y d:V} {u r:Value} {o:Option V} {A:Around} {E:Value→Shared→Prop}
end
section
variable {X:Cx} {o e f:Expr} {apos cpos:Pos} {td ty tx:TE}
end
section
variable {X:Cx} {pins:List (Addr×Obj)} {σ:St} {H:Hp} {s:Shared} {a:Addr} {kvs:List (Key×V)} {A:Around} {E:Value→Shared→Prop}
end
section
variable {X:Cx} {pins:List (Addr×Obj)} {σ:St} {H:Hp} {s:Shared} {a:Addr} {y:V} {u:Value} {A:Around} {E:Value→Shared→Prop}
end
end L2
namespace L2
open PySem PySem.Spec PyProof.Rows
section
variable {X:Cx}
theorem zg7:ze6 X (.builtin "len") (fun xs H Q=>∃ a kvs,xs=[V.ref a]∧H a=some (.dK kvs)∧Q (.int kvs.length) H):=by
 intro pins s σ H xs us Q I r h
 obtain ⟨a,kvs,rfl,ha,q⟩:=h
 obtain ⟨u,rfl,ru⟩:=zfG r
 cases ru
 exact d_len I (.inl ha) fun t s' I'=>⟨.int kvs.length,H,I',⟨t,rfl⟩,q⟩
end
end L2
namespace L2
open PySem PySem.Spec PyProof.Rows
def zmV:List V→Hp→VK→Prop:=fun xs H Q=>∃ a kvs,xs=[V.ref a]∧H a=some (.dK kvs)∧Q (.int kvs.length) H
section
variable {X:Cx}
end
end L2
namespace L2
open PySem PySem.Spec PyProof.Rows
def zrh (K:PySem.W.Frag) (a:Addr) (xs:List V):Prop:=∃ (o:Obj) (its:Array Value) (n:Nat),K.lookup a=some o∧o.cls=.type "tuple"∧o.data=.seq its n∧its.size≤sizeLine∧zbZ xs its.toList
theorem SqT.ofK {K:PySem.W.Frag} {H:Hp} {a:Addr} {xs:List V} (h:zrh K a xs):SqT K H a xs:=.inr h
section
variable {X:Cx}
end
end L2
namespace L2
open PySem PySem.Spec PyProof.Rows
theorem zdB (K:PySem.W.Frag):PySem.W.kitOne K (.type "list") (.type "tuple")=some false:=by first | rfl | kernel_rfl
theorem zfb (K:PySem.W.Frag):PySem.W.kitOne K (.type "tuple") (.type "list")=some false:=by first | rfl | kernel_rfl
theorem ziH (K:PySem.W.Frag):PySem.W.kitOne K (.type "int") (.type "tuple")=some false:=by first | rfl | kernel_rfl
theorem zje (K:PySem.W.Frag):PySem.W.kitOne K (.type "int") (.type "list")=some false:=by first | rfl | kernel_rfl
theorem zi3 (K:PySem.W.Frag):PySem.W.kitOne K (.type "str") (.type "tuple")=some false:=by first | rfl | kernel_rfl
theorem zjC (K:PySem.W.Frag):PySem.W.kitOne K (.type "str") (.type "list")=some false:=by first | rfl | kernel_rfl
theorem zjm (K:PySem.W.Frag):PySem.W.kitOne K (.type "str") (.type "bool")=some false:=by first | rfl | kernel_rfl
theorem zlb (K:PySem.W.Frag):PySem.W.kitOne K (.type "str") (.type "int")=some false:=by first | rfl | kernel_rfl
theorem zdr {K:PySem.W.Frag} {H:Hp} {Q:VK} {x:V} {t c:String} {b:Bool} (h:zlC K H x (.type t)) (e:PySem.W.kitOne K (.type t) (.type c)=some b) (q:Q (.bl b) H):zdV K [x,.ty c] H Q:=⟨_,_,_,_,b,rfl,rfl,.of h,e,q⟩
end L2
namespace L2
open PySem
theorem zs4 {v:V} {σ:List (Option V)} {H:Hp} {Q:VK}:zac 0 (some v::σ) H Q=Q v H:=by simp [zac]
theorem ztu {x0:Option V} {v:V} {σ:List (Option V)} {H:Hp} {Q:VK}:zac 1 (x0::some v::σ) H Q=Q v H:=by simp [zac]
theorem zt6 {x0 x1:Option V} {v:V} {σ:List (Option V)} {H:Hp} {Q:VK}:zac 2 (x0::x1::some v::σ) H Q=Q v H:=by simp [zac]
theorem zt3 {x0 x1 x2:Option V} {v:V} {σ:List (Option V)} {H:Hp} {Q:VK}:zac 3 (x0::x1::x2::some v::σ) H Q=Q v H:=by simp [zac]
theorem ztH {x0 x1 x2 x3:Option V} {v:V} {σ:List (Option V)} {H:Hp} {Q:VK}:zac 4 (x0::x1::x2::x3::some v::σ) H Q=Q v H:=by simp [zac]
theorem ztK {x0 x1 x2 x3 x4:Option V} {v:V} {σ:List (Option V)} {H:Hp} {Q:VK}:zac 5 (x0::x1::x2::x3::x4::some v::σ) H Q=Q v H:=by simp [zac]
theorem zsr {x0 x1 x2 x3 x4 x5:Option V} {v:V} {σ:List (Option V)} {H:Hp} {Q:VK}:zac 6 (x0::x1::x2::x3::x4::x5::some v::σ) H Q=Q v H:=by simp [zac]
theorem zsJ {x0 x1 x2 x3 x4 x5 x6:Option V} {v:V} {σ:List (Option V)} {H:Hp} {Q:VK}:zac 7 (x0::x1::x2::x3::x4::x5::x6::some v::σ) H Q=Q v H:=by simp [zac]
theorem zsN {x0 x1 x2 x3 x4 x5 x6 x7:Option V} {v:V} {σ:List (Option V)} {H:Hp} {Q:VK}:zac 8 (x0::x1::x2::x3::x4::x5::x6::x7::some v::σ) H Q=Q v H:=by simp [zac]
theorem zsX {x0 x1 x2 x3 x4 x5 x6 x7 x8:Option V} {v:V} {σ:List (Option V)} {H:Hp} {Q:VK}:zac 9 (x0::x1::x2::x3::x4::x5::x6::x7::x8::some v::σ) H Q=Q v H:=by simp [zac]
theorem zp5 {x0 x1 x2 x3 x4 x5 x6 x7 x8 x9:Option V} {v:V} {σ:List (Option V)} {H:Hp} {Q:VK}:zac 10 (x0::x1::x2::x3::x4::x5::x6::x7::x8::x9::some v::σ) H Q=Q v H:=by simp [zac]
theorem zpr {x0 x1 x2 x3 x4 x5 x6 x7 x8 x9 x10:Option V} {v:V} {σ:List (Option V)} {H:Hp} {Q:VK}:zac 11 (x0::x1::x2::x3::x4::x5::x6::x7::x8::x9::x10::some v::σ) H Q=Q v H:=by simp [zac]
theorem zpu {x0 x1 x2 x3 x4 x5 x6 x7 x8 x9 x10 x11:Option V} {v:V} {σ:List (Option V)} {H:Hp} {Q:VK}:zac 12 (x0::x1::x2::x3::x4::x5::x6::x7::x8::x9::x10::x11::some v::σ) H Q=Q v H:=by simp [zac]
theorem zpL {x0:Option V} {v:V} {σ:List (Option V)} {H:Hp} {Q:St→Hp→Prop}:zat 0 v (x0::σ) H Q=Q (some v::σ) H:=rfl
theorem zrf {x0 x1:Option V} {v:V} {σ:List (Option V)} {H:Hp} {Q:St→Hp→Prop}:zat 1 v (x0::x1::σ) H Q=Q (x0::some v::σ) H:=rfl
theorem zpw {x0 x1 x2:Option V} {v:V} {σ:List (Option V)} {H:Hp} {Q:St→Hp→Prop}:zat 2 v (x0::x1::x2::σ) H Q=Q (x0::x1::some v::σ) H:=rfl
theorem zrc {x0 x1 x2 x3:Option V} {v:V} {σ:List (Option V)} {H:Hp} {Q:St→Hp→Prop}:zat 3 v (x0::x1::x2::x3::σ) H Q=Q (x0::x1::x2::some v::σ) H:=rfl
theorem zp9 {x0 x1 x2 x3 x4:Option V} {v:V} {σ:List (Option V)} {H:Hp} {Q:St→Hp→Prop}:zat 4 v (x0::x1::x2::x3::x4::σ) H Q=Q (x0::x1::x2::x3::some v::σ) H:=rfl
theorem zqV {x0 x1 x2 x3 x4 x5:Option V} {v:V} {σ:List (Option V)} {H:Hp} {Q:St→Hp→Prop}:zat 5 v (x0::x1::x2::x3::x4::x5::σ) H Q=Q (x0::x1::x2::x3::x4::some v::σ) H:=rfl
theorem zqb {x0 x1 x2 x3 x4 x5 x6:Option V} {v:V} {σ:List (Option V)} {H:Hp} {Q:St→Hp→Prop}:zat 6 v (x0::x1::x2::x3::x4::x5::x6::σ) H Q=Q (x0::x1::x2::x3::x4::x5::some v::σ) H:=rfl
theorem zqR {x0 x1 x2 x3 x4 x5 x6 x7:Option V} {v:V} {σ:List (Option V)} {H:Hp} {Q:St→Hp→Prop}:zat 7 v (x0::x1::x2::x3::x4::x5::x6::x7::σ) H Q=Q (x0::x1::x2::x3::x4::x5::x6::some v::σ) H:=rfl
theorem zra {x0 x1 x2 x3 x4 x5 x6 x7 x8:Option V} {v:V} {σ:List (Option V)} {H:Hp} {Q:St→Hp→Prop}:zat 8 v (x0::x1::x2::x3::x4::x5::x6::x7::x8::σ) H Q=Q (x0::x1::x2::x3::x4::x5::x6::x7::some v::σ) H:=rfl
theorem zpW {x0 x1 x2 x3 x4 x5 x6 x7 x8 x9:Option V} {v:V} {σ:List (Option V)} {H:Hp} {Q:St→Hp→Prop}:zat 9 v (x0::x1::x2::x3::x4::x5::x6::x7::x8::x9::σ) H Q=Q (x0::x1::x2::x3::x4::x5::x6::x7::x8::some v::σ) H:=rfl
theorem znz {x0 x1 x2 x3 x4 x5 x6 x7 x8 x9 x10:Option V} {v:V} {σ:List (Option V)} {H:Hp} {Q:St→Hp→Prop}:zat 10 v (x0::x1::x2::x3::x4::x5::x6::x7::x8::x9::x10::σ) H Q=Q (x0::x1::x2::x3::x4::x5::x6::x7::x8::x9::some v::σ) H:=rfl
theorem zoI {x0 x1 x2 x3 x4 x5 x6 x7 x8 x9 x10 x11:Option V} {v:V} {σ:List (Option V)} {H:Hp} {Q:St→Hp→Prop}:zat 11 v (x0::x1::x2::x3::x4::x5::x6::x7::x8::x9::x10::x11::σ) H Q=Q (x0::x1::x2::x3::x4::x5::x6::x7::x8::x9::x10::some v::σ) H:=rfl
theorem rI_c {C:Int→Int→Prop} {g:Int→Int→V} {a b:Int} {H:Hp} {Q:VK}:rI C g (.int a) (.int b) H Q=(C a b∧Q (g a b) H):=by simp [rI]
theorem rI0_c {g:Int→Int→V} {a b:Int} {H:Hp} {Q:VK}:rI0 g (.int a) (.int b) H Q=Q (g a b) H:=by simp [rI0]
theorem zuM {K:PySem.W.Frag} {p:Addr} {i:Int} {H:Hp} {Q:VK}:zeA K (.ref p) (.int i) H Q=∃ xs,SqL K H p xs∧∃ v,atI xs i=some v∧Q v H:=by simp [zeA]
theorem zvP {K:PySem.W.Frag} {p:Addr} {i:Int} {H:Hp} {Q:VK}:zjO K (.ref p) (.int i) H Q=∃ xs,SqT K H p xs∧∃ v,atI xs i=some v∧Q v H:=by simp [zjO]
theorem ex_bl {c:Bool} {Q:Bool→Prop}:(∃ k,V.bl c=V.bl k∧Q k)=Q c:=by simp
theorem zwf {c:Int} {Q:Int→Prop}:(∃ k,V.int c=V.int k∧Q k)=Q c:=by simp
theorem zvR {c:Addr} {Q:Addr→Prop}:(∃ k,V.ref c=V.ref k∧Q k)=Q c:=by simp
theorem zvM {c:Int} {Q:Int→Prop}:(∃ k,[V.int c]=[V.int k]∧Q k)=Q c:=by simp
theorem zuF {c:Addr} {Q:Addr→Prop}:(∃ k,[V.ref c]=[V.ref k]∧Q k)=Q c:=by simp
end L2
namespace Att
open PySem PySem.W PySem.Calls PyProof.Rows
theorem zhn {x:Int}:∀ {ns:List Int},x∈ns→WData.weight (.int x)≤WData.weightAll (ns.map WData.int)
 | [],h=>absurd h (List.not_mem_nil)
 | y::ns,h=>by
  rw [List.map_cons,WData.weightAll]
  rcases List.mem_cons.mp h with e | e
  ·rw [← e]
   (first|lia|omega)
  ·have:=zhn e
   (first|lia|omega)
theorem zsj {ns:List Int} (h:WData.layableAll [WData.list (ns.map WData.int)]=true):∀ x∈ns,x.natAbs<2 ^ 2 ^ 20:=by
 intro x hx
 have h1:(WData.list (ns.map WData.int)).layable=true:=(layW_cons h).1
 have h2:WData.weight (.list (ns.map WData.int))≤2 ^ 20:=by
  unfold WData.layable at h1
  rw [Bool.and_eq_true] at h1
  exact of_decide_eq_true h1.2
 rw [WData.weight] at h2
 have h3:=Nat.le_trans (zhn hx) h2
 rw [WData.weight] at h3
 by_cases h0:x=0
 ·subst h0
  exact Nat.two_pow_pos _
 ·rw [if_neg (by simpa using h0)] at h3
  have hn:x.natAbs≠0:=fun e=>h0 (Int.natAbs_eq_zero.mp e)
  exact (Nat.log2_lt hn).mp h3
theorem attach_callL {l:OpenLaw} {n:Nat} {q:Program} {loose:List Str} {XP:(Str→Option Value)→Heap→Prop} {YP:World→Heap→Prop} {d:DefRec}
  (hn:l.most=some n) (hdf:d.params.defaults=[])
  (call:∀ (w:World) (s₀ s₁:Shared) (mg mb:Str→Option Value) (fa:Addr) (o:Obj) (pm cd doc:Value) (a:Addr) (vs:List Value) (ns:List Int),(∀ x∈ns,x.natAbs<2 ^ 2 ^ 20) →
   Ground q loose [] XP w s₀ mg mb s₁.heap→YP w s₁.heap →
   s₁.heap.get? fa=some o→o.data=.func (docDef d.name d.params d.body d.scope pm cd doc)→s₁.heap.CodeRec cd d.name→mg d.name=some (.ref fa) →
   s₁.heap.get? a=some { cls:=.type "list",data:=.seq vs.toArray }→IntsAre vs ns→ns.length≤n→s₁.gens=#[] →
   codeAny (model l.prog w) callerA (.call (.ref fa) ⟨[.ref a],[]⟩) (fun r s'=>r=.ok (.ret (.bool true))∧OldK s₁.heap s'.heap∧s'.os=s₁.os∧AllBare s'.gens) s₁) :
  WalkO q loose XP YP l.row.toRowW d [] (fun f vs=>PySem.call f vs):=by
 intro w s₀ s₁ mg mb G Y fa o pm cd doc dV kV ho hd hcd hD hmg hg args vals as hpre hlay hrd hwl hlo
 obtain rfl:dV=.none:=Dflts.none hD hdf
 obtain rfl:kV=.none:=Dflts.noKw hD
 obtain ⟨a,vs,ns,rfl,rfl,hobj,hints,hlen⟩:=znv hn hpre hwl
 refine enter_call (codeAny_mono (call w s₀ s₁ mg mb fa o pm cd doc a vs ns (zsj hlay) G Y ho (fd_plain hd) hcd hmg hobj hints hlen hg) fun r s' hq=>?_)
 obtain ⟨rfl,h2,h3,h4⟩:=hq
 exact ⟨.inl ⟨.bool true,.bool true,[],rfl,fun _=>rfl,.bool true,zou l _,fun _=>⟨List.Pairwise.nil,fun _ hm=>(nomatch hm)⟩⟩,h2,h3,h4⟩
end Att
namespace L2
open PySem PySem.Spec PyProof.Rows
end L2
namespace L2
open PySem PySem.Spec PyProof.Rows
section
variable {α β:Type}
def Kd:Sem α→Prop
 | .pure _=>True
 | .raise _=>True
 | .unsupported _=>True
 | .finish _=>True
 | .rule _ k=>Kd (k ())
 | .at _ k=>Kd (k ())
 | .load _ _ k=>∀ o,Kd (k o)
 | .update _ _ f k=>(∀ o:Obj,(f o).dict=o.dict∧(f o).isFreed=o.isFreed)∧Kd (k ())
 | .alloc _ k=>∀ a,Kd (k a)
 | .loadIfAlive _ k=>∀ o,Kd (k o)
 | .point _ k=>Kd (k ())
 | .fresh k=>∀ n,Kd (k n)
 | .ask k=>∀ n,Kd (k n)
 | .handled _ k=>∀ n,Kd (k n)
 | .stack k=>∀ l,Kd (k l)
 | .thread k=>∀ n,Kd (k n)
 | _=>False
theorem zaW {f:α→Sem β} (hf:∀ x,Kd (f x)):∀ {t:Sem α},Kd t→Kd (t >>= f)
 | .pure a,_=>hf a
 | .raise _,_=>trivial
 | .unsupported _,_=>trivial
 | .finish _,_=>trivial
 | .rule _ k,h=>zaW hf (t:=k ()) h
 | .at _ k,h=>zaW hf (t:=k ()) h
 | .load _ _ k,h=>fun o=>zaW hf (t:=k o) (h o)
 | .update _ _ _ k,h=>⟨h.1,zaW hf (t:=k ()) h.2⟩
 | .alloc _ k,h=>fun o=>zaW hf (t:=k o) (h o)
 | .loadIfAlive _ k,h=>fun o=>zaW hf (t:=k o) (h o)
 | .point _ k,h=>zaW hf (t:=k ()) h
 | .fresh k,h=>fun o=>zaW hf (t:=k o) (h o)
 | .ask k,h=>fun o=>zaW hf (t:=k o) (h o)
 | .handled _ k,h=>fun o=>zaW hf (t:=k o) (h o)
 | .stack k,h=>fun o=>zaW hf (t:=k o) (h o)
 | .thread k,h=>fun o=>zaW hf (t:=k o) (h o)
 | .register ..,h=>h.elim
 | .choose ..,h=>h.elim
 | .os ..,h=>h.elim
 | .call ..,h=>h.elim
 | .newGen ..,h=>h.elim
 | .genState ..,h=>h.elim
 | .resume ..,h=>h.elim
 | .yield ..,h=>h.elim
 | .fork ..,h=>h.elim
 | .await ..,h=>h.elim
def zjp (e:Addr) (od:Option Addr) (h:Heap):Prop:=∃ o,h.get? e=some o∧o.dict=od
theorem zgo {M:Model} {Γ:PySem.Ctx} {Q:α→Pos→Shared→Prop} {E:Value→Pos→Shared→Prop} {e:Addr} {od:Option Addr}:∀ {t:Sem α} {p:Pos} {s:Shared},Kd t→zjp e od s.heap→Sem.wp M Γ t Q E p s →
  Sem.wp M Γ t (fun a p s'=>Q a p s'∧zjp e od s'.heap) E p s
 | .pure _,_,_,_,d,h=>⟨h,d⟩
 | .raise _,_,_,_,_,h=>h
 | .unsupported _,_,_,_,_,h=>h
 | .finish _,_,_,_,_,h=>h
 | .rule _ k,_,_,c,d,h=>zgo (t:=k ()) c d h
 | .at _ k,_,_,c,d,h=>zgo (t:=k ()) c d h
 | .load _ _ k,_,_,c,d,⟨o,ho,h⟩=>⟨o,ho,zgo (t:=k o) (c o) d h⟩
 | .update a _ f k,p,s,c,d,⟨hi,h⟩=>by
  refine ⟨hi,zgo (t:=k ()) c.2 ?_ h⟩
  obtain ⟨o,ho,hd⟩:=d
  by_cases ea:a=e
  ·subst ea
   have nf:o.isFreed=false:=(Heap.get?_some_iff.mp ho).2
   exact ⟨f o,Heap.get?_update_self f ho (by rw [(c.1 o).2];exact nf),by rw [(c.1 o).1];exact hd⟩
  ·exact ⟨o,(Heap.get?_update_other _ f ea).trans ho,hd⟩
 | .alloc o k,p,s,c,⟨o',ho,hd⟩,h=>zgo (t:=k _) (c _) ⟨o',Heap.get?_push_of_some _ ho,hd⟩ h
 | .loadIfAlive _ k,_,_,c,d,h=>zgo (t:=k _) (c _) d h
 | .point _ k,_,_,c,d,h=>zgo (t:=k ()) c d h
 | .fresh k,_,_,c,d,h=>zgo (t:=k _) (c _) d h
 | .ask k,_,_,c,d,h=>zgo (t:=k _) (c _) d h
 | .handled _ k,_,_,c,d,h=>zgo (t:=k _) (c _) d h
 | .stack k,_,_,c,d,h=>zgo (t:=k _) (c _) d h
 | .thread k,_,_,c,d,h=>zgo (t:=k _) (c _) d h
 | .register ..,_,_,c,_,_=>c.elim
 | .choose ..,_,_,c,_,_=>c.elim
 | .os ..,_,_,c,_,_=>c.elim
 | .call ..,_,_,c,_,_=>c.elim
 | .newGen ..,_,_,c,_,_=>c.elim
 | .genState ..,_,_,c,_,_=>c.elim
 | .resume ..,_,_,c,_,_=>c.elim
 | .yield ..,_,_,c,_,_=>c.elim
 | .fork ..,_,_,c,_,_=>c.elim
 | .await ..,_,_,c,_,_=>c.elim
theorem zhm {M:Model} {A:Around} {t:Sem α} {Q:α→Shared→Prop} {E:Value→Shared→Prop} {s:Shared} {e:Addr} {od:Option Addr} (c:Kd t) (d:zjp e od s.heap) (h:wpAny M A t (fun a s'=>zjp e od s'.heap→Q a s') E s):wpAny M A t Q E s:=fun Γ p hΓ =>
 Sem.wp_mono M Γ t (fun _ _ _ z=>z.1 z.2) (fun _ _ _ z=>z) p s (zgo c d (h Γ p hΓ))
end
theorem zjc (f:Array Value→Array Value) (o:Obj):(Obj.mapFields f o).dict=o.dict∧(Obj.mapFields f o).isFreed=o.isFreed:=by
 obtain ⟨c,d,dat,sl⟩:=o
 cases dat <;> exact ⟨rfl,rfl⟩
theorem zbO {α:Type} (a:α):Kd (pure a:Sem α):=trivial
theorem zff {α:Type} (w:String):Kd (unsupported w:Sem α):=trivial
theorem zkY (a:Addr):Kd (load a):=fun _=>trivial
theorem zi8:Kd stack:=fun _=>trivial
theorem zq0 (o:Obj):Kd (alloc o):=fun _=>trivial
theorem zrJ {a:Addr} {f:Obj→Obj} (h:∀ o:Obj,(f o).dict=o.dict∧(f o).isFreed=o.isFreed):Kd (update a f):=⟨h,trivial⟩
theorem zjQ {α:Type} {c:Prop} [Decidable c] {a b:Sem α} (h1:Kd a) (h2:Kd b):Kd (if c then a else b):=by
 split
 ·exact h1
 ·exact h2
theorem zgY (v:Value) (i:Nat):Kd (field v i):=by
 unfold field fieldsOf
 refine zaW (fun x=>?_) ?_
 ·split
  ·exact zbO _
  ·exact zff _
 ·split
  ·refine zaW (fun o=>?_) (zkY _)
   split
   ·exact zbO _
   ·exact zff _
  ·exact zff _
theorem zfp (v:Value) (i:Nat) (x:Value):Kd (setField v i x):=by
 unfold setField updateField
 split
 ·refine zaW (fun o=>?_) (zkY _)
  split
  ·exact zjQ (zrJ (zjc _)) (zff _)
  ·exact zff _
 ·exact zff _
theorem zjB (ty:String) (vs:List Value):Kd (newFields ty vs):=by
 unfold newFields newObj newObjAsIs
 simp only
 split
 ·exact zff _
 ·exact zaW (fun _=>zbO _) (zq0 _)
theorem zfh:∀ l:List Env,Kd (readyFrames l)
 | []=>trivial
 | env::outer=>by
  have ih:=zfh outer
  unfold readyFrames
  split
  ·refine zaW (fun o=>?_) (zkY _)
   refine zjQ (zbO _) ?_
   refine zaW (fun im=>?_) ?_
   ·refine zaW (fun bk=>?_) ?_
    ·exact zaW (fun _=>ih) (zrJ fun o=>⟨rfl,by obtain ⟨c,d,dat,sl⟩:=o;cases dat <;> rfl⟩)
    ·unfold keptBack underTheClaimsCaller
     split
     ·refine zjQ (zbO _) ?_
      exact zaW (fun _=>zbO _) (zaW (fun _=>zbO _) zi8)
     ·exact zbO _
   ·unfold behindIsImport
    refine zjQ (zbO _) (zjQ (zbO _) ?_)
    exact zaW (fun _=>zbO _) (zgY _ _)
  ·exact zff _
theorem zl4 (env:Env):Kd (PySem.frameOf env):=by
 unfold PySem.frameOf frameEnvs
 refine zaW (fun x=>?_) (zaW (fun _=>zbO _) zi8)
 refine zaW (fun y=>?_) ?_
 ·split
  ·exact zbO _
  ·exact zff _
 ·unfold frameObject
  split
  ·exact zbO _
  ·exact zaW (fun _=>zbO _) (zfh _)
theorem zha (f:Addr) (b:Bool):Kd (entryPlaceOf f b):=by
 unfold entryPlaceOf
 refine zaW (fun x=>?_) zi8
 split
 ·exact zbO _
 ·exact zbO _
theorem zgN (e:Value) (env:Env):Kd (noteFrame e env):=by
 unfold noteFrame EntryCells.newEntry
 split
 ·refine zaW (fun head=>?_) (zgY _ _)
  have zkk:∀ f:Addr,Kd (do let a ← PySem.frameOf env;let pl ← entryPlaceOf f (head != .none);let b ← newFields "traceback" ([head,a,.none,rawInt f,.none]++(if pl.isEmpty then List.replicate 6 .none else pl));setField e 1 b):=fun f =>
   zaW (fun _=>zaW (fun _=>zaW (fun _=>zfp _ _ _) (zjB _ _)) (zha _ _)) (zl4 _)
  refine zjQ ?_ (zkk _)
  refine zaW (fun x=>zjQ (zbO _) ?_) (zgY _ _)
  exact zaW (fun _=>zkk _) (zfp _ _ _)
 ·exact zff _
theorem zer (e:Value) (f:Option Addr):Kd (setFlight e f):=by
 unfold setFlight
 exact zaW (fun _=>zjQ (zfp _ _ _) (zbO _)) (zgY _ _)
theorem zeW (env:Env) (e:Value):Kd (leaving env e):=by
 unfold leaving
 exact zaW (fun _=>zer _ _) (zgN _ _)
structure ExI (K:PySem.W.Frag) (C fI:Addr):Prop where
 lk:∃ nm q N bs bm sn sub ab col dd k0 k1 k2 k3 k5,K.lookup C=some (excClassObj nm q C N bs bm true sn sub ab col dd k0 k1 k2 k3 k5 "ValueError.__new__")∧PySem.W.tailIn K zez bm=true
 ini:PySem.W.findIn K (.ref C) "__init__"=some (some (.ref fI))
 fn:PySem.W.isFn K (.ref fI)=true
 kp:PySem.W.keepIn K (.ref C)=true
 mo:PySem.W.mroIn K C (.type "object")=some true
 sa:PySem.W.findIn K (.ref C) "__setattr__"=some (some (.builtin "object.__setattr__"))
section
variable {K:PySem.W.Frag} {prog:Program} {w:World} {A:Around} {E:Value→Shared→Prop} {h:Heap} {g:Array GenState} {d:Drawn} {t:Nat} {os:OsState} {C fI:Addr} {us:List Value}
theorem zsl {bm:List Value} {nm q:Str} {N:Addr} {bs:List Value} {hdct:Bool} {sn:List Str} {sub:List Value} {ab:Bool} {col:Option Bool} {dd:Option Addr} {k0 k1 k2 k3 k5:Option Value} {Q:Fin→Shared→Prop} (X:K.In h) (Z:ExI K C fI)
  (kC:h.get? C=some (excClassObj nm q C N bs bm hdct sn sub ab col dd k0 k1 k2 k3 k5 "ValueError.__new__")) (T:OwnTail h zez bm) (hl:us.length≤sizeLine)
  (hq:∀ h1 x,x=h.objs.size+1→Heap.MadeExcOf h h1 x (.ref C) us→wpAny (model prog w) A (call (.ref fI) (.ref x::us)) (fun r s'=>r=.none∧Q (.done (.ret (.ref x))) s') E ⟨h1,g,d,t,os⟩) :
  wpAny (model prog w) A (Builtin.«type.__call__» ⟨.ref C::us,[]⟩) Q E ⟨h,g,d,t,os⟩:=by
 have F:=PySem.F.excBase_ValueError
 repeat (first | (with_reducible refine wpAny_loadPart_at kC ?_) | (with_reducible refine wpAny_madeBy_exc kC ?_) | wp_step)
 refine codeAny_call_builtin_code (Code.quiet_builtin _ F.quiet) (wpAny_check_new_subT F T kC (codeAny_exc_new_subT F T kC ?_ hl))
 show wpAny _ _ _ _ _ _
 have st:∀ b o,h.get? b=some o→((h.push { cls:=.type "tuple",data:=.seq us.toArray }).push { cls:=.ref C,data:=.fields #[.ref h.objs.size,.none,.none,.none,.bool false,.none] }).get? b=some o :=
  fun b o e=>Heap.get?_push_of_some _ (Heap.get?_push_of_some _ e)
 have gx:((h.push { cls:=.type "tuple",data:=.seq us.toArray }).push { cls:=.ref C,data:=.fields #[.ref h.objs.size,.none,.none,.none,.bool false,.none] }).get? (h.objs.size+1) =
   some { cls:=.ref C,data:=.fields #[.ref h.objs.size,.none,.none,.none,.bool false,.none] }:=by heap_get
 have gt:((h.push { cls:=.type "tuple",data:=.seq us.toArray }).push { cls:=.ref C,data:=.fields #[.ref h.objs.size,.none,.none,.none,.bool false,.none] }).get? h.objs.size =
   some { cls:=.type "tuple",data:=.seq us.toArray }:=Heap.get?_push_of_some _ (Heap.get?_push_at rfl rfl)
 generalize ((h.push { cls:=.type "tuple",data:=.seq us.toArray }).push { cls:=.ref C,data:=.fields #[.ref h.objs.size,.none,.none,.none,.bool false,.none] })=h1 at st gx gt ⊢
 have X1:K.In h1:=fun a o e=>st a o (X a o e)
 have k1:=st _ _ kC
 have LI:=PySem.W.looks_findIn (M:=model prog w) X1 Z.ini
 have cC:(Value.ref C::bm).contains (.ref C)=true:=by simp
 unfold isInstance
 repeat (first | (with_reducible refine wpAny_loadPart_at gx ?_) | (with_reducible refine wpAny_isSubtype_exc k1 ?_;rw [cC]) | (with_reducible refine LI.at ?_) | wp_step)
 refine (PySem.W.bind_fn (M:=model prog w) X1 (.ref (h.objs.size+1)) (beq_iff_eq.mp Z.fn)).at ?_
 refine wpAny_bind (wpAny_mono (hq h1 (h.objs.size+1) rfl ⟨st,Heap.get?_none_of_le (Nat.le_succ _),h.objs.size,gx,Heap.get?_none_of_le (Nat.le_refl _),gt⟩) (fun r s' z=>?_) fun _ _ z=>z)
 obtain ⟨rfl,z⟩:=z
 refine wpAny_pure ?_
 wp_walk
 exact z
theorem zo4 {Q:Value→Shared→Prop} (X:K.In h) (Z:ExI K C fI) (hl:us.length≤sizeLine)
  (hq:∀ h1 x,x=h.objs.size+1→Heap.MadeExcOf h h1 x (.ref C) us→wpAny (model prog w) (A.under (.builtin "type.__call__" ⟨.ref C::us,[]⟩)) (call (.ref fI) (.ref x::us)) (fun r s'=>r=.none∧Q (.ref x) s') E ⟨h1,g,d,t,os⟩) :
  wpAny (model prog w) A (call (.ref C) us) Q E ⟨h,g,d,t,os⟩:=by
 obtain ⟨nm,q,N,bs,bm,sn,sub,ab,col,dd,k0,k1,k2,k3,k5,lk,tl⟩:=Z.lk
 have kC:=X _ _ lk
 have l1:=tc_lookup
 have l2:=tc_bind (.ref C)
 have l3:(⟨h,g,d,t,os⟩:Shared).TypeIs (.ref C) "type":=⟨_,kC,rfl⟩
 refine wpAny_call (codeAny_of_tree ?_)
 show wpAny _ _ (callAny (.ref C) _) _ _ _
 repeat (any_goals (first | assumption | (with_reducible refine wpAny_loadPart_at kC ?_) | wp_step))
 refine ⟨rfl,codeAny_call_builtin_at (Code.quiet_builtin _ (by decide +kernel)) entry_typeCall (wpAny_check_type_call_sub kC ?_)⟩
 exact zsl X Z kC (PySem.W.tail_of_in X tl) hl hq
end
def zna (x:Addr) (C:Addr):HO:=.ext fun h=>∃ o t0,h.get? x=some o∧o.cls=.ref C∧o.dict=none∧o.data=.fields #[.ref t0,.none,.none,.none,.bool false,.none]
def zm9 (x:Addr) (C dx:Addr):HO:=.ext fun h=>∃ o t0,h.get? x=some o∧o.cls=.ref C∧o.dict=some dx∧o.data=.fields #[.ref t0,.none,.none,.none,.bool false,.none]
structure ExB (K:PySem.W.Frag) (D:Addr):Prop where
 sg:PySem.W.specialIn K (.ref D) "__getattribute__"=some (some (.builtin "type.__getattribute__"))
 rd:PySem.W.readsIn K D (.type "type")=true
 fc:PySem.W.findCls K (.ref D) (.type "type") "__init__"=some (.val (.builtin "ValueError.__init__"))
theorem zpU {H:Hp} {x:Addr} {o:HO} (h:H x=some o):upd H x o=H:=by
 funext b
 unfold upd
 split
 ·rename_i e
  rw [e,h]
 ·rfl
section
variable {X:Cx} {pins:List (Addr×Obj)} {σ:St} {H:Hp} {s:Shared}
theorem znm {A:Around} {E:Value→Shared→Prop} {Q:Value→Shared→Prop} {x C:Addr} {us:List Value} (I:Inv X pins σ H s) (hx:H x=some (zna x C)) (Z:∃ fI,ExI X.K C fI) (hl:us.length≤sizeLine)
  (h:∀ s',Inv X pins σ H s'→Q .none s'):wpAny (model X.prog X.w) A (call (.builtin "ValueError.__init__") (.ref x::us)) Q E s:=by
 obtain ⟨fI,Z⟩:=Z
 obtain ⟨nm,q,N,bs,bm,sn,sub,ab,col,dd,k0,k1,k2,k3,k5,lk,tl⟩:=Z.lk
 have kC:=I.kIn _ _ lk
 have T:=PySem.W.tail_of_in I.kIn tl
 have F:=PySem.F.excBase_ValueError
 obtain ⟨⟨o,t0,ho,hc,hd,hdat⟩,_⟩:=(I.hok x _ hx:zbH X.prog X.w H s.heap x (zna x C))
 obtain ⟨hh,g,d,t,os⟩:=s
 obtain ⟨oc,od,odt,osl⟩:=o
 dsimp only at hc hd hdat
 subst hc hd hdat
 refine wpAny_call (codeAny_call_builtin F.init.plain F.initEntry (wpAny_check_init_subT F T kC ho rfl ?_))
 wp_walk
 have I1:Inv X pins σ H { heap:=hh.push { cls:=.type "tuple",data:=.seq us.toArray },gens:=g,drawn:=d,toks:=t,os:=os }:=I.kept (t':=t) fun b u e=>Heap.get?_push_of_some _ e
 have gx:(hh.push { cls:=.type "tuple",data:=.seq us.toArray }).get? x=some ⟨.ref C,none,.fields #[.ref t0,.none,.none,.none,.bool false,.none],osl⟩:=Heap.get?_push_of_some _ ho
 have gy:=Heap.get?_update_self (Obj.mapFields fun z=>z.setIfInBounds 0 (Value.ref hh.objs.size)) gx rfl
 have I2:=I1.write (x:=x) (e:=x) (o:=zna x C) (t':=t) (h':=(hh.push { cls:=.type "tuple",data:=.seq us.toArray }).update x (Obj.mapFields fun z=>z.setIfInBounds 0 (Value.ref hh.objs.size)))
  (by rw [hx];exact True.intro) (.inl rfl) (fun b u nb e=>(Heap.get?_update_other _ _ (Ne.symm nb)).trans e) ⟨_,gy⟩ ⟨⟨_,_,gy,rfl,rfl,rfl⟩,⟨_,gy⟩,fun _ _ ⟨o,t0,e,r⟩ k=>⟨o,t0,k o e,r⟩⟩
 rw [zpU hx] at I2
 exact h _ I2
end
theorem zkN {h:Heap} {self:Value} {what:Str} {l:List Value} (T:OwnTail h zez l) (hb:refuseLoop self what zez=pure ()):refuseLoop self what l=pure ():=by
 induction T with
 | base=>exact hb
 | own _ _ _ _ ih=>rw [refuseLoop_ref,ih]
section
open Builtin Builtin.ObjectAttr
variable {K:PySem.W.Frag} {prog:Program} {w:World} {A:Around} {E:Value→Shared→Prop} {h:Heap} {g:Array GenState} {d:Drawn} {t:Nat} {os:OsState} {C fI x:Addr} {v:Value} {name:Str} {o:Obj}
theorem zs2 {tk:Tok} {R:Result→Shared→Prop} (X:K.In h) (Z:ExI K C fI) (na:PySem.W.findIn K (.ref C) name=some none) (hx:h.get? x=some o) (hc:o.cls=.ref C) (hd:o.dict=none) {fs:Array Value} (hf:o.data=.fields fs)
  (hq:∀ h' tk',h'.get? x=some { o with dict:=some h.objs.size }→h'.Ns1 h.objs.size (fun y=>if y=name then some v else none)→(∀ b u,b≠x→h.get? b=some u→h'.get? b=some u)→R (.ok (.ret .none)) ⟨h',g,d,tk',os⟩) :
  codeAny (model prog w) A (.call (.builtin "object.__setattr__") ⟨[.ref x,.str name tk,v],[]⟩) R ⟨h,g,d,t,os⟩:=by
 obtain ⟨nm,q,N,bs,bm,sn,sub,ab,col,dd,k0,k1,k2,k3,k5,lk,tl⟩:=Z.lk
 have kC:=X _ _ lk
 have T:=PySem.W.tail_of_in X tl
 have S:=PySem.F.store_ValueError
 have LN:=PySem.W.looks_findIn (M:=model prog w) X na
 have pass:refuseLoop (.ref x) "__setattr__" (.ref C::bm)=pure ():=by
  rw [refuseLoop_ref]
  exact zkN T (S.passes _)
 have cO:(Value.ref C::bm).contains (.type "object")=true:=by rw [List.contains_cons,T.hasType S.hasOwner,Bool.or_true]
 have LT:PySem.W.Looks (model prog w) h (typeOf (.ref x)) (.ref C):=hc ▸ (PySem.W.Looks.ld hx).andThen .now
 have LS:PySem.W.Looks (model prog w) h (isInstance (.ref x) (.type "object")) true:=LT.andThen (PySem.W.looks_mroIn X Z.mo)
 refine codeAny_call_builtin S.slot.plain S.entry (@PySem.W.check_slot (model prog w) _ _ ⟨h,g,d,t,os⟩ "object.__setattr__" "object" "__setattr__" (.ref x) [.str name tk,v] [] _ S.kind S.split LS (S.args (.ref x) (.str name tk) v) ?_)
 unfold Builtin.«object.__setattr__»
 repeat (first | rw [refuse_eq] | rw [pass] | (with_reducible refine wpAny_loadPart_at hx ?_;rw [hc]) | (with_reducible refine wpAny_mroOf_exc kC ?_) | (with_reducible refine LN.at ?_) | wp_step)
 obtain ⟨oc,od,odt,osl⟩:=o
 dsimp only at hc hd hf
 subst hc hd hf
 dsimp only
 rw [if_neg (by simp [typeHasDict])]
 have gx:(h.push { cls:=.type "dict",data:=.dict #[] }).get? x=some ⟨.ref C,none,.fields fs,osl⟩:=Heap.get?_push_of_some _ hx
 have ns:x≠h.objs.size:=Nat.ne_of_lt (Heap.lt_size hx)
 refine wpAny_bind (wpAny_alloc' (wpAny_bind (wpAny_update' gx (wpAny_pure ?_))))
 have gy:=Heap.get?_update_self (fun o:Obj=>{ cls:=o.cls,dict:=some h.objs.size,data:=o.data,slots:=o.slots }) gx rfl
 have gd:((h.push { cls:=.type "dict",data:=.dict #[] }).update x fun o=>{ cls:=o.cls,dict:=some h.objs.size,data:=o.data,slots:=o.slots }).get? h.objs.size=some { cls:=.type "dict",data:=.dict #[] } :=
  (Heap.get?_update_other _ _ ns).trans (Heap.get?_push_at rfl rfl)
 have keep:∀ b u,b≠x→h.get? b=some u→((h.push { cls:=.type "dict",data:=.dict #[] }).update x fun o=>{ cls:=o.cls,dict:=some h.objs.size,data:=o.data,slots:=o.slots }).get? b=some u:=fun b u nb e =>
  (Heap.get?_update_other _ _ (Ne.symm nb)).trans (Heap.get?_push_of_some _ e)
 generalize ((h.push { cls:=.type "dict",data:=.dict #[] }).update x fun o=>{ cls:=o.cls,dict:=some h.objs.size,data:=o.data,slots:=o.slots })=h2 at gy gd keep ⊢
 have nn:h2.Ns h.objs.size (fun _=>none):=⟨_,#[],_,gd,rfl,fun e he=>absurd he (by simp),fun _=>rfl⟩
 show wpAny _ _ (storeInDict h.objs.size (.str name tk) name v) _ _ _
 unfold storeInDict newKeyGuard
 refine wpAny_bind (wpAny_pure (wpAny_bind (wpAny_nsSet1 (Heap.Ns1.of_empty nn) fun h3 n3 s3=>?_)))
 obtain ⟨oD,eD,pD,aD,bD,cD⟩:=n3.count (Within.cons name v Within.nil)
 refine wpAny_bind (wpAny_lookBehind aD (by rw [bD];exact pastItsLine_dict (Nat.le_trans cD (by rw [List.length_cons,List.length_nil,sizeLine_eq];(first|lia|omega)))) ?_)
 wp_walk
 exact hq h3 _ ((s3.2 x ns).trans gy) n3 fun b u nb e=>(s3.2 b (Nat.ne_of_lt (Heap.lt_size e))).trans (keep b u nb e)
end
def tBI (K:PySem.W.Frag) (t:TA):TE:=fun σ H Q=>t σ H fun vs H1=>∃ x v C,vs=[.ref x,v]∧H1 x=some (zna x C)∧(∃ fI,ExI K C fI)∧Q .non H1
def zsk (K:PySem.W.Frag) (to tv:TE) (f:Str):TS:=fun D σ H=>tv σ H fun v H1=>to σ H1 fun x H2=>∃ a C,x=.ref a∧H2 a=some (zna a C)∧(∃ fI,ExI K C fI)∧PySem.W.findIn K (.ref C) f=some none ∧
 ∀ dx,H2 dx=none→dx≠a→D.nx σ (upd (upd H2 a (zm9 a C dx)) dx (.xd [(f,v)]))
section
variable {X:Cx} {x:Str} {D:Addr} {np apos pos pos':Pos} {e o value:Expr} {es:List Expr} {t:TA} {to tv:TE} {f:Str}
theorem zfD {pl:Sem Bool} (hg:Gl X x) (hm:X.mg x=some (.ref D)) (B:ExB X.K D) (ha:PA X (e::es) t) (hdb:(x == ("__debug__":Str))=false:=by decide)
  (hst:starEach (e::es) X.env=(false,eval e X.env)::starEach es X.env:=by rfl) (hpl:(backTo pos (starEach es X.env)).any (·.1)=false:=by rfl)
  (ht:eval (.Call (.Attribute (.Name x np) "__init__" apos) (e::es) [] pos) X.env=(do
   let ov ← eval (.Name x np) X.env
   standAt apos.atName
   let (f,first) ← holding [ov] (getMethod ov "__init__" pl)
   callWith pos f first (backTo pos (starEach (e::es) X.env)) (backToKw pos (keywordEach [] X.env))):=by rfl) :
  PE X (.Call (.Attribute (.Name x np) "__init__" apos) (e::es) [] pos) (tBI X.K t):=by
 intro pins s σ H Q I h
 refine PySem.W.methodCall_KW (pl:=pl) (zdg I hg hm ?_ hdb) ht
 refine PySem.W.method_cls I.kIn B.sg (PySem.W.cls_value I.kIn B.rd B.fc rfl ?_)
 have I1:=I.tok (s.toks+1)
 have hA:=ha pos pins _ σ H _ I1 h
 rw [hst] at hA ⊢
 refine Calls.callWith_builtin (by show (false || (backTo pos (starEach es X.env)).any (·.1))=false;rw [hpl] <;> rfl) (Calls.evalArgs_plain ?_)
 refine thn hA fun us s2 hQ'=>?_
 obtain ⟨vs,H2,I2,r2,y,v,C,e1,e2,Z,q⟩:=hQ'
 subst e1
 obtain ⟨u1,u2,rfl,r3,r4⟩:=r2.two
 cases r3
 exact znm (us:=[u2]) I2 e2 Z (by show 1≤sizeLine;decide) fun s' I'=>⟨.non,H2,I',rfl,q⟩
theorem zkq (ho:PE X o to) (hv:PE X value tv) (hs:swapsWith value (some (.Attribute o f pos')) pos.line X.env=pure false):PS X (.Assign [.Attribute o f pos'] value pos) (zsk X.K to tv f):=by
 intro pins s σ H D I h
 refine plainObj_wpAny_Assign_Attribute (thn (hv pins s σ H _ I h) fun u s1 ⟨y,H1,I1,ry,q⟩=>thn (ho pins s1 σ H1 _ I1 q) fun ov s2 hQ'=>?_) hs
 obtain ⟨z,H2,I2,rx,a,C,ex,ea,⟨fI,Z⟩,na,q2⟩:=hQ'
 subst ex
 obtain rfl:ov=Value.ref a:=rx
 obtain ⟨⟨ox,t0,hx,hc,hd,hf⟩,_⟩:=(I2.hok a _ ea:zbH X.prog X.w H2 s2.heap a (zna a C))
 have J:PySem.W.InstAt s2.heap a ox C none:=⟨hx,hc,by unfold PySem.W.notCls;rw [hf],by rw [hd];exact True.intro⟩
 refine PySem.W.set_plain I2.kIn J Z.sa ?_
 obtain ⟨hh,g,d,tk,os⟩:=s2
 refine zs2 I2.kIn Z na hx hc hd hf fun h3 tk3 gx n3 keep=>?_
 have fr:H2 hh.objs.size=none:=I2.hok.fresh (Nat.le_refl _)
 have ne:hh.objs.size≠a:=(Nat.ne_of_lt (Heap.lt_size hx)).symm
 have W:=I2.write (x:=a) (e:=a) (o:=zm9 a C hh.objs.size) (t':=tk3) (h':=h3) (by rw [ea];exact True.intro) (.inl rfl) (fun b v nb e=>keep b v nb e) ⟨_,gx⟩ ⟨⟨_,t0,gx,hc,rfl,hf⟩,⟨_,gx⟩,fun _ _ ⟨o,t0,e,r⟩ k=>⟨o,t0,k o e,r⟩⟩
 have fr2:upd H2 a (zm9 a C hh.objs.size) hh.objs.size=none:=by rw [zaj ne];exact fr
 have V:=W.track (a:=hh.objs.size) (o:=.xd [(f,y)]) fr2 (Heap.get?_none_of_le I2.sz) (fun z=>?_) (fun y c e z=>?_) (fun p hp z=>?_) ⟨_,n3,fun k=>?_⟩
 ·exact ⟨σ,_,V,q2 _ fr ne⟩
 ·obtain ⟨m,⟨o,_,_,e,_⟩,_⟩:=I2.loc
  exact absurd z.symm (Nat.ne_of_lt (Heap.lt_size e))
 ·obtain ⟨v,o,e1,_⟩:=I2.cell y c e
  exact absurd z (Nat.ne_of_lt (Heap.lt_size e1))
 ·exact absurd z (Nat.ne_of_lt (Heap.lt_size (I2.pin p hp).1))
 ·show zoz (List.lookup k [(f,y)]) (if k=f then some u else none)
  by_cases c:k=f
  ·subst c
   rw [if_pos rfl]
   simp only [List.lookup,beq_self_eq_true]
   exact ry
  ·rw [if_neg c]
   have:(k == f)=false:=beq_eq_false_iff_ne.mpr c
   simp only [List.lookup,this]
   exact trivial
end
section
variable {X:Cx} {CX:CXT} {k:Nat} {f C:Addr} {fd:FuncData} {ps:List Str} {sp:Sp} {E:XK} {x:Str} {p pos:Pos} {e:Expr} {es:List Expr} {t:TA}
theorem Inv.laidAt {pins:List (Addr×Obj)} {σ:St} {H:Hp} {s:Shared} {h':Heap} {a:Addr} {o:HO} (I:Inv X pins σ H s) (kp:∀ b u,s.heap.get? b=some u→h'.get? b=some u) (hp:s.heap.objs.size≤a) (new:zbH X.prog X.w (upd H a o) h' a o) :
  Inv X pins σ (upd H a o) { s with heap:=h' }:=I.laid (t':=s.toks) kp hp new
theorem zoh {pins:List (Addr×Obj)} {σ:St} {H:Hp} {s:Shared} {Q:VK} {us:List Value} {vs:List V} (Z:ExI X.K C f) (F:zcW X.prog X.w X.K X.mg X.base CX k f fd ps sp) (hr:zej (k+1) X.A) (hb:zbF X.K fd ps []) (hx:zgb CX X E)
  (I:Inv X pins σ H s) (r:zbZ vs us) (hl:us.length≤sizeLine) (h:∀ y,H y=none→X.s₀.heap.get? y=none→sp (.ref y::vs) (upd H y (zna y C)) (fun v H2=>v=.non∧Q (.ref y) H2) E) :
  wpAny (model X.prog X.w) X.A (call (.ref C) us) (EP X pins σ Q) X.xe s:=by
 obtain ⟨hh,g,d,tk,os⟩:=s
 refine zo4 I.kIn Z hl fun h1 y ey M=>?_
 have hy:hh.objs.size≤y:=by rw [ey];exact Nat.le_succ _
 obtain ⟨t0,gy,_,_⟩:=M.there
 have I2:=I.laidAt (a:=y) (o:=zna y C) M.keeps hy ⟨⟨_,t0,gy,rfl,rfl,rfl⟩,⟨_,gy⟩,fun _ _ ⟨o,t0,e,r⟩ k=>⟨o,t0,k o e,r⟩⟩
 have hq:=h y (I.hok.fresh hy) (Heap.get?_none_of_le (Nat.le_trans I.sz hy))
 have r2:zbZ (V.ref y::vs) (Value.ref y::us):=.cons rfl r
 have hl2:(Value.ref y::us++[]).length=ps.length:=by
  rw [List.append_nil,← r2.length]
  exact F.len _ _ _ _ hq
 have B:=hb _ (Value.ref y::us) I2.kIn hl2
 rw [List.append_nil] at B
 refine wpAny_call (codeAny_mono (F.run _ X.stack _ _ ⟨Value.ref y::us,[]⟩ (Value.ref y::us) _ _ E (hr.make C us []) (I2.env0.make C us []) B r2 hq) fun res s' hq'=>?_)
 cases res with
 | error e=>exact hx pins σ _ _ e s' I2 hq'
 | ok fl =>
  cases fl with
  | ret u =>
   obtain ⟨v,H',I3,rv,ev,q3⟩:=I2.after hq'
   subst ev
   exact ⟨rv,⟨V.ref y,H',I3,rfl,q3⟩⟩
  | next=>exact False.elim hq'
  | brk=>exact False.elim hq'
  | cont=>exact False.elim hq'
end
def CXV (P:Program) (w:World):CXT:=fun outer H s E e s'=>∃ (ea:Addr) (B:Heap) (cls a0:Value) (H':Hp) (od:Option Addr),e=.ref ea∧ztL P w outer H s (fun c _ H'=>E c od H') ea s' B cls a0 H'∧zjp ea od s'.heap
def zeg (H:Hp) (x:Addr):Hp:=fun b=>if b=x then none else H b
theorem zbb {H:Hp} {x b:Addr} (h:b≠x):zeg H x b=H b:=if_neg h
theorem zdQ {H:Hp} {x:Addr}:zeg H x x=none:=if_pos rfl
theorem zhN {H:Hp} {x b:Addr} {u:HO} (h:zeg H x b=some u):b≠x∧H b=some u:=by
 unfold zeg at h
 split at h
 ·cases h
 ·rename_i n
  exact ⟨n,h⟩
section
variable {P:Program} {w:World} {K:PySem.W.Frag} {mg:Str→Option Value} {base:Heap} {N:List Str} {qual:Str} {scope:Scope} {f:Addr} {cd:Value} {A:Around} {outer:List Env} {s₀:Shared} {H₀:Hp} {E:XK}
theorem zsI:zgb (CXV P w) (zjY (CXV P w) P w K mg base N qual scope f cd A outer s₀ H₀ E) E:=by
 intro pins σ H s e s' I h
 obtain ⟨ea,B,cls,a0,H',od,rfl,x,dd⟩:=h
 have hfr:=I.ok.frames
 have ff:=x.fly.2.2.1
 refine zhm (zeW _ _) dd (wpAny_leaves_onW (base:=B) (L:=s₀.heap.objs.size) hfr rfl x.fly fun h' fl sm dd'=>?_)
 obtain ⟨un2,hok2⟩:=x.later fl.1 sm ff
 have neL:∀ b o,s₀.heap.get? b=some o→b≠s₀.heap.objs.size:=fun b o e=>Nat.ne_of_lt (Heap.lt_size e)
 have notin:∀ b o,s₀.heap.get? b=some o→b∉frs outer→b∉frs (envOfC qual scope s₀.heap.objs.size f cd::outer):=fun b o e hb z=>by
  rcases List.mem_cons.mp (I.stkSub b z) with q | q
  ·exact neL b o e q
  ·exact hb q
 have un:Un (frs outer) [] H₀ H' s₀.heap h':=by
  refine ⟨fun b o e n hb hx=>?_,fun b o e n hb hx=>?_,fun b o e n hx=>?_,fun b o e hx=>?_,fun b xs e=>x.un.tups b xs (I.base.tups b xs e),fun b o u e=>x.un.frzs b o u (I.base.frzs b o u e),fun b ps e=>?_⟩
  ·exact un2.keep b o (I.base.keep b o e n hb hx) (I.base.free b o e n hx) (notin b o e hb) (by simp)
  ·obtain ⟨sl,e1⟩:=I.base.slot b o e n hb hx
   obtain ⟨sl',e2⟩:=un2.any e1 (I.base.free b o e n hx) (by simp)
   exact ⟨sl',e2⟩
  ·obtain ⟨o',e1⟩:=I.base.there b o e hx
   exact x.un.free b o' e1 (I.base.free b o e n hx) (by simp)
  ·obtain ⟨o',e1⟩:=I.base.there b o e hx
   exact un2.there b o' e1 (by simp)
  ·obtain ⟨m1,e1⟩:=I.base.tbls b ps e
   obtain ⟨m2,e2⟩:=x.un.tbls b _ e1
   exact ⟨m1++m2,by rw [e2,Array.append_assoc]⟩
 refine ⟨ea,B,cls,a0,H',od,rfl,⟨x.os.trans I.os,x.bare,un,x.hokB,fl,fun b o e n hb=>?_,fun b o e hb=>?_,?_,x.free,x.want⟩,dd'⟩
 ·exact x.cov b o (I.base.keep b o e n hb (by intro z;cases z)) (I.base.free b o e n (by intro z;cases z)) (notin b o e hb)
 ·obtain ⟨o',e1⟩:=I.base.there b o e (by intro z;cases z)
  exact x.covT b o' e1 (notin b o e hb)
 ·cases q:s₀.heap.get? ea with
  | none=>rfl
  | some o =>
   obtain ⟨o',e1⟩:=I.base.there ea o q (by intro z;cases z)
   rw [x.new] at e1
   cases e1
end
def zlf (X:Cx) (E:XK):Prop:=∀ (pins:List (Addr×Obj)) (σ:St) (H:Hp) (s:Shared) (y C dx:Addr),Inv X pins σ H s→H y=some (zm9 y C dx)→X.s₀.heap.get? y=none→E (.ref C) (some dx) (zeg H y)→X.xe (.ref y) s
section
variable {P:Program} {w:World} {K:PySem.W.Frag} {mg:Str→Option Value} {base:Heap} {N:List Str} {qual:Str} {scope:Scope} {f:Addr} {cd:Value} {A:Around} {outer:List Env} {s₀:Shared} {H₀:Hp} {E:XK}
theorem zgi:zlf (zjY (CXV P w) P w K mg base N qual scope f cd A outer s₀ H₀ E) E:=by
 intro pins σ H s y C dx I hy n0 q
 replace n0:s₀.heap.get? y=none:=n0
 obtain ⟨⟨oy,t0,gy,cy,dy,fy⟩,_⟩:=(I.hok y _ hy:zbH _ _ H s.heap y (zm9 y C dx))
 have hfr:=I.ok.frames
 have hst:s.heap.FunFrames base (envOfC qual scope s₀.heap.objs.size f cd::outer):=I.stack
 have fresh:∀ b∈frs (envOfC qual scope s₀.heap.objs.size f cd::outer),H b=none:=I.stkFree
 have yf:y∉frs (envOfC qual scope s₀.heap.objs.size f cd::outer):=fun z=>by rw [fresh y z] at hy;cases hy
 have inB:∀ b o,s.heap.get? b=some o→b≠y→b∉frs (envOfC qual scope s₀.heap.objs.size f cd::outer)→(PySem.W.hideAll s.heap (y::frs (envOfC qual scope s₀.heap.objs.size f cd::outer))).get? b=some o:=fun b o e ny n =>
  PySem.W.hideAll_get _ e (fun z=>(List.mem_cons.mp z).elim ny n)
 have st0:(PySem.W.hideAll s.heap (y::frs (envOfC qual scope s₀.heap.objs.size f cd::outer))).StaysIn s.heap:=fun b o q=>PySem.W.of_hideAll _ q
 have hl:s.heap.FunFrames (PySem.W.hideAll s.heap (y::frs (envOfC qual scope s₀.heap.objs.size f cd::outer))) (envOfC qual scope s₀.heap.objs.size f cd::outer) :=
  PySem.W.funFrames_hide hst fun env he a ha=>List.mem_cons_of_mem _ (List.mem_filterMap.mpr ⟨env,he,ha⟩)
 have yB:(PySem.W.hideAll s.heap (y::frs (envOfC qual scope s₀.heap.objs.size f cd::outer))).get? y=none:=PySem.W.hideAll_none _ List.mem_cons_self
 generalize PySem.W.hideAll s.heap (y::frs (envOfC qual scope s₀.heap.objs.size f cd::outer))=B at inB st0 hl yB
 refine zhm (zeW _ _) ⟨oy,gy,dy⟩ (wpAny_leaving_firstW (base:=B) (L:=s₀.heap.objs.size) (a0:=.ref t0) hfr hl rfl gy st0 yB fy rfl rfl fun h2 lf d2=>?_)
 obtain ⟨x1,⟨_,_,x2⟩,x3,x4⟩:=lf
 have neL:∀ b o,s₀.heap.get? b=some o→b≠s₀.heap.objs.size:=fun b o e=>Nat.ne_of_lt (Heap.lt_size e)
 have ney:∀ b o,s₀.heap.get? b=some o→b≠y:=fun b o e z=>by rw [z,n0] at e;cases e
 have notin:∀ b o,s₀.heap.get? b=some o→b∉frs outer→b∉frs (envOfC qual scope s₀.heap.objs.size f cd::outer):=fun b o e hb z=>by
  rcases List.mem_cons.mp (I.stkSub b z) with q | q
  ·exact neL b o e q
  ·exact hb q
 have slot:∀ b o,s.heap.get? b=some o→b∈frs outer→∃ sl,h2.get? b=some { o with slots:=sl }:=fun b o e hb=>by
  obtain ⟨_,o',e',nf⟩:=hl.2.2.mem hb
  rw [e] at e'
  cases e'
  exact x4 b o e nf
 have hokB:HOk P w (zeg H y) B:=fun b u e=>by
  obtain ⟨nb,e'⟩:=zhN e
  refine (I.hok b u e').stay (fun c v hc q=>inB c v q (fun z=>?_) fun z=>?_) (fun c q=>?_) fun c xs q=>?_
  ·rcases hc with r | r
   ·exact nb (r.symm.trans z)
   ·rw [z,hy] at r
    cases r
  ·rcases hc with r | r
   ·rw [r] at z
    rw [fresh b z] at e'
    cases e'
   ·rw [fresh c z] at r
    cases r
  ·rw [zbb fun z=>by rw [z,hy] at q;cases q]
   exact q
  ·rw [zbb fun z=>by rw [z,hy] at q;cases q]
   exact q
 have un:Un (frs outer) [] H₀ (zeg H y) s₀.heap h2:=by
  refine ⟨fun b o e n hb hx=>?_,fun b o e n hb hx=>?_,fun b o e n hx=>?_,fun b o e hx=>?_,fun b xs e=>?_,fun b o u e=>?_,fun b ps e=>?_⟩
  ·exact x1 b o (inB b o (I.base.keep b o e n hb hx) (ney b o e) (notin b o e hb))
  ·obtain ⟨sl,e1⟩:=I.base.slot b o e n hb hx
   obtain ⟨sl',e2⟩:=slot b _ e1 hb
   exact ⟨sl',e2⟩
  ·rw [zbb (ney b o e)]
   exact I.base.free b o e n hx
  ·obtain ⟨o',e1⟩:=I.base.there b o e hx
   by_cases hb:b∈frs outer
   ·obtain ⟨sl,e2⟩:=slot b o' e1 hb
    exact ⟨_,e2⟩
   ·exact ⟨o',x1 b o' (inB b o' e1 (ney b o e) (notin b o e hb))⟩
  ·have z:=I.base.tups b xs e
   rw [zbb fun q=>by rw [q,hy] at z;cases z]
   exact z
  ·have z:=I.base.frzs b o u e
   rw [zbb fun q=>by rw [q,hy] at z;cases z]
   exact z
  ·obtain ⟨m,z⟩:=I.base.tbls b ps e
   refine ⟨m,?_⟩
   rw [zbb fun q=>by rw [q,hy] at z;cases z]
   exact z
 rw [cy] at x3
 refine ⟨y,B,.ref C,.ref t0,zeg H y,some dx,rfl,⟨I.os,I.bare,un,hokB,⟨x1,yB,x2,x3⟩,fun b o e n hb=>?_,fun b o e hb=>?_,n0,zdQ,q⟩,d2⟩
 ·exact inB b o (I.base.keep b o e n hb (by intro z;cases z)) (ney b o e) (notin b o e hb)
 ·obtain ⟨o',e1⟩:=I.base.there b o e (by intro z;cases z)
  exact ⟨o',inB b o' e1 (ney b o e) (notin b o e hb)⟩
end
section
variable {P:Program} {w:World} {K:PySem.W.Frag} {mg:Str→Option Value} {base:Heap} {N:List Str} {qual:Str} {scope:Scope} {f:Addr} {cd:Value} {A:Around} {outer:List Env} {s₀:Shared} {H₀:Hp} {E:XK}
theorem zti {C:Addr}:zru (zjY (CXV P w) P w K mg base N qual scope f cd A outer s₀ H₀ E) C E:=by
 intro pins σ H s ea h' args I hx q
 have hfr:=I.ok.frames
 have hst:s.heap.FunFrames base (envOfC qual scope s₀.heap.objs.size f cd::outer):=I.stack
 have fresh:∀ b∈frs (envOfC qual scope s₀.heap.objs.size f cd::outer),H b=none:=I.stkFree
 have inB:∀ b o,s.heap.get? b=some o→b∉frs (envOfC qual scope s₀.heap.objs.size f cd::outer)→(PySem.W.hideAll s.heap (frs (envOfC qual scope s₀.heap.objs.size f cd::outer))).get? b=some o:=fun b o e n=>PySem.W.hideAll_get _ e n
 have st0:(PySem.W.hideAll s.heap (frs (envOfC qual scope s₀.heap.objs.size f cd::outer))).StaysIn s.heap:=fun b o q=>PySem.W.of_hideAll _ q
 have hl:s.heap.FunFrames (PySem.W.hideAll s.heap (frs (envOfC qual scope s₀.heap.objs.size f cd::outer))) (envOfC qual scope s₀.heap.objs.size f cd::outer) :=
  PySem.W.funFrames_hide hst fun env he a ha=>List.mem_filterMap.mpr ⟨env,he,ha⟩
 generalize PySem.W.hideAll s.heap (frs (envOfC qual scope s₀.heap.objs.size f cd::outer))=B at inB st0 hl
 obtain ⟨t9,g9,_,_⟩:=hx.there
 refine zhm (zeW _ _) ⟨_,g9,rfl⟩ (wpAny_leaves_madeW (base:=B) (h:=s.heap) (L:=s₀.heap.objs.size) hfr rfl st0 hl hx fun h2 t x1 x2 x3 x4 d2=>?_)
 have neL:∀ b o,s₀.heap.get? b=some o→b≠s₀.heap.objs.size:=fun b o e=>Nat.ne_of_lt (Heap.lt_size e)
 have notin:∀ b o,s₀.heap.get? b=some o→b∉frs outer→b∉frs (envOfC qual scope s₀.heap.objs.size f cd::outer):=fun b o e hb z=>by
  rcases List.mem_cons.mp (I.stkSub b z) with q | q
  ·exact neL b o e q
  ·exact hb q
 have slot:∀ b o,s.heap.get? b=some o→b∈frs outer→∃ sl,h2.get? b=some { o with slots:=sl }:=fun b o e hb=>by
  obtain ⟨_,o',e',nf⟩:=hl.2.2.mem hb
  rw [e] at e'
  cases e'
  exact x4 b o (hx.keeps b o e) nf
 have hokB:HOk P w H B:=fun b u e=>(I.hok b u e).stay (fun c v hc q=>inB c v q fun z=>by
  rcases hc with r | r
  ·rw [r] at z
   rw [fresh b z] at e
   cases e
  ·rw [fresh c z] at r
   cases r) (fun _ q=>q) fun _ _ q=>q
 have un:Un (frs outer) [] H₀ H s₀.heap h2:=by
  refine ⟨fun b o e n hb hx=>?_,fun b o e n hb hx=>?_,I.base.free,fun b o e hx=>?_,I.base.tups,I.base.frzs,I.base.tbls⟩
  ·exact x1.1 b o (inB b o (I.base.keep b o e n hb hx) (notin b o e hb))
  ·obtain ⟨sl,e1⟩:=I.base.slot b o e n hb hx
   obtain ⟨sl',e2⟩:=slot b _ e1 hb
   exact ⟨sl',e2⟩
  ·obtain ⟨o',e1⟩:=I.base.there b o e hx
   by_cases hb:b∈frs outer
   ·obtain ⟨sl,e2⟩:=slot b o' e1 hb
    exact ⟨_,e2⟩
   ·exact ⟨o',x1.1 b o' (inB b o' e1 (notin b o e hb))⟩
 refine ⟨ea,B,.ref C,.ref t,H,none,rfl,⟨I.os,I.bare,un,hokB,x1,fun b o e n hb=>?_,fun b o e hb=>?_,?_,?_,q⟩,d2⟩
 ·exact inB b o (I.base.keep b o e n hb (by intro z;cases z)) (notin b o e hb)
 ·obtain ⟨o',e1⟩:=I.base.there b o e (by intro z;cases z)
  exact ⟨o',inB b o' e1 (notin b o e hb)⟩
 ·cases q:s₀.heap.get? ea with
  | none=>rfl
  | some o =>
   obtain ⟨o',e1⟩:=I.base.there ea o q (by intro z;cases z)
   rw [hx.new] at e1
   cases e1
 ·cases q:H ea with
  | none=>rfl
  | some u =>
   obtain ⟨o',e1⟩:=(I.hok ea u q).there
   rw [hx.new] at e1
   cases e1
end
section
variable {K:PySem.W.Frag} {prog:Program} {w:World} {A:Around} {E:Value→Shared→Prop} {s:Shared} {env:Env} {C fI:Addr}
theorem zoT {xs:Sem Value} {Q:Flow→Shared→Prop} (Z:ExI K C fI) (hh:A.handled=none)
  (h:wpAny (model prog w) A xs (fun v s1=>∃ y o fs,v=.ref y∧K.In s1.heap∧s1.heap.get? y=some o∧o.cls=.ref C∧o.data=.fields fs∧fs[1]?=some .none∧E (.ref y) s1) E s):wpAny (model prog w) A (raiseStmt env (some xs) none) Q E s:=by
 obtain ⟨nm,q,N,bs,bm,sn,sub,ab,col,dd,k0,k1,k2,k3,k5,lk,tl⟩:=Z.lk
 unfold raiseStmt
 refine wpAny_bind (wpAny_mono h (fun v s1 z=>?_) fun _ _ z=>z)
 obtain ⟨y,o,fs,rfl,X,gy,cy,fy,f1,hE⟩:=z
 obtain ⟨hp,g,d,tk,os⟩:=s1
 have kC:=X _ _ lk
 have T:=PySem.W.tail_of_in X tl
 have cB:(Value.ref C::bm).contains (.type "BaseException")=true:=by rw [List.contains_cons,T.hasType PySem.F.excBase_ValueError.hasBase,Bool.or_true]
 obtain ⟨oc,od,odt,osl⟩:=o
 dsimp only at cy fy
 subst cy fy
 repeat (first | (with_reducible refine wpAny_loadPart_at gy ?_) | (with_reducible refine wpAny_loadPart_at kC ?_) | (with_reducible refine wpAny_isSubtype_exc kC ?_;rw [cB]) | wp_step)
 rw [f1]
 refine wpAny_pure ?_
 rw [if_neg (by decide)]
 exact wpAny_pure (wpAny_raiseNew_none hh hE)
end
def zjj (C:Addr) (nm:Str):Sp:=fun vs H Q _=>∃ y v,vs=[.ref y,v]∧H y=some (zna y C)∧∀ dx,H dx=none→dx≠y→Q .non (upd (upd H y (zm9 y C dx)) dx (.xd [(nm,v)]))
def zbY (C:Addr) (nm:Str) (E:XK) (t:TA):TS:=fun _ σ H=>t σ H fun vs H1=>∃ v,vs=[v]∧∀ dx,H1 dx=none→E (.ref C) (some dx) (upd H1 dx (.xd [(nm,v)]))
theorem zj4 {H:Hp} {y dx:Addr} {o u:HO} (h:H y=none) (n:dx≠y):zeg (upd (upd H y o) dx u) y=upd H dx u:=by
 funext b
 unfold zeg upd
 by_cases e:b=y
 ·rw [if_pos e,if_neg (by rw [e];exact n.symm),e,h]
 ·rw [if_neg e]
  by_cases e2:b=dx
  ·rw [if_pos e2,if_pos e2]
  ·rw [if_neg e2,if_neg e,if_neg e2]
theorem zcL {X:Cx} {CX:CXT} {k:Nat} {C f:Addr} {fd:FuncData} {ps:List Str} {nm x:Str} {E:XK} {np cpos pos:Pos} {e:Expr} {es:List Expr} {t:TA} (Z:ExI X.K C f) (F:zcW X.prog X.w X.K X.mg X.base CX k f fd ps (zjj C nm)) (hr:zej (k+1) X.A) (hg:Gl X x) (hm:X.mg x=some (.ref C))
  (hb:zbF X.K fd ps []) (hx:zgb CX X E0) (hc:X.calm=true) (hT:zlf X E) (ha:PA X (e::es) t) (hdb:(x == ("__debug__":Str))=false:=by decide) (he:starEach (e::es) X.env=(false,eval e X.env)::starEach es X.env:=by rfl) (hpl:(backTo cpos (starEach es X.env)).any (·.1)=false:=by rfl) :
  PS X (.Raise (some (.Call (.Name x np) (e::es) [] cpos)) none pos) (zbY C nm E t):=by
 intro pins s σ H D I h
 rw [arm_exec_Raise]
 refine wpAny_bind (wpAny_standAt (zoT Z (I.ok.hd hc) (wpAny_bind (wpAny_mono (Q:=fun v s1=>∃ y o fs,v=.ref y∧X.K.In s1.heap∧s1.heap.get? y=some o∧o.cls=.ref C∧o.data=.fields fs∧fs[1]?=some .none∧X.xe (.ref y) s1) ?_ (fun v s3 h3=>wpAny_bind (wpAny_standAt (wpAny_pure h3))) fun _ _ z=>z))))
 refine wpAny_Call_Name_kw (zdg I hg hm ?_ hdb)
 refine PySem.W.callWith_K (h₀:=X.base) I.ok.mod.kin Z.kp (thn (ha cpos pins s σ H _ I h) fun us s1 ⟨vs,H1,I1,r,v,e1,q⟩=>⟨I1.kIn,?_⟩) he hpl
 subst e1
 obtain ⟨u,rfl,ru⟩:=zfG r
 refine thn (zoh (Q:=fun z H2=>∃ y dx,z=.ref y∧X.s₀.heap.get? y=none∧H2 y=some (zm9 y C dx)∧E (.ref C) (some dx) (zeg H2 y)) Z F hr hb hx I1 r (by show 1≤sizeLine;decide) fun y hy n0=>?_) fun z s2 ⟨v2,H2,I2,rz,y,dx,ev,n0,hy,hE⟩=>?_
 ·refine ⟨y,v,rfl,zad,fun dx hd nd=>⟨rfl,y,dx,rfl,n0,?_,?_⟩⟩
  ·rw [zaj nd.symm,zad]
  ·rw [zko] 
   have hd1:H1 dx=none:=by rw [zaj nd] at hd;exact hd
   rw [zj4 hy nd]
   exact q dx hd1
 ·subst ev
  obtain rfl:z=Value.ref y:=rz
  obtain ⟨⟨oy,t0,gy,cy,dy,fy⟩,_⟩:=(I2.hok y _ hy:zbH X.prog X.w H2 s2.heap y (zm9 y C dx))
  exact ⟨y,oy,_,rfl,I2.kIn,gy,cy,fy,rfl,hT pins σ H2 s2 y C dx I2 hy n0 hE⟩
theorem Fun.okV {P:Program} {w:World} {K:PySem.W.Frag} {mg:Str→Option Value} {base:Heap} {x qual:Str} {st:Stmt} {f:Addr} {fd:FuncData} {N ps:List Str} {k:Nat} {sp:Sp} (F:Fun K x qual st f fd) (S:zaP N ps (zau st)) (len:∀ vs H Q E,sp vs H Q E→vs.length=ps.length)
  (hbody:∀ (cdv:Value) (A:Around) (outer:List Env) (s:Shared) (H:Hp) (vs:List V) (Q:VK) (E:XK),zej k (A.deeper (envOfC qual (zau st) s.heap.objs.size f cdv))→sp vs H Q E →
   ∃ t,PSs (zjY (CXV P w) P w K mg base N qual (zau st) f cdv A outer s H E) (zb0 st) t∧t { nx:=fun _ H'=>Q .non H',rt:=Q } (L2.zbB N vs) H):zcW P w K mg base (CXV P w) (k+1) f fd ps sp:=by
 obtain ⟨oc,od,kV,doc,pm,an,cdv,ct,osl,rfl,lk,hcd⟩:=F.ex
 exact zpS lk hcd S len fun A outer s H vs Q E hr hsp=>hbody cdv A outer s H vs Q E hr hsp
def zlv (a:Addr) (c:Value) (od:Option Addr) (h:Heap):Prop:=∃ oe vs,h.get? a=some oe∧oe.cls=c∧oe.data=.fields vs∧oe.dict=od
def zh0 (a:Addr) (c:Value) (od:Option Addr):HO:=.ext (zlv a c od)
theorem zlv.is {a:Addr} {c:Value} {od:Option Addr} {h:Heap} (x:zlv a c od h):zst a c h:=let ⟨oe,vs,e1,e2,e3,_⟩:=x;⟨oe,vs,e1,e2,e3⟩
def zo3 (K:PySem.W.Frag) (tb:(St→XK)→TS) (D:Value) (i:Nat) (th:TS):TS:=fun d σ H =>
 tb (fun σ' c od H'=>zfP K c∧PySem.W.subIn K c D=some true∧∀ a,H' a=none→th { d with nx:=fun σ2 H2=>d.nx (σ2.set i none) H2,bk:=fun σ2 H2=>d.bk (σ2.set i none) H2,ct:=fun σ2 H2=>d.ct (σ2.set i none) H2 } (σ'.set i (some (.ref a))) (upd H' a (zh0 a c od))) d σ H
def Cx.inTryV (X:Cx) (pins:List (Addr×Obj)) (E:St→XK):Cx:={ X with
 pn:=X.pn++pins
 xe:=fun e s'=>∃ pins' σ H s,Inv { X with pn:=X.pn++pins } pins' σ H s∧CXV X.prog X.w X.stack H s (E σ) e s' }
theorem Inv.toTryV {X:Cx} {pins:List (Addr×Obj)} {σ:St} {H:Hp} {s:Shared} (I:Inv X pins σ H s) (E:St→XK):Inv (X.inTryV pins E) [] σ H s :=
 ⟨I.ok.pinned _ _,I.os,I.bare,I.base,I.loc,I.cell,I.free,I.freeC,fun p hp=>I.pin p (by rw [List.append_nil] at hp;exact hp),I.hok,I.len⟩
theorem znH {X:Cx} {pins:List (Addr×Obj)} {E:St→XK}:zk8 (CXV X.prog X.w) (X.inTryV pins E) E:=fun pins' σ H s e s' I h =>
 ⟨pins',σ,H,s,⟨I.ok.pinned _ _,I.os,I.bare,I.base,I.loc,I.cell,I.free,I.freeC,I.pin,I.hok,I.len⟩,h⟩
theorem SP.ofTryV {X:Cx} {pins pins':List (Addr×Obj)} {E:St→XK} {D:zb9} {f:Flow} {s':Shared} (ok:X.Ok) (h:SP (X.inTryV pins E) pins' D f s'):SP X pins D f s':=by
 cases f with
 | next=>obtain ⟨σ',H',I,q⟩:=h;exact ⟨σ',H',I.ofTry ok,q⟩
 | brk=>obtain ⟨σ',H',I,q⟩:=h;exact ⟨σ',H',I.ofTry ok,q⟩
 | cont=>obtain ⟨σ',H',I,q⟩:=h;exact ⟨σ',H',I.ofTry ok,q⟩
 | ret u=>obtain ⟨v,σ',H',I,r,q⟩:=h;exact ⟨v,σ',H',I.ofTry ok,r,q⟩
theorem zkL {X:Cx} {i:Nat} {D:Addr} {x n:Str} {np pos hpos:Pos} {body:List Stmt} {b₀:Stmt} {suite:List Stmt} {tb:(St→XK)→TS} {th:TS} (hm:X.mg x=some (.ref D)) (hq:PySem.W.excIn X.K D zez "ValueError.__new__"=true)
  (hg:Gl X x) (hN:X.N.Nodup) (hi:X.N[i]?=some n) (hl:X.env.scope.names.lookup n=some .local) (hxe:X.xe=fun _ _=>False) (hst:X.stack=X.env::X.outer) (hfr:X.env.frame=some X.env.locals) (hex:X.ex=[])
  (hb:∀ pins E,PSs (X.inTryV pins E) body (tb E)) (hh:∀ ea,PSs (X.inExc ea) (b₀::suite) th) (hd:(x == ("__debug__":Str))=false:=by decide) :
  PS X (.Try body [.ExceptHandler (some (.Name x np)) (some n) (b₀::suite) hpos] [] [] pos) (zo3 X.K tb (.ref D) i th):=by
 intro pins s σ H d I h
 refine wpAny_Try_except (wpAny_mono (hb pins _ [] s σ H d (I.toTryV _) h) (fun f s₁ q=>?_) fun e s₁ q=>?_)
 ·have q':=SP.ofTryV I.ok q
  cases f with
  | next=>exact wpAny_execs_nil q'
  | brk=>exact q'
  | cont=>exact q'
  | ret u=>exact q'
 obtain ⟨pins',σ',H1,s1,I1,ea,B,cls,a0,H',od,rfl,x,dd⟩:=q
 replace I1:Inv X pins σ' H1 s1:=Inv.ofTry (xe:=X.xe) I1 I.ok
 obtain ⟨hec,hsub,hth⟩:=x.want
 have fly:=x.fly
 rw [hst] at fly
 have ff:=x.fly.2.2.1
 have hfrm:X.A.frames=some (X.env::X.outer):=by rw [← hst];exact I.ok.frames
 refine zhm (zgN _ _) dd (wpAny_looks_onW (base:=B) (L:=X.env.locals) hfrm hfr fly fun h4 hd4 sm4 d4=>?_)
 refine zhm (zer _ _) d4 (wpAny_landsW hd4 fun h5 fl5 sm5 d5=>?_)
 have invAt:∀ {h:Heap} {tk:Nat},B.StaysIn h→s₁.heap.UpToSlots h→Inv X pins σ' H' { s₁ with heap:=h,toks:=tk }:=fun {h tk} st sm=>by
  obtain ⟨un,hok⟩:=x.later st sm ff
  exact I1.call' (ch:=[]) x.os un hok x.bare fun b z=>nomatch z
 have I5:Inv X pins σ' H' { s₁ with heap:=h5 }:=invAt (tk:=s₁.toks) fl5.1 (sm4.trans sm5)
 have fmark:(X.A.mark (some (.ref ea))).frames=some X.stack:=I.ok.frames
 refine wpAny_handleBy_cons (codeAny_handlers_test ?_) (by intro q;cases q)
 refine zdg (X:=X.inExc ea) (I5.toExc fmark) hg hm ?_ hd
 have kin5:=I5.kIn
 obtain ⟨oe,hoe,hcls⟩:=fl5.there
 refine zhZ (cls:=cls) hoe hcls (zf9 kin5 hq) (PySem.W.looks_subIn kin5 hsub) ?_
 refine codeAny_handlers_suite_as ?_
 refine zhm (zer _ _) d5 (lands_againW fl5 fun h6 fl6 sm6 d6=>?_)
 have I6:Inv X pins σ' H' { s₁ with heap:=h6 }:=invAt (tk:=s₁.toks) fl6.1 ((sm4.trans sm5).trans sm6)
 have noat:∀ b o,s1.heap.get? b=some o→b≠ea:=fun b o e z=>by rw [z,x.new] at e;cases e
 have n0:X.s₀.heap.get? ea=none:=by
  cases q:X.s₀.heap.get? ea with
  | none=>rfl
  | some o =>
   obtain ⟨o',e1⟩:=I1.base.there ea o q (by rw [hex];intro z;cases z)
   exact absurd rfl (noat ea o' e1)
 have nL:ea≠X.env.locals:=by
  obtain ⟨m,⟨o,_,_,e,_⟩,_⟩:=I1.loc
  exact (noat _ o e).symm
 have nC:∀ y c,X.env.cells.lookup y=some c→c≠ea:=fun y c e=>by
  obtain ⟨v,z⟩:=I1.cell y c e
  obtain ⟨o,e1,_⟩:=z
  exact noat c o e1
 have nP:∀ p∈X.pn++pins,p.1≠ea:=fun p hp=>noat _ _ (I1.pin p hp).1
 have isx:zlv ea cls od h6:=by
  obtain ⟨_,_,_,oe,vs,_,_,_,he,hc,hd,_⟩:=fl6
  obtain ⟨o',e',ed⟩:=d6
  rw [he] at e'
  cases e'
  exact ⟨oe,vs,he,hc.1,hd,ed⟩
 have I7:=I6.track (o:=zh0 ea cls od) x.free n0 nL nC nP ⟨isx,by obtain ⟨oe,_,he,_⟩:=isx;exact ⟨oe,he⟩,fun h1 h2 ⟨oe,vs,he,r⟩ k=>⟨oe,vs,k oe he,r⟩⟩
 refine zga (X:=X.inExc ea) (v:=.ref ea) (I7.toExc fmark) hN hi (.inl hl) rfl (fun s8 I8=>?_) (.inr hl)
 refine wpAny_mono (hh ea pins s8 _ _ _ I8 (hth ea x.free)) (fun f s9 q=>?_) fun e s9 q=>?_
 ·cases f with
  | next =>
   obtain ⟨σ9,H9,I9,r⟩:=q
   exact ziP (I9.ofExc I.ok) hN hi hl fun s10 I10=>⟨_,_,I10,r⟩
  | brk =>
   obtain ⟨σ9,H9,I9,r⟩:=q
   exact ziP (I9.ofExc I.ok) hN hi hl fun s10 I10=>⟨_,_,I10,r⟩
  | cont =>
   obtain ⟨σ9,H9,I9,r⟩:=q
   exact ziP (I9.ofExc I.ok) hN hi hl fun s10 I10=>⟨_,_,I10,r⟩
  | ret u =>
   obtain ⟨v,σ9,H9,I9,rv,r⟩:=q
   exact ziP (I9.ofExc I.ok) hN hi hl fun s10 I10=>⟨v,_,_,I10,rv,r⟩
 ·rw [show (X.inExc ea).xe=X.xe from rfl,hxe] at q
  exact q.elim
section
open Builtin Builtin.ObjectAttr PySem.W
variable {K:PySem.W.Frag} {prog:Program} {w:World} {A:Around} {E:Value→Shared→Prop} {h:Heap} {g:Array GenState} {d:Drawn} {t:Nat} {os:OsState} {a C dx:Addr}
theorem zjE {f:Str} {tk:Tok} {v:Value} {o:Obj} {od:Option Obj} {Q:Fin→Shared→Prop} (X:K.In h) (J:PySem.W.InstAt h a o C od) (hf:PySem.W.findObj K C od f=some (.value v)) (hq:Q (.done (.ret v)) ⟨h,g,d,t,os⟩) :
  wpAny (model prog w) A (Builtin.«object.__getattribute__» ⟨[.ref a,.str f tk],[]⟩) Q E ⟨h,g,d,t,os⟩:=by
 have L0:=J.type (M:=model prog w)
 have L1:=PySem.W.looks_find (M:=model prog w) X J hf
 refine wpAny_bind (wpAny_pure (wpAny_bind (wpAny_pure (wpAny_bind (L0.at (wpAny_bind (L1.at ?_)))))))
 exact wpAny_pure hq
theorem zsO {f:Str} {v:Value} {b:Bool} {o:Obj} {od:Option Obj} {Q:Value→Shared→Prop} (X:K.In h) (Z:zcC K C) (J:PySem.W.InstAt h a o C od) (hf:PySem.W.findObj K C od f=some (.value v)) (hv:PySem.W.handedIn v=true) (hq:Q v ⟨h,g,d,t+1,os⟩) :
  wpAny (model prog w) A (getAttr (.ref a) f b) Q E ⟨h,g,d,t,os⟩:=by
 have FB:=PySem.F.attrBase_ValueError
 have LG:=PySem.W.looks_findIn (M:=model prog w) X Z.ga
 have LN:=PySem.W.looks_findIn (M:=model prog w) X Z.gn
 have hx:=J.at_
 have hc:=J.cls
 have f3:=FB.ga.bind (.ref a)
 have n2:(Value.builtin "BaseException.__getattribute__" == Value.builtin "object.__getattribute__")=false:=by decide +kernel
 have n1:(onTheHeap (Value.ref C)&&(Value.builtin "BaseException.__getattribute__" == Value.builtin "object.__getattribute__"))=false:=by rw [n2];rfl
 unfold getAttr
 repeat (any_goals (first | assumption | (with_reducible refine wpAny_loadPart_at hx ?_;rw [hc]) | with_reducible refine LG.at ?_ | with_reducible refine LN.at ?_ | wp_step))
 rw [show (b&&onTheHeap (Value.builtin "BaseException.__getattribute__"))=false from Bool.and_false _,if_neg Bool.false_ne_true]
 repeat (any_goals (first | assumption | wp_step))
 refine codeAny_call_builtin FB.ga.plain F.entry_bexc_ga (zgR X Z hx hc (zjE X J hf ?_))
 show wpAny _ _ (handedOut v) _ _ _
 rw [PySem.W.handedOut_of hv]
 exact wpAny_pure hq
end
structure zhV (K:PySem.W.Frag) (C:Addr) (f:Str):Prop where
 five:zcC K C
 hd:PySem.W.hasDictIn K C=true
 na:PySem.W.findIn K (.ref C) f=some none
def zpb (K:PySem.W.Frag) (ta:TE) (f:Str):TE:=fun σ H Q=>ta σ H fun x H1=>∃ a C dx fs v,x=.ref a∧H1 a=some (zh0 a (.ref C) (some dx))∧H1 dx=some (.xd fs)∧zhV K C f∧fs.lookup f=some v∧Q v H1
def zbL (K:PySem.W.Frag):List V→Hp→VK→Prop:=fun xs H Q=>∃ a c cv od dv b,xs=[.ref a,c]∧clsV c=some dv∧H a=some (zh0 a cv od)∧zfP K cv∧PySem.W.kitOne K cv dv=some b∧Q (.bl b) H
section
variable {X:Cx} {e:Expr} {f:Str} {pos:Pos} {ta:TE}
theorem zoZ (he:PE X e ta) (hb:attributeBase e f X.env (eval e X.env)=eval e X.env):PE X (.Attribute e f pos) (zpb X.K ta f):=by
 intro pins s σ H Q I h
 refine zsh hb (thn (he pins s σ H _ I h) fun u s1 hQ'=>?_)
 obtain ⟨x,H1,I1,rx,a,C,dx,fs,v,ex,ea,ed,Z,l,q⟩:=hQ'
 subst ex
 obtain rfl:u=Value.ref a:=rx
 obtain ⟨⟨oe,vs,ge,ce,fe,de⟩,_⟩:=(I1.hok a _ ea:zbH X.prog X.w H1 s1.heap a (zh0 a (.ref C) (some dx)))
 obtain ⟨mA,ns,r⟩:=(I1.hok dx _ ed:zbH X.prog X.w H1 s1.heap dx (.xd fs))
 obtain ⟨u,hu,ru⟩:=zoz.some_of (v:=v) (o:=mA f) (by rw [← l];exact r f)
 obtain ⟨oD,gD,lD⟩:=zj8 ns
 have J:PySem.W.InstAt s1.heap a oe C (some oD):=⟨ge,ce,by unfold PySem.W.notCls;rw [fe],by rw [de];exact gD⟩
 have I2:=I1.tok (s1.toks+1)
 obtain ⟨hh,g,d,t,os⟩:=s1
 exact zsO I1.kIn Z.five J (PySem.W.findObj_own Z.hd Z.na rfl (by rw [lD,hu])) (zod ru) ⟨v,H1,I2,ru,q⟩
theorem zaH:ze6 X (.builtin "isinstance") (zbL X.K):=by
 intro pins s σ H xs us Q I r h
 obtain ⟨a,c,cv,od,dv,b,rfl,hc,ha,k,e,q⟩:=h
 obtain ⟨u,w',rfl,rx,rw'⟩:=zmx r
 obtain rfl:=zlZ rw' hc
 cases (show u=Value.ref a from rx)
 obtain ⟨p,_,_⟩:=(show zbH X.prog X.w H s.heap a (zh0 a cv od) from I.hok a _ ha)
 exact PySem.W.kia_one (k.kit a) I.kIn p.is e (fun z=>nomatch z) fun tk=>⟨.bl b,H,I.tok tk,rfl,q⟩
end
theorem zmw {K:PySem.W.Frag} {C fI:Addr} (Z:zcC K C) (ZI:ExI K C fI):zfP K (.ref C):=by
 obtain ⟨nm,q,N,bs,bm,sn,sub,ab,col,dd,k0,k1,k2,k3,k5,lk,tl⟩:=ZI.lk
 exact ⟨fun x=>{
  ty:=fun M h _ p=>by
   obtain ⟨oe,vs,e,c,_⟩:=p
   exact c ▸ (PySem.W.Looks.ld e).andThen .now
  it:=fun M h X _=>by
   have hC:=X _ _ lk
   intro A' Q' E' s' k q
   unfold isType loadHead
   exact wpAny_bind (wpAny_loadPart (k _ _ hC) (wpAny_pure q))
  ne:=fun h tp dd its n sl X htp=>by
   have hC:=X _ _ lk
   refine Bool.eq_false_iff.mpr fun q=>?_
   have e:C=tp:=Value.ref.inj (beq_iff_eq.mp q)
   subst e
   rw [hC] at htp
   have z:=congrArg Obj.data (Option.some.inj htp)
   exact nomatch z
  ca:=fun {prog w A E Q s} X p q=>by
   obtain ⟨h,g,d,t,os⟩:=s
   obtain ⟨oe,vs,e,c,_⟩:=p
   exact zhe X Z PySem.F.attrBase_ValueError e c q }⟩
theorem zkH {K:PySem.W.Frag} {C fI:Addr} {nm:Str} {H:Hp} {Q:VK} {y:Addr} {v:V} (Z:ExI K C fI) (na:PySem.W.findIn K (.ref C) nm=some none) (hy:H y=some (zna y C)) (q:∀ dx,H dx=none→dx≠y→Q .non (upd (upd H y (zm9 y C dx)) dx (.xd [(nm,v)]))) :
  (zaN (zc2 (tBI K (zab (zac 0) (zab (zac 1) zav)))) (zsk K (zac 0) (zac 1) nm)) { nx:=fun _ H'=>Q .non H',rt:=Q } [some (.ref y),some v] H:=by
 simp only [zaN,zc2,tBI,zab,zav,zac,zsk,List.getElem?_cons_zero,List.getElem?_cons_succ,Option.some.injEq,exists_eq_left']
 exact ⟨y,v,C,rfl,hy,⟨_,Z⟩,y,C,rfl,hy,⟨_,Z⟩,na,q⟩
theorem zrR {P:Program} {w:World} {X:Cx}:zgb (CXV P w) X E0:=fun _ _ _ _ _ _ _ ⟨_,_,_,_,_,_,_,x,_⟩=>x.want.elim
def znC:Stmt→List Stmt
 | .ClassDef _ _ _ b _ _ _ _ _ _ _=>b
 | _=>[]
theorem zuT {us:List Value} (h:us.length=2):∃ x y,us=[x,y]:=match us,h with | [x,y],_=>⟨x,y,rfl⟩
end L2
namespace L2
open PySem
def ItzT (K:PySem.W.Frag) (p q:Addr):It where
 go:=fun i H=>∃ xs ys a b,SqT K H p xs∧SqT K H q ys∧xs[i]?=some a∧ys[i]?=some b
 yld:=fun i H x H'=>∃ t a b,x=.ref t∧H t=none∧H'=upd H t (.tup [a,b])∧(∀ xs,SqT K H p xs→xs[i]?=some a)∧∀ ys,SqT K H q ys→ys[i]?=some b
 stop:=fun i H=>∃ xs ys,SqT K H p xs∧SqT K H q ys∧i=min xs.length ys.length
def zq1 (K:PySem.W.Frag) (ta:TA):TI:=fun σ H R=>ta σ H fun vs H1=>∃ p q,vs=[.ref p,.ref q]∧(((∃ xs,SqL K H1 p xs)∧(∃ ys,SqL K H1 q ys)∧R (Itz K p q) H1)∨((∃ xs,SqT K H1 p xs)∧(∃ ys,SqT K H1 q ys)∧R (ItzT K p q) H1))
theorem zn1 {K:PySem.W.Frag} {p q:Addr} {xs ys:List V} {g:TG} {tb:TS} {D:zb9} {σ:St} {H:Hp} (Pv:Nat→St→Hp→Prop) (h0:Pv 0 σ H) (hl:∀ i σ H,i≤min xs.length ys.length→Pv i σ H→SqT K H p xs∧SqT K H q ys)
  (hs:∀ i x y t σ H,xs[i]?=some x→ys[i]?=some y→Pv i σ H→H t=none→g (.ref t) σ (upd H t (.tup [x,y])) fun σ2 H2=>tb { D with nx:=Pv (i+1),ct:=Pv (i+1),bk:=D.nx } σ2 H2) (hd:∀ σ H,Pv (min xs.length ys.length) σ H→D.nx σ H):zl9 (ItzT K p q) g tb D σ H:=by
 refine ⟨fun i m σ H=>m=min xs.length ys.length - i∧i≤min xs.length ys.length∧Pv i σ H,⟨_,rfl,Nat.zero_le _,h0⟩,?_⟩
 rintro i m σ H ⟨rfl,hi,pv⟩
 obtain ⟨hx,hy⟩:=hl i σ H hi pv
 by_cases hlt:i<min xs.length ys.length
 ·have l1:i<xs.length:=by (first|lia|omega)
  have l2:i<ys.length:=by (first|lia|omega)
  refine .inr ⟨⟨xs,ys,xs[i],ys[i],hx,hy,by simp [l1],by simp [l2]⟩,Pv (i+1),fun σ' H' p'=>⟨_,by (first|lia|omega),rfl,hlt,p'⟩,fun x H' yl=>?_⟩
  obtain ⟨t,a,b,rfl,ht,rfl,e1,e2⟩:=yl
  exact hs i a b t σ H (e1 xs hx) (e2 ys hy) pv ht
 ·have e:i=min xs.length ys.length:=by (first|lia|omega)
  subst e
  exact .inl ⟨⟨xs,ys,hx,hy,rfl⟩,hd σ H pv⟩
end L2
namespace L2.Srt
open PySem PyProof.Rows PySem.W
section
variable {prog:Program} {w:World} {A:Around} {E:Value→Shared→Prop} {s:Shared}
end
end L2.Srt
namespace L2
open PySem PySem.Spec PyProof.Rows
section
variable {X:Cx}
end
end L2
namespace L2.Srt
open PySem PyProof.Rows PySem.W
section
variable {prog:Program} {w:World} {A:Around} {E:Value→Shared→Prop} {s:Shared} {I l:Addr} {its:Array Value}
end
end L2.Srt
namespace L2
open PySem PySem.Spec PyProof.Rows
section
variable {X:Cx} {e:Expr} {t:TA} {p1 p2 pos1 pos2:Pos}
end
end L2
namespace L2.Zt
open PySem PySem.Spec PyProof.Rows
section
variable {P:Program} {w:World} {A:Around} {E:Value→Shared→Prop} {s:Shared}
theorem zrb {h h':Heap} {a t:Addr} {i:Nat} (x:h.IsTupleIter a t i) (k:∀ o,h.get? a=some o→h'.get? a=some o):h'.IsTupleIter a t i :=
 let ⟨o,e,r⟩:=x;⟨o,k o e,r⟩
theorem zhG {c t:Addr} {i:Nat} {us:Array Value} {u:Value} {R:Value→Shared→Prop} (n:s.heap.IsTupleIter c t i) (m:s.heap.IsTuple t us) (e:us[i]?=some u)
  (q:∀ h',h'.IsTupleIter c t (i+1)→Heap.SameBut c s.heap h'→R u { s with heap:=h' }):wpAny (model P w) A (Builtin.SmallTypes.nextOf (.ref c)) R E s:=by
 obtain ⟨oc,g1,g2,g3⟩:=id n
 obtain ⟨ot,f1,_,nt,f3⟩:=m
 unfold Builtin.SmallTypes.nextOf
 refine wpAny_bind (wpAny_callSpecial?_slot (name:=Str.ofString "__next__") n.typeIs F.slot_tuple_iterator_next (wpAny_call_entry F.slot_tuple_iterator_next n.typeIs F.entry_tuple_iterator_next ?_ (F.args_tuple_iterator_next_1 _)))
 show wpAny _ _ (field (.ref c) 0 >>= _) _ _ s;refine wpAny_bind (wpAny_field g1 g3 (x:=.ref t) rfl ?_)
 show wpAny _ _ (if (Value.ref t == Value.none)=true then _ else _) _ _ s;rw [if_neg (show ¬ ((Value.ref t == Value.none)=true) from Bool.false_ne_true)]
 show wpAny _ _ (field (.ref c) 1 >>= _) _ _ s;refine wpAny_bind (wpAny_field g1 g3 (x:=.int i 0) rfl ?_)
 show wpAny _ _ (seqItems? (.ref t) >>= _) _ _ s;refine wpAny_bind (wpAny_seqItems f1 f3 ?_)
 simp only [Int.toNat_natCast,e]
 refine wpAny_bind (wpAny_setField g1 g3 (by simp) (wpAny_pure ⟨u,rfl,wpAny_pure (q _ ?_ (Heap.SameBut.update ..))⟩))
 exact ⟨_,Heap.get?_update_self _ g1 (Obj.isFreed_of_fields (Obj.data_mapFields g3 _)),(Obj.cls_mapFields ..).trans g2,by rw [Obj.data_mapFields g3];simp [rawInt]⟩
theorem zlQ {c t:Addr} {i:Nat} {us:Array Value} {R:Value→Shared→Prop} (hh:A.handled=none) (n:s.heap.IsTupleIter c t i) (m:s.heap.IsTuple t us) (e:us[i]?=none)
  (q:∀ h' x,Heap.ExtBut c s.heap h'→(∃ o,h'.get? x=some o∧o.cls=.type "StopIteration")→E (.ref x) { s with heap:=h' }):wpAny (model P w) A (Builtin.SmallTypes.nextOf (.ref c)) R E s:=by
 obtain ⟨oc,g1,g2,g3⟩:=id n
 obtain ⟨ot,f1,_,nt,f3⟩:=m
 unfold Builtin.SmallTypes.nextOf
 refine wpAny_bind (wpAny_callSpecial?_slot (name:=Str.ofString "__next__") n.typeIs F.slot_tuple_iterator_next (wpAny_call_entry F.slot_tuple_iterator_next n.typeIs F.entry_tuple_iterator_next ?_ (F.args_tuple_iterator_next_1 _)))
 show wpAny _ _ (field (.ref c) 0 >>= _) _ _ s;refine wpAny_bind (wpAny_field g1 g3 (x:=.ref t) rfl ?_)
 show wpAny _ _ (if (Value.ref t == Value.none)=true then _ else _) _ _ s;rw [if_neg (show ¬ ((Value.ref t == Value.none)=true) from Bool.false_ne_true)]
 show wpAny _ _ (field (.ref c) 1 >>= _) _ _ s;refine wpAny_bind (wpAny_field g1 g3 (x:=.int i 0) rfl ?_)
 show wpAny _ _ (seqItems? (.ref t) >>= _) _ _ s;refine wpAny_bind (wpAny_seqItems f1 f3 ?_)
 simp only [Int.toNat_natCast,e]
 refine wpAny_bind (wpAny_rule (wpAny_bind (wpAny_setField g1 g3 (by simp) ?_)));show wpAny _ _ (newExc (.type "StopIteration") [] >>= _) _ _ _
 refine wpAny_bind ?_;simp only [newExc,newTuple]
 refine wpAny_bind (wpAny_newObj_type ?_ (by size_fits));refine wpAny_bind (m:=firstArgMember _ _) (wpAny_of_eq (a:=Value.none) (by first | rfl | (simp only [firstArgMember];rfl)) ?_)
 refine wpAny_newObj_type ?_ (by size_fits);simp only [raiseNew];refine wpAny_bind (wpAny_handled ?_)
 first | rw [show A.in1.handled=none from hh] | rw [hh]
 refine wpAny_bind (wpAny_pure (wpAny_throw (q _ _ (((Heap.SameBut.update ..).extBut.push _).push _) ⟨_,Heap.get?_push_size _ rfl,rfl⟩)))
theorem ztx {z TI TO i1 i2 l1 l2:Addr} {k:Nat} {xs ys:Array Value} {x y a b:Value} {R:Value→Shared→Prop} (D:ZipApart z TI TO i1 i2 l1 l2)
  (gz:IsZip s.heap z TI TO .none) (gI:IsPair s.heap TI (.ref i1) (.ref i2)) (gO:IsPair s.heap TO a b)
  (n1:s.heap.IsTupleIter i1 l1 k) (n2:s.heap.IsTupleIter i2 l2 k) (m1:s.heap.IsTuple l1 xs) (m2:s.heap.IsTuple l2 ys) (ex:xs[k]?=some x) (ey:ys[k]?=some y)
  (q:∀ h',IsZip h' z TI TO (rawInt s.heap.objs.size)→IsPair h' TO x y→h'.IsTupleIter i1 l1 (k+1)→h'.IsTupleIter i2 l2 (k+1)→IsPair h' s.heap.objs.size x y →
   (∀ t o,t∉[z,TO,i1,i2]→s.heap.get? t=some o→h'.get? t=some o)→R (.ref s.heap.objs.size) { s with heap:=h' }) :
  wpAny (model P w) A (Builtin.«zip.__next__» ⟨[.ref z],[]⟩) (fun fin s'=>∃ v,fin=.done (.ret v)∧R v s') E s:=by
 show wpAny _ _ (field (.ref z) 2 >>= _) _ _ _;refine wpAny_bind (wpAny_field gz rfl (x:=.bool false) rfl ?_);show wpAny _ _ (field (.ref z) 3 >>= _) _ _ _
 refine wpAny_bind (wpAny_field gz rfl (x:=.ref TI) rfl ?_)
 refine wpAny_bind (wpAny_seqItems gI rfl ?_);show wpAny _ _ (Builtin.SmallTypes.ownedTupleIsFree (.ref z) >>= _) _ _ _
 refine wpAny_bind ?_;unfold Builtin.SmallTypes.ownedTupleIsFree
 refine wpAny_bind (wpAny_field gz rfl (x:=.none) rfl (wpAny_pure ?_));simp only [if_true]
 refine wpAny_bind (wpAny_rule ?_);refine wpAny_bind (wpAny_field gz rfl (x:=.ref TO) rfl ?_)
 refine wpAny_bind (wpAny_setField_rec gz (by simp) fun h₁ gz₁ q₁=>?_)
 replace gz₁:IsZip h₁ z TI TO .ellipsis:=gz₁
 refine wpAny_bind ?_;simp only [List.zipIdx_cons,List.zipIdx_nil,List.forIn_cons,List.forIn_nil]
 refine wpAny_bind (wpAny_bind (wpAny_onRaise ?_));show wpAny _ _ (Builtin.SmallTypes.nextOf (.ref i1) >>= _) _ _ _
 refine wpAny_bind (zhG (n1.extBut q₁.extBut D.i1z) (m1.extBut q₁.extBut D.l1z) ex fun h₂ n1₂ q₂=>wpAny_pure ?_)
 have gO₂:IsPair h₂ TO a b:=q₂.extBut _ _ D.TOi1 (q₁.extBut _ _ D.TOz gO)
 refine wpAny_bind (wpAny_seqItems gO₂ rfl ?_)
 refine wpAny_bind (wpAny_updateSeq_pair gO₂ fun h₃ gO₃ q₃=>?_)
 replace gO₃:IsPair h₃ TO x b:=gO₃
 refine wpAny_bind (wpAny_letGo (wpAny_pure ?_))
 refine wpAny_bind (wpAny_bind (wpAny_onRaise ?_));show wpAny _ _ (Builtin.SmallTypes.nextOf (.ref i2) >>= _) _ _ _
 refine wpAny_bind (zhG (((n2.extBut q₁.extBut D.i2z).extBut q₂.extBut D.i12.symm).extBut q₃.extBut D.TOi2.symm)
  (((m2.extBut q₁.extBut D.l2z).extBut q₂.extBut D.l2i1).extBut q₃.extBut D.l2TO) ey fun h₄ n2₄ q₄=>wpAny_pure ?_)
 have gO₄:IsPair h₄ TO x b:=q₄.extBut _ _ D.TOi2 gO₃
 refine wpAny_bind (wpAny_seqItems gO₄ rfl ?_)
 refine wpAny_bind (wpAny_updateSeq_pair gO₄ fun h₅ gO₅ q₅=>?_)
 replace gO₅:IsPair h₅ TO x y:=gO₅
 refine wpAny_bind (wpAny_letGo (wpAny_pure (wpAny_pure ?_)))
 refine wpAny_bind (wpAny_seqItems gO₅ rfl ?_);refine wpAny_bind (wpAny_newTuple ?_)
 have sz:h₅.objs.size=s.heap.objs.size:=by rw [q₅.1,q₄.1,q₃.1,q₂.1,q₁.1]
 have gz₅:IsZip h₅ z TI TO .ellipsis:=q₅.extBut _ _ D.TOz.symm (q₄.extBut _ _ D.i2z.symm (q₃.extBut _ _ D.TOz.symm (q₂.extBut _ _ D.i1z.symm gz₁)))
 have kp:∀ t o,t∉[z,TO,i1,i2]→s.heap.get? t=some o→h₅.get? t=some o:=fun t o ht e=>by
  simp only [List.mem_cons,List.not_mem_nil,or_false,not_or] at ht
  obtain ⟨t1,t2,t3,t4⟩:=ht
  exact q₅.extBut _ _ t2 (q₄.extBut _ _ t4 (q₃.extBut _ _ t2 (q₂.extBut _ _ t3 (q₁.extBut _ _ t1 e))))
 have n1₅:h₅.IsTupleIter i1 l1 (k+1):=((n1₂.extBut q₃.extBut D.TOi1.symm).extBut q₄.extBut D.i12).extBut q₅.extBut D.TOi1.symm
 have n2₅:h₅.IsTupleIter i2 l2 (k+1):=n2₄.extBut q₅.extBut D.TOi2.symm
 have zlt:z<h₅.objs.size:=Heap.lt_size gz₅
 show wpAny _ _ (Builtin.SmallTypes.ownedTupleHandOut (.ref z) (.ref h₅.objs.size) >>= _) _ _ _;refine wpAny_bind ?_;unfold Builtin.SmallTypes.ownedTupleHandOut
 have gz₈:IsZip (h₅.push { cls:=.type "tuple",data:=.seq #[x,y] }) z TI TO .ellipsis:=Heap.get?_push_of_some _ gz₅
 refine wpAny_bind (wpAny_setField_rec gz₈ (by simp) fun h₉ gz₉ q₉=>?_)
 replace gz₉:IsZip h₉ z TI TO (rawInt h₅.objs.size):=gz₉
 refine wpAny_setField_rec gz₉ (by simp) fun hA gzA qA=>?_
 replace gzA:IsZip hA z TI TO (rawInt h₅.objs.size):=gzA
 have up:∀ t o,t≠z→h₅.get? t=some o→hA.get? t=some o:=fun t o t1 e=>qA.extBut _ _ t1 (q₉.extBut _ _ t1 (Heap.get?_push_of_some _ e))
 have gT:IsPair hA h₅.objs.size x y:=qA.extBut _ _ (Nat.ne_of_gt zlt) (q₉.extBut _ _ (Nat.ne_of_gt zlt) (Heap.get?_push_size _ rfl))
 rw [sz] at gzA gT
 refine wpAny_pure ⟨_,rfl,?_⟩;show R (.ref h₅.objs.size) _;rw [sz]
 exact q hA gzA (up _ _ D.TOz gO₅) (zrb n1₅ fun o e=>up _ o D.i1z e) (zrb n2₅ fun o e=>up _ o D.i2z e) gT fun t o ht e=>up t o (fun h=>ht (by simp [h])) (kp t o ht e)
theorem zwj {z TI TO i1 i2 l1 l2:Addr} {k:Nat} {xs ys:Array Value} {a b:Value} {R:PySem.Fin→Shared→Prop} (hh:A.handled=none) (D:ZipApart z TI TO i1 i2 l1 l2)
  (gz:IsZip s.heap z TI TO .none) (gI:IsPair s.heap TI (.ref i1) (.ref i2)) (gO:IsPair s.heap TO a b)
  (n1:s.heap.IsTupleIter i1 l1 k) (n2:s.heap.IsTupleIter i2 l2 k) (m1:s.heap.IsTuple l1 xs) (m2:s.heap.IsTuple l2 ys) (ee:xs[k]?=none∨ys[k]?=none)
  (q:∀ h' e,(∀ t o,t∉[z,TO,i1,i2]→s.heap.get? t=some o→h'.get? t=some o)→(∃ o,h'.get? e=some o∧o.cls=.type "StopIteration")→E (.ref e) { s with heap:=h' }) :
  wpAny (model P w) A (Builtin.«zip.__next__» ⟨[.ref z],[]⟩) R E s:=by
 show wpAny _ _ (field (.ref z) 2 >>= _) _ _ _;refine wpAny_bind (wpAny_field gz rfl (x:=.bool false) rfl ?_);show wpAny _ _ (field (.ref z) 3 >>= _) _ _ _
 refine wpAny_bind (wpAny_field gz rfl (x:=.ref TI) rfl ?_)
 refine wpAny_bind (wpAny_seqItems gI rfl ?_);show wpAny _ _ (Builtin.SmallTypes.ownedTupleIsFree (.ref z) >>= _) _ _ _
 refine wpAny_bind ?_;unfold Builtin.SmallTypes.ownedTupleIsFree
 refine wpAny_bind (wpAny_field gz rfl (x:=.none) rfl (wpAny_pure ?_));simp only [if_true]
 refine wpAny_bind (wpAny_rule ?_);refine wpAny_bind (wpAny_field gz rfl (x:=.ref TO) rfl ?_)
 refine wpAny_bind (wpAny_setField_rec gz (by simp) fun h₁ gz₁ q₁=>?_)
 replace gz₁:IsZip h₁ z TI TO .ellipsis:=gz₁
 refine wpAny_bind ?_;simp only [List.zipIdx_cons,List.zipIdx_nil,List.forIn_cons,List.forIn_nil]
 refine wpAny_bind (wpAny_bind (wpAny_onRaise ?_));show wpAny _ _ (Builtin.SmallTypes.nextOf (.ref i1) >>= _) _ _ _
 cases ex:xs[k]? with
 | none =>
  refine wpAny_bind (zlQ hh (n1.extBut q₁.extBut D.i1z) (m1.extBut q₁.extBut D.l1z) ex fun h₂ e q₂ he=>?_)
  obtain ⟨oe,g1,g2⟩:=he
  have gz₂:IsZip h₂ z TI TO .ellipsis:=q₂ _ _ D.i1z.symm gz₁
  have nz:e≠z:=fun x=>by subst x;rw [gz₂] at g1;cases g1;simp at g2
  refine wpAny_setField_rec gz₂ (by simp) fun h₃ _ q₃=>q h₃ e (fun t o ht x=>?_) ⟨oe,q₃.extBut _ _ nz g1,g2⟩
  simp only [List.mem_cons,List.not_mem_nil,or_false,not_or] at ht
  exact q₃.extBut _ _ ht.1 (q₂ _ _ ht.2.2.1 (q₁.extBut _ _ ht.1 x))
 | some x =>
  have ey:ys[k]?=none:=ee.resolve_left (by rw [ex];simp)
  refine wpAny_bind (zhG (n1.extBut q₁.extBut D.i1z) (m1.extBut q₁.extBut D.l1z) ex fun h₂ n1₂ q₂=>wpAny_pure ?_)
  have gO₂:IsPair h₂ TO a b:=q₂.extBut _ _ D.TOi1 (q₁.extBut _ _ D.TOz gO)
  refine wpAny_bind (wpAny_seqItems gO₂ rfl ?_);refine wpAny_bind (wpAny_updateSeq_pair gO₂ fun h₃ gO₃ q₃=>?_)
  refine wpAny_bind (wpAny_letGo (wpAny_pure ?_))
  refine wpAny_bind (wpAny_bind (wpAny_onRaise ?_));show wpAny _ _ (Builtin.SmallTypes.nextOf (.ref i2) >>= _) _ _ _
  refine wpAny_bind (zlQ hh (((n2.extBut q₁.extBut D.i2z).extBut q₂.extBut D.i12.symm).extBut q₃.extBut D.TOi2.symm) (((m2.extBut q₁.extBut D.l2z).extBut q₂.extBut D.l2i1).extBut q₃.extBut D.l2TO) ey fun h₄ e q₄ he=>?_)
  obtain ⟨oe,g1,g2⟩:=he
  have gz₄:IsZip h₄ z TI TO .ellipsis:=q₄ _ _ D.i2z.symm (q₃.extBut _ _ D.TOz.symm (q₂.extBut _ _ D.i1z.symm gz₁))
  have nz:e≠z:=fun x=>by subst x;rw [gz₄] at g1;cases g1;simp at g2
  refine wpAny_setField_rec gz₄ (by simp) fun h₅ _ q₅=>q h₅ e (fun t o ht x=>?_) ⟨oe,q₅.extBut _ _ nz g1,g2⟩
  simp only [List.mem_cons,List.not_mem_nil,or_false,not_or] at ht
  obtain ⟨t1,t2,t3,t4⟩:=ht
  exact q₅.extBut _ _ t1 (q₄ _ _ t4 (q₃.extBut _ _ t2 (q₂.extBut _ _ t3 (q₁.extBut _ _ t1 x))))
abbrev ti0 (l:Addr):Obj:={ cls:=.type "tuple_iterator",data:=.fields #[.ref l,.int 0 0] }
abbrev th1 (h:Heap) (l1:Addr):Heap:=h.push (ti0 l1)
abbrev th2 (h:Heap) (l1 l2:Addr):Heap:=(th1 h l1).push (ti0 l2)
abbrev th3 (h:Heap) (l1 l2:Addr):Heap:=(th2 h l1 l2).push { cls:=.type "tuple",data:=.seq #[.ref h.objs.size,.ref (th1 h l1).objs.size] }
abbrev th4 (h:Heap) (l1 l2:Addr):Heap:=(th3 h l1 l2).push { cls:=.type "tuple",data:=.seq #[.none,.none] }
abbrev th5 (h:Heap) (l1 l2:Addr):Heap:=(th4 h l1 l2).push { cls:=.type "zip",data:=.fields #[.none,.bool false,.bool false,.ref (th2 h l1 l2).objs.size,.ref (th3 h l1 l2).objs.size] }
theorem newT (l1 l2:Addr) (xs ys:Array Value) :
  Meets (Builtin.«zip.__new__» ⟨[.type "zip",.ref l1,.ref l2],[]⟩) (fun _ R s=>s.heap.IsTuple l1 xs∧s.heap.IsTuple l2 ys∧R (.ok (.ret (.ref (th4 s.heap l1 l2).objs.size))) { s with heap:=th5 s.heap l1 l2 }) :=
 .of_wp fun prog w A R s h=>by
  obtain ⟨hp,g,d,tk,os⟩:=s;obtain ⟨m1,m2,h⟩:=h
  have hsub:=sub_zip
  have k1:Heap.IsTuple (Shared.heap ⟨hp,g,d,tk,os⟩) l1 xs:=m1
  have k2:Heap.IsTuple (Shared.heap ⟨hp.push { cls:=.type "tuple_iterator",data:=.fields #[.ref l1,.int 0 0] },g,d,tk,os⟩) l2 ys:=Heap.IsTuple.push m2 _
  wp_walk using wpAny_pyIter_tuple k1,wpAny_pyIter_tuple k2
  exact ⟨_,rfl,h⟩
theorem callT {l1 l2:Addr} {xs ys:Array Value} {R:Value→Shared→Prop} (m1:s.heap.IsTuple l1 xs) (m2:s.heap.IsTuple l2 ys)
  (h:∀ (h':Heap) (n:Nat),n=s.heap.objs.size→IsZip h' (n+4) (n+2) (n+3) .none→IsPair h' (n+2) (.ref n) (.ref (n+1))→IsPair h' (n+3) .none .none→h'.IsTupleIter n l1 0→h'.IsTupleIter (n+1) l2 0 →
   (∀ c o,s.heap.get? c=some o→h'.get? c=some o)→R (.ref (n+4)) { s with heap:=h' }) :
  wpAny (model P w) A (call (.type "zip") [.ref l1,.ref l2]) R E s:=by
 refine callType_new F.called_zip (by decide) (F.typeCall_zip_2 _ _) (F.newCall_zip_2 _ _) (fun obj=>F.args_object_init_3 obj _ _) F.entry_zip_new (newT l1 l2 xs ys) ⟨m1,m2,?_⟩
 have z1:(th1 s.heap l1).objs.size=s.heap.objs.size+1:=Heap.size_push ..
 have z2:(th2 s.heap l1 l2).objs.size=s.heap.objs.size+2:=by rw [Heap.size_push,z1]
 have z3:(th3 s.heap l1 l2).objs.size=s.heap.objs.size+3:=by rw [Heap.size_push,z2]
 have z4:(th4 s.heap l1 l2).objs.size=s.heap.objs.size+4:=by rw [Heap.size_push,z3]
 have on:∀ {hh:Heap} {a:Addr} {o o':Obj},hh.get? a=some o→(hh.push o').get? a=some o:=fun e=>Heap.get?_push_of_some _ e
 have y5:(th5 s.heap l1 l2).get? (th4 s.heap l1 l2).objs.size=some _:=Heap.get?_push_size _ rfl
 have y4:(th5 s.heap l1 l2).get? (th3 s.heap l1 l2).objs.size=some _:=on (Heap.get?_push_size _ rfl)
 have y3:(th5 s.heap l1 l2).get? (th2 s.heap l1 l2).objs.size=some _:=on (on (Heap.get?_push_size _ rfl))
 have y2:(th5 s.heap l1 l2).get? (th1 s.heap l1).objs.size=some _:=on (on (on (Heap.get?_push_size _ rfl)))
 have y1:(th5 s.heap l1 l2).get? s.heap.objs.size=some _:=on (on (on (on (Heap.get?_push_size _ rfl))))
 show _∧_
 rw [z2,z3,z4] at y5
 rw [z3] at y4
 rw [z1,z2] at y3
 rw [z1] at y2
 rw [z4]
 exact ⟨⟨_,y5,rfl⟩,h _ _ rfl y5 y3 y4 ⟨_,y1,rfl,rfl⟩ ⟨_,y2,rfl,rfl⟩ fun c o x=>on (on (on (on (on x))))⟩
end
def tnT (z TI TO i1 i2 p q:Addr) (i:Nat) (h:Heap):Prop:=IsZip h z TI TO .none∧IsPair h TI (.ref i1) (.ref i2)∧(∃ a b,IsPair h TO a b)∧h.IsTupleIter i1 p i∧h.IsTupleIter i2 q i
theorem zpP {z TI TO i1 i2 p q:Addr} {i:Nat} {h h':Heap} (st:tnT z TI TO i1 i2 p q i h) (k:∀ b∈[z,TI,TO,i1,i2],∀ o,h.get? b=some o→h'.get? b=some o):tnT z TI TO i1 i2 p q i h':=by
 obtain ⟨a1,a2,⟨x,y,a3⟩,a4,a5⟩:=st
 exact ⟨k z (by simp) _ a1,k TI (by simp) _ a2,⟨x,y,k TO (by simp) _ a3⟩,zrb a4 fun o e=>k i1 (by simp) o e,zrb a5 fun o e=>k i2 (by simp) o e⟩
theorem zj1 {z TI TO i1 i2 p q:Addr} {i:Nat} {h:Heap} (st:tnT z TI TO i1 i2 p q i h):∀ b∈[z,TI,TO,i1,i2],∃ o,h.get? b=some o∧∀ v,o.data≠.cell v:=fun b hb=>by
 obtain ⟨a1,a2,⟨x,y,a3⟩,⟨o4,a4,_,d4⟩,⟨o5,a5,_,d5⟩⟩:=st
 simp only [List.mem_cons,List.not_mem_nil,or_false] at hb
 rcases hb with rfl | rfl | rfl | rfl | rfl
 ·exact ⟨_,a1,zbE rfl⟩
 ·exact ⟨_,a2,fun v z=>nomatch (show Data.seq _ _=Data.cell v from z)⟩
 ·exact ⟨_,a3,fun v z=>nomatch (show Data.seq _ _=Data.cell v from z)⟩
 ·exact ⟨_,a4,zbE d4⟩
 ·exact ⟨_,a5,zbE d5⟩
theorem turnT {P:Program} {w:World} {K:PySem.W.Frag} {elts:List Expr} {k:Nat} {pos:Pos} {z TI TO i1 i2 p q:Addr} (D:ZipApart z TI TO i1 i2 p q):ztG P w K (.Tuple elts k pos) (ItzT K p q) [z,TI,TO,i1,i2] z (tnT z TI TO i1 i2 p q) where
 mem:=by simp
 obj:=fun i h st=>zj1 st
 keep:=fun i h h' st kk=>zpP st kk
 item:=by
  intro X hP hw hK hc i pins s σ H E I hf st hg
  subst hP hw hK
  obtain ⟨xs,ys,a,b,hx,hy,ea,eb⟩:=hg
  obtain ⟨its1,r1,pl1,z1⟩:=I.tuple hx
  obtain ⟨its2,r2,pl2,z2⟩:=I.tuple hy
  obtain ⟨ua,eua,rua⟩:=r1.get ea
  obtain ⟨ub,eub,rub⟩:=r2.get eb
  have there:=zj1 st
  obtain ⟨s1,s2,⟨x0,y0,s3⟩,s4,s5⟩:=st
  have ty:s.TypeIs (.ref z) "zip":=⟨_,s1,rfl⟩
  unfold pyNext
  refine wpAny_bind (wpAny_attempt (wpAny_callSpecial?_slot (name:=Str.ofString "__next__") ty F.slot_zip_next (wpAny_call_entry F.slot_zip_next ty F.entry_zip_next (ztx D s1 s2 s3 s4 s5 pl1 pl2 (by simpa using eua) (by simpa using eub) fun h' a1 a2 a3 a4 aT kk=>wpAny_pure ⟨_,rfl,?_⟩) (F.args_zip_next_1 _))))
  refine wpAny_letOwnedTupleGo_zip a1 fun h2 gz2 q2=>?_
  have sub:∀ b∈[z,TO,i1,i2],b∈[z,TI,TO,i1,i2]:=fun b hb=>by
   simp only [List.mem_cons,List.not_mem_nil,or_false] at hb ⊢
   rcases hb with h | h | h | h <;> simp [h]
  have I1:Inv X pins σ H { s with heap:=h2 }:=I.turns (t':=s.toks) (ch:=[z,TO,i1,i2]) (fun b o hb e=>q2.extBut _ _ (fun x=>hb (by simp [x])) (kk b o hb e)) fun b hb=>hf b (sub b hb)
  have hT:s.heap.objs.size≤s.heap.objs.size:=Nat.le_refl _
  have nT:H s.heap.objs.size=none:=I.hok.fresh hT
  have zT:s.heap.objs.size≠z:=Nat.ne_of_gt (Heap.lt_size s1)
  have I2:=I1.track (a:=s.heap.objs.size) (o:=.tup [a,b]) nT (Heap.get?_none_of_le (Nat.le_trans I.sz hT)) (Nat.ne_of_gt (Nat.lt_of_lt_of_le I.lt hT)) (fun x c e=>by
   obtain ⟨v,q⟩:=I.cell x c e
   exact Nat.ne_of_lt (Nat.lt_of_lt_of_le q.lt hT)) (fun p hp=>Nat.ne_of_lt (Nat.lt_of_lt_of_le (Heap.lt_size (I.pin p hp).1) hT)) (by
   refine ⟨by show 2≤sizeLine;decide,[ua,ub],.cons rua (.cons rub .nil),?_⟩
   exact ⟨_,q2.extBut _ _ zT aT,rfl,_,rfl⟩)
  refine ⟨.ref s.heap.objs.size,_,I2,rfl,⟨s.heap.objs.size,a,b,rfl,nT,rfl,fun xs' h'=>?_,fun ys' h'=>?_⟩,?_,fun b hb=>?_⟩
  ·rw [I.tuple_inj h' hx];exact ea
  ·rw [I.tuple_inj h' hy];exact eb
  ·have nTI:TI∉[z,TO,i1,i2]:=by
    simp only [List.mem_cons,List.not_mem_nil,or_false,not_or]
    exact ⟨D.TIz,D.TITO,D.TIi1,D.TIi2⟩
   exact ⟨gz2,q2.extBut _ _ D.TIz (kk _ _ nTI s2),⟨_,_,q2.extBut _ _ D.TOz a2⟩,a3.extBut q2.extBut D.i1z,a4.extBut q2.extBut D.i2z⟩
  ·obtain ⟨o,e,_⟩:=there b hb
   rw [zaj (Nat.ne_of_lt (Nat.lt_of_lt_of_le (Heap.lt_size e) hT))]
   exact (hf b hb).1
 done:=by
  intro X hP hw hK hc i pins s σ H E I hf st hg
  subst hP hw hK
  obtain ⟨xs,ys,hx,hy,rfl⟩:=hg
  obtain ⟨its1,r1,pl1,z1⟩:=I.tuple hx
  obtain ⟨its2,r2,pl2,z2⟩:=I.tuple hy
  obtain ⟨s1,s2,⟨x0,y0,s3⟩,s4,s5⟩:=st
  have sub:∀ b∈[z,TO,i1,i2],b∈[z,TI,TO,i1,i2]:=fun b hb=>by
   simp only [List.mem_cons,List.not_mem_nil,or_false] at hb ⊢
   rcases hb with h | h | h | h <;> simp [h]
  have ee:its1.toArray[min xs.length ys.length]?=none∨its2.toArray[min xs.length ys.length]?=none:=by
   rw [r1.length,r2.length]
   rcases Nat.le_total its1.length its2.length with h | h
   ·exact .inl (by rw [Nat.min_eq_left h];simp)
   ·exact .inr (by rw [Nat.min_eq_right h];simp)
  have ty:s.TypeIs (.ref z) "zip":=⟨_,s1,rfl⟩
  unfold pyNext
  refine wpAny_bind (wpAny_attempt (wpAny_callSpecial?_slot (name:=Str.ofString "__next__") ty F.slot_zip_next (wpAny_call_entry F.slot_zip_next ty F.entry_zip_next (zwj (I.ok.hd hc) D s1 s2 s3 s4 s5 pl1 pl2 ee fun h' e kk he=>?_) (F.args_zip_next_1 _))))
  obtain ⟨o,h1,h2⟩:=he
  exact wpAny_bind (wpAny_isInstance (T:="StopIteration") (b:=true) ⟨o,h1,h2⟩ isSubtype_stop (wpAny_pure ⟨rfl,I.turns (t':=s.toks) (ch:=[z,TO,i1,i2]) (fun b o hb e=>kk b o hb e) fun b hb=>hf b (sub b hb)⟩))
 self:=fun A i s Q E st h=>wpAny_pyIter_zip st.1 h
end L2.Zt
namespace L2
open PySem PySem.Spec PyProof.Rows
theorem ztp {X:Cx} {a b:Expr} {elts:List Expr} {k:Nat} {tp p pos:Pos} {ta:TA} (hg:Gl X "zip") (hm:X.mg "zip"=none) (ha:PA X [a,b] ta) (hs:starEach [a,b] X.env=[(false,eval a X.env),(false,eval b X.env)]:=by rfl) (hs2:starEach [b] X.env=[(false,eval b X.env)]:=by rfl) :
  PI X (.Tuple elts k tp) (.Call (.Name "zip" p) [a,b] [] pos) (zq1 X.K ta):=by
 intro pins s σ H R I h
 refine Call_ (zij I hg hm boot_zip (PyProof.Rows.callWith_type1 (thn (ha pos pins s σ H _ I h) fun us s1 hQ'=>?_) (by rw [hs,hs2]) (by rw [hs2];rfl)))
 obtain ⟨vs,H1,I1,r1,q1⟩:=hQ'
 obtain ⟨p1,p2,rfl,c⟩:=q1
 obtain ⟨u,v,rfl,ru,rv⟩:=zmx r1
 cases ru
 cases rv
 have new:∀ b∈[s1.heap.objs.size+4,s1.heap.objs.size+2,s1.heap.objs.size+3,s1.heap.objs.size,s1.heap.objs.size+1],s1.heap.objs.size≤b:=fun b hb=>by
  simp only [List.mem_cons,List.not_mem_nil,or_false] at hb
  rcases hb with h | h | h | h | h <;> rw [h] <;> first | exact Nat.le_refl _ | exact Nat.le_add_right _ _
 rcases c with ⟨⟨xs,hx⟩,⟨ys,hy⟩,q⟩ | ⟨⟨xs,hx⟩,⟨ys,hy⟩,q⟩
 ·obtain ⟨its1,_,pl1,_⟩:=I1.list hx
  obtain ⟨its2,_,pl2,_⟩:=I1.list hy
  have a1:p1<s1.heap.objs.size:=by obtain ⟨_,e,_⟩:=pl1.isList;exact Heap.lt_size e
  have a2:p2<s1.heap.objs.size:=by obtain ⟨_,e,_⟩:=pl2.isList;exact Heap.lt_size e
  refine call_zip_2 pl1.isList pl2.isList fun h' hz hTI hTO hi1 hi2 hsz hk=>?_
  refine wpAny_pyIter_zip hz ?_
  exact ⟨_,_,_,_,H1,rfl,I1.kept (t':=s1.toks) hk,zpv (zipApart_new a1 a2),⟨hz,hTI,⟨_,_,hTO⟩,hi1,hi2⟩,fun b hb=>I1.fpOk (new b hb) (I1.hok.fresh (new b hb)),q⟩
 ·obtain ⟨its1,_,pl1,_⟩:=I1.tuple hx
  obtain ⟨its2,_,pl2,_⟩:=I1.tuple hy
  have a1:p1<s1.heap.objs.size:=by obtain ⟨_,e,_⟩:=pl1;exact Heap.lt_size e
  have a2:p2<s1.heap.objs.size:=by obtain ⟨_,e,_⟩:=pl2;exact Heap.lt_size e
  refine Zt.callT pl1 pl2 fun h' n en hz hTI hTO hi1 hi2 hk=>?_
  subst en
  refine wpAny_pyIter_zip hz ?_
  exact ⟨_,_,_,_,H1,rfl,I1.kept (t':=s1.toks) hk,Zt.turnT (zipApart_new a1 a2),⟨hz,hTI,⟨_,_,hTO⟩,hi1,hi2⟩,fun b hb=>I1.fpOk (new b hb) (I1.hok.fresh (new b hb)),q⟩
end L2
namespace L2
open PySem PySem.Spec PyProof.Rows
def zkS (P:Program) (w:World) (K:PySem.W.Frag) (mg:Str→Option Value) (base:Heap) (N:List Str) (qual:Str) (scope:Scope) (f:Addr) (cd:Value) (cl:List (Str×Addr)) (A:Around) (outer:List Env) (s:Shared) (H:Hp):Cx where
 prog:=P
 w:=w
 K:=K
 mg:=mg
 base:=base
 A:=A.deeper (PySem.W.envX qual scope s.heap.objs.size f cd cl)
 N:=N
 s₀:=s
 H₀:=H
 env:=PySem.W.envX qual scope s.heap.objs.size f cd cl
 outer:=outer
 stack:=PySem.W.envX qual scope s.heap.objs.size f cd cl::outer
 ex:=[]
 calm:=true
 fn:=fun y=>(cl.lookup y).isNone
 pn:=[]
 xe:=fun _ _=>False
structure zpY (H:Hp) (h:Heap) (sc:Scope) (cl:List (Str×Addr)) (Ns:List Str) (vs:List V):Prop where
 len:vs.length=Ns.length
 at':∀ (i:Nat) (y:Str),Ns[i]?=some y→∃ c uy vy,cl.lookup y=some c∧sc.names.lookup y=some .free∧h.IsCell c (some uy)∧vs[i]?=some vy∧zca vy uy
 has:∀ y,sc.names.lookup y=some .free→∃ c,cl.lookup y=some c
 cel:∀ y c,cl.lookup y=some c→H c=none∧∃ v,h.IsCell c v
 inj:∀ y z c,cl.lookup y=some c→cl.lookup z=some c→y=z
def Bar (P:Addr) (H H':Hp):Prop:=∀ b o,b≠P→H b=some o→H' b=some o
def zb5 (H:Hp) (P:Addr) (pos:Pos) (qual:Str):Prop:=H P=some (.tbl #[]) ∨
 ∃ (c':Addr) (oc:Obj) (vs:Array Value) (t:Nat),c'≠P∧H P=some (.tbl #[rawInt pos.line,rawInt pos.col,.ref c'])∧H c'=some (.frz oc (.own c'))∧oc.data=.fields vs∧vs[1]?=some (.str qual t)
section
variable {X:Cx} {pins:List (Addr×Obj)} {σ:St} {H:Hp} {s:Shared} {c P:Addr} {pos:Pos} {qual:Str} {params:Arguments} {body:Expr} {scope:Scope} {clos:List (Str×Addr)} {Q:Value→Shared→Prop} {E:Value→Shared→Prop}
theorem zsW {ps ps':Array Value} {h h':Heap} {Pg:Program} {w:World} {c':Addr} {oc:Obj} (ok:HOk Pg w H h) (hP:H P=some (.tbl ps)) (hc:H c'=none) (hx:∀ b o,b≠P→h.get? b=some o→h'.get? b=some o)
  (e1:h'.get? P=some { cls:=.none,data:=.fields ps' }) (e2:h'.get? c'=some oc):HOk Pg w (upd (upd H P (.tbl ps')) c' (.frz oc (.own c'))) h':=by
 have ncP:c'≠P:=fun z=>by rw [z,hP] at hc;cases hc
 intro b u e
 by_cases q:b=c'
 ·subst q
  rw [zad] at e
  cases e
  exact ⟨e2,oc,e2⟩
 ·rw [zaj q] at e
  by_cases q2:b=P
  ·subst q2
   rw [zad] at e
   cases e
   exact e1
  ·rw [zaj q2] at e
   refine (ok b u e).stay (fun d v hd r=>hx d v (fun z=>?_) r) (fun d r=>?_) fun d xs r=>?_
   ·rcases hd with rfl | hd
    ·exact q2 z
    ·rw [z,hP] at hd;cases hd
   ·rw [zaj (fun z=>by rw [z,hc] at r;cases r),zaj (fun z=>by rw [z,hP] at r;cases r)];exact r
   ·rw [zaj (fun z=>by rw [z,hc] at r;cases r),zaj (fun z=>by rw [z,hP] at r;cases r)];exact r
theorem zum {ps more:Array Value} {fs ex:List Addr} {h h':Heap} {c':Addr} {oc:Obj} (hP:H P=some (.tbl ps)) (hc:H c'=none) (hf:h.objs.size≤c') (hx:∀ b o,b≠P→h.get? b=some o→h'.get? b=some o) (hPt:∃ o,h'.get? P=some o) :
  Un fs ex H (upd (upd H P (.tbl (ps++more))) c' (.frz oc (.own c'))) h h':=by
 have nP:∀ b,H b=none→b≠P:=fun b n z=>by rw [z,hP] at n;cases n
 have nc:∀ b u,H b=some u→b≠c':=fun b u e z=>by rw [z,hc] at e;cases e
 refine ⟨fun b o q n _ _=>hx b o (nP b n) q,fun b o q n _ _=>⟨o.slots,hx b o (nP b n) q⟩,fun b o q n _=>?_,fun b o q _=>?_,fun b xs q=>?_,fun b o u q=>?_,fun b ps' q=>?_⟩
 ·rw [zaj (Nat.ne_of_lt (Nat.lt_of_lt_of_le (Heap.lt_size q) hf)),zaj (nP b n)];exact n
 ·by_cases z:b=P
  ·rw [z];exact hPt
  ·exact ⟨o,hx b o z q⟩
 ·rw [zaj (nc b _ q),zaj (fun z=>by rw [z,hP] at q;cases q)];exact q
 ·rw [zaj (nc b _ q),zaj (fun z=>by rw [z,hP] at q;cases q)];exact q
 ·rw [zaj (nc b _ q)]
  by_cases z:b=P
  ·subst z
   rw [hP] at q
   cases q
   exact ⟨more,zad⟩
  ·rw [zaj z]
   exact ⟨#[],by rw [q];simp⟩
theorem zly (I:Inv X pins σ H s) (hcode:X.env.code=.ref c) (C:PySem.W.CodeHd X.base c P) (hB:X.base.BuiltinsAt X.mg P) (hL:zb5 H P pos qual) (hcl:closureFor scope X.env=pure clos) (hdef:defaultsOf params X.env=([],[]))
  (hq:X.env.qual++"<lambda>"=qual)
  (h:∀ (q c':Addr) (pm ctv:Value) (H':Hp) (s':Shared) (oc:Obj) (vs:Array Value) (t:Nat),Inv X pins σ H' s'→Bar P H H'→zb5 H' P pos qual→s'.heap.get? q=some (PySem.W.kla_obj "<lambda>" qual params body scope clos pm c' ctv) →
   H' c'=some (.frz oc (.own c'))→oc.data=.fields vs→vs[1]?=some (.str qual t)→zkF X pins H' q→Q (.ref q) s') :
  wpAny (model X.prog X.w) X.A (eval (.Lambda params body scope pos) X.env) Q E s:=by
 have hg:s.heap.Ns mainGlobals X.mg:=I.ok.mod.glob.keeps I.bk
 have C':=C.keeps I.bk
 obtain ⟨bm,ob,b1,b2,b3,b4,b5,b6⟩:=hB
 have hgP:∀ ps,H P=some (.tbl ps)→mainGlobals≠P:=fun ps hP z=>by
  have e:=I.hok P _ hP
  obtain ⟨o,es,ep,e',d,_⟩:=hg
  rw [z] at e'
  have e:s.heap.get? P=some { cls:=.none,data:=.fields ps }:=e
  rw [e'] at e
  cases e
  cases d
 refine PySem.W.kla_eval hdef ?_
 rw [hq]
 rcases hL with hP | ⟨c',oc,vs,t,ne,hP,hc,hd,hv⟩
 ·refine PySem.W.kla_makeFunction (mg:=X.mg) (ps:=#[]) hcl I.ok.glob hg hcode C' (I.hok P _ hP) trivial rfl (hgP _ hP) ⟨bm,ob,b1,b2,b3,b4,I.bk _ _ b5,b6⟩ fun c' ctv h' tk hx hge hlt hrec htb=>?_
  obtain ⟨c₂,oc,vs,t,e2,hoc,hd,hv⟩:=hrec
  cases e2
  have hcn:H c'=none:=I.hok.fresh hge
  have hx':∀ b o,b≠P→s.heap.get? b=some o→(h'.push (PySem.W.kla_obj "<lambda>" qual params body scope clos ((X.mg "__name__").getD .none) c' ctv)).get? b=some o:=fun b o q e=>Heap.get?_push_of_some _ (hx b o q e)
  have e1:(h'.push (PySem.W.kla_obj "<lambda>" qual params body scope clos ((X.mg "__name__").getD .none) c' ctv)).get? P=some { cls:=.none,data:=.fields (#[]++#[rawInt pos.line,rawInt pos.col,.ref c']) }:=Heap.get?_push_of_some _ htb
  have e2:(h'.push (PySem.W.kla_obj "<lambda>" qual params body scope clos ((X.mg "__name__").getD .none) c' ctv)).get? c'=some oc:=Heap.get?_push_of_some _ hoc
  have ncP:c'≠P:=fun z=>by rw [z,hP] at hcn;cases hcn
  have J:=I.un (t':=tk) (zum (more:=#[rawInt pos.line,rawInt pos.col,.ref c']) (oc:=oc) hP hcn hge hx' ⟨_,e1⟩) (zsW I.hok hP hcn hx' e1 e2)
  have hsz:s.heap.objs.size≤h'.objs.size:=Nat.le_trans hge (Nat.le_of_lt hlt)
  have nq:H h'.objs.size=none:=I.hok.fresh hsz
  refine h h'.objs.size c' _ ctv _ _ oc vs t J (fun b o nb e=>?_) (.inr ⟨c',oc,vs,t,ncP,?_,zad,hd,hv⟩) (Heap.get?_push_size _ rfl) zad hd hv (I.fpOk hsz ?_)
  ·rw [zaj (fun z=>by rw [z,hcn] at e;cases e),zaj nb];exact e
  ·rw [zaj (Ne.symm ncP),zad];rfl
  ·rw [zaj (Nat.ne_of_gt hlt),zaj (fun z=>by rw [z,hP] at nq;cases nq)];exact nq
 ·have hf:codeAmong pos (#[rawInt pos.line,rawInt pos.col,Value.ref c']:Array Value).toList=some (.ref c'):=by simp [codeAmong,rawInt]
  refine PySem.W.kla_makeFunctionHit (mg:=X.mg) (ps:=#[rawInt pos.line,rawInt pos.col,.ref c']) hcl I.ok.glob hg hcode C' (I.hok P _ hP) trivial hf ⟨bm,ob,b1,b2,b3,b4,I.bk _ _ b5,b6⟩ fun ctv h' tk hk hsz=>?_
  have J:=I.kept (t':=tk) (h':=h'.push (PySem.W.kla_obj "<lambda>" qual params body scope clos ((X.mg "__name__").getD .none) c' ctv)) fun b u e=>Heap.get?_push_of_some _ (hk b u e)
  exact h h'.objs.size c' _ ctv H _ oc vs t J (fun _ _ _ e=>e) (.inr ⟨c',oc,vs,t,ne,hP,hc,hd,hv⟩) (Heap.get?_push_size _ rfl) hc hd hv (I.fpOk hsz (I.hok.fresh hsz))
end
end L2
namespace L2
open PySem PySem.Spec PyProof.Rows
structure zt9 (X:Cx) (sc:Scope) (cl:List (Str×Addr)) (Ns:List Str) (js:List Nat):Prop where
 len:js.length=Ns.length
 at':∀ (i:Nat) (y:Str),Ns[i]?=some y→∃ j c,js[i]?=some j∧X.N[j]?=some y∧X.env.scope.names.lookup y=some .cell∧cl.lookup y=some c∧sc.names.lookup y=some .free
 has:∀ y,sc.names.lookup y=some .free→∃ c,cl.lookup y=some c
 sub:∀ y c,cl.lookup y=some c→X.env.cells.lookup y=some c
theorem zb5.tbl {H:Hp} {P:Addr} {pos:Pos} {qual:Str} (h:zb5 H P pos qual):∃ ps,H P=some (.tbl ps):=by
 rcases h with h | ⟨_,_,_,_,_,h,_⟩ <;> exact ⟨_,h⟩
section
variable {X:Cx} {e body:Expr} {t:TA} {tb:TE} {pos p kp lpos:Pos} {c P:Addr} {params:Arguments} {scope:Scope} {clos:List (Str×Addr)} {qual x:Str} {Ns:List Str} {js:List Nat} {k:Nat}
theorem zt9.taken {pins:List (Addr×Obj)} {σ:St} {H:Hp} {s:Shared} {ws:List V} (C:zt9 X scope clos Ns js) (I:Inv X pins σ H s) (hw:js.map (fun j=>σ[j]?)=ws.map (fun w=>some (some w))):zpY H s.heap scope clos Ns ws:=by
 have hl:ws.length=js.length:=by
  have:=congrArg List.length hw
  rw [List.length_map,List.length_map] at this
  exact this.symm
 refine ⟨hl.trans C.len,fun i y hi=>?_,C.has,fun y d hd=>⟨I.freeC y d (C.sub y d hd),I.cell y d (C.sub y d hd)⟩,fun y z d h1 h2=>I.ok.inj y z d (C.sub y d h1) (C.sub z d h2)⟩
 obtain ⟨j,d,e1,e2,e3,e4,e5⟩:=C.at' i y hi
 have g:=congrArg (fun l=>l[i]?) hw
 simp only [List.getElem?_map,e1,Option.map_some] at g
 cases hwi:ws[i]? with
 | none=>rw [hwi] at g;cases g
 | some vy =>
  rw [hwi] at g
  have g:some (σ[j]?)=some (some (some vy)):=g
  have g':σ[j]?=some (some vy):=Option.some.inj g
  obtain ⟨m,_,hlk⟩:=I.loc
  obtain ⟨u,ru,lk⟩:=hlk j y vy e2 g' (.inr (.inl e3))
  rcases lk with ⟨k1,_⟩ | ⟨_,d',f1,f2⟩
  ·have k1:X.env.scope.names.lookup y=some .local:=k1
   rw [e3] at k1
   cases k1
  ·have:=C.sub y d e4
   rw [this] at f1
   cases f1
   exact ⟨d,u,vy,e4,e5,f2,rfl,ru⟩
end
end L2
namespace L2
open PySem PySem.Spec PyProof.Rows
def zbc (P:Addr) (K:PySem.W.Frag):PySem.W.Frag:=K.filter fun x=>x.1 != P
theorem zaK {P b:Addr} (h:b≠P):∀ {K:PySem.W.Frag},(zbc P K).lookup b=K.lookup b
 | []=>rfl
 | (a,o)::K=>by
  unfold zbc
  by_cases q:a=P
  ·rw [List.filter_cons_of_neg (by simpa using q)]
   show (zbc P K).lookup b=_
   rw [zaK h,List.lookup_cons,show (b == a)=false from beq_eq_false_iff_ne.mpr (by rw [q];exact h)]
  ·rw [List.filter_cons_of_pos (by simpa using q),List.lookup_cons,List.lookup_cons]
   show (match b == a with | true=>some o | false=>(zbc P K).lookup b)=_
   rw [zaK h]
   cases b == a <;> rfl
theorem zaD {P:Addr}:∀ {K:PySem.W.Frag},(zbc P K).lookup P=none
 | []=>rfl
 | (a,o)::K=>by
  unfold zbc
  by_cases q:a=P
  ·rw [List.filter_cons_of_neg (by simpa using q)]
   exact zaD (K:=K)
  ·rw [List.filter_cons_of_pos (by simpa using q),List.lookup_cons,show (P == a)=false from beq_eq_false_iff_ne.mpr (Ne.symm q)]
   exact zaD (K:=K)
theorem znZ {P:Addr} {K:PySem.W.Frag} {h:Heap} (KX:K.In h):(zbc P K).In h:=fun b o e=>by
 by_cases q:b=P
 ·rw [q,zaD] at e;cases e
 ·rw [zaK q] at e;exact KX b o e
section
open PySem.W
variable {P:Addr} {K:Frag}
theorem ziE (hP:K.lookup P=some (tabObj #[])) (a:Addr) (x:Str):nsIn (zbc P K) a x=nsIn K a x:=by
 unfold nsIn
 by_cases q:a=P
 ·rw [q,zaD,hP]
 ·rw [zaK q]
theorem zrn (hP:K.lookup P=some (tabObj #[])) (x:Str) (v:Value):ownIn (zbc P K) x v=ownIn K x v:=by
 unfold ownIn
 cases v with
 | ref a =>
  by_cases q:a=P
  ·simp only [q,zaD,hP]
  ·simp only [zaK q,ziE hP]
 | _=>rfl
theorem zio (hP:K.lookup P=some (tabObj #[])) (x:Str):∀ l:List Value,alongIn (zbc P K) x l=alongIn K x l
 | []=>rfl
 | c::r=>by simp only [alongIn,zrn hP,zio hP x r]
theorem zbh (hP:K.lookup P=some (tabObj #[])) (t:Value) (x:Str):findIn (zbc P K) t x=findIn K t x:=by
 unfold findIn
 cases t with
 | ref a =>
  by_cases q:a=P
  ·simp only [q,zaD,hP]
  ·simp only [zaK q,zio hP]
 | _=>rfl
theorem ziT (hP:K.lookup P=some (tabObj #[])) (C:Addr):clsIn (zbc P K) C=clsIn K C:=by
 unfold clsIn
 by_cases q:C=P
 ·rw [q,zaD,hP]
 ·rw [zaK q]
theorem zdP {a:Addr} (q:a≠P):typeIn (zbc P K) (.ref a)=typeIn K (.ref a):=by
 unfold typeIn
 simp only [zaK q]
theorem zhb (hP:K.lookup P=some (tabObj #[])) (a:Addr):keepIn (zbc P K) (.ref a)=keepIn K (.ref a):=by
 unfold keepIn
 by_cases q:a=P
 ·simp only [q,zaD,hP]
 ·simp only [zaK q,specialIn,zdP q,zbh hP]
theorem zjZ (hP:K.lookup P=some (tabObj #[])) (cd:Value) (x:Str) (h:codeIn K cd x=true):codeIn (zbc P K) cd x=true:=by
 unfold codeIn at h ⊢
 cases cd with
 | ref c =>
  by_cases q:c=P
  ·simp only [q,hP] at h
   cases h
  ·simp only [zaK q]
   exact h
 | _=>exact h
theorem zay (hP:K.lookup P=some (tabObj #[])) {x qual:Str} {st:Stmt} {f:Addr} {fd:FuncData} (F:Fun K x qual st f fd):Fun (zbc P K) x qual st f fd:=by
 obtain ⟨⟨oc,od,kV,doc,pm,an,cdv,ct,osl,e,l,c⟩,k⟩:=F
 have q:f≠P:=fun z=>by rw [z,hP] at l;cases l
 exact ⟨⟨oc,od,kV,doc,pm,an,cdv,ct,osl,e,(zaK q).trans l,zjZ hP _ _ c⟩,(zhb hP f).trans k⟩
theorem ztd (hP:K.lookup P=some (tabObj #[])) {f:Addr} (h:isFn K (.ref f)=true):f≠P:=fun z=>by
 have e:typeIn K (.ref f)=some .none:=by
  show (K.lookup f).map (·.cls)=_
  rw [z,hP]
  rfl
 unfold isFn at h
 rw [e] at h
 exact absurd h (by decide)
structure zm5 (K:Frag) (x qual:Str) (st:Stmt) (f:Addr) (fd:FuncData) (c:Addr):Prop where
 ex:∃ (oc:Value) (od:Option Addr) (kV doc pm:Value) (an:Option Addr) (ct:Value) (osl:Array (Option Value)),
  fd=fnOf x qual (zdf st) (zb0 st) (zau st) .none kV doc pm an (.ref c) ct∧K.lookup f=some ⟨oc,od,.func fd,osl⟩∧codeIn K (.ref c) qual=true
 kp:keepIn K (.ref f)=true
theorem zoR {x qual:Str} {st:Stmt} {f c:Addr} {oc:Value} {od an:Option Addr} {osl:Array (Option Value)} {kV doc pm ct:Value} (l:K.lookup f=some ⟨oc,od,.func (fnOf x qual (zdf st) (zb0 st) (zau st) .none kV doc pm an (.ref c) ct),osl⟩)
  (cc:codeIn K (.ref c) qual=true) (k:keepIn K (.ref f)=true):zm5 K x qual st f (fnOf x qual (zdf st) (zb0 st) (zau st) .none kV doc pm an (.ref c) ct) c:=⟨⟨oc,od,kV,doc,pm,an,ct,osl,rfl,l,cc⟩,k⟩
theorem zm5.fun {x qual:Str} {st:Stmt} {f c:Addr} {fd:FuncData} (F:zm5 K x qual st f fd c):Fun K x qual st f fd:=by
 obtain ⟨⟨oc,od,kV,doc,pm,an,ct,osl,e,l,cc⟩,k⟩:=F
 exact ⟨⟨oc,od,kV,doc,pm,an,.ref c,ct,osl,e,l,cc⟩,k⟩
theorem zm5.drop (hP:K.lookup P=some (tabObj #[])) {x qual:Str} {st:Stmt} {f c:Addr} {fd:FuncData} (F:zm5 K x qual st f fd c):zm5 (zbc P K) x qual st f fd c:=by
 obtain ⟨⟨oc,od,kV,doc,pm,an,ct,osl,e,l,cc⟩,k⟩:=F
 have q:f≠P:=fun z=>by rw [z,hP] at l;cases l
 exact ⟨⟨oc,od,kV,doc,pm,an,ct,osl,e,(zaK q).trans l,zjZ hP _ _ cc⟩,(zhb hP f).trans k⟩
end
end L2
namespace L2
open PySem PySem.Spec PyProof.Rows
section
variable {X:Cx} {o e value:Expr} {f:Str} {pos pos':Pos} {ta tv:TE} {C:Addr}
end
theorem zt9.one {X:Cx} {sc:Scope} {x:Str} {c:Addr} {j:Nat} (hN:X.N[j]?=some x) (hk:X.env.scope.names.lookup x=some .cell) (hc:X.env.cells.lookup x=some c) (hf:sc.names.lookup x=some .free) (hall:∀ z∈sc.names,z.2=.free→z.1=x) :
  zt9 X sc [(x,c)] [x] [j]:=by
 have l1:([(x,c)]:List (Str×Addr)).lookup x=some c:=by simp [List.lookup]
 refine ⟨rfl,fun i y hi=>?_,fun y hy=>?_,fun y d hd=>?_⟩
 ·cases i with
  | zero =>
   have hi:some x=some y:=hi
   cases hi
   exact ⟨j,c,rfl,hN,hk,l1,hf⟩
  | succ i=>cases hi
 ·have:=hall _ (PySem.mem_of_lookup hy) rfl
  have e:y=x:=this
  rw [e]
  exact ⟨c,l1⟩
 ·rw [List.lookup_cons] at hd
  cases q:y == x with
  | true =>
   rw [q] at hd
   cases hd
   rw [beq_iff_eq.mp q]
   exact hc
  | false =>
   rw [q] at hd
   cases hd
theorem zb5.same {H H':Hp} {P:Addr} {pos:Pos} {qual:Str} (h:zb5 H P pos qual) (s:∀ b o,H b=some o→H' b=some o):zb5 H' P pos qual:=by
 rcases h with h | ⟨c',oc,vs,t,e1,e2,e3,e4⟩
 ·exact .inl (s _ _ h)
 ·exact .inr ⟨c',oc,vs,t,e1,s _ _ e2,s _ _ e3,e4⟩
theorem zb5.first {H:Hp} {P:Addr} {pos:Pos} {qual:Str} (h:H P=some (.tbl #[])):zb5 H P pos qual:=.inl h
theorem zb5.new {H:Hp} {P x:Addr} {pos:Pos} {qual:Str} (h:zb5 H P pos qual) (e:H x=none):x≠P:=fun z=>by
 obtain ⟨u,h⟩:=h.tbl
 rw [z,h] at e
 cases e
theorem zoV {K:PySem.W.Frag} {h:Heap} {c P:Addr} {od:Option Addr} {sl:Array (Option Value)} {v0 v1 v2 v3 v4 v5 v6 v8 v12 v13 v14 v15 v16 v17:Value} {fl tx:Int} {tg tt tf:Tok} {inF:Bool} {file:Str} (X:K.In h)
  (l:K.lookup c=some ⟨.type "code",od,.fields #[v0,v1,v2,v3,v4,v5,v6,.int fl tg,v8,.bool inF,.int tx tt,.ref P,v12,v13,v14,v15,v16,v17,.str file tf],sl⟩) (ne:c≠P):PySem.W.CodeHd h c P :=
 ⟨_,_,_,_,_,_,_,_,_,X _ _ l,rfl,rfl,rfl,rfl,rfl,rfl,rfl,rfl,ne⟩
end L2
namespace L2
open PySem PySem.Spec PyProof.Rows
section
variable {X:Cx}
end
section
open PySem.W
variable {P:Addr} {K:Frag}
theorem zdm (hP:K.lookup P=some (tabObj #[])) (C:Addr) (b:Value):mroIn (zbc P K) C b=mroIn K C b:=by
 unfold mroIn
 rw [ziT hP]
theorem zcZ (hP:K.lookup P=some (tabObj #[])) (t b:Value):subIn (zbc P K) t b=subIn K t b:=by
 unfold subIn
 cases t with
 | ref D=>exact zdm hP D b
 | _=>rfl
theorem zag (hP:K.lookup P=some (tabObj #[])) (t c:Value):kitOne (zbc P K) t c=kitOne K t c:=by
 unfold kitOne kitCls
 cases c with
 | ref C =>
  simp only [zcZ hP,ziT hP]
  by_cases q:C=P
  ·have e:clsIn K C=none:=by
    unfold clsIn
    rw [q,hP]
   rw [e]
   rfl
  ·rw [zdP q]
 | type T=>simp only [zcZ hP]
 | _=>rfl
theorem zjL (hP:K.lookup P=some (tabObj #[])) (a:Addr):nsOkIn (zbc P K) a=nsOkIn K a:=by
 unfold nsOkIn
 by_cases q:a=P
 ·rw [q,zaD,hP]
 ·rw [zaK q]
theorem zhq (hP:K.lookup P=some (tabObj #[])) (b:List Value):∀ l,tailIn (zbc P K) b l=tailIn K b l
 | []=>rfl
 | v::r=>by
  unfold tailIn
  cases v with
  | ref A =>
   by_cases q:A=P
   ·simp only [q,zaD,hP]
   ·simp only [zaK q,zjL hP,ziE hP,zhq hP b r]
  | _=>rfl
theorem ze2 (hP:K.lookup P=some (tabObj #[])) (C:Addr) (b:List Value) (n:String):excIn (zbc P K) C b n=excIn K C b n:=by
 unfold excIn
 by_cases q:C=P
 ·rw [q,zaD,hP]
 ·simp only [zaK q,zjL hP,ziE hP,zhq hP]
end
end L2
namespace L2
open PySem PySem.Spec PyProof.Rows
def zcq:R2:=fun x y H Q=>∃ i j:Str,x=.str i∧y=.str j∧i.length+j.length≤sizeLine∧Q (.str (i++j)) H
def rInS:R2:=fun x y H Q=>∃ i j:Str,x=.str i∧y=.str j∧Q (.bl (!(Builtin.Str.occurrences j i 0 j.length 1).isEmpty)) H
def zkI:List V→Hp→VK→Prop:=fun xs H Q=>∃ y:Str,xs=[.str y]∧y.length≤sizeLine∧Q (.int y.length) H
def zgk:List V→Hp→VK→Prop:=fun xs H Q=>∃ i:Int,xs=[.int i]∧i.natAbs.log2<1920∧Q (.str (toString i)) H
def zf7:V→List V→Hp→VK→Prop:=fun x vs H Q=>∃ s c:Str,x=.str s∧vs=[.str c]∧1≤c.length∧s.length≤1000000∧∀ p,H p=none→Q (.ref p) (upd H p (.lst ((Txt.split s c).map V.str)))
def zk7:V→List V→Hp→VK→Prop:=fun x vs H Q=>∃ s c:Str,x=.str s∧vs=[.str c]∧1≤c.length∧s.length≤1000000∧∀ p,H p=none→Q (.ref p) (upd H p (.tup [.str (Txt.partition s c).1,.str (Txt.partition s c).2.1,.str (Txt.partition s c).2.2]))
def ziy:V→List V→Hp→VK→Prop:=fun x vs H Q=>∃ s c:Str,x=.str s∧vs=[.str c]∧Q (.bl (Txt.startswith s c)) H
def zkV (K:PySem.W.Frag):V→List V→Hp→VK→Prop:=fun x vs H Q=>∃ (s:Str) (p:Addr) (ts:List Str),x=.str s∧vs=[.ref p]∧SqL K H p (ts.map V.str)∧(ts.map (·.length)).sum+ts.length*s.length≤sizeLine∧Q (.str (Txt.join s ts)) H
section
variable {X:Cx}
theorem zb1:OpR X (binaryOp .Add) zcq:=zmO
theorem zvC:OpR X (compareOp .In) rInS:=zof
theorem zht:ze6 X (.builtin "len") zkI:=by
 intro pins s σ H xs us Q I r h
 obtain ⟨y,rfl,hy,q⟩:=h
 exact zqP pins s σ H _ us Q I r ⟨_,_,rfl,⟨hy,rfl⟩,q⟩
theorem zdS:ze6 X (.type "str") zgk:=zj7
theorem zj9:∀ l:List (Str×Tok),zbZ ((l.map (·.1)).map V.str) (strValues l)
 | []=>.nil
 | p::l=>.cons ⟨_,rfl⟩ (zj9 l)
theorem zka:∀ {ts:List Str} {us:List Value},zbZ (ts.map V.str) us→∃ l:List (Str×Tok),us=strValues l∧l.map (·.1)=ts
 | [],_,.nil=>⟨[],rfl,rfl⟩
 | t::ts,_,.cons ⟨k,e⟩ r=>by
  obtain ⟨l,e1,e2⟩:=zka r
  exact ⟨(t,k)::l,by rw [e,e1];rfl,by rw [← e2];rfl⟩
theorem zeY:MtM X "str.split" zf7:=by
 intro pins s σ H x vs v us Q I rx rv h
 obtain ⟨x,y,rfl,rfl,hy,hx,q⟩:=h
 obtain ⟨t,rfl⟩:=rx
 obtain ⟨w,rfl,u,rfl⟩:=zfG rv
 have sz:(1000000:Nat)+2≤sizeLine:=by decide
 have hy':(y.length == 0)=false:=beq_eq_false_iff_ne.mpr (by (first|lia|omega))
 have lo:=StrLaws.occ_length_le x y 0 x.length (x.length+1)
 have lp:=PySem.length_partsBetween x (Builtin.Str.occurrences x y 0 x.length (x.length+1)) y.length
 have ls:(Txt.split x y).length≤sizeLine:=by
  have:=PyProof.Rows.split_weight x y hy
  (first|lia|omega)
 have fin:∀ (l:List (Str×Tok)) (k:Nat),l.map (·.1)=Txt.split x y→EP X pins σ Q (.ref s.heap.objs.size) { s with toks:=k,heap:=s.heap.push { cls:=.type "list",data:=.seq (strValues l).toArray } }:=fun l k e=>by
  refine ⟨.ref _,_,I.laid (t':=k) (fun b o e=>Heap.get?_push_of_some _ e) (Nat.le_refl _) ?_,rfl,q _ (I.hok.fresh (Nat.le_refl _))⟩
  exact ⟨by rw [List.length_map];exact ls,strValues l,0,by rw [← e];exact zj9 l,Heap.get?_push_size _ rfl⟩
 cases h1:(decide (x.length<y.length) || decide (Builtin.Str.strKind x<Builtin.Str.strKind y))
 ·cases hf:(Builtin.Str.occurrences x y 0 x.length (x.length+1)).isEmpty
  ·refine call_meets F.slot_str_split (typeIs_str _ _ _) F.entry_str_split (F.args_str_split_2 _ _) (meets_str_split_sep x y t u h1 hy' hf (by (first|lia|omega)) (by (first|lia|omega))) ?_
   show wants _ _ _ { s with toks:=_,heap:=s.heap.push { cls:=.type "list",data:=.seq (strsFrom s.toks (Builtin.Str.partsBetween x (Builtin.Str.occurrences x y 0 x.length (x.length+1)) y.length)).toArray } }
   rw [strsFrom_eq]
   exact fin (numbered s.toks _) _ ((numbered_texts _ _).trans ((if_neg (ne_true_of_eq_false h1)).trans (if_neg (ne_true_of_eq_false hf))).symm)
  ·exact call_meets F.slot_str_split (typeIs_str _ _ _) F.entry_str_split (F.args_str_split_2 _ _) (meets_str_split_not_found x y t u h1 hy' hf) (fin [(x,t)] s.toks ((if_neg (ne_true_of_eq_false h1)).trans (if_pos hf)).symm)
 ·exact call_meets F.slot_str_split (typeIs_str _ _ _) F.entry_str_split (F.args_str_split_2 _ _) (meets_str_split_cannot_occur x y t u h1) (fin [(x,t)] s.toks (if_pos h1).symm)
theorem zok:MtM X "str.partition" zk7:=by
 intro pins s σ H x vs v us Q I rx rv h
 obtain ⟨x,y,rfl,rfl,hy,hx,q⟩:=h
 obtain ⟨t,rfl⟩:=rx
 obtain ⟨w,rfl,u,rfl⟩:=zfG rv
 have sz:(1000000:Nat)+2≤sizeLine:=by decide
 have hy':(y.length == 0)=false:=beq_eq_false_iff_ne.mpr (by (first|lia|omega))
 have fin:∀ (ta tb tc:Tok) (k:Nat),EP X pins σ Q (.ref s.heap.objs.size) { s with toks:=k,heap:=s.heap.push { cls:=.type "tuple",data:=.seq [.str (Txt.partition x y).1 ta,.str (Txt.partition x y).2.1 tb,.str (Txt.partition x y).2.2 tc].toArray } }:=fun ta tb tc k=>by
  refine ⟨.ref _,_,I.laid (t':=k) (fun b o e=>Heap.get?_push_of_some _ e) (Nat.le_refl _) ?_,rfl,q _ (I.hok.fresh (Nat.le_refl _))⟩
  exact ⟨(by decide:3≤sizeLine),_,.cons ⟨_,rfl⟩ (.cons ⟨_,rfl⟩ (.cons ⟨_,rfl⟩ .nil)),_,Heap.get?_push_size _ rfl,rfl,0,rfl⟩
 refine call_meets F.slot_str_partition (typeIs_str _ _ _) F.entry_str_partition (F.args_str_partition_2 _ _) (meets_str_partition x y t u hy' (by (first|lia|omega))) ?_
 have h':=fin
 unfold Txt.partition at h'
 revert h'
 cases Builtin.Str.occurrences x y 0 x.length 1 with
 | nil=>intro h';exact h' _ _ _ _
 | cons i r=>intro h';exact h' _ _ _ _
theorem zno:MtM X "str.startswith" ziy:=by
 intro pins s σ H x vs v us Q I rx rv h
 obtain ⟨x,y,rfl,rfl,q⟩:=h
 obtain ⟨t,rfl⟩:=rx
 obtain ⟨w,rfl,u,rfl⟩:=zfG rv
 exact SC.startswith ⟨.bl _,H,I,rfl,q⟩
theorem ziu:MtM X "str.join" (zkV X.K):=by
 intro pins s σ H x vs v us Q I rx rv h
 obtain ⟨x,p,ts,rfl,rfl,hp,hx,q⟩:=h
 obtain ⟨t,rfl⟩:=rx
 obtain ⟨w,rfl,ru⟩:=zfG rv
 cases ru
 obtain ⟨its,r,pl,_⟩:=I.list hp
 obtain ⟨l,rfl,el⟩:=zka r
 refine SC.join pl.isList el ?_ fun t' k=>⟨.str _,H,I.tok _,⟨_,rfl⟩,q⟩
 show (!Builtin.Str.tooLong (ts.toArray.foldl (fun a p=>a+p.length+x.length) 0))=true
 rw [StrLaws.joinTotal]
 unfold Builtin.Str.tooLong
 rw [decide_eq_false (by (first|lia|omega))]
 rfl
end
def Its (x:Str):It:=⟨fun i _=>i<x.cps.size,fun i H v H'=>H'=H∧∃ c,x.cps[i]?=some c∧v=.str ⟨#[c]⟩,fun i _=>x.cps.size≤i⟩
def iStr (tl:TE):TI:=fun σ H R=>tl σ H fun v H1=>∃ x,v=.str x∧R (Its x) H1
theorem zll {P:Program} {w:World} {K:PySem.W.Frag} {tg:Expr} (ty:String) (hty:ty="str_ascii_iterator"∨ty="str_iterator") (it:Addr) (x:Str) (t:Tok):ztG P w K tg (Its x) [it] it (fun i h=>h.IsStrIter it ty x t i) where
 mem:=by simp
 obj:=fun i h st b hb=>by
  have e:b=it:=by simpa using hb
  subst e
  obtain ⟨o,e,c,d⟩:=st
  exact ⟨o,e,fun v z=>by rw [d] at z;cases z⟩
 keep:=fun i h h' st k=>let ⟨o,ho,r⟩:=st;⟨o,k it (by simp) o ho,r⟩
 item:=by
  intro X hP hw hK hc i pins s σ H E I hf st hg
  subst hP hw hK
  obtain ⟨f0,f1,f2,f3,f4,f5⟩:=hf it (by simp)
  have W:Walks X.prog X.w X.A it [it] [it] x.cps.size (SignAt x) (fun i h=>h.IsStrIter it ty x t i):=by
   rcases hty with rfl | rfl
   ·exact Walks.strAscii (I.ok.hd hc) it x t
   ·exact Walks.strWide (I.ok.hd hc) it x t
  refine W.item i s _ _ hg st fun v h' tk hv st' kk=>?_
  obtain ⟨c,u,hcu,rfl⟩:=hv
  have I1:Inv X pins σ H { s with heap:=h',toks:=tk }:=I.turned (fun b o hb e=>kk b o (by simpa using hb) e) f0 f1 f3 f4 f5
  obtain ⟨o,e,cl,d⟩:=id st'
  refine ⟨_,rfl,ztb (s:={ s with heap:=h',toks:=tk }) (n:=ty) e cl d ?_ ⟨.str ⟨#[c]⟩,H,I1,⟨u,rfl⟩,⟨rfl,c,hcu,rfl⟩,st',fun b hb=>(hf b hb).1⟩⟩
  rcases hty with rfl | rfl <;> decide
 done:=by
  intro X hP hw hK hc i pins s σ H E I hf st hg
  subst hP hw hK
  obtain ⟨f0,f1,f2,f3,f4,f5⟩:=hf it (by simp)
  have hx:x.cps[i]?=none:=by
   have:x.cps.size≤i:=hg
   simp [this]
  rcases hty with rfl | rfl
  ·exact wpAny_pyNext_ascii_end (I.ok.hd hc) st hx fun h' eb=>⟨rfl,I.turned (t':=s.toks) (fun b o hb e=>eb b o hb e) f0 f1 f3 f4 f5⟩
  ·exact wpAny_pyNext_wide_end (I.ok.hd hc) st hx fun h' eb=>⟨rfl,I.turned (t':=s.toks) (fun b o hb e=>eb b o hb e) f0 f1 f3 f4 f5⟩
 self:=fun _ _ _ _ _ st h=>by
  rcases hty with rfl | rfl
  ·exact wpAny_pyIter_striter_ascii st h
  ·exact wpAny_pyIter_striter_wide st h
section
variable {X:Cx} {tg:Expr}
theorem zvD {l:Expr} {tl:TE} (hl:PE X l tl):PI X tg l (iStr tl):=by
 intro pins s σ H R I h
 refine thn (hl pins s σ H _ I h) fun v s1 hQ'=>?_
 obtain ⟨x,H1,I1,r1,q1⟩:=hQ'
 obtain ⟨x,rfl,q⟩:=q1
 obtain ⟨t,rfl⟩:=r1
 have fp:∀ b∈[s1.heap.objs.size],zkF X pins H1 b:=fun b hb=>by
  have e:b=s1.heap.objs.size:=by simpa using hb
  subst e
  exact I1.fpOk (Nat.le_refl _) (I1.hok.fresh (Nat.le_refl _))
 cases ha:x.cps.all (·<128)
 ·exact wpAny_pyIter_wide ha ⟨s1.heap.objs.size,[s1.heap.objs.size],_,_,H1,rfl,I1.kept (t':=s1.toks) fun b o e=>Heap.get?_push_of_some _ e,zll "str_iterator" (.inr rfl) _ x t,⟨_,Heap.get?_push_size _ rfl,rfl,rfl⟩,fp,q⟩
 ·exact wpAny_pyIter_ascii ha ⟨s1.heap.objs.size,[s1.heap.objs.size],_,_,H1,rfl,I1.kept (t':=s1.toks) fun b o e=>Heap.get?_push_of_some _ e,zll "str_ascii_iterator" (.inl rfl) _ x t,⟨_,Heap.get?_push_size _ rfl,rfl,rfl⟩,fp,q⟩
end
theorem zon {x:Str} {g:TG} {tt:TT} {te:TE} {σ:St} {H:Hp} {D:Addr} {Q:VK} (Pv:Nat→List V→St→Hp→Prop) (h0:Pv 0 [] σ (upd H D (.lst [])))
  (hs:∀ i c ys σ H,x.cps[i]?=some c→H D=some (.lst ys)→Pv i ys σ H→g (.str ⟨#[c]⟩) σ H fun σ2 H2=>tt σ2 H2 fun b H3=>if b=true then te σ2 H3 fun y H4=>zbK (.ref D) [y] H4 fun _ H5=>∃ ys,H5 D=some (.lst ys)∧Pv (i+1) ys σ2 H5 else ∃ ys,H3 D=some (.lst ys)∧Pv (i+1) ys σ2 H3)
  (hd:∀ ys σ H,H D=some (.lst ys)→Pv x.cps.size ys σ H→Q (.ref D) H):zil (Its x) g tt te D Q σ (upd H D (.lst [])):=by
 refine ⟨fun i m σ H=>m=x.cps.size - i∧i≤x.cps.size∧∃ ys,H D=some (.lst ys)∧Pv i ys σ H,⟨_,rfl,Nat.zero_le _,[],zad,h0⟩,?_⟩
 rintro i m σ H ⟨rfl,hi,ys,hD,pv⟩
 by_cases hlt:i<x.cps.size
 ·refine .inr ⟨hlt,fun σ H=>∃ ys,H D=some (.lst ys)∧Pv (i+1) ys σ H,fun σ' H' p'=>⟨_,by (first|lia|omega),rfl,hlt,p'⟩,fun v H' yl=>?_⟩
  obtain ⟨e,c,hc,rfl⟩:=yl
  subst e
  exact hs i c ys σ _ hc hD pv
 ·have e:i=x.cps.size:=by (first|lia|omega)
  subst e
  exact .inl ⟨Nat.le_refl _,hd ys σ H hD pv⟩
def zrx:V→Option Int→Option Int→Hp→VK→Prop:=fun x lo hi H Q=>∃ z:Str,x=.str z∧z.length≤sizeLine∧Q (.str ⟨((z.cps.toList.drop (HT.sIx z.length 0 lo)).take (HT.sIx z.length z.length hi - HT.sIx z.length 0 lo)).toArray⟩) H
theorem zhv (lo hi:Option Int) (n:Nat):Builtin.Str.strSliceIndices lo hi 1 n=sliceRange (HT.sIx n 0 lo:Nat) (HT.sIx n n hi:Nat) 1:=by
 have one:(1:Int) > 0:=by decide
 have e1:∀ v:Int,max (0:Int) (min (if v<0 then v+n else v) n)=((HT.sIx n 0 (some v):Nat):Int):=fun v=>by
  show _=(((if v<0 then (v+(n:Int)).toNat else min v.toNat n):Nat):Int)
  by_cases h:v<0
  ·rw [if_pos h,if_pos h];(first|lia|omega)
  ·rw [if_neg h,if_neg h];(first|lia|omega)
 have e2:∀ v:Int,max (0:Int) (min (if v<0 then v+n else v) n)=((HT.sIx n n (some v):Nat):Int):=e1
 unfold Builtin.Str.strSliceIndices
 simp only [one,if_true]
 cases lo with
 | none =>
  cases hi with
  | none=>rfl
  | some v=>rw [← e2 v];rfl
 | some v =>
  cases hi with
  | none=>rw [← e1 v];rfl
  | some u=>rw [← e1 v,← e2 u]
theorem zln {X:Cx}:SlR X zrx:=by
 intro pins s σ H x v vl vu lo hi sl Q I rx hs pl pu h
 obtain ⟨z,rfl,hz,q⟩:=h
 obtain ⟨t,rfl⟩:=rx
 refine ⟨"str",_,F.slot_str_getitem.lookup,typeIs_str _ _ _,?_⟩
 obtain ⟨l,rfl,el⟩:∃ l:Option (Int×Tok),vl=partValue l∧l.map (·.1)=lo:=by
  cases pl with
  | none=>exact ⟨none,rfl,rfl⟩
  | int i t=>exact ⟨some (i,t),rfl,rfl⟩
 obtain ⟨u,rfl,eu⟩:∃ l:Option (Int×Tok),vu=partValue l∧l.map (·.1)=hi:=by
  cases pu with
  | none=>exact ⟨none,rfl,rfl⟩
  | int i t=>exact ⟨some (i,t),rfl,rfl⟩
 have ep:(slicePicked z l u none).filterMap (z.cps[·]?)=(z.cps.toList.drop (HT.sIx z.length 0 lo)).take (HT.sIx z.length z.length hi - HT.sIx z.length 0 lo):=by
  unfold slicePicked
  rw [el,eu]
  show (Builtin.Str.strSliceIndices lo hi 1 z.length).filterMap (z.cps[·]?)=_
  rw [zhv,sliceRange_one,pick_run]
 refine wpAny_getItem_str_slice (l:=l) (u:=u) (st:=none) hs rfl ?_
 unfold sliceMade
 rw [ep]
 cases hw:(((none:Option (Int×Tok)).map (·.1)).getD 1 == 1&&(slicePicked z l u none).length == z.length)
 ·refine ⟨?_,.str _,H,I.tok _,⟨_,rfl⟩,q⟩
  show (List.toArray _).size≤sizeLine
  rw [List.size_toArray,List.length_take,List.length_drop]
  have:z.cps.toList.length=z.length:=by simp [Str.length]
  (first|lia|omega)
 ·refine ⟨.str z,H,I,⟨t,rfl⟩,?_⟩
  have e:(z.cps.toList.drop (HT.sIx z.length 0 lo)).take (HT.sIx z.length z.length hi - HT.sIx z.length 0 lo)=z.cps.toList:=by
   have hl:(slicePicked z l u none).length=z.length:=by simpa using hw
   have hp:slicePicked z l u none=(List.range (HT.sIx z.length z.length hi - HT.sIx z.length 0 lo)).map (HT.sIx z.length 0 lo+·):=by
    unfold slicePicked
    rw [el,eu]
    show Builtin.Str.strSliceIndices lo hi 1 z.length=_
    rw [zhv,sliceRange_one]
   rw [hp,List.length_map,List.length_range] at hl
   have h1:=HT.sIx_le z.length z.length (Nat.le_refl _) hi
   have h0:=HT.sIx_le z.length 0 (Nat.zero_le _) lo
   have lz:z.cps.toList.length=z.length:=by simp [Str.length]
   rw [hl]
   by_cases n0:z.length=0
   ·have:z.cps.toList=[]:=List.eq_nil_of_length_eq_zero (by (first|lia|omega))
    rw [this,List.drop_nil,List.take_nil]
   ·rw [show HT.sIx z.length 0 lo=0 by (first|lia|omega),List.drop_zero,List.take_of_length_le (by (first|lia|omega))]
  rw [e] at q
  exact q
end L2
namespace L2
open PySem PySem.Spec PyProof.Rows
section
variable {P:Program} {w:World} {H H':Hp} {h h':Heap} {c:Addr} {o:Obj}
theorem zk0 (x:HOk P w H h) (hc:H c=some (.frz o (.own c))):HOk P w (zeg H c) h:=fun b u e=>by
 obtain ⟨n,e⟩:=zhN e
 refine (x b u e).stay (fun _ _ _ q=>q) (fun d q=>?_) fun d xs q=>?_
 ·rw [zbb (fun z=>by rw [z,hc] at q;cases q)];exact q
 ·rw [zbb (fun z=>by rw [z,hc] at q;cases q)];exact q
theorem zkC (x:HOk P w H h) (hc:H c=none) (e:h.get? c=some o):HOk P w (upd H c (.frz o (.own c))) h:=fun b u q=>by
 by_cases z:b=c
 ·subst z
  rw [zad] at q
  cases q
  exact ⟨e,o,e⟩
 ·rw [zaj z] at q
  refine (x b u q).stay (fun _ _ _ r=>r) (fun d r=>?_) fun d xs r=>?_
  ·rw [zaj (zaz r hc)];exact r
  ·rw [zaj (zaz r hc)];exact r
theorem zrK {fs:List Addr} (u:Un fs [] (upd H c (.frz o (.own c))) H' h h') (hc:H c=none) (e:h.get? c=some o) (ec:h'.get? c=some o):Un fs [] H (zeg H' c) h h':=by
 have up:∀ b,b≠c→H b=none→upd H c (.frz o (.own c)) b=none:=fun b n q=>by rw [zaj n];exact q
 refine ⟨fun b ob q n hb hx=>?_,fun b ob q n hb hx=>?_,fun b ob q n hx=>?_,fun b ob q hx=>u.there b ob q hx,fun b xs q=>?_,fun b ob v q=>?_,fun b ps q=>?_⟩
 ·by_cases z:b=c
  ·subst z
   rw [e] at q
   cases q
   exact ec
  ·exact u.keep b ob q (up b z n) hb hx
 ·by_cases z:b=c
  ·subst z
   rw [e] at q
   cases q
   exact ⟨o.slots,ec⟩
  ·exact u.slot b ob q (up b z n) hb hx
 ·by_cases z:b=c
  ·rw [z];exact zdQ
  ·rw [zbb z];exact u.free b ob q (up b z n) hx
 ·have z:b≠c:=fun z=>by rw [z,hc] at q;cases q
  rw [zbb z]
  exact u.tups b xs (by rw [zaj z];exact q)
 ·have z:b≠c:=fun z=>by rw [z,hc] at q;cases q
  rw [zbb z]
  exact u.frzs b ob v (by rw [zaj z];exact q)
 ·have z:b≠c:=fun z=>by rw [z,hc] at q;cases q
  rw [zbb z]
  exact u.tbls b ps (by rw [zaj z];exact q)
theorem zvh {fs:List Addr} (u:Un fs [] (zeg H c) H' h h') (hc:H c=some (.frz o (.own c))) (e:h.get? c=some o):Un fs [] H (upd H' c (.frz o (.own c))) h h':=by
 have nb:∀ b,H b=none→b≠c:=fun b n z=>by rw [z,hc] at n;cases n
 refine ⟨fun b ob q n hb hx=>?_,fun b ob q n hb hx=>?_,fun b ob q n hx=>?_,fun b ob q hx=>u.there b ob q hx,fun b xs q=>?_,fun b ob v q=>?_,fun b ps q=>?_⟩
 ·exact u.keep b ob q (by rw [zbb (nb b n)];exact n) hb hx
 ·exact u.slot b ob q (by rw [zbb (nb b n)];exact n) hb hx
 ·rw [zaj (nb b n)]
  exact u.free b ob q (by rw [zbb (nb b n)];exact n) hx
 ·have z:b≠c:=fun z=>by rw [z,hc] at q;cases q
  rw [zaj z]
  exact u.tups b xs (by rw [zbb z];exact q)
 ·by_cases z:b=c
  ·subst z
   rw [hc] at q
   cases q
   exact zad
  ·rw [zaj z]
   exact u.frzs b ob v (by rw [zbb z];exact q)
 ·have z:b≠c:=fun z=>by rw [z,hc] at q;cases q
  rw [zaj z]
  exact u.tbls b ps (by rw [zbb z];exact q)
theorem zv2 {outer:List Env} {s s':Shared} {Q:VK} {u:Value} (x:CE outer P w (upd H c (.frz o (.own c))) s (fun v H'=>Q v (zeg H' c)) u s') (hc:H c=none) (e:s.heap.get? c=some o):CE outer P w H s Q u s':=by
 obtain ⟨v,H',os,bare,un,hok,r,q⟩:=x
 exact ⟨v,_,os,bare,zrK un hc e (hok c _ (un.frzs c _ _ zad)).1,zk0 hok (un.frzs c _ _ zad),r,q⟩
theorem zvX {outer:List Env} {s s':Shared} {Q:VK} {u:Value} (x:CE outer P w (zeg H c) s (fun v H'=>Q v (upd H' c (.frz o (.own c)))) u s') (hc:H c=some (.frz o (.own c))) (e:s.heap.get? c=some o) (hf:c∉frs outer):CE outer P w H s Q u s':=by
 obtain ⟨v,H',os,bare,un,hok,r,q⟩:=x
 have fr:H' c=none:=un.free c o e zdQ (by simp)
 exact ⟨v,_,os,bare,zvh un hc e,zkC hok fr (un.keep c o e zdQ hf (by simp)),r,q⟩
theorem ztF {outer:List Env} {s s':Shared} {E:XK} {v:Value} (x:CXV P w outer (upd H c (.frz o (.own c))) s (fun k od H'=>E k od (zeg H' c)) v s') (hc:H c=none) (e:s.heap.get? c=some o) (hf:c∉frs outer):CXV P w outer H s E v s':=by
 obtain ⟨ea,B,cls,a0,H',od,rfl,x,d⟩:=x
 have fc:H' c=some (.frz o (.own c)):=x.un.frzs c _ _ zad
 have eB:B.get? c=some o:=(x.hokB c _ fc).1
 refine ⟨ea,B,cls,a0,zeg H' c,od,rfl,⟨x.os,x.bare,?_,zk0 x.hokB fc,x.fly,fun b ob q n hb=>?_,x.covT,x.new,?_,x.want⟩,d⟩
 ·exact zrK x.un hc e (x.fly.1 c o eB)
 ·by_cases z:b=c
  ·subst z
   rw [e] at q
   cases q
   exact eB
  ·exact x.cov b ob q (by rw [zaj z];exact n) hb
 ·unfold zeg
  split
  ·rfl
  ·exact x.free
end
theorem zj0 {P:Program} {w:World} {K:PySem.W.Frag} {mg:Str→Option Value} {base:Heap} {A:Around} {outer:List Env} {s:Shared} {H:Hp} {q c':Addr} {nm qual x y:Str} {params:Arguments} {body:Expr} {scope:Scope} {cl:List (Str×Addr)}
  {pm ctv u1 u2:Value} {v1 v2:V} {Ns:List Str} {vs:List V} {Q:VK} {t:TE} (e0:zm6 P w K mg base A outer s H) (hroom:A.depth<recursionLimit) (hh:A.handled=none)
  (ho:s.heap.get? q=some (PySem.W.kla_obj nm qual params body scope cl pm c' ctv)) (hcd:s.heap.CodeRec (.ref c') qual)
  (hbind:bindArgs (PySem.W.kla_fn nm qual params body scope cl pm (.ref c') ctv) ⟨[u1,u2],[]⟩=pure [(x,u1),(y,u2)]) (hne:x≠y) (hlx:scope.names.lookup x=some .local) (hly:scope.names.lookup y=some .local) (hk:scope.kind=.function) (hco:scope.isCoroutine=false) (hgen:scope.isGenerator=false)
  (hcell:∀ y∈scope.names,y.2≠.cell) (T:zpY H s.heap scope cl Ns vs) (r1:zca v1 u1) (r2:zca v2 u2) (hb:PE (zkS P w K mg base (x::y::Ns) qual scope q (.ref c') cl A outer s H) body t) {Q0:VK} (hQ:∀ v H',(∀ y c,cl.lookup y=some c→H' c=none)→Q0 v H'→Q v H') (h:t (some v1::some v2::vs.map some) H Q0) :
  codeAny (model P w) A (.call (.ref q) ⟨[u1,u2],[]⟩) (fun r s'=>match r with | .ok (.ret u')=>CE outer P w H s Q u' s' | _=>False) s:=by
 have lim:s.heap.NoLimit:=e0.mod.nolimit.keeps fun b o e=>(e0.bs b o e).1
 refine PySem.W.kla_callFunE hroom ho rfl hco hgen rfl hcd ?_
 rw [hbind]
 refine wpAny_pure (wpAny_newFunctionEnv hcell (fun z hz=>?_) (fun h₁ hns hsb=>⟨lim.fresh _ hsb,?_⟩) hk)
 ·rcases List.mem_cons.mp hz with rfl | hz
  ·exact hlx
  ·rw [List.mem_singleton.mp hz];exact hly
 have hk₁:∀ b o,s.heap.get? b=some o→h₁.get? b=some o:=fun b o e=>hsb.extBut b o (Nat.ne_of_lt (Heap.lt_size e)) (Heap.get?_push_of_some _ e)
 have I:Inv (zkS P w K mg base (x::y::Ns) qual scope q (.ref c') cl A outer s H) [] (some v1::some v2::vs.map some) H { s with heap:=h₁,toks:=s.toks+2 }:=by
  have noA:∀ b:Addr,b∉(zkS P w K mg base (x::y::Ns) qual scope q (.ref c') cl A outer s H).ex:=fun b z=>absurd (show b∈([]:List Addr) from z) (by simp)
  refine ⟨⟨e0.mod,hk,rfl,rfl,Nat.le_refl _,T.inj,fun y hy=>?_,fun y c hf e=>?_,fun _=>hh,Around.frames_deeper e0.frames,.inr ⟨rfl,rfl⟩,fun b z=>absurd z (noA b),e0.bs,e0.bsz,fun b _ _=>noA b,fun b z=>absurd z (noA b),e0.funs,e0.frf⟩,
   rfl,e0.bare,Un.kept hk₁,⟨_,hns,fun i z v' h1 h2 h3=>?_⟩,fun y c e=>?_,e0.hok.fresh (Nat.le_refl _),fun y c e=>(T.cel y c e).1,fun p hp=>absurd (show p∈([]:List (Addr×Obj)) from hp) (by simp),e0.hok.kept hk₁,?_⟩
  ·have hy:scope.names.lookup y=some .cell∨scope.names.lookup y=some .free:=hy
   rcases hy with hy | hy
   ·exact absurd rfl (hcell _ (PySem.mem_of_lookup hy))
   ·exact T.has y hy
  ·have hf:(cl.lookup y).isNone=true:=hf
   have e:cl.lookup y=some c:=e
   rw [e] at hf
   cases hf
  ·match i,h1,h2 with
   | 0,h1,h2 =>
    have h1:some x=some z:=h1
    have h2:some (some v1)=some (some v'):=h2
    cases h1
    cases h2
    refine ⟨u1,r1,.inl ⟨hlx,?_⟩⟩
    show List.lookup x [(y,u2),(x,u1)]=some u1
    rw [List.lookup_cons,beq_eq_false_iff_ne.mpr hne]
    simp
   | 1,h1,h2 =>
    have h1:some y=some z:=h1
    have h2:some (some v2)=some (some v'):=h2
    cases h1
    cases h2
    refine ⟨u2,r2,.inl ⟨hly,?_⟩⟩
    show List.lookup y [(y,u2),(x,u1)]=some u2
    simp
   | i+2,h1,h2 =>
    have h1:Ns[i]?=some z:=h1
    obtain ⟨c,uy,vy,e1,e2,e3,e4,e5⟩:=T.at' i z h1
    have h2:(vs.map some)[i]?=some (some v'):=h2
    rw [List.getElem?_map,e4] at h2
    cases h2
    obtain ⟨oc,z1,z2⟩:=e3
    exact ⟨uy,e5,.inr ⟨.inr e2,c,e1,⟨oc,hk₁ _ _ z1,z2⟩⟩⟩
  ·obtain ⟨v',oc,z1,z2⟩:=(T.cel y c e).2
   exact ⟨v',oc,hk₁ _ _ z1,z2⟩
  ·show (some v1::some v2::vs.map some).length=(x::y::Ns).length
   rw [List.length_cons,List.length_cons,List.length_map,List.length_cons,List.length_cons,T.len]
 refine PySem.W.kla_codeExpr (wpAny_mono (hb [] _ _ H _ I h) (fun u' s' hs=>?_) fun _ _ z=>z.elim)
 obtain ⟨v',H',J,rv',q'⟩:=hs
 exact ⟨v',H',J.os,J.bare,J.base,J.hok,rv',hQ v' H' (fun y c e=>J.freeC y c e) q'⟩
def ztg (e:Expr) (qual y:Str) (H:Hp) (q c:Addr) (w:V):Prop:=∃ (params:Arguments) (body:Expr) (scope:Scope) (lpos:Pos) (pm ctv:Value) (c':Addr) (oc:Obj) (ovs:Array Value) (t:Nat) (ou:Obj) (uv:Value),
 e=.Lambda params body scope lpos∧H q=some (.frz (PySem.W.kla_obj "<lambda>" qual params body scope [(y,c)] pm c' ctv) (.own q))∧H c'=some (.frz oc (.own c'))∧oc.data=.fields ovs∧ovs[1]?=some (.str qual t)∧c'≠c∧q≠c ∧
 H c=some (.frz ou (.own c))∧ou.data=.cell (some uv)∧zca w uv
theorem ztg.same {e:Expr} {qual y:Str} {H H':Hp} {q c:Addr} {w:V} (h:ztg e qual y H q c w) (s:zaQ H H'):ztg e qual y H' q c w:=by
 obtain ⟨a1,a2,a3,a4,a5,a6,a7,a8,a9,a10,a11,a12,b1,b2,b3,b4,b5,b6,b7,b8,b9⟩:=h
 exact ⟨a1,a2,a3,a4,a5,a6,a7,a8,a9,a10,a11,a12,b1,s _ _ b2,s _ _ b3,b4,b5,b6,b7,s _ _ b8,b9⟩
def zlD (e:Expr) (qual y:Str) (i:Nat) (tb:TE) (ta:TA):TE:=fun σ H Q=>∃ q,σ[i]?=some (some (.ref q))∧ta σ H fun vs H1=>∃ u1 u2 c w,vs=[u1,u2]∧ztg e qual y H1 q c w∧tb [some u1,some u2,some w] (zeg H1 c) fun v H2=>H2 c=none→∀ F,H1 c=some F→Q v (upd H2 c F)
section
variable {X:Cx} {x y z f:Str} {p pos lpos:Pos} {e1 e2 body:Expr} {params:Arguments} {scope:Scope} {qual:Str} {ta:TA} {tb:TE} {i k:Nat}
theorem zpT (hN:X.N[i]?=some f) (hv:Vis X.env.scope f) (hr:zej (k+1) X.A) (ha:PA X [e1,e2] ta)
  (hbind:∀ (cl:List (Str×Addr)) (pm cd ctv u1 u2:Value),bindArgs (PySem.W.kla_fn "<lambda>" qual params body scope cl pm cd ctv) ⟨[u1,u2],[]⟩=pure [(x,u1),(z,u2)]) (hne:x≠z) (hlx:scope.names.lookup x=some .local) (hlz:scope.names.lookup z=some .local) (hk:scope.kind=.function) (hco:scope.isCoroutine=false) (hgen:scope.isGenerator=false)
  (hcell:∀ y∈scope.names,y.2≠.cell) (hfree:scope.names.lookup y=some .free) (hall:∀ n∈scope.names,n.2=.free→n.1=y)
  (hb:∀ (c:Addr) (f:Addr) (cd:Value) (A:Around) (outer:List Env) (s:Shared) (H:Hp),zej k (zkS X.prog X.w X.K X.mg X.base [x,z,y] qual scope f cd [(y,c)] A outer s H).A→PE (zkS X.prog X.w X.K X.mg X.base [x,z,y] qual scope f cd [(y,c)] A outer s H) body tb)
  (hd:(f == ("__debug__":Str))=false:=by decide) (hcd:(f == ("__classdict__":Str))=false:=by decide)
  (he:starEach [e1,e2] X.env=(false,eval e1 X.env)::starEach [e2] X.env:=by rfl) (hpl:(backTo pos (starEach [e2] X.env)).any (·.1)=false:=by rfl) :
  PE X (.Call (.Name f p) [e1,e2] [] pos) (zlD (.Lambda params body scope lpos) qual y i tb ta):=by
 intro pins s σ H Q I h
 obtain ⟨q,hq,h⟩:=h
 refine wpAny_Call_Name_kw (thn (znk (pos:=p) hN hv hd hcd pins s σ H (fun v H1=>v=.ref q∧H1=H) I ⟨.ref q,hq,rfl,rfl⟩) fun fv s1 hQ'=>?_)
 obtain ⟨v,H1,I1,r1,e,eH⟩:=hQ'
 subst e
 subst eH
 cases r1
 refine PySem.W.callWith_of (P:=fun h=>∃ (cl:List (Str×Addr)) (pm ctv:Value) (c':Addr),h.get? q=some (PySem.W.kla_obj "<lambda>" qual params body scope cl pm c' ctv)) (by rw [he];show ((false || (backTo pos (starEach [e2] X.env)).any (·.1)) || false)=false;rw [hpl];rfl) (fun h ⟨cl,pm,ctv,c',e⟩=>⟨.frame,.inl rfl,(PySem.W.Looks.ld (part:=none) e).andThen .now⟩) ?_
 have hA:=ha pos pins s1 σ H1 _ I1 h
 rw [he] at hA ⊢
 refine Calls.evalArgs_plain (thn hA fun us s2 hQ'=>?_)
 obtain ⟨vs,H2,I2,r2,q2⟩:=hQ'
 obtain ⟨v1,v2,c,w,rfl,L,q2⟩:=q2
 obtain ⟨pa,bo,sc,lp,pm,ctv,c',oc,ovs,tk,ou,uv,eL,hq2,hc',hd',hv',nc',nq,hc,hdc,rw'⟩:=L
 cases eL
 obtain ⟨u1,u2,rfl,ru1,ru2⟩:=zmx r2
 have eq2:s2.heap.get? q=some (PySem.W.kla_obj "<lambda>" qual params body scope [(y,c)] pm c' ctv):=(I2.hok q _ hq2).1
 have ec':s2.heap.get? c'=some oc:=(I2.hok c' _ hc').1
 have ecell:s2.heap.get? c=some ou:=(I2.hok c _ hc).1
 refine ⟨⟨_,pm,ctv,c',eq2⟩,?_⟩
 have e0:=I2.env0
 have e0':zm6 X.prog X.w X.K X.mg X.base X.A X.stack s2 (zeg H2 c):=⟨e0.frames,e0.mod,fun b o e=>⟨(e0.bs b o e).1,by
  unfold zeg
  split
  ·rfl
  ·exact (e0.bs b o e).2⟩,e0.bsz,e0.funs,fun b hb=>by
  unfold zeg
  split
  ·rfl
  ·exact e0.frf b hb,zk0 e0.hok hc,e0.bare⟩
 have T:zpY (zeg H2 c) s2.heap scope [(y,c)] [y] [w]:=by
  have l1:([(y,c)]:List (Str×Addr)).lookup y=some c:=by simp [List.lookup]
  have only:∀ n d,([(y,c)]:List (Str×Addr)).lookup n=some d→n=y∧d=c:=fun n d e=>by
   rw [List.lookup_cons] at e
   cases q:n == y with
   | true =>
    rw [q] at e
    cases e
    exact ⟨beq_iff_eq.mp q,rfl⟩
   | false =>
    rw [q] at e
    cases e
  refine ⟨rfl,fun j n hj=>?_,fun n hn=>?_,fun n d e=>?_,fun n m d h1 h2=>?_⟩
  ·match j,hj with
   | 0,hj =>
    cases hj
    exact ⟨c,uv,w,l1,hfree,⟨ou,ecell,hdc⟩,rfl,rw'⟩
  ·have:=hall _ (PySem.mem_of_lookup hn) rfl
   have e:n=y:=this
   rw [e]
   exact ⟨c,l1⟩
  ·obtain ⟨_,rfl⟩:=only n d e
   exact ⟨zdQ,_,ou,ecell,hdc⟩
  ·rw [(only n d h1).1,(only m d h2).1]
 refine wpAny_call (codeAny_mono (zj0 (t:=tb) (Ns:=[y]) (vs:=[w]) (x:=x) (y:=z) (v1:=v1) (v2:=v2) e0' hr.depth hr.hd eq2 ⟨c',oc,ovs,tk,rfl,ec',hd',hv'⟩ (hbind _ _ _ _ _ _) hne hlx hlz hk hco hgen hcell T ru1 ru2 (hb _ _ _ _ _ _ _ (hr.deeper _)) (Q:=fun v H3=>∀ F,H2 c=some F→Q v (upd H3 c F)) (fun v H' hf q=>q (hf y c (by simp [List.lookup]))) q2) fun r s' hq=>?_)
 have nfr:c∉frs X.stack:=fun z=>by rw [I2.stkFree c z] at hc;cases hc
 cases r with
 | error e=>exact hq.elim
 | ok fl =>
  cases fl with
  | ret u =>
   have hq:CE X.stack X.prog X.w (zeg H2 c) s2 _ u s':=hq
   refine I2.after (zvX (o:=ou) ?_ hc ecell nfr)
   obtain ⟨v,H',os,bare,un,hok,r,q⟩:=hq
   exact ⟨v,H',os,bare,un,hok,r,q _ hc⟩
  | next=>exact hq.elim
  | brk=>exact hq.elim
  | cont=>exact hq.elim
end
theorem Inv.trackF {X:Cx} {pins:List (Addr×Obj)} {σ:St} {H:Hp} {s:Shared} {q:Addr} {o:Obj} (I:Inv X pins σ H s) (fq:zkF X pins H q) (hex:X.ex=[]) (e:s.heap.get? q=some o):Inv X pins σ (upd H q (.frz o (.own q))) s:=by
 obtain ⟨f0,f1,f2,f3,f4,f5⟩:=fq
 have f3:X.s₀.heap.objs.size≤q:=by
  rcases f3 with z | z
  ·rw [hex] at z;cases z
  ·exact z
 refine ⟨I.ok,I.os,I.bare,⟨I.base.keep,I.base.slot,fun b ob r n hx=>?_,I.base.there,fun b xs r=>?_,fun b ob u r=>?_,fun b ps r=>?_⟩,I.loc,I.cell,?_,fun x c ec=>?_,fun p hp=>?_,zkC I.hok f0 e,I.len⟩
 ·rw [zaj (Nat.ne_of_lt (Nat.lt_of_lt_of_le (Heap.lt_size r) f3))]
  exact I.base.free b ob r n hx
 ·have:=I.base.tups b xs r
  rw [zaj (zaz this f0)]
  exact this
 ·have:=I.base.frzs b ob u r
  rw [zaj (zaz this f0)]
  exact this
 ·obtain ⟨more,hm⟩:=I.base.tbls b ps r
  exact ⟨more,by rw [zaj (zaz hm f0)];exact hm⟩
 ·rw [zaj (Ne.symm f1)]
  exact I.free
 ·rw [zaj (f4 x c ec)]
  exact I.freeC x c ec
 ·obtain ⟨p1,p2,p3,p4,p5⟩:=I.pin p hp
  exact ⟨p1,by rw [zaj (f5 p hp)];exact p2,p3,p4,p5⟩
def zn4 (P:Addr) (e:Expr) (lpos:Pos) (qual y:Str) (j:Nat) (sp:Sp) (E:XK) (te:TE):TE:=fun σ H Q=>te σ H fun v H1=>∃ w,σ[j]?=some (some w)∧zb5 H1 P lpos qual ∧
 ∀ (q c:Addr) (H3 H4:Hp),Bar P H1 H3→zb5 H3 P lpos qual→H1 q=none→H3 c=none→H1 c=none→zaQ H3 H4→ztg e qual y H4 q c w→sp [v,.ref q] H4 (fun r H5=>Q r (zeg H5 c)) (fun k od H5=>E k od (zeg H5 c))
section
variable {X:Cx} {x y:Str} {p pos lpos:Pos} {e body:Expr} {params:Arguments} {scope:Scope} {qual:Str} {te:TE} {j k:Nat} {f c cc P:Addr} {fd:FuncData} {ps:List Str} {sp:Sp} {E:XK}
theorem zqF (F:zcW X.prog X.w X.K X.mg X.base (CXV X.prog X.w) k f fd ps sp) (hr:zej k X.A) (hg:Gl X x) (hm:X.mg x=some (.ref f)) (hk:PySem.W.keepIn X.K (.ref f)=true) (hb:zbF X.K fd ps []) (hx:zgb (CXV X.prog X.w) X E) (h1:PE X e te)
  (hcode:X.env.code=.ref cc) (C:PySem.W.CodeHd X.base cc P) (hB:X.base.BuiltinsAt X.mg P) (hcl:closureFor scope X.env=pure [(y,c)]) (hdef:defaultsOf params X.env=([],[])) (hq:X.env.qual++"<lambda>"=qual) (hcap:zt9 X scope [(y,c)] [y] [j]) (hex:X.ex=[]) (hfn:X.fn y=true)
  (hdb:(x == ("__debug__":Str))=false:=by decide) (he:starEach [e,.Lambda params body scope lpos] X.env=(false,eval e X.env)::starEach [.Lambda params body scope lpos] X.env:=by rfl)
  (he2:starEach [.Lambda params body scope lpos] X.env=(false,eval (.Lambda params body scope lpos) X.env)::starEach [] X.env:=by rfl) (hpl:(backTo pos (starEach [.Lambda params body scope lpos] X.env)).any (·.1)=false:=by rfl) :
  PE X (.Call (.Name x p) [e,.Lambda params body scope lpos] [] pos) (zn4 P (.Lambda params body scope lpos) lpos qual y j sp E te):=by
 intro pins s σ H Q I h
 refine wpAny_Call_Name_kw (zdg I hg hm ?_ hdb)
 refine PySem.W.callWith_K (h₀:=X.base) I.ok.mod.kin hk ?_ he hpl
 rw [he]
 show wpAny _ _ (spliced ((false,eval e X.env)::backTo pos (starEach [.Lambda params body scope lpos] X.env))) _ _ s
 refine Calls.spliced_cons (thn (h1 pins s σ H _ I h) fun u s1 hQ'=>?_)
 obtain ⟨v,H1,I1,r1,w,hw,hL,q1⟩:=hQ'
 rw [he2]
 show wpAny _ _ (spliced ((false,eval (.Lambda params body scope lpos) X.env)::backTo pos (starEach [] X.env))) _ _ s1
 refine Calls.spliced_cons (zly I1 hcode C hB hL hcl hdef hq fun qa c' pm ctv H2 s2 oc ovs ot I2 bar hL2 hqa hc' hd hv fq=>?_)
 refine Calls.spliced_nil ⟨I2.kIn,?_⟩
 obtain ⟨j',c2,ej,eN,ek,el,ef⟩:=hcap.at' 0 y rfl
 have ec2:c2=c:=by
  have l1:([(y,c)]:List (Str×Addr)).lookup y=some c:=by simp [List.lookup]
  rw [l1] at el
  exact (Option.some.inj el).symm
 subst ec2
 have hcx:X.env.cells.lookup y=some c2:=hcap.sub y c2 el
 have T:=hcap.taken I2 (ws:=[w]) (by
  have:j=j':=by
   have e:some j=some j':=ej
   exact Option.some.inj e
  show [σ[j]?]=[some (some w)]
  rw [hw])
 obtain ⟨c3,uy,vy,t1,_,t3,t4,t5⟩:=T.at' 0 y rfl
 cases t4
 have ec3:c3=c2:=by
  rw [el] at t1
  exact (Option.some.inj t1).symm
 subst ec3
 obtain ⟨ou,eou,hou⟩:=t3
 have fc:H2 c3=none:=I2.freeC y c3 hcx
 have fc1:H1 c3=none:=I1.freeC y c3 hcx
 have nqc:qa≠c3:=fun z=>by
  rw [z,eou] at hqa
  cases hqa
  cases hou
 have ncc:c'≠c3:=fun z=>by rw [z,fc] at hc';cases hc'
 have fq2:H2 qa=none:=fq.1
 have nqP:qa≠P:=fun z=>by
  obtain ⟨ps,hP⟩:=hL2.tbl
  rw [z,hP] at fq2
  cases fq2
 have I3:=I2.trackF fq hex hqa
 have fc3:upd H2 qa (.frz (PySem.W.kla_obj "<lambda>" qual params body scope [(y,c3)] pm c' ctv) (.own qa)) c3=none:=by rw [zaj (Ne.symm nqc)];exact fc
 have cab:X.s₀.heap.objs.size≤c3:=I2.ok.cab y c3 hfn hcx
 have nfr:c3∉frs X.stack:=fun z=>by
  rcases List.mem_cons.mp (I2.stkSub c3 z) with e | hb
  ·exact I2.cne y c3 hcx e
  ·obtain ⟨_,o',ho',_⟩:=I2.ok.funs.mem hb
   exact absurd (Nat.lt_of_lt_of_le (Heap.lt_size ho') cab) (Nat.lt_irrefl _)
 have q3:upd H2 qa (.frz (PySem.W.kla_obj "<lambda>" qual params body scope [(y,c3)] pm c' ctv) (.own qa)) qa=some (.frz (PySem.W.kla_obj "<lambda>" qual params body scope [(y,c3)] pm c' ctv) (.own qa)):=zad
 have hc3:upd H2 qa (.frz (PySem.W.kla_obj "<lambda>" qual params body scope [(y,c3)] pm c' ctv) (.own qa)) c'=some (.frz oc (.own c')):=by rw [zaj (fun z=>by rw [z,fq2] at hc';cases hc')];exact hc'
 have bar3:Bar P H1 (upd H2 qa (.frz (PySem.W.kla_obj "<lambda>" qual params body scope [(y,c3)] pm c' ctv) (.own qa))):=fun b o n e=>by
  have:=bar b o n e
  rw [zaj (zaz this fq2)]
  exact this
 have hL3:zb5 (upd H2 qa (.frz (PySem.W.kla_obj "<lambda>" qual params body scope [(y,c3)] pm c' ctv) (.own qa))) P lpos qual:=hL2.same fun b o e=>by rw [zaj (zaz e fq2)];exact e
 have fq1:H1 qa=none:=by
  cases z:H1 qa with
  | none=>rfl
  | some o =>
   rw [bar qa o nqP z] at fq2
   cases fq2
 generalize upd H2 qa (.frz (PySem.W.kla_obj "<lambda>" qual params body scope [(y,c3)] pm c' ctv) (.own qa))=H3 at I3 fc3 q3 hc3 bar3 hL3
 have S4:zaQ H3 (upd H3 c3 (.frz ou (.own c3))):=zai fc3 _
 have sp4:=q1 qa c3 H3 (upd H3 c3 (.frz ou (.own c3))) bar3 hL3 fq1 fc3 fc1 S4 ⟨params,body,scope,lpos,pm,ctv,c',oc,ovs,ot,ou,uy,rfl,S4 _ _ q3,S4 _ _ hc3,hd,hv,ncc,nqc,zad,hou,t5⟩
 have e0:=I3.env0
 have e04:zm6 X.prog X.w X.K X.mg X.base X.A X.stack s2 (upd H3 c3 (.frz ou (.own c3))):=by
  refine ⟨e0.frames,e0.mod,fun b o e=>⟨(e0.bs b o e).1,?_⟩,e0.bsz,e0.funs,fun b hb=>?_,zkC e0.hok fc3 eou,e0.bare⟩
  ·have lt:b<c3:=Nat.lt_of_lt_of_le (Nat.lt_of_lt_of_le (Heap.lt_size e) I2.ok.bsz) cab
   rw [zaj (Nat.ne_of_lt lt)]
   exact (e0.bs b o e).2
  ·rw [zaj (fun z=>nfr (by rw [← z];exact hb))]
   exact e0.frf b hb
 have r2:zbZ [v,.ref qa] [u,.ref qa]:=.cons r1 (.cons rfl .nil)
 have hl:([u,Value.ref qa]++[]).length=ps.length:=by
  have:=F.len _ _ _ _ sp4
  rw [← this]
  rfl
 have hbb:=hb s2 [u,.ref qa] I3.kIn hl
 rw [List.append_nil] at hbb
 refine wpAny_call (codeAny_mono (F.run X.A X.stack s2 _ ⟨[u,.ref qa],[]⟩ [u,.ref qa] [v,.ref qa] _ _ hr e04 hbb r2 sp4) fun r s' hq=>?_)
 cases r with
 | error e=>exact hx pins σ H3 s2 e s' I3 (ztF hq fc3 eou nfr)
 | ok fl =>
  cases fl with
  | ret u=>exact I3.after (zv2 hq fc3 eou)
  | next=>exact False.elim hq
  | brk=>exact False.elim hq
  | cont=>exact False.elim hq
end
end L2
namespace L2
open PySem PySem.Spec PyProof.Rows
section
open PySem.W
variable {P:Addr} {K:Frag}
theorem zeL (hP:K.lookup P=some (tabObj #[])) (v:Value) (n:Str):specialIn (zbc P K) v n=specialIn K v n:=by
 unfold specialIn
 cases v with
 | ref a =>
  by_cases q:a=P
  ·subst q
   have e1:typeIn (zbc a K) (.ref a)=none:=by show ((zbc a K).lookup a).map (·.cls)=none;rw [zaD];rfl
   have e2:typeIn K (.ref a)=some .none:=by show (K.lookup a).map (·.cls)=_;rw [hP];rfl
   rw [e1,e2]
   rfl
  ·rw [zdP q]
   simp only [zbh hP]
 | _=>simp only [zbh hP,typeIn]
theorem zmP (hP:K.lookup P=some (tabObj #[])) (v:Value):takesIn (zbc P K) v=takesIn K v:=by
 unfold takesIn
 simp only [zeL hP]
theorem zkE (hP:K.lookup P=some (tabObj #[])) (c mc:Value) (n:Str):findCls (zbc P K) c mc n=findCls K c mc n:=by
 unfold findCls
 simp only [zbh hP,zeL hP,zmP hP]
 congr 1
 funext ma
 congr 1
 funext mg
 congr 1
 funext data
 have key:∀ (a:Value) (f:Value→Option CFound),(a=.ref P→f .none=none)→(typeIn (zbc P K) a).bind f=(typeIn K a).bind f:=fun a f hf=>by
  cases a with
  | ref b =>
   by_cases q:b=P
   ·subst q
    have e1:typeIn (zbc b K) (.ref b)=none:=by show ((zbc b K).lookup b).map (·.cls)=none;rw [zaD];rfl
    have e2:typeIn K (.ref b)=some .none:=by show (K.lookup b).map (·.cls)=_;rw [hP];rfl
    rw [e1,e2]
    exact (hf rfl).symm
   ·rw [zdP q]
  | _=>rfl
 split
 ·rfl
 ·congr 1
  funext o
  cases o with
  | none=>rfl
  | some a =>
   dsimp only
   split
   ·rfl
   ·refine key a _ fun z=>?_
    have e3:specialIn K a "__get__"=none:=by
     rw [z]
     unfold specialIn
     have e2:typeIn K (.ref P)=some .none:=by show (K.lookup P).map (·.cls)=_;rw [hP];rfl
     rw [e2]
     rfl
    rw [e3,if_neg (by decide)]
    rfl
theorem ztD (hP:K.lookup P=some (tabObj #[])) {a:Addr} {T:String} (h:typeIn K (.ref a)=some (.type T)):a≠P:=fun z=>by
 have e:typeIn K (.ref a)=some .none:=by
  show (K.lookup a).map (·.cls)=_
  rw [z,hP]
  rfl
 rw [e] at h
 cases h
theorem ExB.drop (hP:K.lookup P=some (tabObj #[])) {D:Addr} (x:ExB K D):ExB (zbc P K) D:=by
 obtain ⟨h1,h2,h3⟩:=x
 refine ⟨(zeL hP _ _).trans h1,?_,(zkE hP _ _ _).trans h3⟩
 unfold readsIn at h2 ⊢
 rw [Bool.and_eq_true,Bool.and_eq_true,Bool.and_eq_true,Bool.and_eq_true] at h2
 have ne:=ztD hP (T:="type") (beq_iff_eq.mp h2.1.1.1.2)
 rw [ziE hP,zdP ne,zbh hP,zbh hP,zcZ hP]
 simp only [Bool.and_eq_true]
 exact h2
theorem ExI.drop (hP:K.lookup P=some (tabObj #[])) {C f:Addr} (x:ExI K C f):ExI (zbc P K) C f:=by
 obtain ⟨⟨a1,a2,a3,a4,a5,a6,a7,a8,a9,a10,a11,a12,a13,a14,a15,lk,tl⟩,h2,h3,h4,h5,h6⟩:=x
 have nC:C≠P:=fun z=>by rw [z,hP] at lk;cases lk
 have nf:=ztd hP h3
 refine ⟨⟨a1,a2,a3,a4,a5,a6,a7,a8,a9,a10,a11,a12,a13,a14,a15,(zaK nC).trans lk,(zhq hP _ _).trans tl⟩,(zbh hP _ _).trans h2,?_,(zhb hP _).trans h4,(zdm hP _ _).trans h5,(zbh hP _ _).trans h6⟩
 unfold isFn at h3 ⊢
 rw [zdP nf]
 exact h3
theorem zcC.drop (hP:K.lookup P=some (tabObj #[])) {C:Addr} (x:zcC K C):zcC (zbc P K) C :=
 ⟨(zbh hP _ _).trans x.ga,(zbh hP _ _).trans x.gn,(zbh hP _ _).trans x.cl,(zdm hP _ _).trans x.mb,(zdm hP _ _).trans x.mo⟩
theorem zhV.drop (hP:K.lookup P=some (tabObj #[])) {C:Addr} {f:Str} (x:zhV K C f):zhV (zbc P K) C f:=by
 refine ⟨x.five.drop hP,?_,(zbh hP _ _).trans x.na⟩
 have:=x.hd
 unfold hasDictIn at this ⊢
 rw [ziT hP]
 exact this
theorem zrh.drop (hP:K.lookup P=some (tabObj #[])) {a:Addr} {xs:List V} (x:zrh K a xs):zrh (zbc P K) a xs:=by
 obtain ⟨o,its,n,lk,r⟩:=x
 refine ⟨o,its,n,(zaK fun z=>?_).trans lk,r⟩
 rw [z,hP] at lk
 cases lk
 cases r.1
theorem zm5.okV {Pg:Program} {w:World} {mg:Str→Option Value} {base:Heap} {x qual:Str} {st:Stmt} {f c:Addr} {fd:FuncData} {N ps:List Str} {k:Nat} {sp:Sp} (F:zm5 K x qual st f fd c) (S:zaP N ps (zau st)) (len:∀ vs H Q E,sp vs H Q E→vs.length=ps.length)
  (hbody:∀ (A:Around) (outer:List Env) (s:Shared) (H:Hp) (vs:List V) (Q:VK) (E:XK),zej k (A.deeper (envOfC qual (zau st) s.heap.objs.size f (.ref c)))→sp vs H Q E →
   ∃ t,PSs (zjY (CXV Pg w) Pg w K mg base N qual (zau st) f (.ref c) A outer s H E) (zb0 st) t∧t { nx:=fun _ H'=>Q .non H',rt:=Q } (zbB N vs) H):zcW Pg w K mg base (CXV Pg w) (k+1) f fd ps sp:=by
 obtain ⟨⟨oc,od,kV,doc,pm,an,ct,osl,rfl,lk,hcd⟩,_⟩:=F
 exact zpS lk hcd S len fun A outer s H vs Q E hr hsp=>hbody A outer s H vs Q E hr hsp
end
end L2
namespace L2
open PySem PySem.Spec PyProof.Rows
def rInN (K:PySem.W.Frag):R2:=fun x y H Q=>∃ p xs,x=.non∧y=.ref p∧SqL K H p xs∧(∀ z∈xs,z=.non∨(∃ i:Int,z=.int i)∨∃ a ys,z=.ref a∧SqT K H a ys)∧Q (.bl (xs.any fun z=>decide (z=.non))) H
def eqN:Value→Bool
 | .none=>true
 | _=>false
theorem zoL:∀ {xs:List V} {us:List Value},zbZ xs us→(∀ z∈xs,z=.non∨(∃ i:Int,z=.int i)∨∃ a,z=.ref a)→us.any eqN=xs.any fun z=>decide (z=.non)
 | _,_,.nil,_=>rfl
 | y::xs,u::us,.cons r t,f=>by
  rw [List.any_cons,List.any_cons,zoL t fun z hz=>f z (List.mem_cons_of_mem _ hz)]
  congr 1
  rcases f y List.mem_cons_self with rfl | ⟨i,rfl⟩ | ⟨a,rfl⟩
  ·cases r;rfl
  ·obtain ⟨k,rfl⟩:=r;rfl
  ·cases r;rfl
theorem zwc {X:Cx} (hu:X.A.units+64<cLine):OpR X (compareOp .In) (rInN X.K):=by
 intro pins s σ H x y v u Q I rx ry h
 obtain ⟨p,xs,rfl,rfl,hq,fs,q⟩:=h
 cases rx
 cases ry
 obtain ⟨its,r,pl,hz⟩:=I.list hq
 refine SeqAt.in_listAt eqN pl.isList (fun w hw=>?_) ⟨.bl _,H,I,rfl,?_⟩
 ·have hw:w∈its:=by simpa using hw
  obtain ⟨j,hj⟩:=List.mem_iff_getElem?.mp hw
  have lj:=(List.getElem?_eq_some_iff.mp hj).1
  have ex:xs[j]?=some (xs[j]'(by rw [r.length];exact lj)):=List.getElem?_eq_getElem _
  obtain ⟨w',hw',rw'⟩:=r.get ex
  rw [hj] at hw'
  cases hw'
  rcases fs _ (List.mem_of_getElem? ex) with e | ⟨i,e⟩ | ⟨a,ys,e,ht⟩
  ·rw [e] at rw'
   cases rw'
   exact SeqAt.EqAt.same _
  ·rw [e] at rw'
   obtain ⟨k,rfl⟩:=rw'
   exact SeqAt.EqAt.int_none i k
  ·rw [e] at rw'
   cases rw'
   obtain ⟨_,_,pt,_⟩:=I.tuple ht
   exact SeqAt.EqAt.tuple_none pt (by show X.A.units+1<cLine;(first|lia|omega))
 ·rw [show its.toArray.any eqN=its.any eqN by simp,zoL r fun z hz=>(fs z hz).imp id (Or.imp id fun ⟨a,_,e,_⟩=>⟨a,e⟩)]
  exact q
end L2
namespace L2
open PySem PySem.Spec PyProof.Rows
def zsi (e:Expr) (qual:Str) (H:Hp) (q:Addr):Prop:=∃ (params:Arguments) (body:Expr) (scope:Scope) (lpos:Pos) (pm ctv:Value) (c':Addr) (oc:Obj) (ovs:Array Value) (t:Nat),
 e=.Lambda params body scope lpos∧H q=some (.frz (PySem.W.kla_obj "<lambda>" qual params body scope [] pm c' ctv) (.own q))∧H c'=some (.frz oc (.own c'))∧oc.data=.fields ovs∧ovs[1]?=some (.str qual t)
theorem zsi.same {e:Expr} {qual:Str} {H H':Hp} {q:Addr} (h:zsi e qual H q) (s:zaQ H H'):zsi e qual H' q:=by
 obtain ⟨a1,a2,a3,a4,a5,a6,a7,a8,a9,a10,b1,b2,b3,b4⟩:=h
 exact ⟨a1,a2,a3,a4,a5,a6,a7,a8,a9,a10,b1,s _ _ b2,s _ _ b3,b4⟩
def zlP (e:Expr) (qual:Str) (i:Nat) (tb:TE) (ta:TA):TE:=fun σ H Q=>∃ q,σ[i]?=some (some (.ref q))∧ta σ H fun vs H1=>∃ u1 u2,vs=[u1,u2]∧zsi e qual H1 q∧tb [some u1,some u2] H1 Q
section
variable {X:Cx} {x z f:Str} {p pos lpos:Pos} {e1 e2 body:Expr} {params:Arguments} {scope:Scope} {qual:Str} {ta:TA} {tb:TE} {i k:Nat}
theorem zqx (hN:X.N[i]?=some f) (hv:Vis X.env.scope f) (hr:zej (k+1) X.A) (ha:PA X [e1,e2] ta)
  (hbind:∀ (cl:List (Str×Addr)) (pm cd ctv u1 u2:Value),bindArgs (PySem.W.kla_fn "<lambda>" qual params body scope cl pm cd ctv) ⟨[u1,u2],[]⟩=pure [(x,u1),(z,u2)]) (hne:x≠z) (hlx:scope.names.lookup x=some .local) (hlz:scope.names.lookup z=some .local) (hk:scope.kind=.function) (hco:scope.isCoroutine=false) (hgen:scope.isGenerator=false)
  (hcell:∀ y∈scope.names,y.2≠.cell) (hall:∀ n∈scope.names,n.2≠.free)
  (hb:∀ (f:Addr) (cd:Value) (A:Around) (outer:List Env) (s:Shared) (H:Hp),zej k (zkS X.prog X.w X.K X.mg X.base [x,z] qual scope f cd [] A outer s H).A→PE (zkS X.prog X.w X.K X.mg X.base [x,z] qual scope f cd [] A outer s H) body tb)
  (hd:(f == ("__debug__":Str))=false:=by decide) (hcd:(f == ("__classdict__":Str))=false:=by decide)
  (he:starEach [e1,e2] X.env=(false,eval e1 X.env)::starEach [e2] X.env:=by rfl) (hpl:(backTo pos (starEach [e2] X.env)).any (·.1)=false:=by rfl) :
  PE X (.Call (.Name f p) [e1,e2] [] pos) (zlP (.Lambda params body scope lpos) qual i tb ta):=by
 intro pins s σ H Q I h
 obtain ⟨q,hq,h⟩:=h
 refine wpAny_Call_Name_kw (thn (znk (pos:=p) hN hv hd hcd pins s σ H (fun v H1=>v=.ref q∧H1=H) I ⟨.ref q,hq,rfl,rfl⟩) fun fv s1 hQ'=>?_)
 obtain ⟨v,H1,I1,r1,e,eH⟩:=hQ'
 subst e
 subst eH
 cases r1
 refine PySem.W.callWith_of (P:=fun h=>∃ (cl:List (Str×Addr)) (pm ctv:Value) (c':Addr),h.get? q=some (PySem.W.kla_obj "<lambda>" qual params body scope cl pm c' ctv)) (by rw [he];show ((false || (backTo pos (starEach [e2] X.env)).any (·.1)) || false)=false;rw [hpl];rfl) (fun h ⟨cl,pm,ctv,c',e⟩=>⟨.frame,.inl rfl,(PySem.W.Looks.ld (part:=none) e).andThen .now⟩) ?_
 have hA:=ha pos pins s1 σ H1 _ I1 h
 rw [he] at hA ⊢
 refine Calls.evalArgs_plain (thn hA fun us s2 hQ'=>?_)
 obtain ⟨vs,H2,I2,r2,q2⟩:=hQ'
 obtain ⟨v1,v2,rfl,L,q2⟩:=q2
 obtain ⟨pa,bo,sc,lp,pm,ctv,c',oc,ovs,tk,eL,hq2,hc',hd',hv'⟩:=L
 cases eL
 obtain ⟨u1,u2,rfl,ru1,ru2⟩:=zmx r2
 have eq2:s2.heap.get? q=some (PySem.W.kla_obj "<lambda>" qual params body scope [] pm c' ctv):=(I2.hok q _ hq2).1
 have ec':s2.heap.get? c'=some oc:=(I2.hok c' _ hc').1
 refine ⟨⟨_,pm,ctv,c',eq2⟩,?_⟩
 have e0:=I2.env0
 have T:zpY H2 s2.heap scope [] [] []:=by
  refine ⟨rfl,fun j n hj=>?_,fun n hn=>?_,fun n d e=>?_,fun n m d h1 h2=>?_⟩
  ·cases hj
  ·exact absurd rfl (hall _ (PySem.mem_of_lookup hn))
  ·cases e
  ·cases h1
 refine wpAny_call (codeAny_mono (zj0 (t:=tb) (Ns:=[]) (vs:=[]) (x:=x) (y:=z) (v1:=v1) (v2:=v2) e0 hr.depth hr.hd eq2 ⟨c',oc,ovs,tk,rfl,ec',hd',hv'⟩ (hbind _ _ _ _ _ _) hne hlx hlz hk hco hgen hcell T ru1 ru2 (hb _ _ _ _ _ _ (hr.deeper _)) (Q:=Q) (fun v H' _ q=>q) q2) fun r s' hq=>?_)
 cases r with
 | error e=>exact hq.elim
 | ok fl =>
  cases fl with
  | ret u=>exact I2.after hq
  | next=>exact hq.elim
  | brk=>exact hq.elim
  | cont=>exact hq.elim
end
def znQ (P:Addr) (e:Expr) (lpos:Pos) (qual:Str) (sp:Sp) (E:XK) (te:TE):TE:=fun σ H Q=>te σ H fun v H1=>zb5 H1 P lpos qual ∧
 ∀ (q:Addr) (H3:Hp),Bar P H1 H3→zb5 H3 P lpos qual→H1 q=none→zsi e qual H3 q→sp [v,.ref q] H3 Q E
section
variable {X:Cx} {x:Str} {p pos lpos:Pos} {e body:Expr} {params:Arguments} {scope:Scope} {qual:Str} {te:TE} {k:Nat} {f cc P:Addr} {fd:FuncData} {ps:List Str} {sp:Sp} {E:XK}
theorem zqm (F:zcW X.prog X.w X.K X.mg X.base (CXV X.prog X.w) k f fd ps sp) (hr:zej k X.A) (hg:Gl X x) (hm:X.mg x=some (.ref f)) (hk:PySem.W.keepIn X.K (.ref f)=true) (hb:zbF X.K fd ps []) (hx:zgb (CXV X.prog X.w) X E) (h1:PE X e te)
  (hcode:X.env.code=.ref cc) (C:PySem.W.CodeHd X.base cc P) (hB:X.base.BuiltinsAt X.mg P) (hcl:closureFor scope X.env=pure []) (hdef:defaultsOf params X.env=([],[])) (hq:X.env.qual++"<lambda>"=qual) (hex:X.ex=[])
  (hdb:(x == ("__debug__":Str))=false:=by decide) (he:starEach [e,.Lambda params body scope lpos] X.env=(false,eval e X.env)::starEach [.Lambda params body scope lpos] X.env:=by rfl)
  (he2:starEach [.Lambda params body scope lpos] X.env=(false,eval (.Lambda params body scope lpos) X.env)::starEach [] X.env:=by rfl) (hpl:(backTo pos (starEach [.Lambda params body scope lpos] X.env)).any (·.1)=false:=by rfl) :
  PE X (.Call (.Name x p) [e,.Lambda params body scope lpos] [] pos) (znQ P (.Lambda params body scope lpos) lpos qual sp E te):=by
 intro pins s σ H Q I h
 refine wpAny_Call_Name_kw (zdg I hg hm ?_ hdb)
 refine PySem.W.callWith_K (h₀:=X.base) I.ok.mod.kin hk ?_ he hpl
 rw [he]
 show wpAny _ _ (spliced ((false,eval e X.env)::backTo pos (starEach [.Lambda params body scope lpos] X.env))) _ _ s
 refine Calls.spliced_cons (thn (h1 pins s σ H _ I h) fun u s1 hQ'=>?_)
 obtain ⟨v,H1,I1,r1,hL,q1⟩:=hQ'
 rw [he2]
 show wpAny _ _ (spliced ((false,eval (.Lambda params body scope lpos) X.env)::backTo pos (starEach [] X.env))) _ _ s1
 refine Calls.spliced_cons (zly I1 hcode C hB hL hcl hdef hq fun qa c' pm ctv H2 s2 oc ovs ot I2 bar hL2 hqa hc' hd hv fq=>?_)
 refine Calls.spliced_nil ⟨I2.kIn,?_⟩
 have fq2:H2 qa=none:=fq.1
 have nqP:qa≠P:=fun z=>by
  obtain ⟨ps,hP⟩:=hL2.tbl
  rw [z,hP] at fq2
  cases fq2
 have I3:=I2.trackF fq hex hqa
 have q3:upd H2 qa (.frz (PySem.W.kla_obj "<lambda>" qual params body scope [] pm c' ctv) (.own qa)) qa=some (.frz (PySem.W.kla_obj "<lambda>" qual params body scope [] pm c' ctv) (.own qa)):=zad
 have hc3:upd H2 qa (.frz (PySem.W.kla_obj "<lambda>" qual params body scope [] pm c' ctv) (.own qa)) c'=some (.frz oc (.own c')):=by rw [zaj (fun z=>by rw [z,fq2] at hc';cases hc')];exact hc'
 have bar3:Bar P H1 (upd H2 qa (.frz (PySem.W.kla_obj "<lambda>" qual params body scope [] pm c' ctv) (.own qa))):=fun b o n e=>by
  have:=bar b o n e
  rw [zaj (zaz this fq2)]
  exact this
 have hL3:zb5 (upd H2 qa (.frz (PySem.W.kla_obj "<lambda>" qual params body scope [] pm c' ctv) (.own qa))) P lpos qual:=hL2.same fun b o e=>by rw [zaj (zaz e fq2)];exact e
 have fq1:H1 qa=none:=by
  cases z:H1 qa with
  | none=>rfl
  | some o =>
   rw [bar qa o nqP z] at fq2
   cases fq2
 generalize upd H2 qa (.frz (PySem.W.kla_obj "<lambda>" qual params body scope [] pm c' ctv) (.own qa))=H3 at I3 q3 hc3 bar3 hL3
 have sp4:=q1 qa H3 bar3 hL3 fq1 ⟨params,body,scope,lpos,pm,ctv,c',oc,ovs,ot,rfl,q3,hc3,hd,hv⟩
 have r2:zbZ [v,.ref qa] [u,.ref qa]:=.cons r1 (.cons rfl .nil)
 have hl:([u,Value.ref qa]++[]).length=ps.length:=by
  have:=F.len _ _ _ _ sp4
  rw [← this]
  rfl
 have hbb:=hb s2 [u,.ref qa] I3.kIn hl
 rw [List.append_nil] at hbb
 refine wpAny_call (codeAny_mono (F.run X.A X.stack s2 _ ⟨[u,.ref qa],[]⟩ [u,.ref qa] [v,.ref qa] _ _ hr I3.env0 hbb r2 sp4) fun r s' hq=>?_)
 cases r with
 | error e=>exact hx pins σ H3 s2 e s' I3 hq
 | ok fl =>
  cases fl with
  | ret u=>exact I3.after hq
  | next=>exact False.elim hq
  | brk=>exact False.elim hq
  | cont=>exact False.elim hq
end
end L2
namespace L2
open PySem PySem.Spec PyProof.Rows
def f2 (o:Obj):Option Value:=match o.data with
 | .fields vs=>vs[2]?
 | _=>none
section
variable {α β:Type}
def Kf:Sem α→Prop
 | .pure _=>True
 | .unsupported _=>True
 | .rule _ k=>Kf (k ())
 | .at _ k=>Kf (k ())
 | .load _ _ k=>∀ o,Kf (k o)
 | .update _ _ f k=>(∀ o:Obj,f2 (f o)=f2 o∧(f o).isFreed=o.isFreed)∧Kf (k ())
 | .alloc _ k=>∀ a,Kf (k a)
 | .stack k=>∀ l,Kf (k l)
 | _=>False
theorem zba {f:α→Sem β} (hf:∀ x,Kf (f x)):∀ {t:Sem α},Kf t→Kf (t >>= f)
 | .pure a,_=>hf a
 | .unsupported _,_=>trivial
 | .rule _ k,h=>zba hf (t:=k ()) h
 | .at _ k,h=>zba hf (t:=k ()) h
 | .load _ _ k,h=>fun o=>zba hf (t:=k o) (h o)
 | .update _ _ _ k,h=>⟨h.1,zba hf (t:=k ()) h.2⟩
 | .alloc _ k,h=>fun o=>zba hf (t:=k o) (h o)
 | .stack k,h=>fun o=>zba hf (t:=k o) (h o)
 | .raise _,h=>h.elim
 | .finish _,h=>h.elim
 | .loadIfAlive _ _,h=>h.elim
 | .point _ _,h=>h.elim
 | .fresh _,h=>h.elim
 | .ask _,h=>h.elim
 | .handled _ _,h=>h.elim
 | .thread _,h=>h.elim
 | .register ..,h=>h.elim
 | .choose ..,h=>h.elim
 | .os ..,h=>h.elim
 | .call ..,h=>h.elim
 | .newGen ..,h=>h.elim
 | .genState ..,h=>h.elim
 | .resume ..,h=>h.elim
 | .yield ..,h=>h.elim
 | .fork ..,h=>h.elim
 | .await ..,h=>h.elim
def zni (e:Addr) (h:Heap):Prop:=∃ o,h.get? e=some o∧f2 o=some .none
theorem zle {M:Model} {Γ:PySem.Ctx} {Q:α→Pos→Shared→Prop} {E E':Value→Pos→Shared→Prop} {e:Addr}:∀ {t:Sem α} {p:Pos} {s:Shared},Kf t→zni e s.heap→Sem.wp M Γ t Q E p s →
  Sem.wp M Γ t (fun a p s'=>Q a p s'∧zni e s'.heap) E' p s
 | .pure _,_,_,_,d,h=>⟨h,d⟩
 | .unsupported _,_,_,_,_,h=>h
 | .rule _ k,_,_,c,d,h=>zle (t:=k ()) c d h
 | .at _ k,_,_,c,d,h=>zle (t:=k ()) c d h
 | .load _ _ k,_,_,c,d,⟨o,ho,h⟩=>⟨o,ho,zle (t:=k o) (c o) d h⟩
 | .update a _ f k,p,s,c,d,⟨hi,h⟩=>by
  refine ⟨hi,zle (t:=k ()) c.2 ?_ h⟩
  obtain ⟨o,ho,hd⟩:=d
  by_cases ea:a=e
  ·subst ea
   have nf:o.isFreed=false:=(Heap.get?_some_iff.mp ho).2
   exact ⟨f o,Heap.get?_update_self f ho (by rw [(c.1 o).2];exact nf),by rw [(c.1 o).1];exact hd⟩
  ·exact ⟨o,(Heap.get?_update_other _ f ea).trans ho,hd⟩
 | .alloc o k,p,s,c,⟨o',ho,hd⟩,h=>zle (t:=k _) (c _) ⟨o',Heap.get?_push_of_some _ ho,hd⟩ h
 | .stack k,_,_,c,d,h=>zle (t:=k _) (c _) d h
 | .raise _,_,_,c,_,_=>c.elim
 | .finish _,_,_,c,_,_=>c.elim
 | .loadIfAlive _ _,_,_,c,_,_=>c.elim
 | .point _ _,_,_,c,_,_=>c.elim
 | .fresh _,_,_,c,_,_=>c.elim
 | .ask _,_,_,c,_,_=>c.elim
 | .handled _ _,_,_,c,_,_=>c.elim
 | .thread _,_,_,c,_,_=>c.elim
 | .register ..,_,_,c,_,_=>c.elim
 | .choose ..,_,_,c,_,_=>c.elim
 | .os ..,_,_,c,_,_=>c.elim
 | .call ..,_,_,c,_,_=>c.elim
 | .newGen ..,_,_,c,_,_=>c.elim
 | .genState ..,_,_,c,_,_=>c.elim
 | .resume ..,_,_,c,_,_=>c.elim
 | .yield ..,_,_,c,_,_=>c.elim
 | .fork ..,_,_,c,_,_=>c.elim
 | .await ..,_,_,c,_,_=>c.elim
theorem zlq {M:Model} {A:Around} {t:Sem α} {Q:α→Shared→Prop} {E E':Value→Shared→Prop} {s:Shared} {e:Addr} (c:Kf t) (d:zni e s.heap) (h:wpAny M A t (fun a s'=>zni e s'.heap→Q a s') E s):wpAny M A t Q E' s:=fun Γ p hΓ =>
 Sem.wp_mono M Γ t (fun _ _ _ z=>z.1 z.2) (fun _ _ _ z=>z) p s (zle c d (h Γ p hΓ))
end
theorem zvV {i:Nat} (hi:i≠2) (x:Value) (o:Obj):f2 (Obj.mapFields (·.setIfInBounds i x) o)=f2 o∧(Obj.mapFields (·.setIfInBounds i x) o).isFreed=o.isFreed:=by
 obtain ⟨c,d,dat,sl⟩:=o
 cases dat <;> first | exact ⟨Array.getElem?_setIfInBounds_ne hi,rfl⟩ | exact ⟨rfl,rfl⟩
theorem zbN {α:Type} (a:α):Kf (pure a:Sem α):=trivial
theorem zfm {α:Type} (w:String):Kf (unsupported w:Sem α):=trivial
theorem zkv (a:Addr):Kf (load a):=fun _=>trivial
theorem zi1:Kf stack:=fun _=>trivial
theorem zkd {α:Type} {c:Prop} [Decidable c] {a b:Sem α} (h1:Kf a) (h2:Kf b):Kf (if c then a else b):=by
 split
 ·exact h1
 ·exact h2
theorem zg2 (v:Value) (i:Nat):Kf (field v i):=by
 unfold field fieldsOf
 refine zba (fun x=>?_) ?_
 ·split
  ·exact zbN _
  ·exact zfm _
 ·split
  ·refine zba (fun o=>?_) (zkv _)
   split
   ·exact zbN _
   ·exact zfm _
  ·exact zfm _
theorem zfs {i:Nat} (hi:i≠2) (v x:Value):Kf (setField v i x):=by
 unfold setField updateField
 split
 ·refine zba (fun o=>?_) (zkv _)
  split
  ·exact zkd ⟨zvV hi _,trivial⟩ (zfm _)
  ·exact zfm _
 ·exact zfm _
theorem zjA (ty:String) (vs:List Value):Kf (newFields ty vs):=by
 unfold newFields newObj newObjAsIs
 simp only
 split
 ·exact zfm _
 ·exact zba (fun _=>zbN _) (show Kf (alloc _) from fun _=>trivial)
theorem zfg:∀ l:List Env,Kf (readyFrames l)
 | []=>trivial
 | env::outer=>by
  have ih:=zfg outer
  unfold readyFrames
  split
  ·refine zba (fun o=>?_) (zkv _)
   refine zkd (zbN _) ?_
   refine zba (fun im=>?_) ?_
   ·refine zba (fun bk=>?_) ?_
    ·exact zba (fun _=>ih) ⟨fun o=>⟨rfl,by obtain ⟨c,d,dat,sl⟩:=o;cases dat <;> rfl⟩,trivial⟩
    ·unfold keptBack underTheClaimsCaller
     split
     ·refine zkd (zbN _) ?_
      exact zba (fun _=>zbN _) (zba (fun _=>zbN _) zi1)
     ·exact zbN _
   ·unfold behindIsImport
    refine zkd (zbN _) (zkd (zbN _) ?_)
    exact zba (fun _=>zbN _) (zg2 _ _)
  ·exact zfm _
theorem zl5 (env:Env):Kf (PySem.frameOf env):=by
 unfold PySem.frameOf frameEnvs
 refine zba (fun x=>?_) (zba (fun _=>zbN _) zi1)
 refine zba (fun y=>?_) ?_
 ·split
  ·exact zbN _
  ·exact zfm _
 ·unfold frameObject
  split
  ·exact zbN _
  ·exact zba (fun _=>zbN _) (zfg _)
theorem zhp (f:Addr) (b:Bool):Kf (entryPlaceOf f b):=by
 unfold entryPlaceOf
 refine zba (fun x=>?_) zi1
 split
 ·exact zbN _
 ·exact zbN _
theorem zgM (e:Value) (env:Env):Kf (noteFrame e env):=by
 unfold noteFrame EntryCells.newEntry
 split
 ·refine zba (fun head=>?_) (zg2 _ _)
  have zkk:∀ f:Addr,Kf (do let a ← PySem.frameOf env;let pl ← entryPlaceOf f (head != .none);let b ← newFields "traceback" ([head,a,.none,rawInt f,.none]++(if pl.isEmpty then List.replicate 6 .none else pl));setField e 1 b):=fun f =>
   zba (fun _=>zba (fun _=>zba (fun _=>zfs (by decide) _ _) (zjA _ _)) (zhp _ _)) (zl5 _)
  refine zkd ?_ (zkk _)
  refine zba (fun x=>zkd (zbN _) ?_) (zg2 _ _)
  exact zba (fun _=>zkk _) (zfs (by decide) _ _)
 ·exact zfm _
theorem zeF (e:Value) (f:Option Addr):Kf (setFlight e f):=by
 unfold setFlight
 exact zba (fun _=>zkd (zfs (by decide) _ _) (zbN _)) (zg2 _ _)
theorem zmi (env:Env) (e:Value):Kf (leaving env e):=by
 unfold leaving
 exact zba (fun _=>zeF _ _) (zgM _ _)
def CXW (P:Program) (w:World):CXT:=fun outer H s E e s'=>CXV P w outer H s E e s'∧∃ ea,e=.ref ea∧zni ea s'.heap
theorem Inv.xeq {X:Cx} {pins:List (Addr×Obj)} {σ:St} {H:Hp} {s:Shared} {xe:Value→Shared→Prop} (I:Inv X pins σ H s):Inv { X with xe:=xe } pins σ H s :=
 ⟨⟨I.ok.mod,I.ok.kind,I.ok.glob,I.ok.blt,I.ok.above,I.ok.inj,I.ok.has,I.ok.cab,I.ok.hd,I.ok.frames,I.ok.stk,I.ok.exf,I.ok.bs,I.ok.bsz,I.ok.noex,I.ok.exfs,I.ok.funs,I.ok.frf⟩,I.os,I.bare,I.base,I.loc,I.cell,I.free,I.freeC,I.pin,I.hok,I.len⟩
section
variable {P:Program} {w:World} {K:PySem.W.Frag} {mg:Str→Option Value} {base:Heap} {N:List Str} {qual:Str} {scope:Scope} {f:Addr} {cd:Value} {A:Around} {outer:List Env} {s₀:Shared} {H₀:Hp} {E:XK}
theorem zkD:zlf (zjY (CXW P w) P w K mg base N qual scope f cd A outer s₀ H₀ E) E:=by
 intro pins σ H s y C dx I hy n0 q
 have I':Inv (zjY (CXV P w) P w K mg base N qual scope f cd A outer s₀ H₀ E) pins σ H s:=I.xeq
 have h:=zgi pins σ H s y C dx I' hy n0 q
 obtain ⟨⟨oy,t0,gy,cy,dy,fy⟩,_⟩:=(I.hok y _ hy:zbH _ _ H s.heap y (zm9 y C dx))
 exact zlq (zmi _ _) ⟨oy,gy,by unfold f2;rw [fy];rfl⟩ (wpAny_mono h (fun _ s' z d=>⟨z,y,rfl,d⟩) fun _ _ z=>z)
end
theorem Fun.okW {P:Program} {w:World} {K:PySem.W.Frag} {mg:Str→Option Value} {base:Heap} {x qual:Str} {st:Stmt} {f:Addr} {fd:FuncData} {N ps:List Str} {k:Nat} {sp:Sp} (F:Fun K x qual st f fd) (S:zaP N ps (zau st)) (len:∀ vs H Q E,sp vs H Q E→vs.length=ps.length)
  (hbody:∀ (cdv:Value) (A:Around) (outer:List Env) (s:Shared) (H:Hp) (vs:List V) (Q:VK) (E:XK),zej k (A.deeper (envOfC qual (zau st) s.heap.objs.size f cdv))→sp vs H Q E →
   ∃ t,PSs (zjY (CXW P w) P w K mg base N qual (zau st) f cdv A outer s H E) (zb0 st) t∧t { nx:=fun _ H'=>Q .non H',rt:=Q } (L2.zbB N vs) H):zcW P w K mg base (CXW P w) (k+1) f fd ps sp:=by
 obtain ⟨oc,od,kV,doc,pm,an,cdv,ct,osl,rfl,lk,hcd⟩:=F.ex
 exact zpS lk hcd S len fun A outer s H vs Q E hr hsp=>hbody cdv A outer s H vs Q E hr hsp
structure zl2 (k:Nat) (A:Around):Prop where
 dp:A.depth+3*k+5<recursionLimit
 un:A.units+16*k+200<cLine
theorem zej.h {k:Nat} {A:Around} (r:zej k A) (v:Option Value):zl2 k (A.mark v):=⟨r.dp,r.un⟩
theorem zl2.make {k:Nat} {A:Around} (r:zl2 (k+1) A) (C:Addr) (us:List Value) (kw:List (Str×Value)):zl2 k (A.under (.builtin "type.__call__" ⟨.ref C::us,kw⟩)) :=
 ⟨by rw [zh7];have:=r.dp;(first|lia|omega),by rw [zid];have:=r.un;(first|lia|omega)⟩
structure zqE (P:Program) (w:World) (K:PySem.W.Frag) (mg:Str→Option Value) (base:Heap) (k:Nat) (f:Addr) (fd:FuncData) (ps:List Str) (sp:Sp):Prop where
 len:∀ vs H Q E,sp vs H Q E→vs.length=ps.length
 run:∀ (A:Around) (outer:List Env) (s:Shared) (H:Hp) (args:Args) (us:List Value) (vs:List V) (Q:VK) (E:XK),zl2 k A→zm6 P w K mg base A outer s H→BindsTo s fd args (ps.zip us)→zbZ vs us→sp vs H Q E →
  codeAny (model P w) A (.call (.ref f) args) (CR CX0 outer P w H s Q E) s
def cxH (P:Program) (w:World) (K:PySem.W.Frag) (mg:Str→Option Value) (base:Heap) (N:List Str) (qual:Str) (scope:Scope) (f:Addr) (cd:Value) (A:Around) (outer:List Env) (s:Shared) (H:Hp) (E:XK):Cx:={ zjY CX0 P w K mg base N qual scope f cd A outer s H E with calm:=false }
theorem Fun.okH {P:Program} {w:World} {K:PySem.W.Frag} {mg:Str→Option Value} {base:Heap} {x qual:Str} {st:Stmt} {f:Addr} {fd:FuncData} {N ps:List Str} {k:Nat} {sp:Sp} (F:Fun K x qual st f fd) (S:zaP N ps (zau st)) (len:∀ vs H Q E,sp vs H Q E→vs.length=ps.length)
  (hbody:∀ (cdv:Value) (A:Around) (outer:List Env) (s:Shared) (H:Hp) (vs:List V) (Q:VK) (E:XK),sp vs H Q E →
   ∃ t,PSs (cxH P w K mg base N qual (zau st) f cdv A outer s H E) (zb0 st) t∧t { nx:=fun _ H'=>Q .non H',rt:=Q } (L2.zbB N vs) H):zqE P w K mg base k f fd ps sp:=by
 obtain ⟨oc,od,kV,doc,pm,an,cdv,ct,osl,rfl,lk,hcd⟩:=F.ex
 refine ⟨len,fun A outer s H args us vs Q E hr e0 hb r hsp=>?_⟩
 have hl:=len _ _ _ _ hsp
 have KX:K.In s.heap:=e0.mod.kin.keeps fun b o e=>(e0.bs b o e).1
 have lim:s.heap.NoLimit:=e0.mod.nolimit.keeps fun b o e=>(e0.bs b o e).1
 have hkind:∀ y∈ps.zip us,(zau st).names.lookup y.1=some .local∨((zau st).names.lookup y.1=some .cell∧((cellsFrom (s.heap.objs.size+1) (zau st).names []).lookup y.1).isSome=true):=fun ⟨n,v⟩ hy=>by
  rcases S.par n (List.of_mem_zip hy).1 with q | q
  ·exact .inl q
  ·exact .inr ⟨q,PySem.W.cellsFrom_some _ _ _ (.inl q)⟩
 refine codeAny_call_function (by have:=hr.dp;(first|lia|omega)) (KX _ _ lk) rfl S.co S.gen rfl (PySem.W.codeRec_of KX hcd) (hb _ _ _ _ ?_)
 refine wpAny_newFunctionEnv_cells S.kind hkind fun env he s1 x=>?_
 subst he
 refine ⟨lim.keeps x.toInCall.keep,codeAny_func ?_⟩
 obtain ⟨t,ht,hq⟩:=hbody cdv A outer s H vs Q E hsp
 have e1:zm6 P w K mg base { A with handled:=none } outer s H:=⟨e0.frames,e0.mod,e0.bs,e0.bsz,e0.funs,e0.frf,e0.hok,e0.bare⟩
 have I0:Inv (zjY CX0 P w K mg base N qual (zau st) f cdv { A with handled:=none } outer s H E) [] (zbB N vs) H s1:=zjf S rfl e1 hl r x
 have I:Inv (cxH P w K mg base N qual (zau st) f cdv A outer s H E) [] (zbB N vs) H s1 :=
  ⟨⟨I0.ok.mod,I0.ok.kind,I0.ok.glob,I0.ok.blt,I0.ok.above,I0.ok.inj,I0.ok.has,I0.ok.cab,(by intro z;cases z),Around.frames_deeper e0.frames,I0.ok.stk,I0.ok.exf,I0.ok.bs,I0.ok.bsz,I0.ok.noex,I0.ok.exfs,I0.ok.funs,I0.ok.frf⟩,I0.os,I0.bare,I0.base,I0.loc,I0.cell,I0.free,I0.freeC,I0.pin,I0.hok,I0.len⟩
 refine wpAny_mono (ht [] s1 (zbB N vs) H _ I hq) (fun fl s' hs=>?_) fun e s' hs=>hs
 have fin:∀ {σ':St} {H':Hp} {v:V} {u:Value},Inv (cxH P w K mg base N qual (zau st) f cdv A outer s H E) [] σ' H' s'→zca v u→Q v H'→CE outer P w H s Q u s' :=
  fun {σ' H' v u} J rv q=>⟨v,H',J.os,J.bare,J.base,J.hok,rv,q⟩
 cases fl with
 | ret u =>
  obtain ⟨v,σ',H',J,rv,q⟩:=hs
  exact fin J rv q
 | next =>
  obtain ⟨σ',H',J,q⟩:=hs
  exact fin (v:=V.non) (u:=Value.none) J rfl q
 | brk =>
  obtain ⟨_,_,_,q⟩:=hs
  exact False.elim q
 | cont =>
  obtain ⟨_,_,_,q⟩:=hs
  exact False.elim q
theorem ziK:entryFor table "proto.unchain"=some Builtin.«proto.unchain»:=entryFor_of_fast (by kernel_rfl)
theorem zfr {α:Type} {prog:Program} {w:World} {A:Around} {E:Value→Shared→Prop} {s:Shared} {y ea:Addr} {oy oe:Obj} {fy:Array Value} {Q:α→Shared→Prop} (hh:A.handled=some (.ref ea)) (ne:ea≠y) (ge:s.heap.get? ea=some oe) (fe:f2 oe=some .none)
  (gy:s.heap.get? y=some oy) (dy:oy.data=.fields fy) (h2:2<fy.size) (h:E (.ref y) { s with heap:=s.heap.update y (Obj.mapFields (·.setIfInBounds 2 (.ref ea))) }):wpAny (model prog w) A (raiseNew (.ref y):Sem α) Q E s:=by
 obtain ⟨vs,de,e2⟩:∃ vs,oe.data=.fields vs∧vs[2]?=some Value.none:=by
  unfold f2 at fe
  split at fe
  ·exact ⟨_,by assumption,fe⟩
  ·cases fe
 unfold raiseNew
 refine wpAny_bind (wpAny_handled ?_)
 rw [hh]
 have nb:(Value.ref ea != Value.ref y)=true:=by simpa using ne
 simp only [nb,if_true]
 refine wpAny_bind (wpAny_holding (wpAny_runValue (codeAny_builtin ziK ?_)))
 unfold Builtin.«proto.unchain»
 refine wpAny_bind (wpAny_field ge de e2 ?_)
 rw [if_pos (show (Value.none == Value.none)=true by decide)]
 wp_walk
 rw [dy]
 dsimp only
 rw [if_pos h2]
 exact wpAny_update' gy (wpAny_throw h)
def excE (x:Addr) (C dx:Addr):HO:=.ext fun h=>∃ o t0 c2,h.get? x=some o∧o.cls=.ref C∧o.dict=some dx∧o.data=.fields #[.ref t0,.none,c2,.none,.bool false,.none]
def zo8 (X:Cx) (E:XK):Prop:=∀ (pins:List (Addr×Obj)) (σ:St) (H:Hp) (s:Shared) (y C dx:Addr),Inv X pins σ H s→H y=some (excE y C dx)→X.s₀.heap.get? y=none→E (.ref C) (some dx) (zeg H y)→X.xe (.ref y) s
section
variable {P:Program} {w:World} {K:PySem.W.Frag} {mg:Str→Option Value} {base:Heap} {N:List Str} {qual:Str} {scope:Scope} {f:Addr} {cd:Value} {A:Around} {outer:List Env} {s₀:Shared} {H₀:Hp} {E:XK}
theorem zsH:zo8 (zjY (CXV P w) P w K mg base N qual scope f cd A outer s₀ H₀ E) E:=by
 intro pins σ H s y C dx I hy n0 q
 replace n0:s₀.heap.get? y=none:=n0
 obtain ⟨⟨oy,t0,c2,gy,cy,dy,fy⟩,_⟩:=(I.hok y _ hy:zbH _ _ H s.heap y (excE y C dx))
 have hfr:=I.ok.frames
 have hst:s.heap.FunFrames base (envOfC qual scope s₀.heap.objs.size f cd::outer):=I.stack
 have fresh:∀ b∈frs (envOfC qual scope s₀.heap.objs.size f cd::outer),H b=none:=I.stkFree
 have yf:y∉frs (envOfC qual scope s₀.heap.objs.size f cd::outer):=fun z=>by rw [fresh y z] at hy;cases hy
 have inB:∀ b o,s.heap.get? b=some o→b≠y→b∉frs (envOfC qual scope s₀.heap.objs.size f cd::outer)→(PySem.W.hideAll s.heap (y::frs (envOfC qual scope s₀.heap.objs.size f cd::outer))).get? b=some o:=fun b o e ny n =>
  PySem.W.hideAll_get _ e (fun z=>(List.mem_cons.mp z).elim ny n)
 have st0:(PySem.W.hideAll s.heap (y::frs (envOfC qual scope s₀.heap.objs.size f cd::outer))).StaysIn s.heap:=fun b o q=>PySem.W.of_hideAll _ q
 have hl:s.heap.FunFrames (PySem.W.hideAll s.heap (y::frs (envOfC qual scope s₀.heap.objs.size f cd::outer))) (envOfC qual scope s₀.heap.objs.size f cd::outer) :=
  PySem.W.funFrames_hide hst fun env he a ha=>List.mem_cons_of_mem _ (List.mem_filterMap.mpr ⟨env,he,ha⟩)
 have yB:(PySem.W.hideAll s.heap (y::frs (envOfC qual scope s₀.heap.objs.size f cd::outer))).get? y=none:=PySem.W.hideAll_none _ List.mem_cons_self
 generalize PySem.W.hideAll s.heap (y::frs (envOfC qual scope s₀.heap.objs.size f cd::outer))=B at inB st0 hl yB
 refine zhm (zeW _ _) ⟨oy,gy,dy⟩ (wpAny_leaving_firstW (base:=B) (L:=s₀.heap.objs.size) (a0:=.ref t0) hfr hl rfl gy st0 yB fy rfl rfl fun h2 lf d2=>?_)
 obtain ⟨x1,⟨_,_,x2⟩,x3,x4⟩:=lf
 have neL:∀ b o,s₀.heap.get? b=some o→b≠s₀.heap.objs.size:=fun b o e=>Nat.ne_of_lt (Heap.lt_size e)
 have ney:∀ b o,s₀.heap.get? b=some o→b≠y:=fun b o e z=>by rw [z,n0] at e;cases e
 have notin:∀ b o,s₀.heap.get? b=some o→b∉frs outer→b∉frs (envOfC qual scope s₀.heap.objs.size f cd::outer):=fun b o e hb z=>by
  rcases List.mem_cons.mp (I.stkSub b z) with q | q
  ·exact neL b o e q
  ·exact hb q
 have slot:∀ b o,s.heap.get? b=some o→b∈frs outer→∃ sl,h2.get? b=some { o with slots:=sl }:=fun b o e hb=>by
  obtain ⟨_,o',e',nf⟩:=hl.2.2.mem hb
  rw [e] at e'
  cases e'
  exact x4 b o e nf
 have hokB:HOk P w (zeg H y) B:=fun b u e=>by
  obtain ⟨nb,e'⟩:=zhN e
  refine (I.hok b u e').stay (fun c v hc q=>inB c v q (fun z=>?_) fun z=>?_) (fun c q=>?_) fun c xs q=>?_
  ·rcases hc with r | r
   ·exact nb (r.symm.trans z)
   ·rw [z,hy] at r
    cases r
  ·rcases hc with r | r
   ·rw [r] at z
    rw [fresh b z] at e'
    cases e'
   ·rw [fresh c z] at r
    cases r
  ·rw [zbb fun z=>by rw [z,hy] at q;cases q]
   exact q
  ·rw [zbb fun z=>by rw [z,hy] at q;cases q]
   exact q
 have un:Un (frs outer) [] H₀ (zeg H y) s₀.heap h2:=by
  refine ⟨fun b o e n hb hx=>?_,fun b o e n hb hx=>?_,fun b o e n hx=>?_,fun b o e hx=>?_,fun b xs e=>?_,fun b o u e=>?_,fun b ps e=>?_⟩
  ·exact x1 b o (inB b o (I.base.keep b o e n hb hx) (ney b o e) (notin b o e hb))
  ·obtain ⟨sl,e1⟩:=I.base.slot b o e n hb hx
   obtain ⟨sl',e2⟩:=slot b _ e1 hb
   exact ⟨sl',e2⟩
  ·rw [zbb (ney b o e)]
   exact I.base.free b o e n hx
  ·obtain ⟨o',e1⟩:=I.base.there b o e hx
   by_cases hb:b∈frs outer
   ·obtain ⟨sl,e2⟩:=slot b o' e1 hb
    exact ⟨_,e2⟩
   ·exact ⟨o',x1 b o' (inB b o' e1 (ney b o e) (notin b o e hb))⟩
  ·have z:=I.base.tups b xs e
   rw [zbb fun q=>by rw [q,hy] at z;cases z]
   exact z
  ·have z:=I.base.frzs b o u e
   rw [zbb fun q=>by rw [q,hy] at z;cases z]
   exact z
  ·obtain ⟨m,z⟩:=I.base.tbls b ps e
   refine ⟨m,?_⟩
   rw [zbb fun q=>by rw [q,hy] at z;cases z]
   exact z
 rw [cy] at x3
 refine ⟨y,B,.ref C,.ref t0,zeg H y,some dx,rfl,⟨I.os,I.bare,un,hokB,⟨x1,yB,x2,x3⟩,fun b o e n hb=>?_,fun b o e hb=>?_,n0,zdQ,q⟩,d2⟩
 ·exact inB b o (I.base.keep b o e n hb (by intro z;cases z)) (ney b o e) (notin b o e hb)
 ·obtain ⟨o',e1⟩:=I.base.there b o e (by intro z;cases z)
  exact ⟨o',inB b o' e1 (ney b o e) (notin b o e hb)⟩
end
section
variable {X:Cx} {k:Nat} {f C ea:Addr} {fd:FuncData} {ps:List Str} {sp:Sp}
theorem znX {pins:List (Addr×Obj)} {σ:St} {H:Hp} {s:Shared} {Q:VK} {us:List Value} {vs:List V} (Z:ExI X.K C f) (F:zqE X.prog X.w X.K X.mg X.base k f fd ps sp) (hr:zl2 (k+1) X.A) (hb:zbF X.K fd ps [])
  (I:Inv X pins σ H s) (r:zbZ vs us) (hl:us.length≤sizeLine) (h:∀ y,H y=none→X.s₀.heap.get? y=none→s.heap.get? y=none→sp (.ref y::vs) (upd H y (zna y C)) (fun v H2=>v=.non∧Q (.ref y) H2) E0) :
  wpAny (model X.prog X.w) X.A (call (.ref C) us) (EP X pins σ Q) X.xe s:=by
 obtain ⟨hh,g,d,tk,os⟩:=s
 refine zo4 I.kIn Z hl fun h1 y ey M=>?_
 have hy:hh.objs.size≤y:=by rw [ey];exact Nat.le_succ _
 obtain ⟨t0,gy,_,_⟩:=M.there
 have I2:=I.laidAt (a:=y) (o:=zna y C) M.keeps hy ⟨⟨_,t0,gy,rfl,rfl,rfl⟩,⟨_,gy⟩,fun _ _ ⟨o,t0,e,r⟩ k=>⟨o,t0,k o e,r⟩⟩
 have hq:=h y (I.hok.fresh hy) (Heap.get?_none_of_le (Nat.le_trans I.sz hy)) (Heap.get?_none_of_le hy)
 have r2:zbZ (V.ref y::vs) (Value.ref y::us):=.cons rfl r
 have hl2:(Value.ref y::us++[]).length=ps.length:=by
  rw [List.append_nil,← r2.length]
  exact F.len _ _ _ _ hq
 have B:=hb _ (Value.ref y::us) I2.kIn hl2
 rw [List.append_nil] at B
 refine wpAny_call (codeAny_mono (F.run _ X.stack _ _ ⟨Value.ref y::us,[]⟩ (Value.ref y::us) _ _ E0 (hr.make C us []) (I2.env0.make C us []) B r2 hq) fun res s' hq'=>?_)
 cases res with
 | error e=>exact False.elim hq'
 | ok fl =>
  cases fl with
  | ret u =>
   obtain ⟨v,H',I3,rv,ev,q3⟩:=I2.after hq'
   subst ev
   exact ⟨rv,⟨V.ref y,H',I3,rfl,q3⟩⟩
  | next=>exact False.elim hq'
  | brk=>exact False.elim hq'
  | cont=>exact False.elim hq'
end
section
variable {K:PySem.W.Frag} {prog:Program} {w:World} {A:Around} {E:Value→Shared→Prop} {s:Shared} {env:Env} {C fI:Addr}
theorem zmB {xs:Sem Value} {Q:Flow→Shared→Prop} {ea:Addr} (Z:ExI K C fI) (hh:A.handled=some (.ref ea))
  (h:wpAny (model prog w) A xs (fun v s1=>∃ y o fs oe,v=.ref y∧K.In s1.heap∧s1.heap.get? y=some o∧o.cls=.ref C∧o.data=.fields fs∧fs[1]?=some .none∧2<fs.size∧ea≠y∧s1.heap.get? ea=some oe∧f2 oe=some .none∧E (.ref y) { s1 with heap:=s1.heap.update y (Obj.mapFields (·.setIfInBounds 2 (.ref ea))) }) E s) :
  wpAny (model prog w) A (raiseStmt env (some xs) none) Q E s:=by
 obtain ⟨nm,q,N,bs,bm,sn,sub,ab,col,dd,k0,k1,k2,k3,k5,lk,tl⟩:=Z.lk
 unfold raiseStmt
 refine wpAny_bind (wpAny_mono h (fun v s1 z=>?_) fun _ _ z=>z)
 obtain ⟨y,o,fs,oe,rfl,X,gy,cy,fy,f1,fz,ne,ge,fe,hE⟩:=z
 obtain ⟨hp,g,d,tk,os⟩:=s1
 have kC:=X _ _ lk
 have T:=PySem.W.tail_of_in X tl
 have cB:(Value.ref C::bm).contains (.type "BaseException")=true:=by rw [List.contains_cons,T.hasType PySem.F.excBase_ValueError.hasBase,Bool.or_true]
 obtain ⟨oc,od,odt,osl⟩:=o
 dsimp only at cy fy
 subst cy fy
 repeat (first | (with_reducible refine wpAny_loadPart_at gy ?_) | (with_reducible refine wpAny_loadPart_at kC ?_) | (with_reducible refine wpAny_isSubtype_exc kC ?_;rw [cB]) | wp_step)
 rw [f1]
 refine wpAny_pure ?_
 rw [if_neg (by decide)]
 exact wpAny_pure (zfr hh ne ge fe gy rfl fz hE)
end
def ztO (K:PySem.W.Frag) (tb:(St→XK)→TS) (D:Value) (C:Addr) (nm:Str) (E:XK) (t:TA):TS:=fun d σ H =>
 tb (fun σ' c _ H'=>PySem.W.subIn K c D=some true∧zbY C nm E t d σ' H') d σ H
def Cx.inTryW (X:Cx) (pins:List (Addr×Obj)) (E:St→XK):Cx:={ X with
 pn:=X.pn++pins
 xe:=fun e s'=>∃ pins' σ H s,Inv { X with pn:=X.pn++pins } pins' σ H s∧CXW X.prog X.w X.stack H s (E σ) e s' }
theorem Inv.toTryW {X:Cx} {pins:List (Addr×Obj)} {σ:St} {H:Hp} {s:Shared} (I:Inv X pins σ H s) (E:St→XK):Inv (X.inTryW pins E) [] σ H s :=
 ⟨I.ok.pinned _ _,I.os,I.bare,I.base,I.loc,I.cell,I.free,I.freeC,fun p hp=>I.pin p (by rw [List.append_nil] at hp;exact hp),I.hok,I.len⟩
theorem zuP {X:Cx} {pins:List (Addr×Obj)} {E:St→XK}:zk8 (CXW X.prog X.w) (X.inTryW pins E) E:=fun pins' σ H s e s' I h =>
 ⟨pins',σ,H,s,⟨I.ok.pinned _ _,I.os,I.bare,I.base,I.loc,I.cell,I.free,I.freeC,I.pin,I.hok,I.len⟩,h⟩
theorem SP.ofTryW {X:Cx} {pins pins':List (Addr×Obj)} {E:St→XK} {D:zb9} {f:Flow} {s':Shared} (ok:X.Ok) (h:SP (X.inTryW pins E) pins' D f s'):SP X pins D f s':=by
 cases f with
 | next=>obtain ⟨σ',H',I,q⟩:=h;exact ⟨σ',H',I.ofTry ok,q⟩
 | brk=>obtain ⟨σ',H',I,q⟩:=h;exact ⟨σ',H',I.ofTry ok,q⟩
 | cont=>obtain ⟨σ',H',I,q⟩:=h;exact ⟨σ',H',I.ofTry ok,q⟩
 | ret u=>obtain ⟨v,σ',H',I,r,q⟩:=h;exact ⟨v,σ',H',I.ofTry ok,r,q⟩
end L2
namespace L2
open PySem PySem.Spec PyProof.Rows
abbrev TF:=St→Hp→(Str→Hp→Prop)→Prop
def PF (X:Cx) (e:Expr) (t:TF):Prop:=∀ (pins:List (Addr×Obj)) (s:Shared) (σ:St) (H:Hp) (Q:Str→Hp→Prop),Inv X pins σ H s→t σ H Q →
 wpAny (model X.prog X.w) X.A (eval e X.env) (fun u s'=>∃ x tk H',u=.str x tk∧Inv X pins σ H' s'∧Q x H') X.xe s
def fS (t:TE):TF:=fun σ H Q=>t σ H fun v H1=>∃ x,v=.str x∧Q x H1
def fI (t:TE):TF:=fun σ H Q=>t σ H fun v H1=>∃ i:Int,v=.int i∧i.natAbs.log2<1920∧Q (toString i) H1
def tJ:List TF→Str→TE
 | [],out=>fun _ H Q=>Q (.str out) H
 | f::fs,out=>fun σ H Q=>f σ H fun y H1=>(out++y).length≤sizeLine∧tJ fs (out++y) σ H1 Q
inductive PFs (X:Cx):List Expr→List TF→Prop
 | nil:PFs X [] []
 | cons {e:Expr} {es:List Expr} {t:TF} {ts:List TF}:PF X e t→PFs X es ts→PFs X (e::es) (t::ts)
section
variable {X:Cx} {e e1 e2:Expr} {es:List Expr} {t:TE} {pos:Pos}
theorem zwn (h:PE X e t):PF X e (fS t):=by
 intro pins s σ H Q I q
 refine thn (h pins s σ H _ I q) fun u s1 hQ'=>?_
 obtain ⟨v,H1,I1,r,x,e,q1⟩:=hQ'
 subst e
 obtain ⟨k,rfl⟩:=r
 exact ⟨x,k,H1,rfl,I1,q1⟩
theorem zr4 (h:PE X e t):PF X (.FormattedValue e (-1) none pos) (fI t):=by
 intro pins s σ H Q I q
 refine FormattedValue_plain (thn (h pins s σ H _ I q) fun u s1 hQ'=>?_)
 obtain ⟨v,H1,I1,r,i,e,hi,q1⟩:=hQ'
 subst e
 obtain ⟨k,rfl⟩:=r
 exact formatField_int_small hi ⟨_,_,H1,rfl,I1.tok _,q1⟩
theorem zih {pins:List (Addr×Obj)} {σ:St} {Q:VK}:∀ {es:List Expr} {ts:List TF},PFs X es ts→∀ {out:Str} {s:Shared} {H:Hp},out.length≤sizeLine→Inv X pins σ H s→tJ ts out σ H Q→wpAny (model X.prog X.w) X.A (joinParts out (evalEach es X.env)) (EP X pins σ Q) X.xe s
 | [],_,.nil,out,s,H,l,I,q=>joinParts_nil ⟨.str out,H,I.tok _,⟨_,rfl⟩,q⟩ l
 | e::es,_,.cons h hs,out,s,H,l,I,q=>by
  show wpAny _ _ (joinParts out (eval e X.env::evalEach es X.env)) _ _ _
  refine joinParts_cons (thn (h pins s σ H _ I q) fun u s1 hQ'=>?_)
  obtain ⟨x,k,H1,e,I1,l1,q1⟩:=hQ'
  subst e
  exact ⟨l1,zih hs l1 I1 q1⟩
theorem zuY {ts:List TF} (h:PFs X (e1::e2::es) ts):PE X (.JoinedStr (e1::e2::es) pos) (tJ ts Str.empty):=by
 intro pins s σ H Q I q
 exact JoinedStr_many (zih h (by decide) I q)
end
end L2
namespace L2
open PySem PySem.Spec PyProof.Rows
theorem zjT {K:PySem.W.Frag} {M:Model} {A:Around} {E:Value→Shared→Prop} {h:Heap} {g:Array GenState} {d:Drawn} {t:Nat} {os:OsState} {e D fD:Addr} {oe:Obj} {cls:Value} {Q:Bool→Shared→Prop} (he:h.get? e=some oe) (hcls:oe.cls=cls)
  (X:K.In h) (Z:ExI K D fD) (L:PySem.W.Looks M h (isSubtype cls (.ref D)) true) (hq:Q true ⟨h,g,d,t,os⟩):wpAny M A (excMatches (.ref e) (.ref D)) Q E ⟨h,g,d,t,os⟩:=by
 obtain ⟨nm,q,N,bs,bm,sn,sub,ab,col,dd,k0,k1,k2,k3,k5,lk,tl⟩:=Z.lk
 have hD:=X _ _ lk
 have T:=PySem.W.tail_of_in X tl
 have hcB:(Value.ref D::bm).contains (.type "BaseException")=true:=by rw [List.contains_cons,T.hasType PySem.F.excBase_ValueError.hasBase,Bool.or_true]
 have f:=tc_notTuple
 unfold excMatches
 repeat (first | (with_reducible refine wpAny_loadPart_at he ?_;rw [hcls]) | with_reducible refine wpAny_loadPart_at hD ?_ | (with_reducible refine wpAny_isSubtype_exc hD ?_;rw [hcB]) | (with_reducible refine L.at ?_) | wp_step)
 exact hq
theorem zqy {X:Cx} {k:Nat} {C D f:Addr} {fd:FuncData} {ps:List Str} {nm x n:Str} {E:XK} {np xp cpos rpos pos hpos:Pos} {e:Expr} {es:List Expr} {body:List Stmt} {tb:(St→XK)→TS} {t:TA}
  (hmD:X.mg x=some (.ref D)) {fD:Addr} (hq:ExI X.K D fD) (hgD:Gl X x)
  (Z:ExI X.K C f) (F:zqE X.prog X.w X.K X.mg X.base k f fd ps (zjj C nm)) (hr:zej (k+1) X.A) (hg:Gl X n) (hm:X.mg n=some (.ref C)) (hb:zbF X.K fd ps []) (hT:zo8 X E)
  (hst:X.stack=X.env::X.outer) (hfr:X.env.frame=some X.env.locals) (hex:X.ex=[]) (hp:∀ v,PassesOwnAt (model X.prog X.w) (X.A.mark v) X.A X.env X.xe)
  (hbd:∀ pins E',PSs (X.inTryW pins E') body (tb E')) (ha:∀ ea,PA (X.inExc ea) (e::es) t) (hd:(x == ("__debug__":Str))=false:=by decide) (hdb:(n == ("__debug__":Str))=false:=by decide)
  (he:starEach (e::es) X.env=(false,eval e X.env)::starEach es X.env:=by rfl) (hpl:(backTo cpos (starEach es X.env)).any (·.1)=false:=by rfl) :
  PS X (.Try body [.ExceptHandler (some (.Name x xp)) none [.Raise (some (.Call (.Name n np) (e::es) [] cpos)) none rpos] hpos] [] [] pos) (ztO X.K tb (.ref D) C nm E t):=by
 intro pins s σ H d I h
 refine wpAny_Try_except (wpAny_mono (hbd pins _ [] s σ H d (I.toTryW _) h) (fun f s₁ q=>?_) fun e s₁ q=>?_)
 ·have q':=SP.ofTryW I.ok q
  cases f with
  | next=>exact wpAny_execs_nil q'
  | brk=>exact q'
  | cont=>exact q'
  | ret u=>exact q'
 obtain ⟨pins',σ',H1,s1,I1,⟨ea,B,cls,a0,H',od,rfl,x,dd⟩,ea',ee,cc⟩:=q
 cases ee
 replace I1:Inv X pins σ' H1 s1:=Inv.ofTry (xe:=X.xe) I1 I.ok
 obtain ⟨hsub,hth⟩:=x.want
 have fly:=x.fly
 rw [hst] at fly
 have ff:=x.fly.2.2.1
 have hfrm:X.A.frames=some (X.env::X.outer):=by rw [← hst];exact I.ok.frames
 refine zlq (zgM _ _) cc (wpAny_looks_onW (E:=fun _ _=>False) (base:=B) (L:=X.env.locals) hfrm hfr fly fun h4 hd4 sm4 c4=>?_)
 refine zlq (zeF _ _) c4 (wpAny_landsW (E:=fun _ _=>False) hd4 fun h5 fl5 sm5 c5=>?_)
 have invAt:∀ {h:Heap} {tk:Nat},B.StaysIn h→s₁.heap.UpToSlots h→Inv X pins σ' H' { s₁ with heap:=h,toks:=tk }:=fun {h tk} st sm=>by
  obtain ⟨un,hok⟩:=x.later st sm ff
  exact I1.call' (ch:=[]) x.os un hok x.bare fun b z=>nomatch z
 have I5:Inv X pins σ' H' { s₁ with heap:=h5 }:=invAt (tk:=s₁.toks) fl5.1 (sm4.trans sm5)
 have fmark:(X.A.mark (some (.ref ea))).frames=some X.stack:=I.ok.frames
 refine wpAny_handleBy_cons (codeAny_handlers_test ?_) (by intro q;cases q)
 refine zdg (X:=X.inExc ea) (I5.toExc fmark) hgD hmD ?_ hd
 have kin5:=I5.kIn
 obtain ⟨oe,hoe,hcls⟩:=fl5.there
 refine zjT (cls:=cls) hoe hcls kin5 hq (PySem.W.looks_subIn kin5 hsub) ?_
 refine codeAny_handlers_suite ?_
 refine zlq (zeF _ _) c5 (lands_againW (E:=fun _ _=>False) fl5 fun h6 fl6 sm6 c6=>?_)
 have I6:Inv X pins σ' H' { s₁ with heap:=h6 }:=invAt (tk:=s₁.toks) fl6.1 ((sm4.trans sm5).trans sm6)
 have noat:∀ b o,s1.heap.get? b=some o→b≠ea:=fun b o e z=>by rw [z,x.new] at e;cases e
 have nL:ea≠X.env.locals:=by
  obtain ⟨m,⟨o,_,_,e,_⟩,_⟩:=I1.loc
  exact (noat _ o e).symm
 obtain ⟨oc,goc,f2c⟩:=c6
 have I7:Inv X ((ea,oc)::pins) σ' H' { s₁ with heap:=h6 }:=I6.pins_of fun p hp=>by
  rcases List.mem_cons.mp hp with rfl | hp
  ·refine ⟨goc,x.free,nL,fun z=>?_,fun v z=>?_⟩
   ·obtain ⟨_,o',e',nf⟩:=I1.ok.funs.mem z
    obtain ⟨o'',e''⟩:=I1.base.there ea o' e' (by rw [hex];intro z;cases z)
    exact noat ea o'' e'' rfl
   ·unfold f2 at f2c
    rw [show oc.data=.cell v from z] at f2c
    cases f2c
  ·exact I6.pin p (List.mem_append_right _ hp)
 refine wpAny_passesOwnAt (hp _) ?_
 have I8:=I7.toExc fmark
 refine wpAny_execs_cons ?_
 rw [arm_exec_Raise]
 refine wpAny_bind (wpAny_standAt (zmB (ea:=ea) Z rfl (wpAny_bind (wpAny_mono (Q:=fun v s1=>∃ y o fs oe,v=.ref y∧X.K.In s1.heap∧s1.heap.get? y=some o∧o.cls=.ref C∧o.data=.fields fs∧fs[1]?=some .none∧2<fs.size∧ea≠y∧s1.heap.get? ea=some oe∧f2 oe=some .none∧X.xe (.ref y) { s1 with heap:=s1.heap.update y (Obj.mapFields (·.setIfInBounds 2 (.ref ea))) }) ?_ (fun v s3 h3=>wpAny_bind (wpAny_standAt (wpAny_pure h3))) fun _ _ z=>z))))
 refine wpAny_Call_Name_kw (zdg (X:=X.inExc ea) I8 hg hm ?_ hdb)
 refine PySem.W.callWith_K (h₀:=X.base) I.ok.mod.kin Z.kp (thn (ha ea cpos _ _ σ' H' _ I8 hth) fun us s9 ⟨vs,H9,I9,r,v,e1,q⟩=>⟨I9.kIn,?_⟩) he hpl
 subst e1
 obtain ⟨u,rfl,ru⟩:=zfG r
 refine thn (znX (X:=X.inExc ea) (Q:=fun z H2=>∃ y dx,z=.ref y∧ea≠y∧X.s₀.heap.get? y=none∧H2 y=some (zm9 y C dx)∧E (.ref C) (some dx) (zeg H2 y)) Z F (hr.h _) hb I9 r (by show 1≤sizeLine;decide) fun y hy n0 n1=>?_) fun z s10 ⟨v2,H10,I10,rz,y,dx,ev,ny,n0,hy,hE⟩=>?_
 ·have nye:ea≠y:=fun z=>by
   have:=(I9.pin (ea,oc) (List.mem_append_right _ List.mem_cons_self)).1
   rw [show (ea,oc).1=y from z,n1] at this
   cases this
  refine ⟨y,v,rfl,zad,fun dx hd nd=>⟨rfl,y,dx,rfl,nye,n0,?_,?_⟩⟩
  ·rw [zaj nd.symm,zad]
  ·rw [zko]
   have hd1:H9 dx=none:=by rw [zaj nd] at hd;exact hd
   rw [zj4 hy nd]
   exact q dx hd1
 ·subst ev
  obtain rfl:z=Value.ref y:=rz
  obtain ⟨⟨oy,t0,gy,cy,dy,fy⟩,_⟩:=(I10.hok y _ hy:zbH X.prog X.w H10 s10.heap y (zm9 y C dx))
  have ge:=(I10.pin (ea,oc) (List.mem_append_right _ List.mem_cons_self)).1
  refine ⟨y,oy,_,oc,rfl,I10.kIn,gy,cy,fy,rfl,(by show 2<6;decide),ny,ge,f2c,?_⟩
  obtain ⟨kc,kd,kdt,ksl⟩:=oy
  dsimp only at cy dy fy
  subst cy dy fy
  have gy2:=Heap.get?_update_self (Obj.mapFields (·.setIfInBounds 2 (Value.ref ea))) gy rfl
  have I11:=(I10.ofExc I.ok).write (x:=y) (e:=y) (o:=excE y C dx) (t':=s10.toks) (h':=s10.heap.update y (Obj.mapFields (·.setIfInBounds 2 (Value.ref ea)))) (by rw [hy];exact True.intro) (.inl rfl) (fun b u nb e=>(Heap.get?_update_other _ _ (Ne.symm nb)).trans e) ⟨_,gy2⟩
   ⟨⟨_,t0,_,gy2,rfl,rfl,rfl⟩,⟨_,gy2⟩,fun _ _ ⟨o,t0,c2,e,r⟩ k=>⟨o,t0,c2,k o e,r⟩⟩
  refine hT _ σ' _ _ y C dx I11 zad n0 ?_
  have ed:zeg (upd H10 y (excE y C dx)) y=zeg H10 y:=by
   funext b
   unfold zeg
   split
   ·rfl
   ·rename_i nb
    exact zaj nb
  rw [ed]
  exact hE
end L2
namespace L2
open PySem PySem.Spec PyProof.Rows
theorem zms {Pg:Program} {w:World} {K:PySem.W.Frag} {mg mb:Str→Option Value} {CX:CXT} {k:Nat} {fa a c P c2 P2:Addr} {fd:FuncData} {x:Str} {sp:Sp} {s₁:Shared} {vs:List Value} {ns:List Int}
  (KX:K.In s₁.heap) (hPP:P≠P2) (hPK:K.lookup P=none) (hPt:s₁.heap.get? P=some (PySem.W.tabObj #[])) (hC:PySem.W.CodeHd s₁.heap c P) (hB:s₁.heap.BuiltinsAt mg P)
  (hPK2:K.lookup P2=none) (hPt2:s₁.heap.get? P2=some (PySem.W.tabObj #[])) (hC2:PySem.W.CodeHd s₁.heap c2 P2) (hB2:s₁.heap.BuiltinsAt mg P2)
  (hns:s₁.heap.Ns mainGlobals mg) (hb:s₁.heap.Ns builtinsNs mb) (hbb:∀ x:Str,x≠"__name__"→mb x=bootBuiltins x) (hlim:s₁.heap.NoLimit) (hg:s₁.gens=#[])
  (ha:s₁.heap.get? a=some { cls:=.type "list",data:=.seq vs.toArray }) (hi:IntsAre vs ns) (hl:ns.length≤sizeLine) (hr:zej k callerA)
  (F:∀ base:Heap,K.In base→base.Ns mainGlobals mg→PySem.W.CodeHd base c P→base.BuiltinsAt mg P→PySem.W.CodeHd base c2 P2→base.BuiltinsAt mg P2→zcW Pg w K mg base CX k fa fd [x] sp) (hbind:∀ (s:Shared) (u:Value),BindsTo s fd ⟨[u],[]⟩ [(x,u)])
  (hsp:∀ H:Hp,H P=some (.tbl #[])→H P2=some (.tbl #[])→SqL K H a (ns.map V.int)→sp [.ref a] H (fun v _=>v=.bl true) fun _ _ _=>False)
  (hCX:∀ H e s',CX [] H s₁ (fun _ _ _=>False) e s'→False) :
  codeAny (model Pg w) callerA (.call (.ref fa) ⟨[.ref a],[]⟩) (fun r s'=>r=.ok (.ret (.bool true))∧OldK s₁.heap s'.heap∧s'.os=s₁.os∧AllBare s'.gens) s₁:=by
 have rv:=zjU hi
 have lenV:=hi.length
 have naP:a≠P:=fun z=>by rw [z,hPt] at ha;cases ha
 have naP2:a≠P2:=fun z=>by rw [z,hPt2] at ha;cases ha
 have core:∀ H:Hp,H P=some (.tbl #[])→H P2=some (.tbl #[])→SqL K H a (ns.map V.int)→HOk Pg w H s₁.heap→(∀ b,H b≠none→(b=P∨b=P2)∨(b=a∧H a=some (.frz { cls:=.type "list",data:=.seq vs.toArray } (.lst (ns.map V.int)))))→(H a≠none→K.lookup a=none) →
   codeAny (model Pg w) callerA (.call (.ref fa) ⟨[.ref a],[]⟩) (fun r s'=>r=.ok (.ret (.bool true))∧OldK s₁.heap s'.heap∧s'.os=s₁.os∧AllBare s'.gens) s₁:=by
  intro H hHP hHP2 hS hok hA hK
  have base_of:∀ {b:Addr} {o:Obj},s₁.heap.get? b=some o→H b=none→(zoD s₁.heap H).get? b=some o:=fun e n=>zqz e n
  have free:∀ {b:Addr} {o:Obj},s₁.heap.get? b=some o→b≠P→b≠P2→(∀ its n,o.data≠.seq its n)→H b=none:=fun {b o} e nP nP2 d=>by
   cases q:H b with
   | none=>rfl
   | some u =>
    rcases hA b (by rw [q];simp) with (z | z) | ⟨z,_⟩
    ·exact absurd z nP
    ·exact absurd z nP2
    ·subst z
     rw [ha] at e;cases e
     exact absurd rfl (d _ _)
  have noP:∀ {b:Addr} {o:Obj},s₁.heap.get? b=some o→(∀ ps,o.data≠.fields ps)→b≠P:=fun {b o} e d z=>by
   subst z
   rw [hPt] at e;cases e
   exact d _ rfl
  have noP2:∀ {b:Addr} {o:Obj},s₁.heap.get? b=some o→(∀ ps,o.data≠.fields ps)→b≠P2:=fun {b o} e d z=>by
   subst z
   rw [hPt2] at e;cases e
   exact d _ rfl
  have nsK:∀ {b:Addr} {m:Str→Option Value},s₁.heap.Ns b m→(zoD s₁.heap H).Ns b m:=fun {b m} ⟨o,es,ep,e,d,r⟩ =>
   ⟨o,es,ep,base_of e (free e (noP e fun ps z=>by rw [d] at z;cases z) (noP2 e fun ps z=>by rw [d] at z;cases z) fun its n z=>by rw [d] at z;cases z),d,r⟩
  have hKb:K.In (zoD s₁.heap H):=fun b o e=>base_of (KX b o e) (by
   cases q:H b with
   | none=>rfl
   | some u =>
    rcases hA b (by rw [q];simp) with (z | z) | ⟨z,_⟩
    ·rw [z,hPK] at e;cases e
    ·rw [z,hPK2] at e;cases e
    ·subst z
     rw [hK (by rw [q];simp)] at e;cases e)
  have hM:Mod K mg (zoD s₁.heap H):=⟨hKb,nsK hns,⟨mb,nsK hb,hbb⟩,let ⟨mc,h1,h2⟩:=hlim;⟨mc,nsK h1,h2⟩⟩
  have hCO:∀ {c P:Addr},PySem.W.CodeHd s₁.heap c P→(∀ o,s₁.heap.get? c=some o→H c=none)→PySem.W.CodeHd (zoD s₁.heap H) c P:=fun {c P} h f=>by
   obtain ⟨o,ovs,file,tf,flags,tg,inF,text,tt,e1,e2,e3,r⟩:=h
   exact ⟨o,ovs,file,tf,flags,tg,inF,text,tt,base_of e1 (f o e1),e2,e3,r⟩
  have fC:∀ {c P':Addr},PySem.W.CodeHd s₁.heap c P'→∀ o,s₁.heap.get? c=some o→H c=none:=fun {c P'} h o e=>by
   obtain ⟨o',ovs,file,tf,flags,tg,inF,text,tt,e1,e2,e3,r⟩:=h
   rw [e1] at e;cases e
   refine free e1 (fun z=>?_) (fun z=>?_) fun its n z=>by rw [e3] at z;cases z
   ·rw [z,hPt] at e1
    cases e1
    cases e2
   ·rw [z,hPt2] at e1
    cases e1
    cases e2
  have hC':=hCO hC (fC hC)
  have hC2':=hCO hC2 (fC hC2)
  have hBO:∀ {P':Addr},s₁.heap.BuiltinsAt mg P'→(zoD s₁.heap H).BuiltinsAt mg P':=fun {P'} h=>by
   obtain ⟨bm,ob,b1,b2,b3,b4,b5,b6,b7,b8⟩:=h
   refine ⟨bm,ob,b1,b2,b3,b4,base_of b5 (free b5 (fun z=>?_) (fun z=>?_) fun its n z=>by rw [b8] at z;cases z),b6,b7,b8⟩
   ·rw [z,hPt] at b5;cases b5;cases b8
   ·rw [z,hPt2] at b5;cases b5;cases b8
  have hB':=hBO hB
  have hB2':=hBO hB2
  have e0:zm6 Pg w K mg (zoD s₁.heap H) callerA [] s₁ H:=⟨rfl,hM,fun b o e=>zsw e,Nat.le_of_eq (zoC _ _),trivial,fun b hb=>absurd (show b∈([]:List Addr) from hb) (by simp),hok,.of_eq hg⟩
  refine codeAny_mono ((F _ hKb (nsK hns) hC' hB' hC2' hB2').run callerA [] s₁ H ⟨[.ref a],[]⟩ [.ref a] [.ref a] _ _ hr e0 (hbind s₁ (.ref a)) (.cons rfl .nil) (hsp H hHP hHP2 hS)) fun r s' h=>?_
  cases r with
  | error e=>exact (hCX H e s' h).elim
  | ok fl =>
   cases fl with
   | next=>exact False.elim h
   | brk=>exact False.elim h
   | cont=>exact False.elim h
   | ret u =>
    obtain ⟨v,H',os,bare,un,hok',r',q⟩:=h
    have q':v=.bl true:=q
    subst q'
    obtain rfl:u=Value.bool true:=r'
    refine ⟨rfl,⟨fun b o e=>?_,fun b o e=>un.there b o e (by simp)⟩,os,bare⟩
    by_cases zP:b=P
    ·subst zP
     rw [hPt] at e
     cases e
     obtain ⟨more,hm⟩:=un.tbls b _ hHP
     have ht':s'.heap.get? b=some { cls:=.none,data:=.fields (#[]++more) }:=hok' b _ hm
     exact .inr (.inl ⟨(hC.tab hPt).isCodeTable,rfl,#[],more,rfl,ht'⟩)
    by_cases zP2:b=P2
    ·subst zP2
     rw [hPt2] at e
     cases e
     obtain ⟨more,hm⟩:=un.tbls b _ hHP2
     have ht':s'.heap.get? b=some { cls:=.none,data:=.fields (#[]++more) }:=hok' b _ hm
     exact .inr (.inl ⟨(hC2.tab hPt2).isCodeTable,rfl,#[],more,rfl,ht'⟩)
    ·refine .inl ?_
     cases q:H b with
     | none=>exact un.keep b o e q (by intro z;exact absurd (show b∈([]:List Addr) from z) (by simp)) (by simp)
     | some u =>
      rcases hA b (by rw [q];simp) with (z | z) | ⟨z,z1⟩
      ·exact absurd z zP
      ·exact absurd z zP2
      ·subst z
       have z2:=un.frzs b _ _ z1
       obtain ⟨e1,_⟩:=hok b _ z1
       obtain ⟨e2,_⟩:=hok' b _ z2
       rw [e] at e1;cases e1
       exact e2
 have two:∀ {b:Addr} {u:HO} {R:Option HO},(if b=P then some (HO.tbl #[]) else if b=P2 then some (HO.tbl #[]) else R)=some u→(b=P∧u=.tbl #[])∨(b=P2∧u=.tbl #[])∨(b≠P∧b≠P2∧R=some u):=fun {b u R} z=>by
  by_cases q:b=P
  ·rw [if_pos q] at z
   cases z
   exact .inl ⟨q,rfl⟩
  ·rw [if_neg q] at z
   by_cases q2:b=P2
   ·rw [if_pos q2] at z
    cases z
    exact .inr (.inl ⟨q2,rfl⟩)
   ·rw [if_neg q2] at z
    exact .inr (.inr ⟨q,q2,z⟩)
 cases hk:K.lookup a with
 | some o =>
  have e:=KX a o hk
  rw [ha] at e
  cases e
  refine core (fun b=>if b=P then some (.tbl #[]) else if b=P2 then some (.tbl #[]) else none) (if_pos rfl) ((if_neg (Ne.symm hPP)).trans (if_pos rfl)) (.inr ⟨_,vs.toArray,_,hk,rfl,rfl,rfl,by rw [List.size_toArray,lenV];exact hl,by simpa using rv⟩) (fun b u z=>?_) (fun b z=>?_) fun z=>absurd ((if_neg naP).trans (if_neg naP2)) z
  ·rcases two z with ⟨rfl,rfl⟩ | ⟨rfl,rfl⟩ | ⟨_,_,z⟩
   ·exact hPt
   ·exact hPt2
   ·cases z
  ·obtain ⟨u,z⟩:=Option.ne_none_iff_exists'.mp z
   rcases two z with ⟨q,_⟩ | ⟨q,_⟩ | ⟨_,_,z⟩
   ·exact .inl (.inl q)
   ·exact .inl (.inr q)
   ·cases z
 | none =>
  refine core (fun b=>if b=P then some (.tbl #[]) else if b=P2 then some (.tbl #[]) else if b=a then some (.frz { cls:=.type "list",data:=.seq vs.toArray } (.lst (ns.map V.int))) else none) (if_pos rfl) ((if_neg (Ne.symm hPP)).trans (if_pos rfl)) (.inl (.inr ⟨{ cls:=.type "list",data:=.seq vs.toArray },(if_neg naP).trans ((if_neg naP2).trans (if_pos rfl))⟩)) (fun b u z=>?_) (fun b z=>?_) fun _=>hk
  ·rcases two z with ⟨rfl,rfl⟩ | ⟨rfl,rfl⟩ | ⟨_,_,z⟩
   ·exact hPt
   ·exact hPt2
   ·by_cases hb:b=a
    ·subst hb
     rw [if_pos rfl] at z
     cases z
     exact ⟨ha,by rw [List.length_map];exact hl,vs,_,rv,ha⟩
    ·rw [if_neg hb] at z
     cases z
  ·obtain ⟨u,z⟩:=Option.ne_none_iff_exists'.mp z
   rcases two z with ⟨q,_⟩ | ⟨q,_⟩ | ⟨_,_,z⟩
   ·exact .inl (.inl q)
   ·exact .inl (.inr q)
   ·by_cases hb:b=a
    ·exact .inr ⟨hb,(if_neg naP).trans ((if_neg naP2).trans (if_pos rfl))⟩
    ·rw [if_neg hb] at z
     cases z
theorem znM {l:PySem.W.OpenLaw} {n k:Nat} {q:Program} {loose:List Str} {XP:(Str→Option Value)→Heap→Prop} {YP:World→Heap→Prop} {d:DefRec} {K:Params→PySem.W.Frag} {sp:World→Sp} {x:Str} {c P c2 P2:Addr}
  (hn:l.most=some n) (hn2:n≤sizeLine) (hdf:d.params.defaults=[]) (hr:zej k callerA)
  (hY:∀ (w:World) (h:Heap),YP w h→(K w.params).In h)
  (hPP:P≠P2) (hPt:∀ w:World,(K w.params).lookup P=some (PySem.W.tabObj #[])) (hPt2:∀ w:World,(K w.params).lookup P2=some (PySem.W.tabObj #[])) (hC:∀ (w:World) (h:Heap),(K w.params).In h→PySem.W.CodeHd h c P) (hC2:∀ (w:World) (h:Heap),(K w.params).In h→PySem.W.CodeHd h c2 P2)
  (F:∀ (w:World) (mg:Str→Option Value) (fa:Addr) (h:Heap),(K w.params).In h→h.Ns mainGlobals mg→mg d.name=some (.ref fa) →
   ∃ fd:FuncData,(∀ (s:Shared) (u:Value),BindsTo s fd ⟨[u],[]⟩ [(x,u)]) ∧
    ∀ base:Heap,(zbc P2 (zbc P (K w.params))).In base→base.Ns mainGlobals mg→PySem.W.CodeHd base c P→base.BuiltinsAt mg P→PySem.W.CodeHd base c2 P2→base.BuiltinsAt mg P2→zcW l.prog w (zbc P2 (zbc P (K w.params))) mg base CX0 k fa fd [x] (sp w))
  (hsp:∀ (w:World) (H:Hp) (a:Addr) (ns:List Int),(∀ x∈ns,x.natAbs<2 ^ 2 ^ 20)→ns.length≤n→H P=some (.tbl #[])→H P2=some (.tbl #[])→SqL (zbc P2 (zbc P (K w.params))) H a (ns.map V.int)→sp w [.ref a] H (fun v _=>v=.bl true) fun _ _ _=>False) :
  PySem.W.WalkO q loose XP YP l.row.toRowW d [] (fun f vs=>PySem.call f vs):=by
 refine Att.attach_callL hn hdf fun w s₀ s₁ mg mb fa o pm cd doc a vs ns hb0 G Y ho hd hcd hmg hobj hints hlen hg=>?_
 have KX:=hY w _ Y
 obtain ⟨fd,hb,hF⟩:=F w mg fa _ KX G.T.g hmg
 have hP:=KX _ _ (hPt w)
 have hP2:=KX _ _ (hPt2 w)
 obtain ⟨bm,ob,b1,b2,b3,b4,b5,b6⟩:=G.T.bmain
 have hBt:∀ {P:Addr},s₁.heap.get? P=some (PySem.W.tabObj #[])→s₁.heap.BuiltinsAt mg P:=fun {P} hP=>by
  refine ⟨bm,ob,b1,b2,fun z=>?_,fun z=>?_,b3,b4,b5,b6⟩
  ·obtain ⟨o',es,ep,e,d',_⟩:=G.T.g
   rw [z,e] at b3;cases b3;rw [d'] at b6;cases b6
  ·rw [z,hP] at b3;cases b3;cases b4
 exact zms (znZ (znZ KX)) hPP ((zaK hPP).trans zaD) hP (hC w _ KX) (hBt hP) zaD hP2 (hC2 w _ KX) (hBt hP2) G.T.g G.T.b G.T.builtins G.T.nolimit hg hobj hints (Nat.le_trans hlen hn2) hr hF hb (fun H hP' hP2' hS=>hsp w H a ns hb0 hlen hP' hP2' hS) fun H e s' z=>z
end L2
namespace PySem.W
open PySem PySem.Calls PySem.NumText PyProof.Rows
namespace KIN
theorem zoJ {M:Model} {A:Around} {E:Value→Shared→Prop} {s:Shared} {Q:Nat→Shared→Prop} (hd:s.heap.NoDigits) (h:Q 4300 s):wpAny M A Builtin.intMaxStrDigits Q E s:=by
 obtain ⟨mc,hns,hnone⟩:=hd
 unfold Builtin.intMaxStrDigits
 refine wpAny_bind (wpAny_nsGet hns ?_)
 rw [hnone]
 exact wpAny_pure h
theorem zqk {M:Model} {A:Around} {E:Value→Shared→Prop} {s:Shared} {Q:Value→Shared→Prop} {v:Value} {text:List Nat} {n:Int} (hd:s.heap.NoDigits)
  (hs:¬ (text.takeWhile (· != 0)).length≤640) (hr:(int_private% "readNumeral") 4300 10 (text.takeWhile (· != 0))=(int_private% "Numeral.value") n)
  (ha:((text.takeWhile (· != 0)).length == text.length)=true) (h:Q (.int n s.toks) { s with toks:=s.toks+1 }) :
  wpAny M A ((int_private% "intFromText") v text 10) Q E s:=by
 obtain ⟨hp,g,d,tk,os⟩:=s
 repeat (any_goals (first
  | assumption
  | (with_reducible refine wpAny_ite_false (decide_eq_false hs) ?_)
  | (with_reducible refine wpAny_ite_true (decide_eq_true ha) ?_)
  | (with_reducible refine zoJ hd ?_)
  | wp_step))
 all_goals (try rw [hr])
 all_goals (try dsimp only)
 repeat (any_goals (first
  | assumption
  | (with_reducible refine wpAny_ite_true (decide_eq_true ha) ?_)
  | wp_step))
set_option maxHeartbeats 4000000 in
theorem zkt {x:PySem.Str} {u:Tok} {n:Int} (hl:640<(numSeenOf x).length) (hx:x.length≤sizeLine) (hn:PySem.intText? x=some n):Meets (Builtin.«int.__new__» ⟨[.type "int",.str x u],[]⟩) fun _ R s=>s.heap.NoDigits∧R (.ok (.ret (.int n s.toks))) { s with toks:=s.toks+1 } :=
 .of_wp fun prog w A R s h=>by
  obtain ⟨hp,g,d,tk,os⟩:=s
  have f1:=F.conv_sub_int
  have f2:=F.madeHere_int
  have f3:=str_int
  have f4:=str_idx
  have f5:=str_trunc
  have f6:typeOf (.str x u)=pure (.type "str"):=rfl
  have hs:¬ (numSeenOf x).length≤640:=by (first|lia|omega)
  have hr:(int_private% "readNumeral") 4300 10 (numSeenOf x)=(int_private% "Numeral.value") n∧((numSeenOf x).length == (numTextOf x).length)=true:=by
   rcases read4300 x hx with ⟨m,h1,h2,h3⟩ | ⟨h1,_⟩
   ·rw [hn] at h1
    injection h1 with h1
    subst h1
    exact ⟨h3,h2⟩
   ·rw [hn] at h1
    cases h1
  have hk:=Hid.mk (And.intro hs (And.intro hr h))
  clear hs hr hl hn hx h
  repeat (any_goals (first
   | assumption
   | ((with_reducible show wpAny _ _ ((int_private% "intFromText") _ _ _) _ _ _);refine zqk hk.out.2.2.1 hk.out.1 hk.out.2.1.1 hk.out.2.1.2 ?_)
   | wp_step))
  all_goals first | exact ⟨_,rfl,hk.out.2.2.2⟩ | skip
theorem zkO {x:PySem.Str} (h:AllDigits x.cps.toList):(numSeenOf x).length=x.length:=by
 obtain ⟨e1,e2⟩:=numText_signs fun c hc=>Or.inr (h c hc)
 first | rw [e2] | rw [e1]
 exact Array.length_toList
theorem call_textB {prog:Program} {w:World} {A:Around} {E:Value→Shared→Prop} {s:Shared} {Q:Value→Shared→Prop} {x:PySem.Str} {t:Tok} {n:Int} (hd:s.heap.NoDigits) (ha:AllDigits x.cps.toList) (hn:PySem.intText? x=some n) (hx:x.length≤4300) (h:Q (.int n s.toks) { s with toks:=s.toks+1 }):wpAny (model prog w) A (call (.type "int") [.str x t]) Q E s:=by
 by_cases hl:x.length≤640
 ·exact call_text hn hl h
 ·exact call_int_1 (zkt (by rw [zkO ha];(first|lia|omega)) (Nat.le_trans hx (by decide)) hn) ⟨hd,rfl,h⟩
end KIN
end PySem.W
namespace L2
open PySem PySem.Spec PyProof.Rows
def zhX (K:PySem.W.Frag):Prop:=PySem.W.nsIn K cStatics "sys.int_max_str_digits"=some none
theorem zhX.at {K:PySem.W.Frag} {h:Heap} (d:zhX K) (X:K.In h) (l:h.NoLimit):h.NoDigits :=
 let ⟨mc,h1,_⟩:=l
 ⟨mc,h1,PySem.W.ns_none_of X h1 d⟩
theorem zhX.drop {K:PySem.W.Frag} {P:Addr} (h:cStatics≠P) (d:zhX K):zhX (zbc P K):=by
 unfold zhX PySem.W.nsIn at d ⊢
 rw [zaK h]
 exact d
def zmE:List V→Hp→VK→Prop:=fun xs H Q=>∃ (x:Str) (n:Int),xs=[.str x]∧x.length≤4300∧PySem.NumText.AllDigits x.cps.toList∧PySem.intText? x=some n∧Q (.int n) H
theorem zhM {X:Cx} (hK:zhX X.K):ze6 X (.type "int") zmE:=by
 intro pins s σ H xs us Q I r h
 obtain ⟨x,n,rfl,hl,ha,hn,q⟩:=h
 obtain ⟨u,rfl,t,rfl⟩:=zfG r
 exact PySem.W.KIN.call_textB (hK.at I.kIn I.nolimit) ha hn hl ⟨.int n,H,I.tok _,⟨_,rfl⟩,q⟩
def zpk (x:Str) (n:Nat):Str:=⟨(List.replicate n x.cps).foldl (·++·) #[]⟩
theorem zlI {α:Type} (a:Array α):∀ (n:Nat) (b:Array α),((List.replicate n a).foldl (·++·) b).size=b.size+n*a.size
 | 0,b=>by simp
 | n+1,b=>by
  rw [List.replicate_succ,List.foldl_cons,zlI a n,Array.size_append,Nat.succ_mul]
  (first|lia|omega)
theorem zlw (x:Str) (n:Nat):(zpk x n).length=n*x.length:=by
 show ((List.replicate n x.cps).foldl (·++·) #[]).size=n*x.cps.size
 rw [zlI]
 simp
def ztM:R2:=fun x y H Q=>∃ (i:Str) (n:Int),x=.str i∧y=.int n∧2≤n∧n≤100000∧1≤i.length∧i.length≤100∧Q (.str (zpk i n.toNat)) H
theorem zsK {X:Cx}:OpR X (binaryOp .Mult) ztM:=by
 intro pins s σ H x y v u Q I rx ry h
 obtain ⟨i,n,rfl,rfl,n2,n1,l1,l2,q⟩:=h
 obtain ⟨t,rfl⟩:=rx
 obtain ⟨t',rfl⟩:=ry
 have e:(n == 1 || i.length == 0)=false:=by
  rw [beq_eq_false_iff_ne.mpr (by (first|lia|omega)),beq_eq_false_iff_ne.mpr (by (first|lia|omega))]
  rfl
 have hm:i.length*n.toNat≤10000000:=Nat.le_trans (Nat.mul_le_mul l2 (show n.toNat≤100000 by (first|lia|omega))) (by decide)
 refine PySem.P.mul_str (by rw [decide_eq_false (by (first|lia|omega)),decide_eq_false (by (first|lia|omega))];rfl) (fun _ _ z=>?_) (fun _ _=>?_) ?_
 ·have h1:n*(i.length:Int)≤2 ^ 63 - 1:=by
   have h2:((i.length*n.toNat:Nat):Int)≤10000000:=by (first|lia|omega)
   rw [Int.natCast_mul,Int.toNat_of_nonneg (by (first|lia|omega)),Int.mul_comm] at h2
   (first|lia|omega)
  have h3:=(Int.le_ediv_iff_mul_le (show 0<n by (first|lia|omega))).mpr (show (i.length:Int)*n≤2 ^ 63 - 1 by rw [Int.mul_comm];exact h1)
  (first|lia|omega)
 ·exact decide_eq_false (Nat.not_lt.mpr (Nat.le_trans hm (by decide)))
 ·rw [if_neg (by (first|lia|omega)),e,if_neg (by decide)]
  exact ⟨by have:=zlw i n.toNat;unfold zpk at this;rw [this,Nat.mul_comm];exact Nat.le_trans hm (by decide),⟨.str _,H,I.tok _,⟨_,rfl⟩,q⟩⟩
end L2
set_option maxHeartbeats 4000000
local macro_rules
 | `(tactic| simp_all only [$xs,*])=>do
  let ds ← ("zs4 ztu zt6 zt3 ztH ztK zsr zsJ zsN zsX zp5 zpr zpu rI_c rI0_c zuM zvP ex_bl zwf zvR zvM zuF zpL zrf zpw zrc zp9 zqV zqb zqR zra zpW znz zoI zcq ztM zkI zmE zkV zrx zo3 zpb zh8 zuc zpA rEqD rNeD zcB tSl zcm zfC zbK zin tBM zt4 zhP ze7 zaN za4 zbe zic zbI zh4 tCB zab zav tC tOp zaJ tB tOr zfj zcE zcb zbV zc2 zdM zgZ tPar zaZ rEq zgk zlH zlE tUn rU rNe zf7 zk7 zlD zn4 zbY rIn zm4 zpJ zsz ztO zlP znQ tIf rInS ziy iStr zmV rAll zgK zt2 zq1 zoo zui ztz zlm znR rInN tJ".splitOn " ").toArray.mapM fun s=>`(Lean.Parser.Tactic.simpLemma| ↓ $(Lean.mkIdent s.toName):ident)
  let ps ← ("fS fI zuj Option.bind_some Option.bind_none Option.join_some Option.map_some List.getElem?_cons_zero List.getElem?_cons_succ V.str.injEq V.ty.injEq zac rI rI0 zeA zjO L2.zbB zqY ztn zrr ztj List.map_cons List.map_nil List.length_cons List.length_nil List.replicate List.cons_append List.nil_append List.append_nil Option.some.injEq exists_eq_left' exists_eq_left exists_and_left List.cons.injEq V.int.injEq V.ref.injEq V.bl.injEq and_true true_and List.set_cons_zero List.set_cons_succ Nat.reduceAdd Nat.reduceSub Int.reduceToNat Int.reducePow Int.reduceNeg Int.reduceMul Int.reduceAdd Int.reduceSub decide_eq_true_eq Bool.not_eq_true' decide_eq_false_iff_not exists_const and_assoc exists_eq exists_eq' if_true if_false Bool.false_eq_true Bool.true_eq_false reduceCtorEq not_true_eq_false not_false_eq_true zmK".splitOn " ").toArray.mapM fun s=>`(Lean.Parser.Tactic.simpLemma| $(Lean.mkIdent s.toName):ident)
  `(tactic| simp only [$xs,*,$ds,*,$ps,*])
namespace My
local macro_rules | `(tactic| omega)=>`(tactic| lia)
open PySem L2
def top (i:Nat):Stmt:=PySem.Challenge.pw_hideworth_k82_papers_written.main.body.getD i (.Pass ⟨0,0,0,0⟩)
abbrev zgC:Stmt:=top 21
abbrev zfq:Stmt:=top 22
abbrev zg5:Stmt:=top 28
abbrev zcP:Stmt:=top 29
abbrev zgx:Stmt:=top 30
abbrev zfF:Stmt:=top 31
abbrev zeN:Stmt:=top 35
abbrev zdl:Stmt:=top 36
abbrev zge:Stmt:=top 37
abbrev zew:Stmt:=top 38
abbrev zea:Stmt:=top 39
abbrev zdk:Stmt:=top 40
abbrev zgm:Stmt:=top 41
abbrev zfZ:Stmt:=top 42
abbrev zhB:Stmt:=top 43
abbrev zhF:Stmt:=top 44
abbrev zgh:Stmt:=top 45
abbrev zfu:Stmt:=top 46
abbrev zeS:Stmt:=top 47
abbrev zdq:Stmt:=top 48
abbrev zes:Stmt:=top 50
abbrev zel:Stmt:=top 51
abbrev zeH:Stmt:=top 52
abbrev zcA:Stmt:=top 53
abbrev zfx:Stmt:=top 54
abbrev zd6:Stmt:=top 55
abbrev zdG:Stmt:=top 56
abbrev zey:Stmt:=top 57
abbrev zn3:Stmt:=top 58
abbrev zcY:Stmt:=(znC (top 16)).getD 0 (.Pass ⟨0,0,0,0⟩)
abbrev zcy:Stmt:=(znC (top 18)).getD 0 (.Pass ⟨0,0,0,0⟩)
def zud:Expr:=match (zb0 zeS).getD 0 (.Pass ⟨0,0,0,0⟩) with
 | .Assign _ (.Call _ [_,e] _ _) _=>e
 | _=>.Constant .none 0 ⟨0,0,0,0⟩
def zr6:Pos:=match zud with
 | .Lambda _ _ _ p=>p
 | _=>⟨0,0,0,0⟩
def zmj:Expr:=match (zb0 zdq).getD 2 (.Pass ⟨0,0,0,0⟩) with
 | .Return (some (.Tuple [_,.Call _ [_,e] _ _] _ _)) _=>e
 | _=>.Constant .none 0 ⟨0,0,0,0⟩
def znY:Pos:=match zmj with
 | .Lambda _ _ _ p=>p
 | _=>⟨0,0,0,0⟩
set_option genInjectivity false in
set_option genSizeOf false in
structure Ad where
 f_is_whole:Addr
 d_is_whole:FuncData
 f_is_within:Addr
 d_is_within:FuncData
 f_is_road:Addr
 d_is_road:FuncData
 f_places_come_to:Addr
 d_places_come_to:FuncData
 f_look_web:Addr
 d_look_web:FuncData
 f_look_kind:Addr
 d_look_kind:FuncData
 f_thing_text:Addr
 d_thing_text:FuncData
 f_paper_rows:Addr
 d_paper_rows:FuncData
 f_text_of:Addr
 d_text_of:FuncData
 f_paper_text:Addr
 d_paper_text:FuncData
 f_number_in:Addr
 d_number_in:FuncData
 f_numbers_in:Addr
 d_numbers_in:FuncData
 f_thing_in:Addr
 d_thing_in:FuncData
 f_plan_in:Addr
 d_plan_in:FuncData
 f_many_in:Addr
 d_many_in:FuncData
 f_road_in:Addr
 d_road_in:FuncData
 f_share_in:Addr
 d_share_in:FuncData
 f_read_rows:Addr
 d_read_rows:FuncData
 f_read_web:Addr
 d_read_web:FuncData
 f_read_paper:Addr
 d_read_paper:FuncData
 f__law_mixed:Addr
 d__law_mixed:FuncData
 f__law_class:Addr
 d__law_class:FuncData
 f__law_paper:Addr
 d__law_paper:FuncData
 f__law_paper_text:Addr
 d__law_paper_text:FuncData
 f__law_same:Addr
 d__law_same:FuncData
 f__law_caught:Addr
 d__law_caught:FuncData
 f__law_web_row:Addr
 d__law_web_row:FuncData
 f__law_great:Addr
 d__law_great:FuncData
 f_law:Addr
 d_law:FuncData
 c_HideError:Addr
 c_NoNumber:Addr
 c_NoTable:Addr
 c_NoBoxes:Addr
 c_NoBudget:Addr
 c_NoOrder:Addr
 c_NoWeights:Addr
 c_TooGreat:Addr
 c_NoKind:Addr
 c_NoTree:Addr
 c_NoTurns:Addr
 c_NoPlay:Addr
 c_NoRow:Addr
 c_NoName:Addr
 c_NoRoad:Addr
 c_NoWeb:Addr
 c_NoPlan:Addr
 c_NoText:Addr
 c_NoPaper:Addr
 i_NoWeb:Addr
 j_NoWeb:FuncData
 i_NoText:Addr
 j_NoText:FuncData
 k_MOST_PLACES:Tok
 k_MOST_ROADS:Tok
 k_MOST_LENGTH:Tok
 k_MOST_FIGURES:Tok
 k_FIGURES:Tok
 t_KINDS:Addr
 p_lam:Addr
 p_lam2:Addr
 cd_lam:Addr
 cd_lam2:Addr
structure Isa (K:PySem.W.Frag) (a:Ad):Prop where
 k_NoNumber:PySem.W.kitOne K (.ref a.c_NoText) (.ref a.c_NoNumber)=some false
 k_NoTable:PySem.W.kitOne K (.ref a.c_NoText) (.ref a.c_NoTable)=some false
 k_NoBoxes:PySem.W.kitOne K (.ref a.c_NoText) (.ref a.c_NoBoxes)=some false
 k_NoBudget:PySem.W.kitOne K (.ref a.c_NoText) (.ref a.c_NoBudget)=some false
 k_NoOrder:PySem.W.kitOne K (.ref a.c_NoText) (.ref a.c_NoOrder)=some false
 k_NoWeights:PySem.W.kitOne K (.ref a.c_NoText) (.ref a.c_NoWeights)=some false
 k_TooGreat:PySem.W.kitOne K (.ref a.c_NoText) (.ref a.c_TooGreat)=some false
 k_NoKind:PySem.W.kitOne K (.ref a.c_NoText) (.ref a.c_NoKind)=some false
 k_NoTree:PySem.W.kitOne K (.ref a.c_NoText) (.ref a.c_NoTree)=some false
 k_NoTurns:PySem.W.kitOne K (.ref a.c_NoText) (.ref a.c_NoTurns)=some false
 k_NoPlay:PySem.W.kitOne K (.ref a.c_NoText) (.ref a.c_NoPlay)=some false
 k_NoRow:PySem.W.kitOne K (.ref a.c_NoText) (.ref a.c_NoRow)=some false
 k_NoName:PySem.W.kitOne K (.ref a.c_NoText) (.ref a.c_NoName)=some false
 k_NoRoad:PySem.W.kitOne K (.ref a.c_NoText) (.ref a.c_NoRoad)=some false
 k_NoWeb:PySem.W.kitOne K (.ref a.c_NoText) (.ref a.c_NoWeb)=some false
 k_NoPlan:PySem.W.kitOne K (.ref a.c_NoText) (.ref a.c_NoPlan)=some false
 k_NoText:PySem.W.kitOne K (.ref a.c_NoText) (.ref a.c_NoText)=some true
 k_NoPaper:PySem.W.kitOne K (.ref a.c_NoText) (.ref a.c_NoPaper)=some false
 k_ValueError:PySem.W.kitOne K (.ref a.c_NoText) (.type "ValueError")=some true
 sub:PySem.W.subIn K (.ref a.c_NoText) (.ref a.c_HideError)=some true
 ec:zfP K (.ref a.c_NoText)
structure Isa2 (K:PySem.W.Frag) (a:Ad):Prop where
 k_NoNumber:PySem.W.kitOne K (.ref a.c_NoKind) (.ref a.c_NoNumber)=some false
 k_NoTable:PySem.W.kitOne K (.ref a.c_NoKind) (.ref a.c_NoTable)=some false
 k_NoBoxes:PySem.W.kitOne K (.ref a.c_NoKind) (.ref a.c_NoBoxes)=some false
 k_NoBudget:PySem.W.kitOne K (.ref a.c_NoKind) (.ref a.c_NoBudget)=some false
 k_NoOrder:PySem.W.kitOne K (.ref a.c_NoKind) (.ref a.c_NoOrder)=some false
 k_NoWeights:PySem.W.kitOne K (.ref a.c_NoKind) (.ref a.c_NoWeights)=some false
 k_TooGreat:PySem.W.kitOne K (.ref a.c_NoKind) (.ref a.c_TooGreat)=some false
 k_NoKind:PySem.W.kitOne K (.ref a.c_NoKind) (.ref a.c_NoKind)=some true
 k_NoTree:PySem.W.kitOne K (.ref a.c_NoKind) (.ref a.c_NoTree)=some false
 k_NoTurns:PySem.W.kitOne K (.ref a.c_NoKind) (.ref a.c_NoTurns)=some false
 k_NoPlay:PySem.W.kitOne K (.ref a.c_NoKind) (.ref a.c_NoPlay)=some false
 k_NoRow:PySem.W.kitOne K (.ref a.c_NoKind) (.ref a.c_NoRow)=some false
 k_NoName:PySem.W.kitOne K (.ref a.c_NoKind) (.ref a.c_NoName)=some false
 k_NoRoad:PySem.W.kitOne K (.ref a.c_NoKind) (.ref a.c_NoRoad)=some false
 k_NoWeb:PySem.W.kitOne K (.ref a.c_NoKind) (.ref a.c_NoWeb)=some false
 k_NoPlan:PySem.W.kitOne K (.ref a.c_NoKind) (.ref a.c_NoPlan)=some false
 k_NoText:PySem.W.kitOne K (.ref a.c_NoKind) (.ref a.c_NoText)=some false
 k_NoPaper:PySem.W.kitOne K (.ref a.c_NoKind) (.ref a.c_NoPaper)=some false
 k_ValueError:PySem.W.kitOne K (.ref a.c_NoKind) (.type "ValueError")=some true
 sub:PySem.W.subIn K (.ref a.c_NoKind) (.ref a.c_HideError)=some true
 ec:zfP K (.ref a.c_NoKind)
structure Txt (K:PySem.W.Frag) (mg:Str→Option Value) (base:Heap) (a:Ad):Prop where
 F_is_whole:Fun K "is_whole" "is_whole" zgC a.f_is_whole a.d_is_whole
 b_is_whole:zbF K a.d_is_whole ["thing"] []
 m_is_whole:mg "is_whole"=some (.ref a.f_is_whole)
 F_is_within:Fun K "is_within" "is_within" zfq a.f_is_within a.d_is_within
 b_is_within:zbF K a.d_is_within ["thing","least","most"] []
 m_is_within:mg "is_within"=some (.ref a.f_is_within)
 F_is_road:Fun K "is_road" "is_road" zg5 a.f_is_road a.d_is_road
 b_is_road:zbF K a.d_is_road ["thing","many"] []
 m_is_road:mg "is_road"=some (.ref a.f_is_road)
 F_places_come_to:Fun K "places_come_to" "places_come_to" zcP a.f_places_come_to a.d_places_come_to
 b_places_come_to:zbF K a.d_places_come_to ["roads"] []
 m_places_come_to:mg "places_come_to"=some (.ref a.f_places_come_to)
 F_look_web:Fun K "look_web" "look_web" zgx a.f_look_web a.d_look_web
 b_look_web:zbF K a.d_look_web ["web"] []
 m_look_web:mg "look_web"=some (.ref a.f_look_web)
 F_look_kind:Fun K "look_kind" "look_kind" zfF a.f_look_kind a.d_look_kind
 b_look_kind:zbF K a.d_look_kind ["kind"] []
 m_look_kind:mg "look_kind"=some (.ref a.f_look_kind)
 F_thing_text:Fun K "thing_text" "thing_text" zeN a.f_thing_text a.d_thing_text
 b_thing_text:zbF K a.d_thing_text ["kind","thing"] []
 m_thing_text:mg "thing_text"=some (.ref a.f_thing_text)
 F_paper_rows:Fun K "paper_rows" "paper_rows" zdl a.f_paper_rows a.d_paper_rows
 b_paper_rows:zbF K a.d_paper_rows ["kind","paper"] []
 m_paper_rows:mg "paper_rows"=some (.ref a.f_paper_rows)
 F_text_of:Fun K "text_of" "text_of" zge a.f_text_of a.d_text_of
 b_text_of:zbF K a.d_text_of ["rows"] []
 m_text_of:mg "text_of"=some (.ref a.f_text_of)
 F_paper_text:Fun K "paper_text" "paper_text" zew a.f_paper_text a.d_paper_text
 b_paper_text:zbF K a.d_paper_text ["kind","paper"] []
 m_paper_text:mg "paper_text"=some (.ref a.f_paper_text)
 F_number_in:Fun K "number_in" "number_in" zea a.f_number_in a.d_number_in
 b_number_in:zbF K a.d_number_in ["word"] []
 m_number_in:mg "number_in"=some (.ref a.f_number_in)
 F_numbers_in:Fun K "numbers_in" "numbers_in" zdk a.f_numbers_in a.d_numbers_in
 b_numbers_in:zbF K a.d_numbers_in ["words"] []
 m_numbers_in:mg "numbers_in"=some (.ref a.f_numbers_in)
 F_thing_in:Fun K "thing_in" "thing_in" zgm a.f_thing_in a.d_thing_in
 b_thing_in:zbF K a.d_thing_in ["kind","word"] []
 m_thing_in:mg "thing_in"=some (.ref a.f_thing_in)
 F_plan_in:Fun K "plan_in" "plan_in" zfZ a.f_plan_in a.d_plan_in
 b_plan_in:zbF K a.d_plan_in ["kind","words"] []
 m_plan_in:mg "plan_in"=some (.ref a.f_plan_in)
 F_many_in:Fun K "many_in" "many_in" zhB a.f_many_in a.d_many_in
 b_many_in:zbF K a.d_many_in ["row"] []
 m_many_in:mg "many_in"=some (.ref a.f_many_in)
 F_road_in:Fun K "road_in" "road_in" zhF a.f_road_in a.d_road_in
 b_road_in:zbF K a.d_road_in ["row","many"] []
 m_road_in:mg "road_in"=some (.ref a.f_road_in)
 F_share_in:Fun K "share_in" "share_in" zgh a.f_share_in a.d_share_in
 b_share_in:zbF K a.d_share_in ["row","kind"] []
 m_share_in:mg "share_in"=some (.ref a.f_share_in)
 F_read_rows:Fun K "read_rows" "read_rows" zfu a.f_read_rows a.d_read_rows
 b_read_rows:zbF K a.d_read_rows ["text","read_row"] []
 m_read_rows:mg "read_rows"=some (.ref a.f_read_rows)
 F_read_web:zm5 K "read_web" "read_web" zeS a.f_read_web a.d_read_web a.cd_lam
 b_read_web:zbF K a.d_read_web ["text"] []
 m_read_web:mg "read_web"=some (.ref a.f_read_web)
 F_read_paper:zm5 K "read_paper" "read_paper" zdq a.f_read_paper a.d_read_paper a.cd_lam2
 b_read_paper:zbF K a.d_read_paper ["text"] []
 m_read_paper:mg "read_paper"=some (.ref a.f_read_paper)
 F__law_mixed:Fun K "_law_mixed" "_law_mixed" zes a.f__law_mixed a.d__law_mixed
 b__law_mixed:zbF K a.d__law_mixed ["_law_script","_law_k"] []
 m__law_mixed:mg "_law_mixed"=some (.ref a.f__law_mixed)
 F__law_class:Fun K "_law_class" "_law_class" zel a.f__law_class a.d__law_class
 b__law_class:zbF K a.d__law_class ["_law_caught_here"] []
 m__law_class:mg "_law_class"=some (.ref a.f__law_class)
 F__law_paper:Fun K "_law_paper" "_law_paper" zeH a.f__law_paper a.d__law_paper
 b__law_paper:zbF K a.d__law_paper ["_law_script","_law_start","_law_kind"] []
 m__law_paper:mg "_law_paper"=some (.ref a.f__law_paper)
 F__law_paper_text:Fun K "_law_paper_text" "_law_paper_text" zcA a.f__law_paper_text a.d__law_paper_text
 b__law_paper_text:zbF K a.d__law_paper_text ["_law_kind","_law_paper_here"] []
 m__law_paper_text:mg "_law_paper_text"=some (.ref a.f__law_paper_text)
 F__law_same:Fun K "_law_same" "_law_same" zfx a.f__law_same a.d__law_same
 b__law_same:zbF K a.d__law_same ["_law_told","_law_due"] []
 m__law_same:mg "_law_same"=some (.ref a.f__law_same)
 F__law_caught:Fun K "_law_caught" "_law_caught" zd6 a.f__law_caught a.d__law_caught
 b__law_caught:zbF K a.d__law_caught ["_law_kind","_law_paper_here"] []
 m__law_caught:mg "_law_caught"=some (.ref a.f__law_caught)
 F__law_web_row:Fun K "_law_web_row" "_law_web_row" zdG a.f__law_web_row a.d__law_web_row
 b__law_web_row:zbF K a.d__law_web_row ["_law_word"] []
 m__law_web_row:mg "_law_web_row"=some (.ref a.f__law_web_row)
 F__law_great:Fun K "_law_great" "_law_great" zey a.f__law_great a.d__law_great
 b__law_great:zbF K a.d__law_great ["_law_kind","_law_number"] []
 m__law_great:mg "_law_great"=some (.ref a.f__law_great)
 F_law:Fun K "law" "law" zn3 a.f_law a.d_law
 b_law:zbF K a.d_law ["_law_script"] []
 m_law:mg "law"=some (.ref a.f_law)
 hC:PySem.W.CodeHd base a.cd_lam a.p_lam
 hB:base.BuiltinsAt mg a.p_lam
 hC2:PySem.W.CodeHd base a.cd_lam2 a.p_lam2
 hB2:base.BuiltinsAt mg a.p_lam2
 hpp:a.p_lam≠a.p_lam2
 z_isinstance:mg "isinstance"=none
 z_int:mg "int"=none
 z_bool:mg "bool"=none
 z_list:mg "list"=none
 z_len:mg "len"=none
 z_all:mg "all"=none
 z_range:mg "range"=none
 z_tuple:mg "tuple"=none
 z_str:mg "str"=none
 z_enumerate:mg "enumerate"=none
 z_zip:mg "zip"=none
 z_min:mg "min"=none
 z_ValueError:mg "ValueError"=none
 m_HideError:mg "HideError"=some (.ref a.c_HideError)
 m_NoNumber:mg "NoNumber"=some (.ref a.c_NoNumber)
 m_NoTable:mg "NoTable"=some (.ref a.c_NoTable)
 m_NoBoxes:mg "NoBoxes"=some (.ref a.c_NoBoxes)
 m_NoBudget:mg "NoBudget"=some (.ref a.c_NoBudget)
 m_NoOrder:mg "NoOrder"=some (.ref a.c_NoOrder)
 m_NoWeights:mg "NoWeights"=some (.ref a.c_NoWeights)
 m_TooGreat:mg "TooGreat"=some (.ref a.c_TooGreat)
 m_NoKind:mg "NoKind"=some (.ref a.c_NoKind)
 m_NoTree:mg "NoTree"=some (.ref a.c_NoTree)
 m_NoTurns:mg "NoTurns"=some (.ref a.c_NoTurns)
 m_NoPlay:mg "NoPlay"=some (.ref a.c_NoPlay)
 m_NoRow:mg "NoRow"=some (.ref a.c_NoRow)
 m_NoName:mg "NoName"=some (.ref a.c_NoName)
 m_NoRoad:mg "NoRoad"=some (.ref a.c_NoRoad)
 m_NoWeb:mg "NoWeb"=some (.ref a.c_NoWeb)
 m_NoPlan:mg "NoPlan"=some (.ref a.c_NoPlan)
 m_NoText:mg "NoText"=some (.ref a.c_NoText)
 m_NoPaper:mg "NoPaper"=some (.ref a.c_NoPaper)
 m_MOST_PLACES:mg "MOST_PLACES"=some (.int 60 a.k_MOST_PLACES)
 m_MOST_ROADS:mg "MOST_ROADS"=some (.int 120 a.k_MOST_ROADS)
 m_MOST_LENGTH:mg "MOST_LENGTH"=some (.int 1000000 a.k_MOST_LENGTH)
 m_MOST_FIGURES:mg "MOST_FIGURES"=some (.int 2000 a.k_MOST_FIGURES)
 m_FIGURES:mg "FIGURES"=some (.str "0123456789" a.k_FIGURES)
 m_KINDS:mg "KINDS"=some (.ref a.t_KINDS)
 u_KINDS:zrh K a.t_KINDS [.str "walk",.str "spread"]
 x_HideError:PySem.W.excIn K a.c_HideError zez "ValueError.__new__"=true
 x_NoKind:PySem.W.excIn K a.c_NoKind zez "ValueError.__new__"=true
 B:ExB K a.c_HideError
 I_NoWeb:Fun K "__init__" "NoWeb.__init__" zcY a.i_NoWeb a.j_NoWeb
 bi_NoWeb:zbF K a.j_NoWeb ["self","road"] []
 X_NoWeb:ExI K a.c_NoWeb a.i_NoWeb
 xa_NoWeb:zhV K a.c_NoWeb "road"
 I_NoText:Fun K "__init__" "NoText.__init__" zcy a.i_NoText a.j_NoText
 bi_NoText:zbF K a.j_NoText ["self","row"] []
 X_NoText:ExI K a.c_NoText a.i_NoText
 xa_NoText:zhV K a.c_NoText "row"
 su_NoWeb:PySem.W.subIn K (.ref a.c_NoWeb) (.ref a.c_NoWeb)=some true
 dg:zhX K
 I:Isa K a
 I2:Isa2 K a
theorem zsZ:zmN 10 18:=⟨by decide,by decide,by decide⟩
theorem logA:(0:Int)<1000000000000000000∧(Int.natAbs 1000000000000000000).log2<9000:=by decide +kernel
theorem logB:(0:Int)<2147483587∧(Int.natAbs 2147483587).log2<9000:=by decide +kernel
theorem log8:(0:Int)<8∧(Int.natAbs 8).log2<9000:=by decide +kernel
def ziU:Sp:=fun vs H Q _=>∃ a:Int,vs=[.int a]∧Q (.bl true) H
def zcQ (K:PySem.W.Frag):Sp:=fun vs H Q _=>∃ (a:Addr) (ns:List Int) (k:Int),vs=[.ref a,.int k]∧SqL K H a (ns.map V.int)∧ns.length≤63∧0≤k∧k<1000000∧∀ r:Int,0≤r→r<2147483587→Q (.int r) H
theorem zeh {α β:Type} {f:α→β} {l:List α} {i:Nat} {y:β} (h:(l.map f)[i]?=some y):∃ x,l[i]?=some x∧y=f x:=by
 rw [List.getElem?_map] at h
 obtain ⟨x,h1,h2⟩:=Option.map_eq_some_iff.mp h
 exact ⟨x,h1,h2.symm⟩
def Tps {α:Type} (f:α→List V) (H:Hp) (ts:List Addr) (bs:List α):Prop:=ts.length=bs.length∧∀ (i:Nat) t b,ts[i]?=some t→bs[i]?=some b→H t=some (.tup (f b))
theorem Tps.same {α:Type} {f:α→List V} {H H':Hp} {ts:List Addr} {bs:List α} (h:Tps f H ts bs) (s:zaQ H H'):Tps f H' ts bs:=⟨h.1,fun i t b e1 e2=>s _ _ (h.2 i t b e1 e2)⟩
theorem Tps.nil {α:Type} {f:α→List V} {H:Hp}:Tps f H [] ([]:List α):=⟨rfl,fun i t b e=>by simp at e⟩
theorem Tps.put {α:Type} {f:α→List V} {H H':Hp} {ts:List Addr} {bs:List α} {t:Addr} {b:α} (h:Tps f H ts bs) (s:∀ (x:Addr) (u:List V),H x=some (.tup u)→H' x=some (.tup u)) (e:H' t=some (.tup (f b))):Tps f H' (ts++[t]) (bs++[b]):=by
 refine ⟨by rw [List.length_append,List.length_append,h.1];rfl,fun i x y e1 e2=>?_⟩
 by_cases c:i<ts.length
 ·rw [List.getElem?_append_left c] at e1
  rw [List.getElem?_append_left (by rw [← h.1];exact c)] at e2
  exact s _ _ (h.2 i x y e1 e2)
 ·have c1:ts.length≤i:=by omega
  rw [List.getElem?_append_right c1] at e1
  rw [List.getElem?_append_right (by rw [← h.1];exact c1),← h.1] at e2
  have z:i - ts.length=0:=by
   have:=(List.getElem?_eq_some_iff.mp e1).1
   simp only [List.length_cons,List.length_nil] at this
   omega
  rw [z] at e1 e2
  simp only [List.getElem?_cons_zero,Option.some.injEq] at e1 e2
  rw [← e1,← e2]
  exact e
theorem Tps.at {α:Type} {f:α→List V} {H:Hp} {ts:List Addr} {bs:List α} (h:Tps f H ts bs) {i:Nat} {t:Addr} (e:ts[i]?=some t):∃ b,bs[i]?=some b∧H t=some (.tup (f b)):=by
 have hi:=(List.getElem?_eq_some_iff.mp e).1
 rw [h.1] at hi
 exact ⟨bs[i],List.getElem?_eq_getElem hi,h.2 i t _ e (List.getElem?_eq_getElem hi)⟩
theorem zdd {α:Type} {l:List α} {i:Nat} {x:α} (e:l[i]?=some x):x∈l:=List.mem_of_getElem? e
def Off (p c:Addr) (H:Hp):Hp:=fun b=>if b=p∨b=c then none else H b
theorem zvi (p c:Addr) (H:Hp):zaQ (Off p c H) H:=fun b o h=>by
 unfold Off at h
 split at h
 ·cases h
 ·exact h
theorem zlT {p c b:Addr} {H:Hp} (h1:b≠p) (h2:b≠c):Off p c H b=H b:=if_neg (fun z=>z.elim h1 h2)
theorem zvH {p c b:Addr} {H:Hp} {o:HO} (h:Off p c H b=some o):b≠p∧b≠c:=by
 unfold Off at h
 split at h
 ·cases h
 ·rename_i z
  exact ⟨fun e=>z (.inl e),fun e=>z (.inr e)⟩
theorem off_p {p c:Addr} {H:Hp} {o:HO}:Off p c (upd H p o)=Off p c H:=by
 funext b
 unfold Off upd
 split
 ·rfl
 ·rename_i z
  rw [if_neg fun e=>z (.inl e)]
theorem zqW {H H':Hp} (p c:Addr) (s:zaQ H H'):zaQ (Off p c H) (Off p c H'):=fun b o h=>by
 have n:=zvH h
 rw [zlT n.1 n.2] at h ⊢
 exact s _ _ h
theorem ztv {c:TT} {tb:TS} {D:zb9} {σ:St} {H:Hp} (W:Nat→St→Hp→Prop) {m:Nat} (h0:W m σ H)
  (hs:∀ m σ H,W m σ H→c σ H fun b H1=>if b=true then ∃ N:St→Hp→Prop,(∀ σ' H',N σ' H'→∃ m',m'<m∧W m' σ' H')∧tb { D with nx:=N,ct:=N,bk:=D.nx } σ H1 else D.nx σ H1):zpd c tb D σ H:=⟨W,⟨m,h0⟩,hs⟩
abbrev zeB:=Int×Int×Int
abbrev rdv (r:zeB):List V:=[.int r.1,.int r.2.1,.int r.2.2]
def GR (m:Int) (r:zeB):Prop:=0≤r.1∧r.1<m∧0≤r.2.1∧r.2.1<m∧r.1≠r.2.1∧1≤r.2.2∧r.2.2≤1000000
instance (m:Int) (r:zeB):Decidable (GR m r):=by unfold GR;infer_instance
def zub (m:Int) (rs:List zeB):Prop:=∀ S:Int→Prop,S 0→(∀ r∈rs,S r.1∨S r.2.1→S r.1∧S r.2.1)→∀ x,0≤x→x<m→S x
structure zr9 (H:Hp) (w rl:Addr) (ts:List Addr) (m:Int) (rs:List zeB):Prop where
 hw:H w=some (.tup [.int m,.ref rl])
 hl:H rl=some (.lst (ts.map V.ref))
 ht:Tps rdv H ts rs
theorem zr9.same {H H':Hp} {w rl:Addr} {ts:List Addr} {m:Int} {rs:List zeB} (h:zr9 H w rl ts m rs) (s:zaQ H H'):zr9 H' w rl ts m rs:=⟨s _ _ h.hw,s _ _ h.hl,h.ht.same s⟩
def shs (f:Int→Int→Option Int) (r:zeB):Int→Int→Option Int:=fun x y =>
 if x=r.2.1∧y=r.1 then some (min ((f r.1 r.2.1).getD r.2.2) r.2.2) else if x=r.1∧y=r.2.1 then some (min ((f r.1 r.2.1).getD r.2.2) r.2.2) else f x y
def sh (rs:List zeB):Int→Int→Option Int:=rs.foldl shs fun _ _=>none
def zd8:Sp:=fun vs H Q _=>∃ x l m:Int,vs=[.int x,.int l,.int m]∧Q (.bl (decide (l≤x∧x≤m))) H
def zf6:Sp:=fun vs H Q _=>∃ (t:Addr) (r:zeB) (m:Int),vs=[.ref t,.int m]∧H t=some (.tup (rdv r))∧Q (.bl (decide (GR m r))) H
def zog:Sp:=fun vs H Q _=>∃ (rl:Addr) (ts:List Addr) (rs:List zeB) (m:Int),vs=[.ref rl]∧H rl=some (.lst (ts.map V.ref))∧Tps rdv H ts rs∧1≤m∧m≤60∧(∀ r∈rs,GR m r)∧∀ (d:Addr) (kvs:List (Key×V)) (H':Hp),zaQ H H'→H' d=some (.dK kvs)→(m≤(kvs.length:Int)↔zub m rs)→Q (.ref d) H'
theorem zd5 {K:PySem.W.Frag} {H:Hp} {Q:VK} {r:Addr} {xs:List V} (h:H r=some (.lst xs)) (q:Q (.bl true) H):zdV K [.ref r,.ty "list"] H Q:=⟨_,_,_,_,true,rfl,rfl,.of (.lst h),rfl,q⟩
def ziQ (m:Int):List zeB→Option Nat
 | []=>none
 | r::rs=>if GR m r then (ziQ m rs).map (·+1) else some 0
theorem zlY {m:Int}:∀ {rs:List zeB} {i:Nat} {r:zeB},rs[i]?=some r→¬ GR m r→(∀ (j:Nat) q,j<i→rs[j]?=some q→GR m q)→ziQ m rs=some i
 | x::rs,0,r,e,h,_=>by
  cases e
  unfold ziQ
  rw [if_neg h]
 | x::rs,i+1,r,e,h,hb=>by
  unfold ziQ
  rw [if_pos (hb 0 x (Nat.succ_pos _) rfl),zlY (rs:=rs) e h fun j q hj hq=>hb (j+1) q (Nat.succ_lt_succ hj) hq]
  rfl
theorem zik {m:Int}:∀ {rs:List zeB},(∀ r∈rs,GR m r)→ziQ m rs=none
 | [],_=>rfl
 | x::rs,h=>by
  unfold ziQ
  rw [if_pos (h x (by simp)),zik fun r hr=>h r (by simp [hr])]
  rfl
def zue (m:Int) (rs:List zeB):Prop:=ziQ m rs=none∧1≤m∧m≤60∧rs.length≤120∧zub m rs
def zpO (m:Int) (rs:List zeB) (d:Int):Prop:=(∃ k:Nat,ziQ m rs=some k∧d=k)∨(ziQ m rs=none∧¬ (1≤m∧m≤60∧rs.length≤120∧zub m rs)∧d=-1)
theorem zpO.not {m:Int} {rs:List zeB} {d:Int} (h:zpO m rs d) (g:zue m rs):False:=by
 rcases h with ⟨k,h1,h2⟩ | ⟨h1,h2,_⟩
 ·rw [g.1] at h1
  cases h1
 ·exact h2 g.2
def zh5 (a:Ad):Sp:=fun vs H Q E=>∃ (w rl:Addr) (ts:List Addr) (m:Int) (rs:List zeB),vs=[.ref w]∧zr9 H w rl ts m rs∧rs.length≤99999∧(zue m rs→∀ H',zaQ H H'→Q .non H')∧(∀ d,zpO m rs d→∀ (dx:Addr) (H':Hp),zaQ H H'→H' dx=none→E (.ref a.c_NoWeb) (some dx) (L2.upd H' dx (.xd [("road",.int d)])))
def dg (c:Nat):Bool:=decide (48≤c)&&decide (c≤57)
theorem zjq:(Str.ofString "0123456789").cps.toList=[48,49,50,51,52,53,54,55,56,57]:=by decide +kernel
theorem zwi (c:Nat):(!(Builtin.Str.occurrences (Str.ofString "0123456789") ⟨#[c]⟩ 0 (Str.ofString "0123456789").length 1).isEmpty)=dg c:=by
 rw [StrLaws.found_one,zjq]
 unfold dg
 by_cases h:48≤c∧c≤57
 ·rw [decide_eq_true h.1,decide_eq_true h.2,decide_eq_true]
  ·rfl
  ·have:c=48∨c=49∨c=50∨c=51∨c=52∨c=53∨c=54∨c=55∨c=56∨c=57:=by omega
   rcases this with rfl | rfl | rfl | rfl | rfl | rfl | rfl | rfl | rfl | rfl <;> decide
 ·rw [decide_eq_false (p:=c∈_)]
  ·cases z:(decide (48≤c)&&decide (c≤57)) with
   | false=>rfl
   | true =>
    rw [Bool.and_eq_true,decide_eq_true_eq,decide_eq_true_eq] at z
    exact absurd z h
  ·intro m
   simp only [List.mem_cons,List.not_mem_nil,or_false] at m
   omega
theorem zmU:(Str.ofString "0").cps.toList=[48]:=by decide +kernel
theorem zsU (w:Str):Txt.startswith w (Str.ofString "0")=decide (w.cps.toList.head?=some 48):=by
 unfold Txt.startswith
 rw [StrLaws.subAt_eq,zmU]
 have l1:(Str.ofString "0").length=1:=by decide +kernel
 have lw:w.length=w.cps.toList.length:=by simp [Str.length]
 rw [l1,lw,List.drop_zero]
 cases h:w.cps.toList with
 | nil=>rfl
 | cons c l =>
  show (decide (0+1≤(c::l).length)&&([c] == [48]))=decide (some c=some 48)
  rw [decide_eq_true (show 0+1≤(c::l).length by rw [List.length_cons];omega),Bool.true_and]
  by_cases z:c=48
  ·rw [z];rfl
  ·rw [decide_eq_false (fun y=>z (Option.some.inj y))]
   simp [z]
def okW (w:Str):Bool:=decide (1≤w.length∧w.length≤2000)&&w.cps.toList.all dg&&!(decide (w.cps.toList.head?=some 48)&&!decide (w=Str.ofString "0"))
def zc0 (w:Str):Option Int:=if okW w=true then PySem.intText? w else none
def zki:Option Int→V
 | none=>.non
 | some n=>.int n
theorem zqA {w:Str} (h:w.cps.toList.all dg=true) (l1:1≤w.length) (l2:w.length≤4300):∃ n:Int,PySem.intText? w=some n∧0≤n:=by
 have lw:w.length=w.cps.toList.length:=by simp [Str.length]
 refine ⟨_,PySem.intText_digits (fun c hc=>?_) (fun z=>?_) l2,Int.natCast_nonneg _⟩
 ·have:=List.all_eq_true.mp h c hc
  unfold dg at this
  rw [Bool.and_eq_true,decide_eq_true_eq,decide_eq_true_eq] at this
  exact this
 ·rw [lw,z] at l1
  exact absurd l1 (by decide)
def lr:Nat→List Nat→Nat
 | k,[]=>k
 | k,c::l=>if c=32∨c=10 then max k (lr 0 l) else lr (k+1) l
theorem zdD (k c:Nat) (l:List Nat):lr k (c::l)=if c=32∨c=10 then max k (lr 0 l) else lr (k+1) l:=rfl
theorem zoU:∀ (l:List Nat) (k:Nat),k≤lr k l∧lr 0 l≤lr k l∧lr k l≤k+lr 0 l
 | [],k=>⟨Nat.le_refl _,Nat.zero_le _,Nat.le_refl _⟩
 | c::l,k=>by
  rw [zdD,zdD]
  by_cases h:c=32∨c=10
  ·rw [if_pos h,if_pos h]
   omega
  ·rw [if_neg h,if_neg h]
   have h1:=zoU l (k+1)
   have h2:=zoU l (0+1)
   have h3:∀ j,lr j l=max j (lr 0 l)∨True:=fun j=>.inr trivial
   refine ⟨by omega,?_,?_⟩
   ·exact lr_mono l (by omega)
   ·exact lr_shift l k 1
where
 lr_mono:∀ (l:List Nat) {j k:Nat},j≤k→lr j l≤lr k l
  | [],j,k,h=>h
  | c::l,j,k,h=>by
   rw [zdD,zdD]
   by_cases z:c=32∨c=10
   ·rw [if_pos z,if_pos z];omega
   ·rw [if_neg z,if_neg z]
    exact lr_mono l (by omega)
 lr_shift:∀ (l:List Nat) (j k:Nat),lr (j+k) l≤j+lr k l
  | [],j,k=>Nat.le_refl _
  | c::l,j,k=>by
   rw [zdD,zdD]
   by_cases z:c=32∨c=10
   ·rw [if_pos z,if_pos z];omega
   ·rw [if_neg z,if_neg z]
    exact lr_shift l j (k+1)
theorem zjV:∀ (a b:List Nat) (k:Nat),lr k (a++b)≤lr k a+lr 0 b∧lr k a≤lr k (a++b)∧lr 0 b≤lr k (a++b)
 | [],b,k=>by
  have:=zoU b k
  exact ⟨this.2.2,this.1,this.2.1⟩
 | c::a,b,k=>by
  rw [List.cons_append,zdD,zdD]
  by_cases h:c=32∨c=10
  ·rw [if_pos h,if_pos h]
   have:=zjV a b 0
   omega
  ·rw [if_neg h,if_neg h]
   exact zjV a b (k+1)
theorem zo0:∀ (l:List Nat) (k:Nat),32∉l→10∉l→lr k l=k+l.length
 | [],k,_,_=>rfl
 | c::l,k,h1,h2=>by
  rw [zdD,if_neg (fun z=>z.elim (fun e=>h1 (e ▸ List.mem_cons_self ..)) (fun e=>h2 (e ▸ List.mem_cons_self ..))),zo0 l _ (fun m=>h1 (List.mem_cons_of_mem _ m)) (fun m=>h2 (List.mem_cons_of_mem _ m)),List.length_cons]
  omega
theorem znn:∀ (l:List Nat) (k:Nat),lr k l≤k+l.length
 | [],k=>Nat.le_refl _
 | c::l,k=>by
  rw [zdD,List.length_cons]
  have h1:=znn l 0
  have h2:=znn l (k+1)
  by_cases h:c=32∨c=10
  ·rw [if_pos h];omega
  ·rw [if_neg h];omega
def sgn (s:Str):List Nat:=s.cps.toList
theorem zbQ (s:Str):s.length=(sgn s).length:=by simp [sgn,Str.length]
theorem zaM (s t:Str):sgn (s++t)=sgn s++sgn t:=by
 unfold sgn
 rw [Str.cps_append',Array.toList_append]
where
 Str.cps_append':(s++t).cps=s.cps++t.cps:=rfl
theorem zuD (l:List Nat):sgn ⟨l.toArray⟩=l:=rfl
theorem zcu {s t:Str} (h:sgn s=sgn t):s=t:=by
 cases s
 cases t
 exact congrArg _ (Array.toList_inj.mp h)
def Rn (n:Nat) (s:Str):Prop:=lr 0 (sgn s)≤n
theorem zcx (y x:Str):Str.join y [x]=x:=rfl
theorem zfX (y x z:Str) (l:List Str):sgn (Str.join y (x::z::l))=sgn x++(sgn y++sgn (Str.join y (z::l))):=by
 show sgn (x++y++Str.join y (z::l))=_
 rw [zaM,zaM,List.append_assoc]
theorem zn0 {c n:Nat}:∀ {l:List Str},Rn n (Str.join ⟨#[c]⟩ l)→∀ x∈l,Rn n x
 | [x],h,y,hy=>by rw [List.mem_singleton.mp hy];exact h
 | x::z::l,h,y,hy=>by
  unfold Rn at h
  rw [zfX] at h
  have h:lr 0 (sgn x++c::sgn (Str.join ⟨#[c]⟩ (z::l)))≤n:=h
  rcases List.mem_cons.mp hy with rfl | hy
  ·exact Nat.le_trans (zjV _ _ 0).2.1 h
  ·refine zn0 (c:=c) (l:=z::l) ?_ y hy
   have h2:=(zjV (sgn x) (c::sgn (Str.join ⟨#[c]⟩ (z::l))) 0).2.2
   have h3:=(zjV [c] (sgn (Str.join ⟨#[c]⟩ (z::l))) 0).2.2
   exact Nat.le_trans h3 (Nat.le_trans h2 h)
theorem zix {c n:Nat} {s:Str} (h:Rn n s):∀ x∈Txt.split s ⟨#[c]⟩,Rn n x:=zn0 (c:=c) (by rw [StrLaws.join_split];exact h)
theorem zf3 (s y:Str):Txt.split s y≠[]:=by
 unfold Txt.split
 split
 ·exact List.cons_ne_nil _ _
 ·split
  ·exact List.cons_ne_nil _ _
  ·intro h
   rw [StrLaws.partsBetween_eq] at h
   obtain ⟨p,r,e⟩:=StrLaws.partsFrom_ne s y.length 0 (Builtin.Str.occurrences s y 0 s.length (s.length+1))
   rw [e] at h
   cases h
theorem zeC (s:Str) (c:Nat):(Txt.split s ⟨#[c]⟩).length≤s.length+1:=by
 have:=PyProof.Rows.split_weight s ⟨#[c]⟩ (Nat.le_refl 1)
 omega
theorem zeT (s:Str) (c:Nat):∀ x∈Txt.split s ⟨#[c]⟩,x.length≤s.length:=fun x hx=>by
 have h:=PyProof.Rows.split_weight s ⟨#[c]⟩ (Nat.le_refl 1)
 have:x.length≤((Txt.split s ⟨#[c]⟩).map (·.length)).sum:=List.le_sum_of_mem' (List.mem_map.mpr ⟨x,hx,rfl⟩)
 have l1:1≤(Txt.split s ⟨#[c]⟩).length:=List.length_pos_of_mem hx
 omega
where
 List.le_sum_of_mem':∀ {l:List Nat} {n:Nat},n∈l→n≤l.sum
  | a::l,n,h=>by
   rw [List.sum_cons]
   rcases List.mem_cons.mp h with rfl | h
   ·omega
   ·have:=List.le_sum_of_mem' h
    omega
theorem parti (s:Str) (c:Nat):sgn (Txt.partition s ⟨#[c]⟩).1=(sgn s).takeWhile (fun d=>decide (d≠c)):=by
 have key:∀ (l:List Nat) (i:Nat),(∀ k,k<i→l[k]?≠some c)→l[i]?=some c→l.takeWhile (fun d=>decide (d≠c))=l.take i:=by
  intro l
  induction l with
  | nil=>intro i _ h;cases h
  | cons a l ih =>
   intro i h1 h2
   cases i with
   | zero =>
    have:a=c:=Option.some.inj h2
    rw [List.takeWhile_cons_of_neg (by simp [this]),List.take_zero]
   | succ i =>
    have na:a≠c:=fun z=>h1 0 (Nat.succ_pos _) (by rw [z];rfl)
    rw [List.takeWhile_cons_of_pos (by simp [na]),List.take_succ_cons,ih i (fun k hk=>h1 (k+1) (by omega)) h2]
 have keyN:∀ l:List Nat,(∀ k:Nat,l[k]?≠some c)→l.takeWhile (fun d=>decide (d≠c))=l:=by
  intro l
  induction l with
  | nil=>intro _;rfl
  | cons a l ih =>
   intro h1
   have na:a≠c:=fun z=>h1 0 (by rw [z];rfl)
   rw [List.takeWhile_cons_of_pos (by simp [na]),ih (fun k=>h1 (k+1))]
 unfold Txt.partition
 rcases StrLaws.occ_head s ⟨#[c]⟩ 1 (Nat.le_refl 1) with ⟨e,hn⟩ | ⟨i,r,e,hi,hn⟩
 ·rw [e]
  show sgn s=_
  rw [keyN (sgn s) fun k hk=>hn k ((StrLaws.subAt_one s c k).mpr hk)]
 ·rw [e]
  have hi':=(StrLaws.subAt_one s c i).mp hi
  rw [key (sgn s) i (fun k hk z=>hn k hk ((StrLaws.subAt_one s c k).mpr z)) hi']
  show (Builtin.Str.strSub s 0 i).cps.toList=_
  rw [StrLaws.strSub_toList,List.drop_zero,Nat.sub_zero]
  rfl
theorem zo1 {i:Int} (h0:0≤i) {k:Nat} (hk:0<k) (h:i<10 ^ k):(Str.ofString (toString i)).length≤k:=PyProof.Rows.toString_length_le h0 hk h
section
variable {P:Program} {w:World} {mg:Str→Option Value} {base:Heap}
variable {K:PySem.W.Frag} {H:Hp} {Q:VK} {a:Ad}
def zgt (K:PySem.W.Frag):TS :=
 (zbV (zcE (tCB (zdV K) (zab (zac 0) (zab (tC (.ty "int")) zav))) (zoo (tCB (zdV K) (zab (zac 0) (zab (tC (.ty "bool")) zav))))))
theorem zkn {x:Int} (q:Q (.bl true) H):zgt K { nx:=fun _ H'=>Q .non H',rt:=Q } (L2.zbB ["thing"] [.int x]) H:=by
 unfold zgt
 simp_all only [zac]
 refine zfB ⟨_,rfl,zsa ?_⟩
 exact zgP ⟨_,rfl,q⟩
theorem zkB:zaP ["thing"] ["thing"] (zau zgC):=⟨rfl,rfl,rfl,by decide +kernel,rfl,by decide +kernel,by decide +kernel⟩
theorem zhu (T:Txt K mg base a):zcW P w K mg base CX0 1 a.f_is_whole a.d_is_whole ["thing"] ziU:=by
 refine T.F_is_whole.ok zkB (fun vs H Q E h=>?_) (fun cdv A outer s H vs Q E hr h=>?_)
 ·obtain ⟨x,rfl,q⟩:=h
  rfl
 obtain ⟨x,rfl,q⟩:=h
 exact ⟨zgt K,(zah (zaU (zdc (zax zaS rfl T.z_isinstance PyProof.Rows.boot_isinstance (zaa (pv 0) (zaa (zbS rfl T.z_int zds rfl) zae))) (zen (zrz (zax zaS rfl T.z_isinstance PyProof.Rows.boot_isinstance (zaa (pv 0) (zaa (zbS rfl T.z_bool zgg rfl) zae)))))))),
  zkn q⟩
def zfE:TS :=
 (zbV (zcE (zaZ ziU [] E0 (zab (zac 0) zav)) (zgK (rI0 fun i j=>.bl (decide (i≤j))) (rI0 fun i j=>.bl (decide (i≤j))) (zac 1) (zac 0) (zac 2))))
theorem zjK {x l m:Int} (q:Q (.bl (decide (l≤x∧x≤m))) H):zfE { nx:=fun _ H'=>Q .non H',rt:=Q } (L2.zbB ["thing","least","most"] [.int x,.int l,.int m]) H:=by
 unfold zfE
 simp_all only [zac]
 refine ⟨x,rfl,true,rfl,zsa ?_⟩
 refine zdU (fun c=>?_) (fun c=>?_)
 ·rw [show decide (l≤x∧x≤m)=decide (x≤m) from by simp [c]] at q
  exact q
 ·rw [show decide (l≤x∧x≤m)=false from by simp [c]] at q
  exact q
theorem zjx:zaP ["thing","least","most"] ["thing","least","most"] (zau zfq):=⟨rfl,rfl,rfl,by decide +kernel,rfl,by decide +kernel,by decide +kernel⟩
theorem zjS (T:Txt K mg base a):zcW P w K mg base CX0 2 a.f_is_within a.d_is_within ["thing","least","most"] zd8:=by
 have G_is_whole:=zhu (P:=P) (w:=w) (base:=base) T
 refine T.F_is_within.ok zjx (fun vs H Q E h=>?_) (fun cdv A outer s H vs Q E hr h=>?_)
 ·obtain ⟨x,l,m,rfl,q⟩:=h
  rfl
 obtain ⟨x,l,m,rfl,q⟩:=h
 exact ⟨zfE,(zah (zaU (zdc (zaG G_is_whole (hr.mono (by decide)) rfl T.m_is_whole T.F_is_whole.kp T.b_is_whole .nil zbs (zaa (pv 0) zae)) (zen (zqI zk1 zk1 (pv 1) (pv 0) (pv 2)))))),
  zjK q⟩
def zhL (K:PySem.W.Frag):TS :=
 (zaN (zbe (zac 0) (zic K 3 (zbI (zat 2) (zbI (zat 3) (zbI (zat 4) zh4)))))
 (zbV (zcE (zaZ zd8 [] E0 (zab (zac 2) (zab (tC (.int 0)) (zab (tOp (rI0 fun i j=>.int (i - j)) (zac 1) (tC (.int 1))) zav)))) (zcE (zaZ zd8 [] E0 (zab (zac 3) (zab (tC (.int 0)) (zab (tOp (rI0 fun i j=>.int (i - j)) (zac 1) (tC (.int 1))) zav)))) (zcE (tOp rNe (zac 2) (zac 3)) (zaZ zd8 [] E0 (zab (zac 4) (zab (tC (.int 1)) (zab (tC (.int 1000000)) zav)))))))))
theorem zcG (K:PySem.W.Frag) (D:zb9) (σ:St) (H:Hp):zhL K D σ H=(zaN (zbe (zac 0) (zic K 3 (zbI (zat 2) (zbI (zat 3) (zbI (zat 4) zh4)))))
 (zbV (zcE (zaZ zd8 [] E0 (zab (zac 2) (zab (tC (.int 0)) (zab (tOp (rI0 fun i j=>.int (i - j)) (zac 1) (tC (.int 1))) zav)))) (zcE (zaZ zd8 [] E0 (zab (zac 3) (zab (tC (.int 0)) (zab (tOp (rI0 fun i j=>.int (i - j)) (zac 1) (tC (.int 1))) zav)))) (zcE (tOp rNe (zac 2) (zac 3)) (zaZ zd8 [] E0 (zab (zac 4) (zab (tC (.int 1)) (zab (tC (.int 1000000)) zav))))))))) D σ H:=rfl
def zhI (K:PySem.W.Frag):TS :=
 (zcb (tOr (zfj (tB (tCB (zdV K) (zab (zac 0) (zab (tC (.ty "tuple")) zav))))) (zaJ (tOp rNe (tCB (fun xs H Q=>∃ p ys,xs=[.ref p]∧(SqL K H p ys∨SqT K H p ys)∧Q (.int ys.length) H) (zab (zac 0) zav)) (tC (.int 3))))) (zbV (tC (.bl false))) za4)
theorem zcJ (K:PySem.W.Frag) (D:zb9) (σ:St) (H:Hp):zhI K D σ H=(zcb (tOr (zfj (tB (tCB (zdV K) (zab (zac 0) (zab (tC (.ty "tuple")) zav))))) (zaJ (tOp rNe (tCB (fun xs H Q=>∃ p ys,xs=[.ref p]∧(SqL K H p ys∨SqT K H p ys)∧Q (.int ys.length) H) (zab (zac 0) zav)) (tC (.int 3))))) (zbV (tC (.bl false))) za4) D σ H:=rfl
def zhj (K:PySem.W.Frag):TS :=
 (zaN (zei (zhI K))
 (zhL K))
theorem zmC {t:Addr} {r:zeB} {m:Int} (ht:H t=some (.tup (rdv r))) (q:Q (.bl (decide (GR m r))) H):zhj K { nx:=fun _ H'=>Q .non H',rt:=Q } (L2.zbB ["thing","many","a","b","length"] [.ref t,.int m]) H:=by
 unfold zhj
 simp_all only [zcG,zcJ,zac]
 refine ⟨fun σ H'=>H'=H∧σ=[some (.ref t),some (.int m),none,none,none],?_,?_⟩
 ·simp_all only [zcG,zcJ,zac]
  refine zc8 ht ⟨true,rfl,?_⟩
  refine zdU (fun z=>absurd z (by decide)) (fun _=>?_)
  refine ⟨_,.inr (SqT.of ht),?_⟩
  exact zdU (fun z=>absurd rfl z) (fun _=>rfl)
 ·rintro σ H' ⟨e,rfl⟩
  rw [e]
  simp_all only [zcG,zcJ,zac]
  refine ⟨_,SqT.of ht,rfl,_,_,rfl,_,_,rfl,_,_,rfl,rfl,?_⟩
  refine ⟨_,_,_,rfl,_,rfl,zdU (fun c1=>?_) (fun c1=>?_)⟩
  ·have c1:=of_decide_eq_true c1
   refine ⟨_,_,_,rfl,_,rfl,zdU (fun c2=>?_) (fun c2=>?_)⟩
   ·have c2:=of_decide_eq_true c2
    simp_all only [zcG,zcJ,zac]
    refine zdU (fun c3=>?_) (fun c3=>?_)
    ·refine ⟨_,_,_,rfl,?_⟩
     rw [show decide (GR m r)=decide (1≤r.2.2∧r.2.2≤1000000) from decide_eq_decide.mpr ⟨fun z=>z.2.2.2.2.2,fun z=>⟨by omega,by omega,by omega,by omega,c3,z⟩⟩] at q
     exact q
    ·rw [decide_eq_false (p:=GR m r) fun z=>c3 z.2.2.2.2.1] at q
     exact q
   ·rw [decide_eq_false (p:=GR m r) fun z=>c2 (decide_eq_true ⟨z.2.2.1,by have:=z.2.2.2.1;omega⟩)] at q
    exact q
  ·rw [decide_eq_false (p:=GR m r) fun z=>c1 (decide_eq_true ⟨z.1,by have:=z.2.1;omega⟩)] at q
   exact q
theorem ze3:zaP ["thing","many","a","b","length"] ["thing","many"] (zau zg5):=⟨rfl,rfl,rfl,by decide +kernel,rfl,by decide +kernel,by decide +kernel⟩
theorem zim (T:Txt K mg base a):zcW P w K mg base CX0 3 a.f_is_road a.d_is_road ["thing","many"] zf6:=by
 have G_is_within:=zjS (P:=P) (w:=w) (base:=base) T
 refine T.F_is_road.ok ze3 (fun vs H Q E h=>?_) (fun cdv A outer s H vs Q E hr h=>?_)
 ·obtain ⟨t,r,m,rfl,ht,q⟩:=h
  rfl
 obtain ⟨t,r,m,rfl,ht,q⟩:=h
 exact ⟨zhj K,(zaf (zbG (zb2 (PW.pt (zdO (zcX (zcz (zax zaS rfl T.z_isinstance PyProof.Rows.boot_isinstance (zaa (pv 0) (zaa (zbS rfl T.z_tuple zcp rfl) zae))))) (zcV (zaI zfN (zax zaY rfl T.z_len PySem.boot_len (zaa (pv 0) zae)) zak (zaL _))))) (zah (zaU zgE)) za0))
 (zaf (znc (pv 0) (zef rfl (za2 (zaT (i:=2) ze3.nd rfl (Or.inl rfl)) (za2 (zaT (i:=3) ze3.nd rfl (Or.inl rfl)) (za2 (zaT (i:=4) ze3.nd rfl (Or.inl rfl)) zcT)))))
 (zah (zaU (zdc (zaG G_is_within (hr.mono (by decide)) rfl T.m_is_within T.F_is_within.kp T.b_is_within .nil zbs (zaa (pv 2) (zaa zak (zaa (zaF zlF (pv 1) zak) zae)))) (zdc (zaG G_is_within (hr.mono (by decide)) rfl T.m_is_within T.F_is_within.kp T.b_is_within .nil zbs (zaa (pv 3) (zaa zak (zaa (zaF zlF (pv 1) zak) zae)))) (zdc (zcg zfN (pv 2) (pv 3) (zaL _)) (zen (zaG G_is_within (hr.mono (by decide)) rfl T.m_is_within T.F_is_within.kp T.b_is_within .nil zbs (zaa (pv 4) (zaa zak (zaa (zbq rfl T.m_MOST_LENGTH ⟨_,rfl⟩) zae)))))))))))),
  zmC ht q⟩
theorem zf8 {α:Type} [DecidableEq α]:∀ (a b:List α),a.Nodup→(∀ x∈a,x∈b)→a.length≤b.length
 | [],b,_,_=>Nat.zero_le _
 | x::a,b,nd,h=>by
  obtain ⟨n1,n2⟩:=List.nodup_cons.mp nd
  have hx:=h x (by simp)
  have ih:=zf8 a (b.erase x) n2 fun y hy=>(List.mem_erase_of_ne fun (e:y=x)=>n1 (e ▸ hy)).mpr (h y (by simp [hy]))
  rw [List.length_erase_of_mem hx] at ih
  have:=List.length_pos_of_mem hx
  rw [List.length_cons]
  omega
def Dm (kvs:List (Key×V)) (x:Int):Prop:=zfY kvs (.inl x)≠none
def zcM {κ:Type} (kvs:List (κ×V)):List κ:=kvs.map (·.1)
theorem zk3 {κ:Type} [DecidableEq κ] (kvs:List (κ×V)) (k:κ):zfY kvs k≠none↔k∈zcM kvs:=by
 induction kvs with
 | nil=>simp [zfY,zcM]
 | cons p r ih =>
  by_cases e:p.1=k
  ·rw [zcj e]
   simp [zcM,e]
  ·rw [zcc e,ih]
   unfold zcM
   rw [List.map_cons,List.mem_cons]
   exact ⟨.inr,fun h=>h.resolve_left fun z=>e z.symm⟩
theorem zi0 {κ:Type} [DecidableEq κ] (kvs:List (κ×V)) (k:κ) (v:V):zcM (zgO kvs k v)=if zfY kvs k=none then zcM kvs++[k] else zcM kvs:=by
 by_cases c:zfY kvs k=none
 ·rw [if_pos c,zrl v c]
  simp [zcM]
 ·rw [if_neg c]
  unfold zgO
  rw [ze1,if_pos (Option.isSome_iff_ne_none.mpr c)]
  unfold zcM
  rw [List.map_map]
  refine List.map_congr_left fun p _=>?_
  simp only [Function.comp]
  split <;> rfl
theorem zeV {κ:Type} (kvs:List (κ×V)):(zcM kvs).length=kvs.length:=List.length_map ..
theorem znu {κ:Type} [DecidableEq κ] (kvs:List (κ×V)) (k:κ) (v:V):(zgO kvs k v).length=if zfY kvs k=none then kvs.length+1 else kvs.length:=by
 rw [← zeV,zi0]
 split
 ·rw [List.length_append,zeV]
  rfl
 ·rw [zeV]
theorem zjr (kvs:List (Key×V)) (y x:Int) (v:V):Dm (zgO kvs (.inl y) v) x↔x=y∨Dm kvs x:=by
 unfold Dm
 rw [zrq]
 by_cases e:x=y
 ·subst e
  simp
 ·rw [if_neg fun z=>e (Sum.inl.inj z)]
  exact ⟨.inr,fun h=>h.resolve_left e⟩
def Clo (rs:List zeB) (S:Int→Prop):Prop:=∀ r∈rs,S r.1∨S r.2.1→S r.1∧S r.2.1
structure Cm (m:Int) (rs:List zeB) (kvs:List (Key×V)):Prop where
 nd:(zcM kvs).Nodup
 inR:∀ k∈zcM kvs,∃ x:Int,k=.inl x∧0≤x∧x<m
 zero:Dm kvs 0
 least:∀ S:Int→Prop,S 0→Clo rs S→∀ x,Dm kvs x→S x
theorem Cm.put {m:Int} {rs:List zeB} {kvs:List (Key×V)} (h:Cm m rs kvs) {y:Int} (v:V) (y0:0≤y) (y1:y<m) (hy:∀ S:Int→Prop,S 0→Clo rs S→S y):Cm m rs (zgO kvs (.inl y) v):=by
 refine ⟨?_,?_,(zjr ..).mpr (.inr h.zero),fun S s0 sc x hx=>?_⟩
 ·rw [zi0]
  split
  ·rename_i c
   refine List.nodup_append.mpr ⟨h.nd,by simp,fun a ha b hb e=>?_⟩
   have:b=.inl y:=by simpa using hb
   subst this
   subst e
   exact (zk3 ..).mpr ha c
  ·exact h.nd
 ·rw [zi0]
  split
  ·intro k hk
   rcases List.mem_append.mp hk with z | z
   ·exact h.inR k z
   ·exact ⟨y,by simpa using z,y0,y1⟩
  ·exact h.inR
 ·rcases (zjr ..).mp hx with rfl | z
  ·exact hy S s0 sc
  ·exact h.least S s0 sc x z
theorem Cm.le {m:Int} {rs:List zeB} {kvs:List (Key×V)} (h:Cm m rs kvs) (m0:0≤m):(kvs.length:Int)≤m:=by
 have:=zf8 (zcM kvs) ((List.range m.toNat).map fun k:Nat=>(Sum.inl (k:Int):Key)) h.nd fun k hk=>by
  obtain ⟨x,rfl,x0,x1⟩:=h.inR k hk
  exact List.mem_map.mpr ⟨x.toNat,List.mem_range.mpr (by omega),by rw [Int.toNat_of_nonneg x0]⟩
 rw [zeV,List.length_map,List.length_range] at this
 omega
theorem Cm.all {m:Int} {rs:List zeB} {kvs:List (Key×V)} (h:Cm m rs kvs) (m0:0≤m):m≤(kvs.length:Int)↔∀ x,0≤x→x<m→Dm kvs x:=by
 constructor
 ·intro hl x x0 x1
  refine Classical.byContradiction fun c=>?_
  have hx:(Sum.inl x:Key)∉zcM kvs:=fun z=>c ((zk3 ..).mpr z)
  have:=zf8 (Sum.inl x::zcM kvs) ((List.range m.toNat).map fun k:Nat=>(Sum.inl (k:Int):Key)) (List.nodup_cons.mpr ⟨hx,h.nd⟩) fun k hk=>by
   have:∃ y:Int,k=.inl y∧0≤y∧y<m:=by
    rcases List.mem_cons.mp hk with z | z
    ·exact ⟨x,z,x0,x1⟩
    ·exact h.inR k z
   obtain ⟨y,rfl,y0,y1⟩:=this
   exact List.mem_map.mpr ⟨y.toNat,List.mem_range.mpr (by omega),by rw [Int.toNat_of_nonneg y0]⟩
  rw [List.length_cons,zeV,List.length_map,List.length_range] at this
  omega
 ·intro hx
  have:=zf8 ((List.range m.toNat).map fun k:Nat=>(Sum.inl (k:Int):Key)) (zcM kvs) ?_ fun k hk=>?_
  ·rw [zeV,List.length_map,List.length_range] at this
   omega
  ·refine List.nodup_iff_pairwise_ne.mpr (List.pairwise_map.mpr ((List.nodup_iff_pairwise_ne.mp List.nodup_range).imp fun h e=>h ?_))
   have:=Sum.inl.inj e
   omega
  ·obtain ⟨x,hx1,rfl⟩:=List.mem_map.mp hk
   have:=List.mem_range.mp hx1
   exact (zk3 ..).mp (hx x (by omega) (by omega))
theorem Cm.conn {m:Int} {rs:List zeB} {kvs:List (Key×V)} (h:Cm m rs kvs) (m0:0≤m) (c:Clo rs (Dm kvs)):m≤(kvs.length:Int)↔zub m rs:=by
 rw [h.all m0]
 exact ⟨fun z S s0 sc x x0 x1=>h.least S s0 sc x (z x x0 x1),fun z x x0 x1=>z (Dm kvs) h.zero c x x0 x1⟩
def zcs:TS :=
 (zcb (tOr (tB (zui (zac 3) (zac 1))) (tB (zui (zac 4) (zac 1)))) (zaN (zmK (zac 1) (zac 3) (tC (.bl true)))
 (zmK (zac 1) (zac 4) (tC (.bl true)))) za4)
theorem zb7 (D:zb9) (σ:St) (H:Hp):zcs D σ H=(zcb (tOr (tB (zui (zac 3) (zac 1))) (tB (zui (zac 4) (zac 1)))) (zaN (zmK (zac 1) (zac 3) (tC (.bl true)))
 (zmK (zac 1) (zac 4) (tC (.bl true)))) za4) D σ H:=rfl
def zdt (K:PySem.W.Frag):TS :=
 (zaN (zbe (tCB zmV (zab (zac 1) zav)) (zat 2))
 (zg3 (ze7 K (zac 0)) (zic K 3 (zbI (zat 3) (zbI (zat 4) (zbI (zat 5) zh4))))
 (zcs)))
theorem zb6 (K:PySem.W.Frag) (D:zb9) (σ:St) (H:Hp):zdt K D σ H=(zaN (zbe (tCB zmV (zab (zac 1) zav)) (zat 2))
 (zg3 (ze7 K (zac 0)) (zic K 3 (zbI (zat 3) (zbI (zat 4) (zbI (zat 5) zh4))))
 (zcs))) D σ H:=rfl
def zcS (K:PySem.W.Frag):TS :=
 (zaN (zbe (ztz (((tC (.int 0)),(tC (.bl true)))::[])) (zat 1))
 (zaN (zbe (tC (.int 0)) (zat 2))
 (zaN (zpd (zaJ (tOp (rI0 fun i j=>.bl (decide (i<j))) (zac 2) (tCB zmV (zab (zac 1) zav)))) (zdt K))
 (zbV (zac 1)))))
theorem zgs {rl:Addr} {ts:List Addr} {rs:List zeB} {m:Int} (hl:H rl=some (.lst (ts.map V.ref))) (ht:Tps rdv H ts rs) (m1:1≤m) (m60:m≤60) (gr:∀ r∈rs,GR m r)
  (q:∀ (d:Addr) (kvs:List (Key×V)) (H':Hp),zaQ H H'→H' d=some (.dK kvs)→(m≤(kvs.length:Int)↔zub m rs)→Q (.ref d) H') :
  zcS K { nx:=fun _ H'=>Q .non H',rt:=Q } (L2.zbB ["roads","come","before","a","b","length"] [.ref rl]) H:=by
 unfold zcS
 simp_all only [zb7,zb6,zac]
 refine fun d hd=>⟨zad,[(.inl 0,.bl true)],rfl,by decide,?_⟩
 refine ztv (m:=100) (fun n σ H'=>∃ (kvs:List (Key×V)) (bf:Int) (x y z:Option V),σ=[some (.ref rl),some (.ref d),some (.int bf),x,y,z]∧zaQ H H'∧H' d=some (.dK kvs)∧Cm m rs kvs∧0≤bf∧bf≤(kvs.length:Int)∧(bf=(kvs.length:Int)→Clo rs (Dm kvs))∧n=(100 - bf).toNat) ?_ ?_
 ·refine ⟨[(.inl 0,.bl true)],0,_,_,_,rfl,?_,zad,⟨by decide,?_,(fun z=>nomatch z),fun S s0 _ x hx=>?_⟩,by decide,by decide,(fun z=>absurd z (by decide)),by decide⟩
  ·rw [zko]
   exact zai hd _
  ·intro k hk
   have:k=.inl 0:=by simpa [zcM] using hk
   exact ⟨0,this,by decide,by omega⟩
  ·have:x=0:=by
    refine Classical.byContradiction fun c=>hx ?_
    exact zcc (p:=(Sum.inl 0,V.bl true)) fun z=>c (Sum.inl.inj z).symm
   subst this
   exact s0
 ·rintro n σ H1 ⟨kvs,bf,x,y,z,rfl,s1,h1,C,b0,b1,bc,rfl⟩
  simp_all only [zb7,zb6,zac]
  refine ⟨_,h1,?_⟩
  have hle:=C.le (by omega)
  refine zdU (fun c=>?_) (fun c=>?_)
  ·refine ⟨_,fun _ _ h=>h,_,h1,?_⟩
   refine ⟨⟨_,SqL.of (s1 _ _ hl)⟩,?_⟩
   refine zet (K:=K) (xs:=ts.map V.ref) (fun i σ H'=>∃ (kv:List (Key×V)) (x y z:Option V),σ=[some (.ref rl),some (.ref d),some (.int kvs.length),x,y,z]∧zaQ H H'∧H' d=some (.dK kv)∧Cm m rs kv∧kvs.length≤kv.length∧(kv.length=kvs.length→Clo (rs.take i) (Dm kv))) ⟨kvs,_,_,_,rfl,s1,h1,C,Nat.le_refl _,fun _ r hr=>by simp at hr⟩ ?_ ?_ ?_
   ·rintro i σ H' _ ⟨kv,x,y,z,rfl,s,_⟩
    exact SqL.of (s _ _ hl)
   ·rintro i t σ H2 hx ⟨kv,x,y,z,rfl,s2,h2,C2,l2,c2⟩
    obtain ⟨t,et,rfl⟩:=zeh hx
    obtain ⟨r,er,hr0⟩:=ht.at et
    have hr2:=s2 _ _ hr0
    have gr':=gr r (zdd er)
    have mr:=zdd er
    have stepc:∀ {kv':List (Key×V)},(∀ x,Dm kv' x↔Dm kv x)→kv.length=kvs.length→(Dm kv r.1∨Dm kv r.2.1→Dm kv r.1∧Dm kv r.2.1)→Clo (rs.take (i+1)) (Dm kv'):=by
     intro kv' e el hr' r' hr1
     rw [List.take_add_one,er] at hr1
     rw [e,e]
     rcases List.mem_append.mp hr1 with w | w
     ·exact c2 el r' w
     ·have:r'=r:=by simpa using w
      subst this
      exact hr'
    simp_all only [zb7,zb6,zac]
    refine ⟨_,SqT.of hr2,rfl,_,_,rfl,_,_,rfl,_,_,rfl,rfl,?_⟩
    refine ⟨_,zuf.k (k:=.inl r.1) h2,?_⟩
    have yes:Dm kv r.1∨Dm kv r.2.1→∀ (H3:Hp),H3=H2→∃ (H4:Hp),zrN H3 d (.int r.1) (.bl true) H4∧∃ (H5:Hp),zrN H4 d (.int r.2.1) (.bl true) H5∧zaQ H H5∧∃ (kv:List (Key×V)),H5 d=some (.dK kv)∧Cm m rs kv∧kvs.length≤kv.length∧(kv.length=kvs.length→Clo (rs.take (i+1)) (Dm kv)):=by
     rintro hor H3 rfl
     have hS:∀ S:Int→Prop,S 0→Clo rs S→S r.1∧S r.2.1:=fun S s0 sc=>sc r mr (hor.imp (C2.least S s0 sc _) (C2.least S s0 sc _))
     have C3:=C2.put (.bl true) gr'.1 gr'.2.1 fun S s0 sc=>(hS S s0 sc).1
     have C4:=C3.put (.bl true) gr'.2.2.1 gr'.2.2.2.1 fun S s0 sc=>(hS S s0 sc).2
     have le2:=C2.le (by omega)
     have le3:=C3.le (by omega)
     have big:(100:Nat)<sizeLine:=by decide
     have e3:=znu kv (.inl r.1) (.bl true)
     have e4:=znu (zgO kv (.inl r.1) (.bl true)) (.inl r.2.1) (.bl true)
     refine ⟨_,zrN.k (k:=.inl r.1) h2 (by omega),_,zrN.k (k:=.inl r.2.1) zad (by omega),?_,_,zad,C4,?_,fun el=>?_⟩
     ·exact (s2.put hd).put hd
     ·rw [e4,e3]
      split <;> split <;> omega
     ·have k3:zfY kv (.inl r.1)≠none:=fun z=>by
       rw [if_pos z] at e3
       rw [el] at e4
       split at e4 <;> omega
      rw [if_neg k3] at e3
      have k4:zfY (zgO kv (.inl r.1) (.bl true)) (.inl r.2.1)≠none:=fun z=>by
       rw [if_pos z,el] at e4
       omega
      have d4:Dm kv r.2.1:=by
       have:=(zjr kv r.1 r.2.1 (.bl true)).mp k4
       rcases this with z | z
       ·exact absurd z.symm gr'.2.2.2.2.1
       ·exact z
      refine stepc (fun x=>?_) ?_ fun _=>⟨k3,d4⟩
      ·rw [zjr,zjr]
       exact ⟨fun z=>z.elim (fun e=>by rw [e];exact d4) (fun z=>z.elim (fun e=>by rw [e];exact k3) id),fun z=>.inr (.inr z)⟩
      ·rw [if_neg k4,el] at e4
       omega
    refine zdU (fun c3=>?_) (fun c3=>?_)
    ·exact yes (.inl (Option.isSome_iff_ne_none.mp c3)) H2 rfl
    refine ⟨_,zuf.k (k:=.inl r.2.1) h2,?_⟩
    refine zdU (fun c4=>?_) (fun c4=>?_)
    ·exact yes (.inr (Option.isSome_iff_ne_none.mp c4)) H2 rfl
    refine ⟨s2,kv,h2,C2,l2,fun el=>stepc (fun _=>Iff.rfl) el fun z=>?_⟩
    exact (z.elim (fun z=>c3 (Option.isSome_iff_ne_none.mpr z)) (fun z=>c4 (Option.isSome_iff_ne_none.mpr z))).elim
   ·rintro σ H2 ⟨kv,x,y,z,rfl,s2,h2,C2,l2,c2⟩
    have e:(rs.take (ts.map V.ref).length)=rs:=List.take_of_length_le (by rw [List.length_map,ht.1];exact Nat.le_refl _)
    rw [e] at c2
    refine ⟨_,?_,kv,_,_,_,_,rfl,s2,h2,C2,by omega,by omega,fun z=>c2 (by omega),rfl⟩
    omega
  ·refine q d kvs H1 s1 h1 (C.conn (by omega) (bc (by omega)))
theorem zbo:zaP ["roads","come","before","a","b","length"] ["roads"] (zau zcP):=⟨rfl,rfl,rfl,by decide +kernel,rfl,by decide +kernel,by decide +kernel⟩
theorem zgA (T:Txt K mg base a):zcW P w K mg base CX0 1 a.f_places_come_to a.d_places_come_to ["roads"] zog:=by
 refine T.F_places_come_to.ok zbo (fun vs H Q E h=>?_) (fun cdv A outer s H vs Q E hr h=>?_)
 ·obtain ⟨rl,ts,rs,m,rfl,hl,ht,m1,m60,gr,q⟩:=h
  rfl
 obtain ⟨rl,ts,rs,m,rfl,hl,ht,m1,m60,gr,q⟩:=h
 exact ⟨zcS K,(zaf (zaE (i:=1) zbo.nd rfl (Or.inl rfl) (zsR (zpt zak zgE zsn) rfl rfl (fun z=>nomatch z) (by decide)))
 (zaf (zaE (i:=2) zbo.nd rfl (Or.inl rfl) zak)
 (zaf (zqN PassesOwn.never (zaI zom (pv 2) (zax zg7 rfl T.z_len PySem.boot_len (zaa (pv 1) zae)) (zaL _)) (zaf (zaE (i:=2) zbo.nd rfl (Or.inl rfl) (zax zg7 rfl T.z_len PySem.boot_len (zaa (pv 1) zae)))
 (zah (zdo PassesOwn.never rfl (zdL (pv 0)) (zef rfl (za2 (zaT (i:=3) zbo.nd rfl (Or.inl rfl)) (za2 (zaT (i:=4) zbo.nd rfl (Or.inl rfl)) (za2 (zaT (i:=5) zbo.nd rfl (Or.inl rfl)) zcT))))
 (zah (zb2 (PW.pt (zdO (zrQ (zr8 (zqH hr) (pv 3) (pv 1))) (zcV (zrQ (zr8 (zqH hr) (pv 4) (pv 1)))))) (zaf (znw (zqH hr) (pv 1) (pv 3) zgE rfl)
 (zah (znw (zqH hr) (pv 1) (pv 4) zgE rfl))) za0))))))
 (zah (zaU (pv 1)))))),
  zgs hl ht m1 m60 gr q⟩
theorem zoH:zaP ["self","road"] ["self","road"] (zau zcY):=⟨rfl,rfl,rfl,by decide +kernel,rfl,by decide +kernel,by decide +kernel⟩
theorem ziG (T:Txt K mg base a):zcW P w K mg base CX0 1 a.i_NoWeb a.j_NoWeb ["self","road"] (zjj a.c_NoWeb "road"):=by
 refine T.I_NoWeb.ok zoH (fun vs H Q E h=>?_) (fun cdv A outer s H vs Q E hr h=>?_)
 ·obtain ⟨y,v,rfl,hy,q⟩:=h
  rfl
 obtain ⟨y,v,rfl,hy,q⟩:=h
 exact ⟨_,(zaf (zco (zfD rfl T.m_HideError T.B (zaa (pv 0) (zaa (pv 1) zae)))) (zah (zkq (pv 0) (pv 1) rfl))),zkH T.X_NoWeb T.xa_NoWeb.na hy q⟩
def zeE (K:PySem.W.Frag) (a:Ad) (E:XK):TS :=
 (zcb (tOr (zfj (zaJ (zgK (rI0 fun i j=>.bl (decide (i≤j))) (rI0 fun i j=>.bl (decide (i≤j))) (tC (.int 1)) (zac 1) (tC (.int 60))))) (tOr (zaJ (tOp (rI0 fun i j=>.bl (decide (j<i))) (tCB (fun xs H Q=>∃ p ys,xs=[.ref p]∧(SqL K H p ys∨SqT K H p ys)∧Q (.int ys.length) H) (zab (zac 2) zav)) (tC (.int 120)))) (zaJ (tOp (rI0 fun i j=>.bl (decide (i<j))) (tCB zmV (zab (zaZ zog [] E0 (zab (zac 2) zav)) zav)) (zac 1))))) (zbY a.c_NoWeb "road" E (zab (tUn (rU fun i=>.int (-i)) (tC (.int 1))) zav)) za4)
theorem zb3 (K:PySem.W.Frag) (a:Ad) (E:XK) (D:zb9) (σ:St) (H:Hp):zeE K a E D σ H=(zcb (tOr (zfj (zaJ (zgK (rI0 fun i j=>.bl (decide (i≤j))) (rI0 fun i j=>.bl (decide (i≤j))) (tC (.int 1)) (zac 1) (tC (.int 60))))) (tOr (zaJ (tOp (rI0 fun i j=>.bl (decide (j<i))) (tCB (fun xs H Q=>∃ p ys,xs=[.ref p]∧(SqL K H p ys∨SqT K H p ys)∧Q (.int ys.length) H) (zab (zac 2) zav)) (tC (.int 120)))) (zaJ (tOp (rI0 fun i j=>.bl (decide (i<j))) (tCB zmV (zab (zaZ zog [] E0 (zab (zac 2) zav)) zav)) (zac 1))))) (zbY a.c_NoWeb "road" E (zab (tUn (rU fun i=>.int (-i)) (tC (.int 1))) zav)) za4) D σ H:=rfl
def zgQ (K:PySem.W.Frag) (a:Ad) (E:XK):TS :=
 (zaN (zbe (zac 0) (zic K 2 (zbI (zat 1) (zbI (zat 2) zh4))))
 (zaN (zg3 (zm4 K (zab (zac 2) zav)) (zic K 2 (zbI (zat 3) (zbI (zat 4) zh4)))
 (zcb (zfj (tB (zaZ zf6 [] E0 (zab (zac 4) (zab (zac 1) zav))))) (zbY a.c_NoWeb "road" E (zab (zac 3) zav)) za4))
 (zeE K a E)))
theorem zb8 (K:PySem.W.Frag) (a:Ad) (E:XK) (D:zb9) (σ:St) (H:Hp):zgQ K a E D σ H=(zaN (zbe (zac 0) (zic K 2 (zbI (zat 1) (zbI (zat 2) zh4))))
 (zaN (zg3 (zm4 K (zab (zac 2) zav)) (zic K 2 (zbI (zat 3) (zbI (zat 4) zh4)))
 (zcb (zfj (tB (zaZ zf6 [] E0 (zab (zac 4) (zab (zac 1) zav))))) (zbY a.c_NoWeb "road" E (zab (zac 3) zav)) za4))
 (zeE K a E))) D σ H:=rfl
def zgG (K:PySem.W.Frag) (a:Ad) (E:XK):TS :=
 (zcb (tOr (zfj (tB (tCB (zdV K) (zab (zac 0) (zab (tC (.ty "tuple")) zav))))) (tOr (zaJ (tOp rNe (tCB (fun xs H Q=>∃ p ys,xs=[.ref p]∧(SqL K H p ys∨SqT K H p ys)∧Q (.int ys.length) H) (zab (zac 0) zav)) (tC (.int 2)))) (tOr (zfj (tB (zaZ ziU [] E0 (zab (tOp (zjO K) (zac 0) (tC (.int 0))) zav)))) (zfj (tB (tCB (zdV K) (zab (tOp (zjO K) (zac 0) (tC (.int 1))) (zab (tC (.ty "list")) zav)))))))) (zbY a.c_NoWeb "road" E (zab (tUn (rU fun i=>.int (-i)) (tC (.int 1))) zav)) za4)
theorem zb4 (K:PySem.W.Frag) (a:Ad) (E:XK) (D:zb9) (σ:St) (H:Hp):zgG K a E D σ H=(zcb (tOr (zfj (tB (tCB (zdV K) (zab (zac 0) (zab (tC (.ty "tuple")) zav))))) (tOr (zaJ (tOp rNe (tCB (fun xs H Q=>∃ p ys,xs=[.ref p]∧(SqL K H p ys∨SqT K H p ys)∧Q (.int ys.length) H) (zab (zac 0) zav)) (tC (.int 2)))) (tOr (zfj (tB (zaZ ziU [] E0 (zab (tOp (zjO K) (zac 0) (tC (.int 0))) zav)))) (zfj (tB (tCB (zdV K) (zab (tOp (zjO K) (zac 0) (tC (.int 1))) (zab (tC (.ty "list")) zav)))))))) (zbY a.c_NoWeb "road" E (zab (tUn (rU fun i=>.int (-i)) (tC (.int 1))) zav)) za4) D σ H:=rfl
def zgj (K:PySem.W.Frag) (a:Ad) (E:XK):TS :=
 (zaN (zei (zgG K a E))
 (zgQ K a E))
theorem zkU {E:XK} {w rl:Addr} {ts:List Addr} {m:Int} {rs:List zeB} (W:zr9 H w rl ts m rs) (l200:rs.length≤99999) (q:zue m rs→∀ H',zaQ H H'→Q .non H') (e:∀ d,zpO m rs d→∀ (dx:Addr) (H':Hp),zaQ H H'→H' dx=none→E (.ref a.c_NoWeb) (some dx) (L2.upd H' dx (.xd [("road",.int d)]))) :
  zgj K a E { nx:=fun _ H'=>Q .non H',rt:=Q } (L2.zbB ["web","many","roads","k","road"] [.ref w]) H:=by
 unfold zgj
 simp_all only [zb3,zb8,zb4,zac]
 refine ⟨fun σ H'=>H'=H∧σ=[some (.ref w),none,none,none,none],?_,?_⟩
 ·simp_all only [zb3,zb8,zb4,zac]
  refine zc8 W.hw ⟨true,rfl,?_⟩
  refine zdU (fun z=>absurd z (by decide)) (fun _=>?_)
  refine ⟨_,.inr (SqT.of W.hw),?_⟩
  refine zdU (fun z=>absurd rfl z) (fun _=>?_)
  refine ⟨_,SqT.of W.hw,_,rfl,m,rfl,true,rfl,?_⟩
  refine zdU (fun z=>absurd z (by decide)) (fun _=>?_)
  refine ⟨_,SqT.of W.hw,_,rfl,zd5 W.hl ⟨true,rfl,?_⟩⟩
  exact zdU (fun z=>absurd z (by decide)) (fun _=>rfl)
 ·rintro σ H' ⟨e',rfl⟩
  rw [e']
  simp_all only [zb3,zb8,zb4,zac]
  refine ⟨_,SqT.of W.hw,rfl,_,_,rfl,_,_,rfl,rfl,?_⟩
  refine ⟨_,rfl,⟨_,SqL.of W.hl⟩,?_⟩
  refine zhk (K:=K) (xs:=ts.map V.ref) (fun i σ H'=>zaQ H H'∧(∀ (j:Nat) r,j<i→rs[j]?=some r→GR m r)∧∃ x y,σ=[some (.ref w),some (.int m),some (.ref rl),x,y]) ⟨.refl _,fun j r hj=>by omega,_,_,rfl⟩ ?_ ?_ ?_
  ·rintro i σ H' _ ⟨s,_⟩
   exact SqL.of (s _ _ W.hl)
  ·rintro i t u σ H1 hx ⟨s,hg,x,y,rfl⟩ hu
   obtain ⟨t,et,rfl⟩:=zeh hx
   obtain ⟨r,er,hr0⟩:=W.ht.at et
   simp_all only [zb3,zb8,zb4,zac]
   refine ⟨_,SqT.of zad,rfl,_,_,rfl,_,_,rfl,rfl,?_⟩
   have s2:=s.add hu (o:=.tup [.int (i:Int),.ref t])
   refine ⟨t,r,m,rfl,s2 _ _ hr0,?_⟩
   by_cases c:GR m r
   ·rw [decide_eq_true c]
    refine ⟨true,rfl,zdU (fun z=>absurd z (by decide)) (fun _=>⟨s2,fun j q hj hq=>?_⟩)⟩
    rcases Nat.lt_or_eq_of_le (Nat.lt_succ_iff.mp hj) with h | h
    ·exact hg j q h hq
    ·rw [h,er] at hq
     cases hq
     exact c
   ·rw [decide_eq_false c]
    refine ⟨false,rfl,zdU (fun _=>?_) (fun z=>absurd rfl z)⟩
    exact fun dx hd=>e _ (.inl ⟨i,zlY er c hg,rfl⟩) dx _ s2 hd
  ·rintro σ H1 ⟨s,hg,x,y,rfl⟩
   rw [List.length_map,W.ht.1] at hg
   have gr:∀ r∈rs,GR m r:=fun r hr=>by
    obtain ⟨j,hj,e⟩:=List.mem_iff_getElem.mp hr
    exact hg j r hj (by rw [List.getElem?_eq_getElem hj,e])
   have bn:=zik gr
   simp_all only [zb3,zb8,zb4,zac]
   have no:¬ (1≤m∧m≤60∧rs.length≤120∧zub m rs)→∀ H2,zaQ H H2→∀ (dx:Addr),H2 dx=none→E (Value.ref a.c_NoWeb) (some dx) (L2.upd H2 dx (HO.xd [("road",V.int (-1))])):=fun n H2 s2 dx hd=>e _ (.inr ⟨bn,n,rfl⟩) dx H2 s2 hd
   refine zdU (fun m1=>?_) (fun z=>no (fun n=>z n.1) _ s)
   refine zdU (fun z=>no (fun n=>z n.2.1) _ s) (fun z=>?_)
   have m60:m≤60:=Decidable.not_not.mp z
   refine ⟨_,.inl (SqL.of (s _ _ W.hl)),?_⟩
   rw [List.length_map,W.ht.1]
   refine zdU (fun z=>no (fun n=>by have:=n.2.2.1;omega) _ s) (fun z=>?_)
   refine ⟨rl,ts,rs,m,rfl,s _ _ W.hl,W.ht.same s,m1,m60,gr,fun d kvs H2 s2 h2 hc=>?_⟩
   refine ⟨_,rfl,kvs,h2,zdU (fun y=>no (fun n=>?_) _ (s.trans s2)) (fun y=>q ⟨bn,m1,m60,by omega,hc.mp (by omega)⟩ _ (s.trans s2))⟩
   have:=hc.mpr n.2.2.2
   omega
theorem zc6:zaP ["web","many","roads","k","road"] ["web"] (zau zgx):=⟨rfl,rfl,rfl,by decide +kernel,rfl,by decide +kernel,by decide +kernel⟩
theorem zkJ (T:Txt K mg base a):zcW P w K mg base (CXW P w) 5 a.f_look_web a.d_look_web ["web"] (zh5 a):=by
 have G_is_road:=zim (P:=P) (w:=w) (base:=base) T
 have G_is_whole:=zhu (P:=P) (w:=w) (base:=base) T
 have G_places_come_to:=zgA (P:=P) (w:=w) (base:=base) T
 have G__NoWeb:=ziG (P:=P) (w:=w) (base:=base) T
 refine T.F_look_web.okW zc6 (fun vs H Q E h=>?_) (fun cdv A outer s H vs Q E hr h=>?_)
 ·obtain ⟨w',rl,ts,m,rs,rfl,W,l200,q,e⟩:=h
  rfl
 obtain ⟨w',rl,ts,m,rs,rfl,W,l200,q,e⟩:=h
 exact ⟨zgj K a E,(zaf (zbG (zb2 (PW.pt (zdO (zcX (zcz (zax zaS rfl T.z_isinstance PyProof.Rows.boot_isinstance (zaa (pv 0) (zaa (zbS rfl T.z_tuple zcp rfl) zae))))) (zdO (zaI zfN (zax zaY rfl T.z_len PySem.boot_len (zaa (pv 0) zae)) zak (zaL _)) (zdO (zcX (zcz (zaG G_is_whole (hr.mono (by decide)) rfl T.m_is_whole T.F_is_whole.kp T.b_is_whole .nil zbs (zaa (zcN zg6 (pv 0) zak (fun _ _=>rfl)) zae)))) (zcV (zcX (zcz (zax zaS rfl T.z_isinstance PyProof.Rows.boot_isinstance (zaa (zcN zg6 (pv 0) zak (fun _ _=>rfl)) (zaa (zbS rfl T.z_list zeq rfl) zae)))))))))) (zah (zcL T.X_NoWeb G__NoWeb (hr.mono (by decide)) rfl T.m_NoWeb T.bi_NoWeb zbs rfl zkD (zaa (zjs zgJ zak) zae))) za0))
 (zaf (znc (pv 0) (zef rfl (za2 (zaT (i:=1) zc6.nd rfl (Or.inl rfl)) (za2 (zaT (i:=2) zc6.nd rfl (Or.inl rfl)) zcT))))
 (zaf (zdo PassesOwn.leaving rfl (zla rfl T.z_enumerate (zaa (pv 2) zae)) (zef rfl (za2 (zaT (i:=3) zc6.nd rfl (Or.inl rfl)) (za2 (zaT (i:=4) zc6.nd rfl (Or.inl rfl)) zcT)))
 (zah (zb2 (zcX (zcz (zaG G_is_road (hr.mono (by decide)) rfl T.m_is_road T.F_is_road.kp T.b_is_road .nil zbs (zaa (pv 4) (zaa (pv 1) zae))))) (zah (zcL T.X_NoWeb G__NoWeb (hr.mono (by decide)) rfl T.m_NoWeb T.bi_NoWeb zbs rfl zkD (zaa (pv 3) zae))) za0)))
 (zah (zb2 (PW.pt (zdO (zcX (zlA zk1 zk1 zak (pv 1) (zbq rfl T.m_MOST_PLACES ⟨_,rfl⟩))) (zdO (zaI zp7 (zax zaY rfl T.z_len PySem.boot_len (zaa (pv 2) zae)) (zbq rfl T.m_MOST_ROADS ⟨_,rfl⟩) (zaL _)) (zcV (zaI zom (zax zg7 rfl T.z_len PySem.boot_len (zaa (zaG G_places_come_to (hr.mono (by decide)) rfl T.m_places_come_to T.F_places_come_to.kp T.b_places_come_to .nil zbs (zaa (pv 2) zae)) zae)) (pv 1) (zaL _)))))) (zah (zcL T.X_NoWeb G__NoWeb (hr.mono (by decide)) rfl T.m_NoWeb T.bi_NoWeb zbs rfl zkD (zaa (zjs zgJ zak) zae))) za0))))),
  zkU W l200 q e⟩
inductive Sh (H:Hp):Tr→V→Prop where
 | int (i:Int):Sh H (.int i) (.int i)
 | bl (b:Bool):Sh H (.bl b) (.bl b)
 | str (x:Str):Sh H (.str x) (.str x)
 | non:Sh H .non .non
 | lst {p:Addr} {xs:List V} {ts:List Tr} (h:H p=some (.lst xs)) (l:xs.length=ts.length) (e:∀ (i:Nat) x t,xs[i]?=some x→ts[i]?=some t→Sh H t x):Sh H (.lst ts) (.ref p)
 | tup {p:Addr} {xs:List V} {ts:List Tr} (h:H p=some (.tup xs)) (l:xs.length=ts.length) (e:∀ (i:Nat) x t,xs[i]?=some x→ts[i]?=some t→Sh H t x):Sh H (.tup ts) (.ref p)
theorem Sh.same {H H':Hp} {t:Tr} {v:V} (h:Sh H t v) (s:zaQ H H'):Sh H' t v:=by
 induction h with
 | int i=>exact .int i
 | bl b=>exact .bl b
 | str x=>exact .str x
 | non=>exact .non
 | lst h l _ ih=>exact .lst (s _ _ h) l ih
 | tup h l _ ih=>exact .tup (s _ _ h) l ih
structure ShL (H:Hp) (ts:List Tr) (xs:List V):Prop where
 len:xs.length=ts.length
 el:∀ (i:Nat) x t,xs[i]?=some x→ts[i]?=some t→Sh H t x
theorem ShL.nil:ShL H [] []:=⟨rfl,fun i x t e _=>by cases e⟩
theorem ShL.one {t:Tr} {x:V} (h:Sh H t x):ShL H [t] [x]:=⟨rfl,fun i y u e1 e2=>by
 match i,e1,e2 with
 | 0,e1,e2=>cases e1;cases e2;exact h⟩
theorem ShL.append {ts us:List Tr} {xs ys:List V} (h:ShL H ts xs) (g:ShL H us ys):ShL H (ts++us) (xs++ys):=by
 refine ⟨by rw [List.length_append,List.length_append,h.len,g.len],fun i x t e1 e2=>?_⟩
 by_cases c:i<xs.length
 ·rw [List.getElem?_append_left c] at e1
  rw [List.getElem?_append_left (by rw [← h.len];exact c)] at e2
  exact h.el i x t e1 e2
 ·rw [List.getElem?_append_right (by omega)] at e1
  rw [List.getElem?_append_right (by rw [← h.len];omega),← h.len] at e2
  exact g.el _ x t e1 e2
theorem ShL.cons {t:Tr} {ts:List Tr} {x:V} {xs:List V} (h:Sh H t x) (g:ShL H ts xs):ShL H (t::ts) (x::xs):=(ShL.one h).append g
theorem ShL.same {H':Hp} {ts:List Tr} {xs:List V} (h:ShL H ts xs) (s:zaQ H H'):ShL H' ts xs:=⟨h.len,fun i x t e1 e2=>(h.el i x t e1 e2).same s⟩
theorem ShL.sh {ts:List Tr} {xs:List V} {p:Addr} (h:ShL H ts xs) (e:H p=some (.lst xs)):Sh H (.lst ts) (.ref p):=.lst e h.len h.el
theorem ShL.tp {ts:List Tr} {xs:List V} {p:Addr} (h:ShL H ts xs) (e:H p=some (.tup xs)):Sh H (.tup ts) (.ref p):=.tup e h.len h.el
theorem ShL.ints (ns:List Int):ShL H (ns.map Tr.int) (ns.map V.int):=⟨by rw [List.length_map,List.length_map],fun i x t e1 e2=>by
 obtain ⟨n,hn,rfl⟩:=zeh e1
 obtain ⟨m,hm,rfl⟩:=zeh e2
 rw [hn] at hm
 cases hm
 exact .int _⟩
theorem ShL.put {ts:List Tr} {xs:List V} {p:Addr} (h:ShL H ts xs) (hp:H p=none):Sh (L2.upd H p (.lst xs)) (.lst ts) (.ref p):=(h.same (zai hp _)).sh zad
theorem zc9 {n:Nat} (h:n<100000):n<sizeLine:=Nat.lt_of_lt_of_le h (by decide)
def NwH (H H':Hp):Hp:=fun a=>if H a=none then H' a else none
theorem zce {A X:Hp} {a:Addr} {o:HO}:NwH A X a=some o↔A a=none∧X a=some o:=by
 unfold NwH
 by_cases h:A a=none
 ·rw [if_pos h];exact ⟨fun z=>⟨h,z⟩,fun z=>z.2⟩
 ·rw [if_neg h];exact ⟨fun z=>(by cases z),fun z=>absurd z.1 h⟩
theorem zcv {A X B Y:Hp} (h:∀ a o,A a=none→X a=some o→B a=none∧Y a=some o):zaQ (NwH A X) (NwH B Y):=fun a o e=>by
 have:=zce.mp e
 exact zce.mpr (h a o this.1 this.2)
theorem zlp {A X:Hp}:zaQ (NwH A X) X:=fun _ _ e=>(zce.mp e).2
theorem zg9 {A B X Y:Hp} (s:zaQ B A) (t:zaQ X Y):zaQ (NwH A X) (NwH B Y):=zcv fun a o e1 e2=>⟨s.free e1,t _ _ e2⟩
theorem zlG {K:PySem.W.Frag} {a:Addr} {xs:List V} {te:TE} {σ:St} {H:Hp} {D:Addr} {Q:VK} (Rl:Nat→Hp→V→Prop) (st:∀ i H H' v,zaQ H H'→Rl i H v→Rl i H' v) (hl:SqL K H a xs) (hD:H D=none) (hx:xs.length≤99999)
  (hs:∀ (i:Nat) x H' (R:VK),xs[i]?=some x→zaQ H H'→(∀ y H'',zaQ H' H''→Rl i (NwH H' H'') y→R y H'')→te (σ.set 0 (some x)) H' R)
  (hd:∀ H' ys,zaQ H H'→ys.length=xs.length→(∀ (i:Nat) y,ys[i]?=some y→Rl i (NwH H H') y)→H' D=some (.lst ys)→Q (.ref D) H'):zil (Itl K a) (zat 0) zcB te D Q σ (L2.upd H D (.lst [])):=by
 refine zeZ (xs:=xs) (fun i ys σ' H'=>zaQ H H'∧(∀ x,σ'.set 0 x=σ.set 0 x)∧i≤xs.length∧ys.length=i∧∀ (j:Nat) y,ys[j]?=some y→Rl j (NwH (L2.upd H D (.lst [])) H') y) ⟨zai hD _,fun _=>rfl,Nat.zero_le _,rfl,fun j y e=>by cases e⟩ ?_ ?_ ?_
 ·rintro i ys σ' H' _ ⟨s,_⟩
  exact s.seq hl
 ·rintro i x ys σ' H' e hD' ⟨s,es,hi,ly,hr⟩
  have li:=(List.getElem?_eq_some_iff.mp e).1
  show te (σ'.set 0 (some x)) H' _
  rw [es]
  refine hs i x H' _ e s fun y H'' s2 hy=>?_
  refine ⟨D,_,_,rfl,rfl,s2 _ _ hD',zc9 (by omega),_,zad,(s.trans s2).put hD,fun y=>by rw [List.set_set],by omega,by rw [List.length_append,ly];rfl,?_⟩
  intro j z ez
  have nD:∀ b,L2.upd H D (.lst []) b=none→b≠D:=fun b hb z=>by rw [z,zad] at hb;cases hb
  by_cases c:j<ys.length
  ·rw [List.getElem?_append_left c] at ez
   refine st j _ _ z (zcv fun b o e1 e2=>⟨e1,?_⟩) (hr j z ez)
   rw [zaj (nD b e1)]
   exact s2 _ _ e2
  ·rw [List.getElem?_append_right (by omega)] at ez
   have l1:=(List.getElem?_eq_some_iff.mp ez).1
   rw [List.length_singleton] at l1
   have ej:j - ys.length=0:=by omega
   rw [ej] at ez
   cases ez
   have ei:j=i:=by omega
   subst ei
   refine st j _ _ y (zcv fun b o e1 e2=>?_) hy
   have nb:b≠D:=fun z=>by rw [z,hD'] at e1;cases e1
   rw [zaj nb,zaj nb]
   exact ⟨s.free e1,e2⟩
 ·rintro ys σ' H' hD' ⟨s,es,_,ly,hr⟩
  exact hd H' ys s ly (fun i y e=>st i _ _ y (zg9 (zai hD _) (.refl _)) (hr i y e)) hD'
theorem zmq {x:Str} {te:TE} {σ:St} {H:Hp} {D:Addr} {Q:VK} (f:Nat→Bool) (hx:x.length≤99999) (hD:H D=none)
  (hs:∀ (i:Nat) c H' (R:VK),x.cps[i]?=some c→zaQ H H'→(∀ H'',zaQ H' H''→R (.bl (f c)) H'')→te (σ.set 0 (some (.str ⟨#[c]⟩))) H' R)
  (hd:∀ H',zaQ H H'→H' D=some (.lst ((x.cps.toList.map f).map V.bl))→Q (.ref D) H'):zil (Its x) (zat 0) zcB te D Q σ (L2.upd H D (.lst [])):=by
 have lx:x.length=x.cps.toList.length:=by simp [Str.length]
 have lx2:x.cps.size=x.cps.toList.length:=by simp
 refine zon (x:=x) (fun i ys σ' H'=>zaQ H H'∧(∀ x,σ'.set 0 x=σ.set 0 x)∧ys=((x.cps.toList.take i).map f).map V.bl) ⟨zai hD _,fun _=>rfl,rfl⟩ ?_ ?_
 ·rintro i c ys σ' H' e hD' ⟨s,es,rfl⟩
  have ec:x.cps.toList[i]?=some c:=by rw [Array.getElem?_toList];exact e
  show te (σ'.set 0 _) H' _
  rw [es]
  refine hs i _ H' _ e s fun H'' s2=>?_
  refine ⟨D,_,_,rfl,rfl,s2 _ _ hD',zc9 (by rw [List.length_map,List.length_map,List.length_take];omega),_,zad,(s.trans s2).put hD,fun y=>by rw [List.set_set],?_⟩
  rw [List.take_add_one,ec,List.map_append,List.map_append]
  rfl
 ·rintro ys σ' H' hD' ⟨s,es,rfl⟩
  rw [List.take_of_length_le (by omega)] at hD'
  exact hd H' s hD'
def EvS (te:TE) (σ:St) (H:Hp) (t:Tr):Prop:=∀ (H1:Hp) (R:VK),zaQ H H1→(∀ v H',zaQ H1 H'→Sh H' t v→R v H')→te σ H1 R
def EvA (ta:TA) (σ:St) (H:Hp) (ts:List Tr):Prop:=∀ (H1:Hp) (R:List V→Hp→Prop),zaQ H H1→(∀ vs H',zaQ H1 H'→ShL H' ts vs→R vs H')→ta σ H1 R
section
variable {σ:St} {te ta tb:TE} {tas:TA} {tl th:TO} {t:Tr} {ts us:List Tr} {i j:Int} {o1 o2:Option Int}
theorem EvS.var {k:Nat} {v:V} (h:σ[k]?=some (some v)) (s:Sh H t v):EvS (zac k) σ H t:=fun H1 _ s1 q=>⟨v,h,q v H1 (.refl _) (s.same s1)⟩
theorem EvS.con {v:V} (s:∀ H',Sh H' t v):EvS (tC v) σ H t:=fun H1 _ _ q=>q v H1 (.refl _) (s H1)
theorem EvS.int:EvS (tC (.int i)) σ H (.int i):=.con fun _=>.int i
theorem EvA.nil:EvA zav σ H []:=fun H1 _ _ q=>q [] H1 (.refl _) .nil
theorem EvA.cons (e:EvS te σ H t) (a:EvA tas σ H ts):EvA (zab te tas) σ H (t::ts):=fun H1 _ s q=>e H1 _ s fun v H2 s2 sh=>a H2 _ (s.trans s2) fun vs H3 s3 shs=>q (v::vs) H3 (s2.trans s3) (.cons (sh.same s3) shs)
theorem EvS.lst (a:EvA tas σ H ts) (l:ts.length≤sizeLine):EvS (zdM tas) σ H (.lst ts):=fun H1 _ s q=>a H1 _ s fun vs H2 s2 sh=>⟨by rw [sh.len];exact l,fun p hp=>q _ _ (s2.add hp) (sh.put hp)⟩
theorem EvS.tup (a:EvA tas σ H ts) (l:ts.length≤sizeLine):EvS (zgZ tas) σ H (.tup ts):=fun H1 _ s q=>a H1 _ s fun vs H2 s2 sh=>⟨by rw [sh.len];exact l,fun p hp=>q _ _ (s2.add hp) ((sh.same (zai hp _)).tp zad)⟩
theorem zsc {g:TG} {T:TS} {D:zb9} (e:EvS te σ H t) (k:∀ v H',zaQ H H'→Sh H' t v→g v σ H' (T D)):zaN (zbe te g) T D σ H:=e H _ (.refl _) k
end
def zgq:Str:="read_web.<locals>.<lambda>"
abbrev LT (H:Hp) (P:Addr):Prop:=zb5 H P zr6 zgq
def zdh (ws:List Str):Option (List Int):=ws.mapM zc0
theorem zc4 (w:Str) (ws:List Str):zdh (w::ws)=(zc0 w).bind fun n=>(zdh ws).bind fun ns=>some (n::ns):=by
 unfold zdh
 rw [List.mapM_cons]
 rfl
theorem zgy:∀ {ws:List Str},zdh ws=none↔inV .non (ws.map fun w=>zki (zc0 w))=true
 | []=>by constructor <;> intro h <;> cases h
 | w::ws=>by
  rw [zc4,List.map_cons]
  have ih:=zgy (ws:=ws)
  show _↔(eqV (zki (zc0 w)) .non || inV .non (ws.map fun w=>zki (zc0 w)))=true
  cases hn:zc0 w with
  | none=>exact ⟨fun _=>rfl,fun _=>rfl⟩
  | some n =>
   show ((zdh ws).bind fun ns=>some (n::ns))=none↔(false || inV .non (ws.map fun w=>zki (zc0 w)))=true
   rw [Bool.false_or,← ih]
   cases zdh ws with
   | none=>exact ⟨fun _=>rfl,fun _=>rfl⟩
   | some ns=>exact ⟨fun h=>(by cases h),fun h=>(by cases h)⟩
theorem zgB:∀ {ws:List Str} {ns:List Int},zdh ws=some ns→(ws.map fun w=>zki (zc0 w))=ns.map V.int
 | [],ns,h=>by cases h;rfl
 | w::ws,ns,h=>by
  rw [zc4] at h
  cases hn:zc0 w with
  | none=>rw [hn] at h;cases h
  | some n =>
   rw [hn] at h
   have h:((zdh ws).bind fun ns=>some (n::ns))=some ns:=h
   cases hs:zdh ws with
   | none=>rw [hs] at h;cases h
   | some ms =>
    rw [hs] at h
    cases h
    rw [List.map_cons,List.map_cons,zgB hs,hn]
    rfl
def zgW (row:Str):Option Int:=if (Txt.split row (Str.ofString " ")).length=2∧(Txt.split row (Str.ofString " ")).getD 0 ""=Str.ofString "web" then zc0 ((Txt.split row (Str.ofString " ")).getD 1 "") else none
def zwg (m:Int):List Int→Option zeB
 | [x,y,l]=>if GR m (x,y,l) then some (x,y,l) else none
 | _=>none
def zja (m:Int) (row:Str):Option zeB:=if (Txt.split row (Str.ofString " ")).length=4∧(Txt.split row (Str.ofString " ")).getD 0 ""=Str.ofString "road" then (zdh ((Txt.split row (Str.ofString " ")).drop 1)).bind (zwg m) else none
abbrev Rdd:=Option (Int×List zeB)
def zfA (s:Rdd) (row:Str):Option Rdd:=match s with
 | none=>(zgW row).map fun m=>some (m,[])
 | some (m,rs)=>(zja m row).map fun r=>some (m,rs++[r])
def zkZ:Rdd→Nat→List Str→Nat ⊕ Rdd
 | s,_,[]=>.inr s
 | s,k,row::rows=>match zfA s row with
  | none=>.inl k
  | some s'=>zkZ s' (k+1) rows
theorem zp1 {s:Rdd} {k:Nat} {rows:List Str} {row:Str} (e:rows[k]?=some row) (h:zfA s row=none):zkZ s k (rows.drop k)=.inl k:=by
 obtain ⟨l,e'⟩:=List.getElem?_eq_some_iff.mp e
 rw [List.drop_eq_getElem_cons l,e']
 show (match zfA s row with | none=>Sum.inl k | some s'=>zkZ s' (k+1) (rows.drop (k+1)))=_
 rw [h]
theorem zs0 {s s':Rdd} {k:Nat} {rows:List Str} {row:Str} (e:rows[k]?=some row) (h:zfA s row=some s'):zkZ s k (rows.drop k)=zkZ s' (k+1) (rows.drop (k+1)):=by
 obtain ⟨l,e'⟩:=List.getElem?_eq_some_iff.mp e
 rw [List.drop_eq_getElem_cons l,e']
 show (match zfA s row with | none=>Sum.inl k | some s'=>zkZ s' (k+1) (rows.drop (k+1)))=_
 rw [h]
theorem zqh {s:Rdd} {k:Nat} {rows:List Str} (l:rows.length≤k):zkZ s k (rows.drop k)=.inr s:=by
 rw [List.drop_eq_nil_of_le l]
 rfl
def zgl (rows:List Str):Nat ⊕ Rdd:=match zkZ none 0 rows.dropLast with
 | .inl k=>.inl k
 | .inr s=>if rows.dropLast=[]∨rows.getLastD ""≠"" then .inl (rows.length - 1) else .inr s
theorem zlV {rows:List Str} {k:Nat} (h:zkZ none 0 rows.dropLast=.inl k):zgl rows=.inl k:=by
 unfold zgl
 rw [h]
theorem zlN {rows:List Str} {s:Rdd} (h:zkZ none 0 rows.dropLast=.inr s):zgl rows=if rows.dropLast=[]∨rows.getLastD ""≠"" then .inl (rows.length - 1) else .inr s:=by
 unfold zgl
 rw [h]
open Classical in
noncomputable def zn5 (rows:List Str):Nat ⊕ (Int×List zeB):=match zgl rows with
 | .inl k=>.inl k
 | .inr none=>.inl (rows.length - 1)
 | .inr (some (m,rs))=>if zue m rs then .inr (m,rs) else .inl (rows.length - 1)
def zeU:Str:="read_paper.<locals>.<lambda>"
abbrev LT2 (H:Hp) (P:Addr):Prop:=zb5 H P znY zeU
def thO (sp:Bool) (w:Str):Option Tr:=if sp then match zdh (Txt.split w "-") with
  | some [x,y]=>some (.tup [.int x,.int y])
  | _=>none
 else (zc0 w).map Tr.int
def plO (sp:Bool) (ws:List Str):Option (List Tr):=ws.mapM (thO sp)
def kdS (sp:Bool):Str:=if sp then Str.ofString "spread" else Str.ofString "walk"
def shO (sp:Bool) (row:Str):Option Tr :=
 let ws:=Txt.split row " "
 if ws.getD 0 ""=kdS sp∧(if sp then 2 else 3)≤ws.length then
  (zc0 (ws.getD 1 "")).bind fun n=>if n<1 then none else (plO sp (ws.drop 2)).map fun p=>.tup [.lst p,.int n]
 else none
def zlk:Option Tr→Hp→V→Prop
 | none,_,v=>v=.non
 | some t,H,v=>Sh H t v∧v≠.non
def zie (sp:Bool) (rows:List Str):Nat ⊕ List Tr:=match (rows.dropLast.map (shO sp)).findIdx? (fun o=>o.isNone) with
 | some k=>.inl k
 | none=>if rows.dropLast=[]∨rows.getLastD ""≠"" then .inl (rows.length - 1) else .inr (rows.dropLast.filterMap (shO sp))
theorem zoe {sp:Bool} {rows:List Str} {k:Nat} {r:Str} (hk:rows.dropLast[k]?=some r) (h:shO sp r=none) (hb:∀ (i:Nat) r,i<k→rows.dropLast[i]?=some r→shO sp r≠none):zie sp rows=.inl k:=by
 have e:(rows.dropLast.map (shO sp)).findIdx? (fun o=>o.isNone)=some k:=by
  rw [List.findIdx?_eq_some_iff_getElem]
  have hl:=(List.getElem?_eq_some_iff.mp hk).1
  refine ⟨by rw [List.length_map];exact hl,?_,fun j hj=>?_⟩
  ·rw [List.getElem_map,(List.getElem?_eq_some_iff.mp hk).2,h];rfl
  ·rw [List.getElem_map]
   have:=hb j _ hj (List.getElem?_eq_getElem (by omega))
   intro z
   exact this (Option.isNone_iff_eq_none.mp z)
 unfold zie
 rw [e]
theorem zkK {sp:Bool} {rows:List Str} (hb:∀ (i:Nat) r,rows.dropLast[i]?=some r→shO sp r≠none):zie sp rows=if rows.dropLast=[]∨rows.getLastD ""≠"" then .inl (rows.length - 1) else .inr (rows.dropLast.filterMap (shO sp)):=by
 have e:(rows.dropLast.map (shO sp)).findIdx? (fun o=>o.isNone)=none:=by
  rw [List.findIdx?_eq_none_iff]
  intro x hx
  obtain ⟨r,hr,rfl⟩:=List.mem_map.mp hx
  obtain ⟨i,hi⟩:=List.mem_iff_getElem?.mp hr
  have:=hb i r hi
  cases h:shO sp r with
  | none=>exact absurd h this
  | some t=>rfl
 unfold zie
 rw [e]
def finO (kd:Str) (rows:List Str):Nat ⊕ (Bool×List Tr):=if kd=kdS false then (match zie false rows with | .inl k=>.inl k | .inr ts=>.inr (false,ts))
 else if kd=kdS true then (match zie true rows with | .inl k=>.inl k | .inr ts=>.inr (true,ts)) else .inl 0
def zpg (text:Str):Nat ⊕ (Bool×List Tr):=finO (Txt.partition text " ").1 (Txt.split text "\n")
theorem znJ (xs:List V) (k:Nat):znT xs (some (k:Int)) none=xs.drop k:=by
 unfold znT
 rw [HT.sIx_none,HT.sIx_nat]
 by_cases h:k≤xs.length
 ·rw [Nat.min_eq_left h,List.take_of_length_le (by rw [List.length_drop];exact Nat.le_refl _)]
 ·rw [Nat.min_eq_right (by omega),List.drop_eq_nil_of_le (Nat.le_refl _),List.drop_eq_nil_of_le (by omega),List.take_nil]
theorem zgX:Str.ofString " "=⟨#[32]⟩:=by decide +kernel
theorem zhx:Str.ofString "\n"=⟨#[10]⟩:=by decide +kernel
theorem zl6:Str.ofString "-"=⟨#[45]⟩:=by decide +kernel
def zmn:Sp:=fun vs H Q _=>∃ w:Str,vs=[.str w]∧w.length≤4300∧∀ H',zaQ H H'→Q (zki (zc0 w)) H'
theorem zu5 {l:List Nat} (h:l.all dg=true):PySem.NumText.AllDigits l:=fun c hc=>by
 have:=List.all_eq_true.mp h c hc
 unfold dg at this
 rw [Bool.and_eq_true,decide_eq_true_eq,decide_eq_true_eq] at this
 exact this
def zgf (K:PySem.W.Frag):TS :=
 (zaN (zei (zcb (zt2 (tB (tBM K "str" ziy (zac 0) (zab (tC (.str "0")) zav))) (zaJ (tOp rNe (zac 0) (tC (.str "0"))))) (zbV (tC .non)) za4))
 (zbV (tCB zmE (zab (zac 0) zav))))
theorem zcR (K:PySem.W.Frag) (D:zb9) (σ:St) (H:Hp):zgf K D σ H=(zaN (zei (zcb (zt2 (tB (tBM K "str" ziy (zac 0) (zab (tC (.str "0")) zav))) (zaJ (tOp rNe (zac 0) (tC (.str "0"))))) (zbV (tC .non)) za4))
 (zbV (tCB zmE (zab (zac 0) zav)))) D σ H:=rfl
def zfT (K:PySem.W.Frag):TS :=
 (zcb (tOr (zfj (zaJ (zgK (rI0 fun i j=>.bl (decide (i≤j))) (rI0 fun i j=>.bl (decide (i≤j))) (tC (.int 1)) (tCB zkI (zab (zac 0) zav)) (tC (.int 2000))))) (zfj (tB (tCB (rAll K) (zab (zgT (iStr (zac 0)) (zat 0) zcB (tOp rInS (zac 0) (tC (.str "0123456789"))) [none]) zav))))) (zbV (tC .non)) za4)
theorem zcU (K:PySem.W.Frag) (D:zb9) (σ:St) (H:Hp):zfT K D σ H=(zcb (tOr (zfj (zaJ (zgK (rI0 fun i j=>.bl (decide (i≤j))) (rI0 fun i j=>.bl (decide (i≤j))) (tC (.int 1)) (tCB zkI (zab (zac 0) zav)) (tC (.int 2000))))) (zfj (tB (tCB (rAll K) (zab (zgT (iStr (zac 0)) (zat 0) zcB (tOp rInS (zac 0) (tC (.str "0123456789"))) [none]) zav))))) (zbV (tC .non)) za4) D σ H:=rfl
def zfz (K:PySem.W.Frag):TS :=
 (zaN (zei (zfT K))
 (zgf K))
theorem all_map {α:Type} {f:α→Bool}:∀ (l:List α),(l.map f).all id=l.all f
 | []=>rfl
 | a::l=>by rw [List.map_cons,List.all_cons,List.all_cons,all_map l];rfl
theorem zcr {n:Nat} (h:n≤99999):n≤sizeLine:=Nat.le_trans h (by decide)
theorem zjz {w:Str} (l:w.length≤4300) (q:∀ H',zaQ H H'→Q (zki (zc0 w)) H'):zfz K { nx:=fun _ H'=>Q .non H',rt:=Q } (L2.zbB ["word"] [.str w]) H:=by
 unfold zfz
 have lw:w.length=w.cps.toList.length:=by simp [Str.length]
 have qn:okW w=false→∀ H',zaQ H H'→Q .non H':=fun e H' s=>by
  have:=q H' s
  unfold zc0 at this
  rw [if_neg (by rw [e];exact Bool.false_ne_true)] at this
  exact this
 simp_all only [zac]
 refine ⟨fun σ H'=>zaQ H H'∧(1≤w.length∧w.length≤2000)∧w.cps.toList.all dg=true∧σ=[some (.str w)],?_,?_⟩
 ·simp_all only [zcR,zcU,zac]
  refine ⟨zcr (by omega),?_⟩
  by_cases l1:(1:Int)≤(w.length:Int)
  ·rw [if_pos l1]
   by_cases l2:w.length≤2000
   case neg =>
    rw [if_pos (by omega)]
    exact qn (by unfold okW;rw [decide_eq_false (by omega),Bool.false_and,Bool.false_and]) H (.refl _)
   rw [if_neg (by omega)]
   intro D hD
   refine zmq dg (by omega) hD ?_ ?_
   ·intro i c H' R hc s r
    refine ⟨_,rfl,_,_,rfl,rfl,?_⟩
    rw [zwi]
    exact r H' (.refl _)
   ·intro H' s hD'
    refine ⟨_,rfl,_,SqL.of hD',?_⟩
    rw [all_map]
    cases ha:w.cps.toList.all dg with
    | false =>
     rw [if_pos rfl]
     exact qn (by unfold okW;rw [ha,Bool.and_false,Bool.false_and]) H' s
    | true =>
     rw [if_neg (by decide)]
     exact ⟨s,by omega,l2,rfl⟩
  ·rw [if_neg l1]
   exact qn (by unfold okW;rw [decide_eq_false (by omega),Bool.false_and,Bool.false_and]) H (.refl _)
 ·rintro σ H1 ⟨s1,l1,hd,rfl⟩
  have e0:okW w=!(decide (w.cps.toList.head?=some 48)&&!decide (w=Str.ofString "0")):=by
   unfold okW
   rw [hd,decide_eq_true l1,Bool.true_and,Bool.true_and]
  refine ⟨fun σ H'=>zaQ H H'∧okW w=true∧σ=[some (.str w)],?_,?_⟩
  ·simp_all only [zcR,zcU,zac]
   refine ⟨rfl,?_⟩
   rw [zsU]
   by_cases h1:w.cps.toList.head?=some 48
   ·rw [if_pos (decide_eq_true h1)]
    refine ⟨rfl,?_⟩
    by_cases h2:w=Str.ofString "0"
    ·rw [if_neg (fun z=>z h2)]
     exact ⟨s1,by rw [e0,decide_eq_true h1,decide_eq_true h2];rfl⟩
    ·rw [if_pos h2]
     exact qn (by rw [e0,decide_eq_true h1,decide_eq_false h2];rfl) H1 s1
   ·rw [if_neg (by rw [decide_eq_false h1];exact Bool.false_ne_true)]
    exact ⟨s1,by rw [e0,decide_eq_false h1];rfl⟩
  ·rintro σ H2 ⟨s2,hk,rfl⟩
   obtain ⟨n,hn,_⟩:=zqA hd l1.1 (by omega)
   have q2:=q H2 s2
   unfold zc0 at q2
   rw [if_pos hk,hn] at q2
   simp_all only [zcR,zcU,zac]
   exact ⟨l,zu5 hd,n,hn,q2⟩
theorem zj5:zaP ["word"] ["word"] (zau zea):=⟨rfl,rfl,rfl,by decide +kernel,rfl,by decide +kernel,by decide +kernel⟩
theorem zdi (T:Txt K mg base a):zcW P w K mg base CX0 1 a.f_number_in a.d_number_in ["word"] zmn:=by
 refine T.F_number_in.ok zj5 (fun vs H Q E h=>?_) (fun cdv A outer s H vs Q E hr h=>?_)
 ·obtain ⟨w,rfl,l,q⟩:=h
  rfl
 obtain ⟨w,rfl,l,q⟩:=h
 exact ⟨zfz K,(zaf (zbG (zb2 (PW.pt (zdO (zcX (zlA zk1 zk1 zak (zax zht rfl T.z_len PySem.boot_len (zaa (pv 0) zae)) (zbq rfl T.m_MOST_FIGURES ⟨_,rfl⟩))) (zcV (zcX (zcz (zax (zqi rfl) rfl T.z_all PyProof.Rows.boot_all (zaa (zk5 (sc:=zau zea) (N:=["word"]) (Nc:=["sign"]) (cap:=[none]) rfl rfl rfl (.of (by decide +kernel)) (zvD (pv 0)) (fun _ _ _ _=>(zaT (i:=0) (show List.Nodup (["sign"]:List Str) from by decide) rfl (Or.inl rfl))) (fun _ _ _ _=>zgu) (fun _ _ _ _=>(zcg zvC (pv 0) (zbq rfl T.m_FIGURES ⟨_,rfl⟩) (by with_unfolding_all rfl)))) zae))))))) (zah (zaU zbM)) za0))
 (zaf (zbG (zb2 (PW.pt (znV (zcz (zdN PySem.F.plainAttrs_str PySem.F.slot_str_startswith PySem.F.type_str_startswith zno (pv 0) (zaa zaR zae))) (zkA (zaI zfN (pv 0) zaR (zaL _))))) (zah (zaU zbM)) za0))
 (zah (zaU (zbA (zhM T.dg) rfl T.z_int zds (zaa (pv 0) zae)))))),
  zjz l q⟩
def zjF (K:PySem.W.Frag):Sp:=fun vs H Q _=>∃ (p:Addr) (ws:List Str),vs=[.ref p]∧SqL K H p (ws.map V.str)∧ws.length≤99999∧(∀ w∈ws,w.length≤4300)∧(zdh ws=none→∀ H',zaQ H H'→Q .non H')∧∀ ns,zdh ws=some ns→∀ D H',zaQ H H'→H D=none→H' D=some (.lst (ns.map V.int))→Q (.ref D) H'
def zeD (K:PySem.W.Frag):TS :=
 (zaN (zbe (zgT (ze7 K (zac 0)) (zat 0) zcB (zaZ zmn [] E0 (zab (zac 0) zav)) [none]) (zat 1))
 (zbV (tIf (zaJ (tOp (rIn K false) (tC .non) (zac 1))) (tC .non) (zac 1))))
theorem znd (ws:List Str):(ws.map fun w=>zki (zc0 w)).all ze5=true:=by
 rw [List.all_map]
 refine List.all_eq_true.mpr fun w _=>?_
 show ze5 (zki (zc0 w))=true
 cases zc0 w <;> rfl
theorem zns {a D:Addr} {ws:List Str} {te:TE} {σ:St} (hl:SqL K H a (ws.map V.str)) (hD:H D=none) (hx:ws.length≤99999)
  (hs:∀ (i:Nat) w H' (R:VK),ws[i]?=some w→zaQ H H'→(∀ H'',zaQ H' H''→R (zki (zc0 w)) H'')→te (σ.set 0 (some (.str w))) H' R)
  (hd:∀ H',zaQ H H'→H' D=some (.lst (ws.map fun w=>zki (zc0 w)))→Q (.ref D) H'):zil (Itl K a) (zat 0) zcB te D Q σ (L2.upd H D (.lst [])):=by
 refine zlG (fun i _ v=>∃ w,ws[i]?=some w∧v=zki (zc0 w)) (fun _ _ _ _ _ h=>h) hl hD (by rw [List.length_map];exact hx) ?_ ?_
 ·intro i x H' R e s r
  obtain ⟨w,hw,rfl⟩:=zeh e
  exact hs i w H' R hw s fun H'' s2=>r _ H'' s2 ⟨w,hw,rfl⟩
 ·intro H' ys s ly hr hD'
  refine hd H' s ?_
  have ey:ys=ws.map fun w=>zki (zc0 w):=by
   refine List.ext_getElem? fun i=>?_
   by_cases c:i<ys.length
   ·obtain ⟨w,hw,e⟩:=hr i _ (List.getElem?_eq_getElem c)
    rw [List.getElem?_eq_getElem c,List.getElem?_map,hw,e]
    rfl
   ·rw [List.getElem?_eq_none (by omega),List.getElem?_eq_none (by rw [List.length_map] at ly ⊢;omega)]
  rw [← ey]
  exact hD'
theorem ziO {p:Addr} {ws:List Str} (hp:SqL K H p (ws.map V.str)) (lw:ws.length≤99999) (lws:∀ w∈ws,w.length≤4300) (q0:zdh ws=none→∀ H',zaQ H H'→Q .non H') (q1:∀ ns,zdh ws=some ns→∀ D H',zaQ H H'→H D=none→H' D=some (.lst (ns.map V.int))→Q (.ref D) H'):zeD K { nx:=fun _ H'=>Q .non H',rt:=Q } (L2.zbB ["words","numbers"] [.ref p]) H:=by
 unfold zeD
 simp_all only [zac]
 refine ⟨⟨_,hp⟩,fun D hD=>zns hp hD lw ?_ ?_⟩
 ·intro i w H' R e s r
  exact ⟨_,rfl,w,rfl,lws w (zdd e),r⟩
 ·intro H' s hD'
  refine ⟨D,rfl,_,.inl (SqL.of hD'),rfl,znd ws,?_⟩
  cases hn:zdh ws with
  | none =>
   rw [if_pos (zgy.mp hn)]
   exact q0 hn H' s
  | some ns =>
   rw [if_neg (fun z=>by rw [zgy.mpr z] at hn;cases hn)]
   rw [zgB hn] at hD'
   exact q1 ns hn D H' s hD hD'
theorem zf1:zaP ["words","numbers"] ["words"] (zau zdk):=⟨rfl,rfl,rfl,by decide +kernel,rfl,by decide +kernel,by decide +kernel⟩
theorem zgc (T:Txt K mg base a):zcW P w K mg base CX0 2 a.f_numbers_in a.d_numbers_in ["words"] (zjF K):=by
 have G_number_in:=zdi (P:=P) (w:=w) (base:=base) T
 refine T.F_numbers_in.ok zf1 (fun vs H Q E h=>?_) (fun cdv A outer s H vs Q E hr h=>?_)
 ·obtain ⟨p,ws,rfl,hp,lw,lws,q0,q1⟩:=h
  rfl
 obtain ⟨p,ws,rfl,hp,lw,lws,q0,q1⟩:=h
 exact ⟨zeD K,(zaf (zgr (i:=1) zf1.nd rfl rfl (sc:=zau zdk) (N:=["words","numbers"]) (Nc:=["word"]) (cap:=[none]) rfl rfl rfl (.of (by decide +kernel)) (zdL (pv 0)) (fun _ _ _ _=>(zaT (i:=0) (show List.Nodup (["word"]:List Str) from by decide) rfl (Or.inl rfl))) (fun _ _ _ _=>zgu) (fun _ _ _ _=>(zaG G_number_in (hr.mono (by decide)) rfl T.m_number_in T.F_number_in.kp T.b_number_in .nil zbs (zaa (pv 0) zae))))
 (zah (zaU (zdp (zaI znI zbM (pv 1) (by with_unfolding_all rfl)) zbM (pv 1))))),
  ziO hp lw lws q0 q1⟩
def zvr:Sp:=fun vs H Q _=>∃ (sp:Bool) (w:Str),vs=[.str (kdS sp),.str w]∧w.length≤4300∧∀ v H',zaQ H H'→zlk (thO sp w) (NwH H H') v→Q v H'
def zeo (K:PySem.W.Frag):TS :=
 (zaN (zbe (zaZ (zjF K) [] E0 (zab (tBM K "str" zf7 (zac 1) (zab (tC (.str "-")) zav)) zav)) (zat 2))
 (zbV (tIf (tOr (zaJ (tOp (fun x y H Q=>y=.non∧Q (.bl (decide (x=.non))) H) (zac 2) (tC .non))) (zaJ (tOp rNe (tCB (fun xs H Q=>∃ p ys,xs=[.ref p]∧(SqL K H p ys∨SqT K H p ys)∧Q (.int ys.length) H) (zab (zac 2) zav)) (tC (.int 2))))) (tC .non) (tCB (fun xs H Q=>∃ p ys,xs=[.ref p]∧((SqL K H p ys∧∀ l,H l=none→Q (.ref l) (upd H l (.tup ys)))∨(SqT K H p ys∧Q (.ref p) H))) (zab (zac 2) zav)))))
theorem zdb (K:PySem.W.Frag) (D:zb9) (σ:St) (H:Hp):zeo K D σ H=(zaN (zbe (zaZ (zjF K) [] E0 (zab (tBM K "str" zf7 (zac 1) (zab (tC (.str "-")) zav)) zav)) (zat 2))
 (zbV (tIf (tOr (zaJ (tOp (fun x y H Q=>y=.non∧Q (.bl (decide (x=.non))) H) (zac 2) (tC .non))) (zaJ (tOp rNe (tCB (fun xs H Q=>∃ p ys,xs=[.ref p]∧(SqL K H p ys∨SqT K H p ys)∧Q (.int ys.length) H) (zab (zac 2) zav)) (tC (.int 2))))) (tC .non) (tCB (fun xs H Q=>∃ p ys,xs=[.ref p]∧((SqL K H p ys∧∀ l,H l=none→Q (.ref l) (upd H l (.tup ys)))∨(SqT K H p ys∧Q (.ref p) H))) (zab (zac 2) zav))))) D σ H:=rfl
def zgw (K:PySem.W.Frag):TS :=
 (zaN (zei (zcb (zaJ (tOp rEq (zac 0) (tC (.str "walk")))) (zbV (zaZ zmn [] E0 (zab (zac 1) zav))) za4))
 (zeo K))
theorem zos:kdS false=Str.ofString "walk":=rfl
theorem zpF:kdS true=Str.ofString "spread":=rfl
theorem zgL:¬ Str.ofString "spread"=Str.ofString "walk":=by decide +kernel
theorem zt0 {o:Option Int}:zlk (o.map Tr.int) H (zki o):=by
 cases o with
 | none=>exact rfl
 | some n=>exact ⟨.int n,fun z=>by cases z⟩
theorem zlc {sp:Bool} {w:Str} (lw:w.length≤4300) (q:∀ v H',zaQ H H'→zlk (thO sp w) (NwH H H') v→Q v H'):zgw K { nx:=fun _ H'=>Q .non H',rt:=Q } (L2.zbB ["kind","word","ends"] [.str (kdS sp),.str w]) H:=by
 unfold zgw
 simp_all only [zdb,zac]
 refine ⟨fun σ H'=>zaQ H H'∧sp=true∧σ=[some (.str (kdS sp)),some (.str w),none],?_,?_⟩
 ·simp_all only [zdb,zac]
  refine ⟨rfl,?_⟩
  cases sp
  ·rw [if_pos zos]
   exact ⟨w,rfl,lw,fun H' s=>q _ H' s zt0⟩
  ·rw [if_neg (by rw [zpF];exact zgL)]
   exact ⟨.refl _,rfl⟩
 ·rintro σ H1 ⟨s1,rfl,rfl⟩
  unfold zeo
  simp_all only [zdb,zac]
  have lp:∀ x∈Txt.split w (Str.ofString "-"),x.length≤w.length:=by rw [zl6];exact zeT w 45
  have lq:(Txt.split w (Str.ofString "-")).length≤w.length+1:=by rw [zl6];exact zeC w 45
  refine ⟨rfl,by decide +kernel,by omega,fun p hp=>⟨p,_,rfl,SqL.of zad,by omega,fun x hx=>Nat.le_trans (lp x hx) lw,fun hn H2 s2=>?_,fun ns hn D H2 s2 hD hD2=>?_⟩⟩
  ·show ite _ _ _
   rw [if_pos rfl]
   refine q _ H2 (s1.trans ((zai hp _).trans s2)) ?_
   unfold thO
   rw [if_pos rfl]
   show zlk (match zdh (Txt.split w (Str.ofString "-")) with | some [x,y]=>_ | _=>none) _ _
   rw [hn]
   rfl
  ·show ite _ _ _
   rw [if_neg (fun z=>V.noConfusion z)]
   refine ⟨D,rfl,_,.inl (SqL.of hD2),?_⟩
   have s3:zaQ H H2:=s1.trans ((zai hp _).trans s2)
   have et:thO true w=(match some ns with | some [x,y]=>some (Tr.tup [.int x,.int y]) | _=>none):=by
    rw [← hn]
    rfl
   rw [List.length_map]
   by_cases l2:(ns.length:Int)=2
   ·rw [if_neg (fun z=>z l2)]
    obtain ⟨x,y,rfl⟩:∃ x y,ns=[x,y]:=by
     match ns,l2 with
     | [x,y],_=>exact ⟨x,y,rfl⟩
     | [],h=>exact absurd h (by decide)
     | [_],h=>rw [List.length_singleton] at h;omega
     | _::_::_::l,h=>rw [List.length_cons,List.length_cons,List.length_cons] at h;omega
    refine ⟨D,rfl,_,.inl ⟨SqL.of hD2,fun l hl=>q _ _ (s3.add hl) ?_⟩⟩
    rw [et]
    refine ⟨ShL.tp (ShL.ints [x,y]) (zce.mpr ⟨s3.free hl,zad⟩),fun z=>by cases z⟩
   ·rw [if_pos l2]
    refine q _ H2 s3 ?_
    rw [et]
    split
    ·rename_i x y e
     cases e
     exact absurd rfl l2
    ·rfl
theorem zhK:zaP ["kind","word","ends"] ["kind","word"] (zau zgm):=⟨rfl,rfl,rfl,by decide +kernel,rfl,by decide +kernel,by decide +kernel⟩
theorem zkW (T:Txt K mg base a):zcW P w K mg base CX0 3 a.f_thing_in a.d_thing_in ["kind","word"] zvr:=by
 have G_number_in:=zdi (P:=P) (w:=w) (base:=base) T
 have G_numbers_in:=zgc (P:=P) (w:=w) (base:=base) T
 refine T.F_thing_in.ok zhK (fun vs H Q E h=>?_) (fun cdv A outer s H vs Q E hr h=>?_)
 ·obtain ⟨sp,w,rfl,lw,q⟩:=h
  rfl
 obtain ⟨sp,w,rfl,lw,q⟩:=h
 exact ⟨zgw K,(zaf (zbG (zb2 (zaI zeM (pv 0) zaR (zaL _)) (zah (zaU (zaG G_number_in (hr.mono (by decide)) rfl T.m_number_in T.F_number_in.kp T.b_number_in .nil zbs (zaa (pv 1) zae)))) za0))
 (zaf (zaE (i:=2) zhK.nd rfl (Or.inl rfl) (zaG G_numbers_in (hr.mono (by decide)) rfl T.m_numbers_in T.F_numbers_in.kp T.b_numbers_in .nil zbs (zaa (zdN PySem.F.plainAttrs_str PySem.F.slot_str_split PySem.F.type_str_split zeY (pv 1) (zaa zaR zae)) zae)))
 (zah (zaU (zdp (PW.pt (zdO (zaI zfk (pv 2) zbM (zaL _)) (zcV (zaI zfN (zax zaY rfl T.z_len PySem.boot_len (zaa (pv 2) zae)) zak (zaL _))))) zbM (zbA zd7 rfl T.z_tuple zcp (zaa (pv 2) zae))))))),
  zlc lw q⟩
def ziD (K:PySem.W.Frag):Sp:=fun vs H Q _=>∃ (sp:Bool) (p:Addr) (ws:List Str),vs=[.str (kdS sp),.ref p]∧SqL K H p (ws.map V.str)∧ws.length≤99999∧(∀ w∈ws,w.length≤4300)∧∀ v H',zaQ H H'→zlk ((plO sp ws).map Tr.lst) (NwH H H') v→Q v H'
def zhD (K:PySem.W.Frag):TS :=
 (zaN (zbe (zgT (ze7 K (zac 1)) (zat 0) zcB (zaZ zvr [] E0 (zab (zac 1) (zab (zac 0) zav))) [none,some 0]) (zat 2))
 (zbV (tIf (zaJ (tOp (rInN K) (tC .non) (zac 2))) (tC .non) (zac 2))))
theorem zlk.same {o:Option Tr} {H H':Hp} {v:V} (h:zlk o H v) (s:zaQ H H'):zlk o H' v:=by
 cases o with
 | none=>exact h
 | some t=>exact ⟨h.1.same s,h.2⟩
theorem znj (sp:Bool) (w:Str):thO sp w=none∨(∃ n,thO sp w=some (.int n))∨∃ ts,thO sp w=some (.tup ts):=by
 unfold thO
 cases sp
 ·show (zc0 w).map Tr.int=none∨_
  cases zc0 w with
  | none=>exact .inl rfl
  | some n=>exact .inr (.inl ⟨n,rfl⟩)
 ·show (match zdh (Txt.split w "-") with | some [x,y]=>some (Tr.tup [.int x,.int y]) | _=>none)=none∨_
  split
  ·exact .inr (.inr ⟨_,rfl⟩)
  ·exact .inl rfl
theorem ziw (sp:Bool) (w:Str) (ws:List Str):plO sp (w::ws)=(thO sp w).bind fun n=>(plO sp ws).bind fun ns=>some (n::ns):=by
 unfold plO
 rw [List.mapM_cons]
 rfl
theorem zrv (sp:Bool):∀ {ws:List Str} {ys:List V},ys.length=ws.length→(∀ (i:Nat) y w,ys[i]?=some y→ws[i]?=some w→zlk (thO sp w) H y)→((ys.any fun z=>decide (z=.non))=true∧plO sp ws=none)∨((ys.any fun z=>decide (z=.non))=false∧∃ ts,plO sp ws=some ts∧ShL H ts ys)
 | [],[],_,_=>.inr ⟨rfl,[],rfl,.nil⟩
 | w::ws,y::ys,l,h=>by
  have h0:=h 0 y w rfl rfl
  have ih:=zrv sp (ws:=ws) (ys:=ys) (by rw [List.length_cons,List.length_cons] at l;omega) fun i y w e1 e2=>h (i+1) y w e1 e2
  rw [List.any_cons,ziw]
  cases ht:thO sp w with
  | none =>
   rw [ht] at h0
   have h0:y=.non:=h0
   exact .inl ⟨by rw [decide_eq_true h0];rfl,rfl⟩
  | some t =>
   rw [ht] at h0
   rw [decide_eq_false h0.2,Bool.false_or]
   rcases ih with ⟨a1,a2⟩ | ⟨a1,ts,a2,a3⟩
   ·exact .inl ⟨a1,by rw [a2];rfl⟩
   ·exact .inr ⟨a1,t::ts,by rw [a2];rfl,.cons h0.1 a3⟩
theorem zmZ {sp:Bool} {p:Addr} {ws:List Str} (hp:SqL K H p (ws.map V.str)) (lw:ws.length≤99999) (lws:∀ w∈ws,w.length≤4300) (q:∀ v H',zaQ H H'→zlk ((plO sp ws).map Tr.lst) (NwH H H') v→Q v H'):zhD K { nx:=fun _ H'=>Q .non H',rt:=Q } (L2.zbB ["kind","words","plan"] [.str (kdS sp),.ref p]) H:=by
 unfold zhD
 simp_all only [zac]
 refine ⟨⟨_,hp⟩,fun D hD=>zlG (fun i H v=>∃ w,ws[i]?=some w∧zlk (thO sp w) H v) (fun i H H' v s h=>by obtain ⟨w,e,h⟩:=h;exact ⟨w,e,h.same s⟩) hp hD (by rw [List.length_map];exact lw) ?_ ?_⟩
 ·intro i x H' R e s r
  obtain ⟨w,hw,rfl⟩:=zeh e
  exact ⟨_,rfl,_,rfl,sp,w,rfl,lws w (zdd hw),fun v H'' s2 h=>r v H'' s2 ⟨w,hw,h⟩⟩
 ·intro H' ys s ly hr hD'
  rw [List.length_map] at ly
  refine ⟨D,rfl,ys,SqL.of hD',?_,?_⟩
  ·intro z hz
   obtain ⟨i,hi⟩:=List.mem_iff_getElem?.mp hz
   obtain ⟨w,hw,h⟩:=hr i z hi
   rcases znj sp w with e | ⟨n,e⟩ | ⟨ts,e⟩
   ·rw [e] at h
    exact .inl h
   ·rw [e] at h
    obtain ⟨h,_⟩:=h
    cases h
    exact .inr (.inl ⟨_,rfl⟩)
   ·rw [e] at h
    obtain ⟨h,_⟩:=h
    cases h with
    | tup hh=>exact .inr (.inr ⟨_,rfl,_,SqT.of (zlp _ _ hh)⟩)
  ·rcases zrv sp (H:=NwH H H') ly (fun i y w e1 e2=>by
    obtain ⟨w',e3,h⟩:=hr i y e1
    rw [e2] at e3
    cases e3
    exact h) with ⟨a1,a2⟩ | ⟨a1,ts,a2,a3⟩
   ·rw [if_pos a1]
    exact q _ H' s (by rw [a2];exact rfl)
   ·rw [if_neg (by rw [a1];exact Bool.false_ne_true)]
    refine q _ H' s ?_
    rw [a2]
    exact ⟨a3.sh (zce.mpr ⟨hD,hD'⟩),fun z=>by cases z⟩
theorem zir:zaP ["kind","words","plan"] ["kind","words"] (zau zfZ):=⟨rfl,rfl,rfl,by decide +kernel,rfl,by decide +kernel,by decide +kernel⟩
theorem zmL (T:Txt K mg base a):zcW P w K mg base CX0 4 a.f_plan_in a.d_plan_in ["kind","words"] (ziD K):=by
 have G_thing_in:=zkW (P:=P) (w:=w) (base:=base) T
 refine T.F_plan_in.ok zir (fun vs H Q E h=>?_) (fun cdv A outer s H vs Q E hr h=>?_)
 ·obtain ⟨sp,p,ws,rfl,hp,lw,lws,q⟩:=h
  rfl
 obtain ⟨sp,p,ws,rfl,hp,lw,lws,q⟩:=h
 exact ⟨zhD K,(zaf (zgr (i:=2) zir.nd rfl rfl (sc:=zau zfZ) (N:=["kind","words","plan"]) (Nc:=["word","kind"]) (cap:=[none,some 0]) rfl rfl rfl (.of (by decide +kernel)) (zdL (pv 1)) (fun _ _ _ _=>(zaT (i:=0) (show List.Nodup (["word","kind"]:List Str) from by decide) rfl (Or.inl rfl))) (fun _ _ _ _=>zgu) (fun _ _ _ _=>(zaG G_thing_in (hr.mono (by decide)) rfl T.m_thing_in T.F_thing_in.kp T.b_thing_in .nil zbs (zaa (pv 1) (zaa (pv 0) zae)))))
 (zah (zaU (zdp (zaI (zwc hr.units) zbM (pv 2) (by with_unfolding_all rfl)) zbM (pv 2))))),
  zmZ hp lw lws q⟩
def zkT:Sp:=fun vs H Q _=>∃ (sp:Bool) (row:Str),vs=[.str row,.str (kdS sp)]∧Rn 4300 row∧10∉sgn row∧row.length≤90000∧∀ v H',zaQ H H'→zlk (shO sp row) (NwH H H') v→Q v H'
def zeO (K:PySem.W.Frag):TS :=
 (zaN (zbe (zaZ zmn [] E0 (zab (tOp (zeA K) (zac 2) (tC (.int 1))) zav)) (zat 3))
 (zaN (zbe (zaZ (ziD K) [] E0 (zab (zac 1) (zab (tSl (zpJ K) (zac 2) (zfC (tC (.int 2))) zcm) zav))) (zat 4))
 (zbV (tIf (tOr (zaJ (tOp (fun x y H Q=>y=.non∧Q (.bl (decide (x=.non))) H) (zac 3) (tC .non))) (tOr (zaJ (tOp (rI0 fun i j=>.bl (decide (i<j))) (zac 3) (tC (.int 1)))) (zaJ (tOp (fun x y H Q=>y=.non∧Q (.bl (decide (x=.non))) H) (zac 4) (tC .non))))) (tC .non) (zgZ (zab (zac 4) (zab (zac 3) zav)))))))
theorem zc7 (K:PySem.W.Frag) (D:zb9) (σ:St) (H:Hp):zeO K D σ H=(zaN (zbe (zaZ zmn [] E0 (zab (tOp (zeA K) (zac 2) (tC (.int 1))) zav)) (zat 3))
 (zaN (zbe (zaZ (ziD K) [] E0 (zab (zac 1) (zab (tSl (zpJ K) (zac 2) (zfC (tC (.int 2))) zcm) zav))) (zat 4))
 (zbV (tIf (tOr (zaJ (tOp (fun x y H Q=>y=.non∧Q (.bl (decide (x=.non))) H) (zac 3) (tC .non))) (tOr (zaJ (tOp (rI0 fun i j=>.bl (decide (i<j))) (zac 3) (tC (.int 1)))) (zaJ (tOp (fun x y H Q=>y=.non∧Q (.bl (decide (x=.non))) H) (zac 4) (tC .non))))) (tC .non) (zgZ (zab (zac 4) (zab (zac 3) zav))))))) D σ H:=rfl
def zeu (K:PySem.W.Frag):TS :=
 (zcb (tOr (zaJ (tOp rNe (tOp (zeA K) (zac 2) (tC (.int 0))) (zac 1))) (zaJ (tOp (rI0 fun i j=>.bl (decide (i<j))) (tCB (fun xs H Q=>∃ p ys,xs=[.ref p]∧(SqL K H p ys∨SqT K H p ys)∧Q (.int ys.length) H) (zab (zac 2) zav)) (tIf (zaJ (tOp rEq (zac 1) (tC (.str "walk")))) (tC (.int 3)) (tC (.int 2)))))) (zbV (tC .non)) za4)
theorem zde (K:PySem.W.Frag) (D:zb9) (σ:St) (H:Hp):zeu K D σ H=(zcb (tOr (zaJ (tOp rNe (tOp (zeA K) (zac 2) (tC (.int 0))) (zac 1))) (zaJ (tOp (rI0 fun i j=>.bl (decide (i<j))) (tCB (fun xs H Q=>∃ p ys,xs=[.ref p]∧(SqL K H p ys∨SqT K H p ys)∧Q (.int ys.length) H) (zab (zac 2) zav)) (tIf (zaJ (tOp rEq (zac 1) (tC (.str "walk")))) (tC (.int 3)) (tC (.int 2)))))) (zbV (tC .non)) za4) D σ H:=rfl
def zgv (K:PySem.W.Frag):TS :=
 (zaN (zbe (tBM K "str" zf7 (zac 0) (zab (tC (.str " ")) zav)) (zat 2))
 (zaN (zei (zeu K))
 (zeO K)))
theorem ziW {row:Str} (hr:Rn 4300 row) (h10:10∉sgn row):∀ w∈Txt.split row (Str.ofString " "),w.length≤4300:=fun w hw=>by
 rw [zgX] at hw
 have h1:=zix hr w hw
 have h2:=StrLaws.split_free row 32 w hw
 unfold Rn at h1
 rw [zo0 (sgn w) _ h2 (fun m=>h10 (part_sub hw m))] at h1
 rw [zbQ]
 omega
where
 part_sub {c d:Nat} {row w:Str} (hw:w∈Txt.split row ⟨#[c]⟩) (m:d∈sgn w):d∈sgn row:=by
  have key:∀ l:List Str,w∈l→d∈sgn (Str.join ⟨#[c]⟩ l):=by
   intro l
   induction l with
   | nil=>intro h;cases h
   | cons x l ih =>
    intro h
    cases l with
    | nil=>rw [List.mem_singleton.mp h] at m;exact m
    | cons z l =>
     rw [zfX]
     rcases List.mem_cons.mp h with rfl | h
     ·exact List.mem_append_left _ m
     ·exact List.mem_append_right _ (List.mem_append_right _ (ih h))
  have:=key _ hw
  rw [StrLaws.join_split] at this
  exact this
theorem zky {sp:Bool} {row:Str} (hr:Rn 4300 row) (h10:10∉sgn row) (lr:row.length≤90000) (q:∀ v H',zaQ H H'→zlk (shO sp row) (NwH H H') v→Q v H'):zgv K { nx:=fun _ H'=>Q .non H',rt:=Q } (L2.zbB ["row","kind","words","weight","plan"] [.str row,.str (kdS sp)]) H:=by
 unfold zgv
 simp_all only [zc7,zde,zac]
 refine ⟨rfl,by decide +kernel,by omega,fun p hp=>?_⟩
 have lws:=ziW hr h10
 have lw:(Txt.split row (Str.ofString " ")).length≤90001:=by
  rw [zgX]
  have:=zeC row 32
  omega
 obtain ⟨w0,wr,ew⟩:∃ w0 wr,Txt.split row (Str.ofString " ")=w0::wr:=by
  cases e:Txt.split row (Str.ofString " ") with
  | nil=>exact absurd e (zf3 _ _)
  | cons a l=>exact ⟨a,l,rfl⟩
 refine ⟨fun σ H'=>H'=L2.upd H p (.lst ((Txt.split row (Str.ofString " ")).map V.str))∧w0=kdS sp∧(if sp then 2 else 3)≤(Txt.split row (Str.ofString " ")).length∧σ=[some (.str row),some (.str (kdS sp)),some (.ref p),none,none],?_,?_⟩
 ·unfold zeu
  have eS:shO sp row=if w0=kdS sp∧(if sp then 2 else 3)≤wr.length+1 then (zc0 (wr.getD 0 "")).bind fun n=>if n<1 then none else (plO sp (wr.drop 1)).map fun p=>.tup [.lst p,.int n] else none:=by
   unfold shO
   show (if (Txt.split row (Str.ofString " ")).getD 0 ""=kdS sp∧(if sp then 2 else 3)≤(Txt.split row (Str.ofString " ")).length then _ else none)=_
   rw [ew]
   rfl
  have qn:shO sp row=none→Q .non (L2.upd H p (.lst ((Txt.split row (Str.ofString " ")).map V.str))):=fun e=>q _ _ (zai hp _) (by rw [e];rfl)
  rw [ew] at qn ⊢
  simp_all only [zc7,zde,zac]
  refine ⟨_,SqL.of zad,.str w0,zbJ (j:=0) rfl,rfl,?_⟩
  by_cases e0:w0=kdS sp
  ·rw [if_neg (fun z=>z (by rw [e0]))]
   refine ⟨_,.inl (SqL.of zad),rfl,?_⟩
   rw [List.length_cons,List.length_map]
   cases sp
   ·rw [if_pos zos]
    by_cases l3:((wr.length+1:Nat):Int)<3
    ·rw [if_pos l3]
     exact qn (by rw [eS,if_neg (fun z=>by have:=z.2;rw [if_neg Bool.false_ne_true] at this;omega)])
    ·rw [if_neg l3]
     exact ⟨e0,by rw [if_neg Bool.false_ne_true];omega⟩
   ·rw [if_neg (by rw [zpF];exact zgL)]
    by_cases l3:((wr.length+1:Nat):Int)<2
    ·rw [if_pos l3]
     exact qn (by rw [eS,if_neg (fun z=>by have:=z.2;rw [if_pos rfl] at this;omega)])
    ·rw [if_neg l3]
     exact ⟨e0,by rw [if_pos rfl];omega⟩
  ·rw [if_pos (fun z=>e0 (V.str.inj z))]
   exact qn (by rw [eS,if_neg (fun z=>e0 z.1)])
 ·rintro σ H1 ⟨rfl,hk,hl,rfl⟩
  unfold zeO
  have eS:shO sp row=(zc0 (wr.getD 0 "")).bind fun n=>if n<1 then none else (plO sp (wr.drop 1)).map fun p=>.tup [.lst p,.int n]:=by
   unfold shO
   show (if (Txt.split row (Str.ofString " ")).getD 0 ""=kdS sp∧(if sp then 2 else 3)≤(Txt.split row (Str.ofString " ")).length then _ else none)=_
   rw [if_pos ⟨by rw [ew];exact hk,hl⟩,ew]
   rfl
  rw [ew] at hl lws lw ⊢
  obtain ⟨w1,wt,rfl⟩:∃ w1 wt,wr=w1::wt:=by
   cases wr with
   | nil =>
    rw [List.length_singleton] at hl
    cases sp <;> exact absurd hl (by decide)
   | cons a l=>exact ⟨a,l,rfl⟩
  simp_all only [zc7,zde,zac]
  refine ⟨_,SqL.of zad,.str w1,zbJ (j:=1) rfl,w1,rfl,lws w1 (by simp),fun H1 s1=>⟨_,SqL.of (s1 _ _ zad),fun p2 hp2=>?_⟩⟩
  have ec:znT (V.str w0::V.str w1::wt.map V.str) (some 2) none=wt.map V.str:=by
   exact znJ _ 2
  rw [ec]
  refine ⟨sp,p2,wt,rfl,SqL.of zad,by rw [List.length_cons,List.length_cons] at lw;omega,fun x hx=>lws x (by simp [hx]),fun v H2 s2 h2=>?_⟩
  have s3:zaQ H H2:=((zai hp _).trans s1).trans ((zai hp2 _).trans s2)
  have eS:shO sp row=(zc0 w1).bind fun n=>if n<1 then none else (plO sp wt).map fun p=>.tup [.lst p,.int n]:=eS
  cases hn:zc0 w1 with
  | none =>
   show ite (V.non=V.non) _ _
   rw [if_pos rfl]
   exact q _ H2 s3 (by rw [eS,hn];rfl)
  | some n =>
   rw [hn] at eS
   have eS:shO sp row=if n<1 then none else (plO sp wt).map fun p=>.tup [.lst p,.int n]:=eS
   show ite _ _ _
   rw [if_neg (fun z=>V.noConfusion z)]
   refine ⟨n,rfl,?_⟩
   by_cases n1:n<1
   ·rw [if_pos n1]
    exact q _ H2 s3 (by rw [eS,if_pos n1];rfl)
   ·rw [if_neg n1]
    rw [if_neg n1] at eS
    cases hp:plO sp wt with
    | none =>
     rw [hp] at h2 eS
     have h2:v=V.non:=h2
     rw [if_pos h2]
     exact q _ H2 s3 (by rw [eS];rfl)
    | some ts =>
     rw [hp] at h2 eS
     rw [if_neg h2.2]
     refine ⟨by decide,fun p3 hp3=>q _ _ (s3.add hp3) ?_⟩
     rw [eS]
     refine ⟨ShL.tp (.cons (h2.1.same ?_) (.one (.int n))) (zce.mpr ⟨s3.free hp3,zad⟩),fun z=>by cases z⟩
     exact zg9 (((zai ‹H p=none› _).trans s1).trans (zai hp2 _)) (zai hp3 _)
theorem zd3:zaP ["row","kind","words","weight","plan"] ["row","kind"] (zau zgh):=⟨rfl,rfl,rfl,by decide +kernel,rfl,by decide +kernel,by decide +kernel⟩
theorem zkz (T:Txt K mg base a):zcW P w K mg base CX0 5 a.f_share_in a.d_share_in ["row","kind"] zkT:=by
 have G_number_in:=zdi (P:=P) (w:=w) (base:=base) T
 have G_plan_in:=zmL (P:=P) (w:=w) (base:=base) T
 refine T.F_share_in.ok zd3 (fun vs H Q E h=>?_) (fun cdv A outer s H vs Q E hr h=>?_)
 ·obtain ⟨sp,row,rfl,hR,h10,lr,q⟩:=h
  rfl
 obtain ⟨sp,row,rfl,hR,h10,lr,q⟩:=h
 exact ⟨zgv K,(zaf (zaE (i:=2) zd3.nd rfl (Or.inl rfl) (zdN PySem.F.plainAttrs_str PySem.F.slot_str_split PySem.F.type_str_split zeY (pv 0) (zaa zaR zae)))
 (zaf (zbG (zb2 (PW.pt (zdO (zaI zfN (zcN zbT (pv 2) zak (fun _ _=>rfl)) (pv 1) (zaL _)) (zcV (zaI zom (zax zaY rfl T.z_len PySem.boot_len (zaa (pv 2) zae)) (zdp (zaI zeM (pv 1) zaR (zaL _)) zak zak) (zaL _))))) (zah (zaU zbM)) za0))
 (zaf (zaE (i:=3) zd3.nd rfl (Or.inl rfl) (zaG G_number_in (hr.mono (by decide)) rfl T.m_number_in T.F_number_in.kp T.b_number_in .nil zbs (zaa (zcN zbT (pv 2) zak (fun _ _=>rfl)) zae)))
 (zaf (zaE (i:=4) zd3.nd rfl (Or.inl rfl) (zaG G_plan_in (hr.mono (by decide)) rfl T.m_plan_in T.F_plan_in.kp T.b_plan_in .nil zbs (zaa (pv 1) (zaa (zc1 zhC (pv 2) (zd9 zak) zd0) zae))))
 (zah (zaU (zdp (PW.pt (zdO (zaI zfk (pv 3) zbM (zaL _)) (zdO (zaI zom (pv 3) zak (zaL _)) (zcV (zaI zfk (pv 4) zbM (zaL _)))))) zbM (zdj (zaa (pv 4) (zaa (pv 3) zae)))))))))),
  zky hR h10 lr q⟩
theorem zli (row:Str):∃ w0 wr,Txt.split row (Str.ofString " ")=w0::wr:=by
 cases e:Txt.split row (Str.ofString " ") with
 | nil=>exact absurd e (zf3 _ _)
 | cons a l=>exact ⟨a,l,rfl⟩
theorem znP {ws:List Str} {ns:List Int} (h:zdh ws=some ns):ns.length=ws.length:=by
 have:=congrArg List.length (zgB h)
 rw [List.length_map,List.length_map] at this
 exact this.symm
theorem len1 {α:Type} {l:List α} (h:l.length=1):∃ a,l=[a]:=by
 match l,h with
 | [a],_=>exact ⟨a,rfl⟩
theorem len3 {α:Type} {l:List α} (h:l.length=3):∃ a b c,l=[a,b,c]:=by
 match l,h with
 | [a,b,c],_=>exact ⟨a,b,c,rfl⟩
def zlg:Sp:=fun vs H Q _=>∃ row:Str,vs=[.str row]∧Rn 4300 row∧10∉sgn row∧row.length≤90000∧∀ H',zaQ H H'→Q (zki (zgW row)) H'
def zhl (K:PySem.W.Frag):TS :=
 (zaN (zbe (tBM K "str" zf7 (zac 0) (zab (tC (.str " ")) zav)) (zat 1))
 (zbV (tIf (zt2 (zaJ (tOp rEq (tCB (fun xs H Q=>∃ p ys,xs=[.ref p]∧(SqL K H p ys∨SqT K H p ys)∧Q (.int ys.length) H) (zab (zac 1) zav)) (tC (.int 2)))) (zaJ (tOp rEq (tOp (zeA K) (zac 1) (tC (.int 0))) (tC (.str "web"))))) (zaZ zmn [] E0 (zab (tOp (zeA K) (zac 1) (tC (.int 1))) zav)) (tC .non))))
theorem zm1 {row:Str} (hr:Rn 4300 row) (h10:10∉sgn row) (lr:row.length≤90000) (q:∀ H',zaQ H H'→Q (zki (zgW row)) H'):zhl K { nx:=fun _ H'=>Q .non H',rt:=Q } (L2.zbB ["row","words"] [.str row]) H:=by
 unfold zhl
 simp_all only [zac]
 refine ⟨rfl,by decide +kernel,by omega,fun p hp=>?_⟩
 have lws:=ziW hr h10
 obtain ⟨w0,wr,ew⟩:=zli row
 unfold zgW at q
 rw [ew] at q lws ⊢
 have q0:¬ ((w0::wr).length=2∧(w0::wr).getD 0 ""=Str.ofString "web")→∀ H',zaQ H H'→Q .non H':=fun c H' s=>by
  have:=q H' s
  rw [if_neg c] at this
  exact this
 refine ⟨_,.inl (SqL.of zad),?_⟩
 rw [List.length_map]
 by_cases l2:(w0::wr).length=2
 ·rw [if_pos (by rw [l2];rfl)]
  refine ⟨_,SqL.of zad,.str w0,zbJ (j:=0) rfl,rfl,?_⟩
  by_cases e0:w0=Str.ofString "web"
  ·rw [if_pos (by rw [e0])]
   obtain ⟨w1,rfl⟩:=len1 (l:=wr) (Nat.succ.inj l2)
   refine ⟨_,SqL.of zad,.str w1,zbJ (j:=1) rfl,w1,rfl,lws w1 (by simp),fun H' s=>?_⟩
   have:=q H' ((zai hp _).trans s)
   rw [if_pos ⟨l2,e0⟩] at this
   exact this
  ·rw [if_neg (fun z=>e0 (V.str.inj z))]
   exact q0 (fun z=>e0 z.2) _ (zai hp _)
 ·rw [if_neg (fun z=>l2 (by omega))]
  exact q0 (fun z=>l2 z.1) _ (zai hp _)
theorem zif:zaP ["row","words"] ["row"] (zau zhB):=⟨rfl,rfl,rfl,by decide +kernel,rfl,by decide +kernel,by decide +kernel⟩
theorem zmY (T:Txt K mg base a):zcW P w K mg base CX0 2 a.f_many_in a.d_many_in ["row"] zlg:=by
 have G_number_in:=zdi (P:=P) (w:=w) (base:=base) T
 refine T.F_many_in.ok zif (fun vs H Q E h=>?_) (fun cdv A outer s H vs Q E hr h=>?_)
 ·obtain ⟨row,rfl,hR,h10,lr,q⟩:=h
  rfl
 obtain ⟨row,rfl,hR,h10,lr,q⟩:=h
 exact ⟨zhl K,(zaf (zaE (i:=1) zif.nd rfl (Or.inl rfl) (zdN PySem.F.plainAttrs_str PySem.F.slot_str_split PySem.F.type_str_split zeY (pv 0) (zaa zaR zae)))
 (zah (zaU (zdp (PW.pt (znV (zaI zeM (zax zaY rfl T.z_len PySem.boot_len (zaa (pv 1) zae)) zak (zaL _)) (zkA (zaI zeM (zcN zbT (pv 1) zak (fun _ _=>rfl)) zaR (zaL _))))) (zaG G_number_in (hr.mono (by decide)) rfl T.m_number_in T.F_number_in.kp T.b_number_in .nil zbs (zaa (zcN zbT (pv 1) zak (fun _ _=>rfl)) zae)) zbM)))),
  zm1 hR h10 lr q⟩
def zg4:Sp:=fun vs H Q _=>∃ (row:Str) (m:Int),vs=[.str row,.int m]∧Rn 4300 row∧10∉sgn row∧row.length≤90000∧(zja m row=none→∀ H',zaQ H H'→Q .non H')∧∀ r,zja m row=some r→∀ t H',zaQ H H'→H t=none→H' t=some (.tup (rdv r))→Q (.ref t) H'
def zft (K:PySem.W.Frag):TS :=
 (zaN (zbe (zaZ (zjF K) [] E0 (zab (tSl (zpJ K) (zac 2) (zfC (tC (.int 1))) zcm) zav)) (zat 3))
 (zbV (tIf (tOr (zaJ (tOp (fun x y H Q=>y=.non∧Q (.bl (decide (x=.non))) H) (zac 3) (tC .non))) (zfj (tB (zaZ zf6 [] E0 (zab (tCB (fun xs H Q=>∃ p ys,xs=[.ref p]∧((SqL K H p ys∧∀ l,H l=none→Q (.ref l) (upd H l (.tup ys)))∨(SqT K H p ys∧Q (.ref p) H))) (zab (zac 3) zav)) (zab (zac 1) zav)))))) (tC .non) (tCB (fun xs H Q=>∃ p ys,xs=[.ref p]∧((SqL K H p ys∧∀ l,H l=none→Q (.ref l) (upd H l (.tup ys)))∨(SqT K H p ys∧Q (.ref p) H))) (zab (zac 3) zav)))))
theorem zfc (K:PySem.W.Frag) (D:zb9) (σ:St) (H:Hp):zft K D σ H=(zaN (zbe (zaZ (zjF K) [] E0 (zab (tSl (zpJ K) (zac 2) (zfC (tC (.int 1))) zcm) zav)) (zat 3))
 (zbV (tIf (tOr (zaJ (tOp (fun x y H Q=>y=.non∧Q (.bl (decide (x=.non))) H) (zac 3) (tC .non))) (zfj (tB (zaZ zf6 [] E0 (zab (tCB (fun xs H Q=>∃ p ys,xs=[.ref p]∧((SqL K H p ys∧∀ l,H l=none→Q (.ref l) (upd H l (.tup ys)))∨(SqT K H p ys∧Q (.ref p) H))) (zab (zac 3) zav)) (zab (zac 1) zav)))))) (tC .non) (tCB (fun xs H Q=>∃ p ys,xs=[.ref p]∧((SqL K H p ys∧∀ l,H l=none→Q (.ref l) (upd H l (.tup ys)))∨(SqT K H p ys∧Q (.ref p) H))) (zab (zac 3) zav))))) D σ H:=rfl
def zfv (K:PySem.W.Frag):TS :=
 (zcb (tOr (zaJ (tOp rNe (tCB (fun xs H Q=>∃ p ys,xs=[.ref p]∧(SqL K H p ys∨SqT K H p ys)∧Q (.int ys.length) H) (zab (zac 2) zav)) (tC (.int 4)))) (zaJ (tOp rNe (tOp (zeA K) (zac 2) (tC (.int 0))) (tC (.str "road"))))) (zbV (tC .non)) za4)
theorem zfo (K:PySem.W.Frag) (D:zb9) (σ:St) (H:Hp):zfv K D σ H=(zcb (tOr (zaJ (tOp rNe (tCB (fun xs H Q=>∃ p ys,xs=[.ref p]∧(SqL K H p ys∨SqT K H p ys)∧Q (.int ys.length) H) (zab (zac 2) zav)) (tC (.int 4)))) (zaJ (tOp rNe (tOp (zeA K) (zac 2) (tC (.int 0))) (tC (.str "road"))))) (zbV (tC .non)) za4) D σ H:=rfl
def zhg (K:PySem.W.Frag):TS :=
 (zaN (zbe (tBM K "str" zf7 (zac 0) (zab (tC (.str " ")) zav)) (zat 2))
 (zaN (zei (zfv K))
 (zft K)))
theorem zmT {row:Str} {m:Int} (hr:Rn 4300 row) (h10:10∉sgn row) (lr:row.length≤90000) (q0:zja m row=none→∀ H',zaQ H H'→Q .non H') (q1:∀ r,zja m row=some r→∀ t H',zaQ H H'→H t=none→H' t=some (.tup (rdv r))→Q (.ref t) H'):zhg K { nx:=fun _ H'=>Q .non H',rt:=Q } (L2.zbB ["row","many","words","numbers"] [.str row,.int m]) H:=by
 unfold zhg
 simp_all only [zac]
 refine ⟨rfl,by decide +kernel,by omega,fun p hp=>?_⟩
 have lws:=ziW hr h10
 obtain ⟨w0,wr,ew⟩:=zli row
 unfold zja at q0 q1
 rw [ew] at q0 q1 lws ⊢
 have s1:zaQ H (L2.upd H p (.lst ((w0::wr).map V.str))):=zai hp _
 have h1:L2.upd H p (.lst ((w0::wr).map V.str)) p=some (.lst ((w0::wr).map V.str)):=zad
 generalize L2.upd H p (.lst ((w0::wr).map V.str))=H1 at s1 h1
 have bad:¬ ((w0::wr).length=4∧(w0::wr).getD 0 ""=Str.ofString "road")→Q .non H1:=fun c=>q0 (if_neg c) _ s1
 refine ⟨fun σ H'=>H'=H1∧wr.length=3∧w0=Str.ofString "road"∧σ=[some (.str row),some (.int m),some (.ref p),none],?_,?_⟩
 ·unfold zfv
  simp_all only [zfc,zfo,zac]
  refine ⟨_,.inl (SqL.of h1),?_⟩
  rw [List.length_map]
  by_cases l4:(w0::wr).length=4
  ·rw [if_neg (fun z=>z (by rw [l4];rfl))]
   refine ⟨_,SqL.of h1,.str w0,zbJ (j:=0) rfl,rfl,?_⟩
   by_cases e0:w0=Str.ofString "road"
   ·rw [if_neg (fun z=>z (by rw [e0]))]
    exact ⟨Nat.succ.inj l4,e0⟩
   ·rw [if_pos (fun z=>e0 (V.str.inj z))]
    exact bad (fun z=>e0 z.2)
  ·rw [if_pos (fun z=>l4 (by omega))]
   exact bad (fun z=>l4 z.1)
 ·rintro σ H2 ⟨rfl,l3,e0,rfl⟩
  rw [if_pos ⟨by rw [List.length_cons,l3],e0⟩] at q0 q1
  unfold zft
  simp_all only [zfc,zfo,zac]
  refine ⟨_,SqL.of h1,fun p2 hp2=>?_⟩
  rw [show znT ((w0::wr).map V.str) (some 1) none=wr.map V.str from znJ _ 1]
  have s2:zaQ H2 (L2.upd H2 p2 (.lst (wr.map V.str))):=zai hp2 _
  refine ⟨p2,wr,rfl,SqL.of zad,by omega,fun x hx=>lws x (by simp [hx]),fun hn H3 s3=>?_,fun ns hn D H3 s3 hD hD3=>?_⟩
  ·show ite _ _ _
   rw [if_pos rfl]
   exact q0 (by rw [show (w0::wr).drop 1=wr from rfl,hn];rfl) _ (s1.trans (s2.trans s3))
  ·show ite _ _ _
   rw [if_neg (fun z=>V.noConfusion z)]
   obtain ⟨x,y,l,rfl⟩:=len3 (l:=ns) (by rw [znP hn,l3])
   have s4:zaQ H H3:=s1.trans (s2.trans s3)
   have ed:(w0::wr).drop 1=wr:=rfl
   have er:(zdh ((w0::wr).drop 1)).bind (zwg m)=if GR m (x,y,l) then some (x,y,l) else none:=by rw [ed,hn];rfl
   rw [er] at q0 q1
   refine ⟨D,rfl,_,.inl ⟨SqL.of hD3,fun t ht=>⟨t,(x,y,l),m,rfl,zad,_,rfl,?_⟩⟩⟩
   by_cases g:GR m (x,y,l)
   ·rw [decide_eq_true g,if_neg (by decide)]
    rw [if_pos g] at q1
    refine ⟨D,rfl,_,.inl ⟨SqL.of ((zai ht _) _ _ hD3),fun t2 ht2=>?_⟩⟩
    exact q1 _ rfl t2 _ ((s4.add ht).add ht2) ((s4.add ht).free ht2) zad
   ·rw [decide_eq_false g,if_pos rfl]
    rw [if_neg g] at q0
    exact q0 rfl _ (s4.add ht)
theorem zgz:zaP ["row","many","words","numbers"] ["row","many"] (zau zhF):=⟨rfl,rfl,rfl,by decide +kernel,rfl,by decide +kernel,by decide +kernel⟩
theorem zm2 (T:Txt K mg base a):zcW P w K mg base CX0 4 a.f_road_in a.d_road_in ["row","many"] zg4:=by
 have G_is_road:=zim (P:=P) (w:=w) (base:=base) T
 have G_numbers_in:=zgc (P:=P) (w:=w) (base:=base) T
 refine T.F_road_in.ok zgz (fun vs H Q E h=>?_) (fun cdv A outer s H vs Q E hr h=>?_)
 ·obtain ⟨row,m,rfl,hR,h10,lr,q0,q1⟩:=h
  rfl
 obtain ⟨row,m,rfl,hR,h10,lr,q0,q1⟩:=h
 exact ⟨zhg K,(zaf (zaE (i:=2) zgz.nd rfl (Or.inl rfl) (zdN PySem.F.plainAttrs_str PySem.F.slot_str_split PySem.F.type_str_split zeY (pv 0) (zaa zaR zae)))
 (zaf (zbG (zb2 (PW.pt (zdO (zaI zfN (zax zaY rfl T.z_len PySem.boot_len (zaa (pv 2) zae)) zak (zaL _)) (zcV (zaI zfN (zcN zbT (pv 2) zak (fun _ _=>rfl)) zaR (zaL _))))) (zah (zaU zbM)) za0))
 (zaf (zaE (i:=3) zgz.nd rfl (Or.inl rfl) (zaG G_numbers_in (hr.mono (by decide)) rfl T.m_numbers_in T.F_numbers_in.kp T.b_numbers_in .nil zbs (zaa (zc1 zhC (pv 2) (zd9 zak) zd0) zae)))
 (zah (zaU (zdp (PW.pt (zdO (zaI zfk (pv 3) zbM (zaL _)) (zcV (zcX (zcz (zaG G_is_road (hr.mono (by decide)) rfl T.m_is_road T.F_is_road.kp T.b_is_road .nil zbs (zaa (zbA zd7 rfl T.z_tuple zcp (zaa (pv 3) zae)) (zaa (pv 1) zae)))))))) zbM (zbA zd7 rfl T.z_tuple zcp (zaa (pv 3) zae)))))))),
  zmT hR h10 lr q0 q1⟩
theorem zh9:zaP ["self","row"] ["self","row"] (zau zcy):=⟨rfl,rfl,rfl,by decide +kernel,rfl,by decide +kernel,by decide +kernel⟩
theorem zdF (T:Txt K mg base a):zcW P w K mg base CX0 1 a.i_NoText a.j_NoText ["self","row"] (zjj a.c_NoText "row"):=by
 refine T.I_NoText.ok zh9 (fun vs H Q E h=>?_) (fun cdv A outer s H vs Q E hr h=>?_)
 ·obtain ⟨y,v,rfl,hy,q⟩:=h
  rfl
 obtain ⟨y,v,rfl,hy,q⟩:=h
 exact ⟨_,(zaf (zco (zfD rfl T.m_HideError T.B (zaa (pv 0) (zaa (pv 1) zae)))) (zah (zkq (pv 0) (pv 1) rfl))),zkH T.X_NoText T.xa_NoText.na hy q⟩
theorem zhi (T:Txt K mg base a):zqE P w K mg base 1 a.i_NoText a.j_NoText ["self","row"] (zjj a.c_NoText "row"):=by
 refine T.I_NoText.okH zh9 (fun vs H Q E h=>?_) (fun cdv A outer s H vs Q E h=>?_)
 ·obtain ⟨y,v,rfl,hy,q⟩:=h
  rfl
 obtain ⟨y,v,rfl,hy,q⟩:=h
 exact ⟨_,(zaf (zco (zfD rfl T.m_HideError T.B (zaa (pv 0) (zaa (pv 1) zae)))) (zah (zkq (pv 0) (pv 1) rfl))),zkH T.X_NoText T.xa_NoText.na hy q⟩
def RdS (s:Rdd) (H:Hp) (xs:List V):Prop:=match s with
 | none=>xs=[]
 | some (m,rs)=>∃ ts:List Addr,xs=V.int m::ts.map V.ref∧Tps rdv H ts rs
theorem RdS.keep {s:Rdd} {H H':Hp} {xs:List V} (h:RdS s H xs) (k:∀ b ys,H b=some (.tup ys)→H' b=some (.tup ys)):RdS s H' xs:=by
 match s,h with
 | none,h=>exact h
 | some (m,rs),⟨ts,e,T⟩=>exact ⟨ts,e,T.1,fun i x r e1 e2=>k _ _ (T.2 i x r e1 e2)⟩
def zii (a:Ad):Sp:=fun vs H Q E=>∃ (text:Str) (q:Addr),vs=[.str text,.ref q]∧zsi zud zgq H q∧Rn 4300 text∧text.length≤80000 ∧
 (∀ m rs D ts H',zgl (Txt.split text (Str.ofString "\n"))=.inr (some (m,rs))→zaQ H H'→H D=none→H' D=some (.lst (V.int m::ts.map V.ref))→Tps rdv H' ts rs→rs.length+2=(Txt.split text (Str.ofString "\n")).length→Q (.ref D) H') ∧
 ∀ (k:Nat) dx H',zgl (Txt.split text (Str.ofString "\n"))=.inl k→zaQ H H'→H dx=none→H' dx=some (.xd [("row",.int k)])→E (.ref a.c_NoText) (some dx) H'
def zeb (K:PySem.W.Frag) (a:Ad) (E:XK):TS :=
 (zcb (tOr (zfj (zsz K (zac 3))) (zaJ (tOp rNe (tOp (zeA K) (zac 2) (tUn (rU fun i=>.int (-i)) (tC (.int 1)))) (tC (.str ""))))) (zbY a.c_NoText "row" E (zab (tCB (fun xs H Q=>∃ p ys,xs=[.ref p]∧(SqL K H p ys∨SqT K H p ys)∧Q (.int ys.length) H) (zab (zac 3) zav)) zav)) za4)
theorem zck (K:PySem.W.Frag) (a:Ad) (E:XK) (D:zb9) (σ:St) (H:Hp):zeb K a E D σ H=(zcb (tOr (zfj (zsz K (zac 3))) (zaJ (tOp rNe (tOp (zeA K) (zac 2) (tUn (rU fun i=>.int (-i)) (tC (.int 1)))) (tC (.str ""))))) (zbY a.c_NoText "row" E (zab (tCB (fun xs H Q=>∃ p ys,xs=[.ref p]∧(SqL K H p ys∨SqT K H p ys)∧Q (.int ys.length) H) (zab (zac 3) zav)) zav)) za4) D σ H:=rfl
def zc3 (a:Ad) (E:XK):TS :=
 (zcb (zaJ (tOp (fun x y H Q=>y=.non∧Q (.bl (decide (x=.non))) H) (zac 6) (tC .non))) (zbY a.c_NoText "row" E (zab (zac 4) zav)) za4)
theorem zcl (a:Ad) (E:XK) (D:zb9) (σ:St) (H:Hp):zc3 a E D σ H=(zcb (zaJ (tOp (fun x y H Q=>y=.non∧Q (.bl (decide (x=.non))) H) (zac 6) (tC .non))) (zbY a.c_NoText "row" E (zab (zac 4) zav)) za4) D σ H:=rfl
def zed (K:PySem.W.Frag) (a:Ad) (E:XK):TS :=
 (zaN (zbe (zlP zud zgq 1 (tIf (zsz K (zac 1)) (zaZ zg4 [] E0 (zab (zac 0) (zab (tOp (zeA K) (zac 1) (tC (.int 0))) zav))) (zaZ zlg [] E0 (zab (zac 0) zav))) (zab (zac 5) (zab (zac 3) zav))) (zat 6))
 (zaN (zei (zc3 a E))
 (zc2 (tBM K "list" zbK (zac 3) (zab (zac 6) zav)))))
theorem zbW (K:PySem.W.Frag) (a:Ad) (E:XK) (D:zb9) (σ:St) (H:Hp):zed K a E D σ H=(zaN (zbe (zlP zud zgq 1 (tIf (zsz K (zac 1)) (zaZ zg4 [] E0 (zab (zac 0) (zab (tOp (zeA K) (zac 1) (tC (.int 0))) zav))) (zaZ zlg [] E0 (zab (zac 0) zav))) (zab (zac 5) (zab (zac 3) zav))) (zat 6))
 (zaN (zei (zc3 a E))
 (zc2 (tBM K "list" zbK (zac 3) (zab (zac 6) zav))))) D σ H:=rfl
def zfL (K:PySem.W.Frag) (a:Ad) (E:XK):TS :=
 (zaN (zbe (tBM K "str" zf7 (zac 0) (zab (tC (.str "\n")) zav)) (zat 2))
 (zaN (zbe (zdM zav) (zat 3))
 (zaN (zg3 (zm4 K (zab (tSl (zpJ K) (zac 2) zcm (zfC (tUn (rU fun i=>.int (-i)) (tC (.int 1))))) zav)) (zic K 2 (zbI (zat 4) (zbI (zat 5) zh4)))
 (zed K a E))
 (zaN (zei (zeb K a E))
 (zbV (zac 3))))))
theorem zov {xs:List V} {v:V} {n:Nat} (l:xs.length=n+1) (h:xs[n]?=some v):atI xs (-1)=some v:=by
 have e:xs=xs.dropLast++[v]:=by
  have ne:xs≠[]:=fun z=>by rw [z] at l;cases l
  have:=List.dropLast_concat_getLast ne
  rw [List.getLast_eq_getElem] at this
  have hv:xs[xs.length - 1]'(by omega)=v:=by
   have h2:xs[xs.length - 1]?=some v:=by rw [l];exact h
   exact (List.getElem?_eq_some_iff.mp h2).2
  rw [hv] at this
  exact this.symm
 rw [e]
 exact zq7 _ _
theorem zlo (xs:List V):znT xs none (some (-1))=xs.dropLast:=by
 unfold znT
 show List.take (HT.sIx xs.length xs.length (some (-1)) - 0) (List.drop 0 xs)=_
 rw [List.drop_zero,Nat.sub_zero,List.dropLast_eq_take]
 have:HT.sIx xs.length xs.length (some (-1))=xs.length - 1:=by
  show (if (-1:Int)<0 then ((-1:Int)+(xs.length:Int)).toNat else min (-1:Int).toNat xs.length)=_
  rw [if_pos (by decide)]
  omega
 rw [this]
theorem zta {R:VK} {s:Rdd} {r:Str} {xs:List V} {rd:Addr} (hx:H rd=some (.lst xs)) (sx:RdS s H xs) (k1:Rn 4300 r) (k2:10∉sgn r) (k3:r.length≤90000)
  (hR:∀ v H3,zaQ H H3→(zfA s r=none→v=.non)→(∀ s',zfA s r=some s'→v≠.non∧s'≠none∧RdS s' H3 (xs++[v]))→R v H3) :
  ∃ k,zuh K (.ref rd) H k∧if k=true then ∃ x,SqL K H rd x∧∃ x_1,atI x 0=some x_1∧zg4 [.str r,x_1] H R E0 else zlg [.str r] H R E0:=by
 match s,sx with
 | none,sx =>
  have sx:xs=[]:=sx
  subst sx
  refine ⟨_,.inl ⟨[],SqL.of hx,rfl⟩,?_⟩
  rw [if_neg (show ¬ (![].isEmpty)=true from fun z=>Bool.noConfusion z)]
  refine ⟨r,rfl,k1,k2,k3,fun H3 s3=>hR _ H3 s3 (fun h=>?_) (fun s' h=>?_)⟩
  ·cases hm:zgW r with
   | none=>rfl
   | some m =>
    have h:(zgW r).map (fun m=>some (m,([]:List zeB)))=none:=h
    rw [hm] at h
    cases h
  ·have h:(zgW r).map (fun m=>some (m,([]:List zeB)))=some s':=h
   cases hm:zgW r with
   | none=>rw [hm] at h;cases h
   | some m =>
    rw [hm] at h
    cases h
    exact ⟨fun z=>V.noConfusion z,(fun z=>by cases z),[],rfl,.nil⟩
 | some (m,rs),⟨ts,e,T⟩ =>
  subst e
  refine ⟨_,.inl ⟨_,SqL.of hx,rfl⟩,?_⟩
  rw [if_pos (show (!(V.int m::ts.map V.ref).isEmpty)=true from rfl)]
  refine ⟨_,SqL.of hx,.int m,zbJ (j:=0) rfl,r,m,rfl,k1,k2,k3,fun hn H3 s3=>hR _ H3 s3 (fun _=>rfl) (fun s' h=>?_),fun r' hr' t H3 s3 ht ht3=>hR _ H3 s3 (fun h=>?_) (fun s' h=>?_)⟩
  ·have h:(zja m r).map (fun r=>some (m,rs++[r]))=some s':=h
   rw [hn] at h
   cases h
  ·have h:(zja m r).map (fun r=>some (m,rs++[r]))=none:=h
   rw [hr'] at h
   cases h
  ·have h:(zja m r).map (fun r=>some (m,rs++[r]))=some s':=h
   rw [hr'] at h
   cases h
   exact ⟨fun z=>V.noConfusion z,(fun z=>by cases z),ts++[t],by rw [List.map_append];rfl,T.put (fun x u e=>s3 _ _ e) ht3⟩
theorem zjn {E:XK} {text:Str} {q:Addr} (L:zsi zud zgq H q) (hr:Rn 4300 text) (lt:text.length≤80000)
  (q1:∀ m rs D ts H',zgl (Txt.split text (Str.ofString "\n"))=.inr (some (m,rs))→zaQ H H'→H D=none→H' D=some (.lst (V.int m::ts.map V.ref))→Tps rdv H' ts rs→rs.length+2=(Txt.split text (Str.ofString "\n")).length→Q (.ref D) H')
  (q2:∀ (k:Nat) dx H',zgl (Txt.split text (Str.ofString "\n"))=.inl k→zaQ H H'→H dx=none→H' dx=some (.xd [("row",.int k)])→E (.ref a.c_NoText) (some dx) H'):zfL K a E { nx:=fun _ H'=>Q .non H',rt:=Q } (L2.zbB ["text","read_row","rows","read","k","row","thing"] [.str text,.ref q]) H:=by
 unfold zfL
 simp_all only [zac]
 refine ⟨rfl,by decide +kernel,by omega,fun p hp=>⟨by decide,fun rd hrd=>?_⟩⟩
 generalize eR:Txt.split text (Str.ofString "\n")=rows at *
 have rne:rows≠[]:=by rw [← eR];exact zf3 _ _
 have rln:rows.length≤80001:=by
  rw [← eR,zhx]
  have:=zeC text 10
  omega
 have rok:∀ r∈rows,Rn 4300 r∧10∉sgn r∧r.length≤90000:=fun r h=>by
  rw [← eR,zhx] at h
  exact ⟨zix hr r h,StrLaws.split_free text 10 r h,Nat.le_trans (zeT text 10 r h) (by omega)⟩
 have npr:p≠rd:=fun z=>by rw [z,zad] at hrd;cases hrd
 refine ⟨_,SqL.of (by rw [zaj npr];exact zad),fun sl hsl=>⟨⟨_,SqL.of zad⟩,?_⟩⟩
 rw [zlo]
 have nsr:sl≠rd:=fun z=>by rw [z,zad] at hsl;cases hsl
 have nsp:sl≠p:=fun z=>by rw [z,zaj npr,zad] at hsl;cases hsl
 generalize eH:L2.upd (L2.upd (L2.upd H p (.lst (rows.map V.str))) rd (.lst [])) sl (.lst (rows.map V.str).dropLast)=H0
 have s0:zaQ H H0:=by rw [← eH];exact ((zai hp _).add hrd).add hsl
 have h0p:H0 p=some (.lst (rows.map V.str)):=by rw [← eH,zaj nsp.symm,zaj npr,zad]
 have h0s:H0 sl=some (.lst (rows.map V.str).dropLast):=by rw [← eH,zad]
 have h0r:H0 rd=some (.lst []):=by rw [← eH,zaj nsr.symm,zad]
 have hHr:H rd=none:=(zai hp _).free hrd
 have ld:(rows.map V.str).dropLast.length=rows.length - 1:=by rw [List.length_dropLast,List.length_map]
 have edl:(rows.map V.str).dropLast=rows.dropLast.map V.str:=List.map_dropLast.symm
 refine zhk (xs:=(rows.map V.str).dropLast) (fun i σ H'=>Bar rd H0 H'∧i≤rows.length - 1∧(∃ (s:Rdd) (xs:List V),H' rd=some (.lst xs)∧xs.length=i∧RdS s H' xs∧(i≠0→s≠none)∧zkZ none 0 rows.dropLast=zkZ s i (rows.dropLast.drop i))∧∃ x4 x5 x6,σ=[some (.str text),some (.ref q),some (.ref p),some (.ref rd),x4,x5,x6]) ⟨fun _ _ _ e=>e,Nat.zero_le _,⟨none,[],h0r,rfl,rfl,fun z=>absurd rfl z,rfl⟩,_,_,_,rfl⟩ ?_ ?_ ?_
 ·rintro i σ H' _ ⟨b,_⟩
  exact SqL.of (b _ _ nsr h0s)
 ·rintro i x t σ H' e ⟨b,hi,⟨s,xs,hx,lx,sx,sn,run⟩,x4,x5,x6,rfl⟩ ht
  rw [edl] at e
  obtain ⟨r,er,rfl⟩:=zeh e
  have li:=(List.getElem?_eq_some_iff.mp e).1
  rw [List.length_map,List.length_dropLast] at li
  obtain ⟨k1,k2,k3⟩:=rok r (List.dropLast_subset _ (zdd er))
  unfold zed
  simp_all only [zbW,zac]
  have ntr:t≠rd:=fun z=>by rw [z,hx] at ht;cases ht
  have sH':zaQ H H':=fun b' o e=>b _ _ (zaz e hHr) (s0 _ _ e)
  have s1:zaQ H' (L2.upd H' t (.tup [.int i,.str r])):=zai ht _
  have h1t:L2.upd H' t (.tup [.int i,.str r]) t=some (.tup [.int i,.str r]):=zad
  generalize L2.upd H' t (.tup [.int i,.str r])=H1 at s1 h1t
  have hx1:=s1 _ _ hx
  refine ⟨_,SqT.of h1t,rfl,_,_,rfl,_,_,rfl,rfl,L.same (sH'.trans s1),?_⟩
  refine zta hx1 (sx.keep fun b ys e=>s1 _ _ e) k1 k2 k3 fun v H3 s3 en es=>?_
  have s4:zaQ H' H3:=s1.trans s3
  refine ⟨fun σ H4=>H4=H3∧v≠.non∧σ=[some (.str text),some (.ref q),some (.ref p),some (.ref rd),some (.int i),some (.str r),some v],?_,?_⟩
  ·unfold zc3
   simp_all only [zck,zcl,zbW,zac]
   by_cases hv:v=.non
   ·rw [if_pos hv]
    intro dx hdx
    refine q2 i dx _ ?_ ((sH'.trans s4).add hdx) ((sH'.trans s4).free hdx) zad
    have en:zfA s r=none:=by
     cases h:zfA s r with
     | none=>rfl
     | some t=>exact absurd hv (es t h).1
    exact zlV (run.trans (zp1 er en))
   ·rw [if_neg hv]
    exact hv
  ·rintro σ H4 ⟨rfl,hv,rfl⟩
   simp_all only [zck,zcl,zbW,zac]
   have hx4:H4 rd=some (.lst xs):=s4 _ _ hx
   obtain ⟨s',hs'⟩:∃ s',zfA s r=some s':=by
    cases h:zfA s r with
    | none=>exact absurd (en h) hv
    | some s'=>exact ⟨s',rfl⟩
   have bb:Bar rd H0 (L2.upd H4 rd (.lst (xs++[v]))):=fun b' o n e=>by
    rw [zaj n]
    exact s4 _ _ (b b' o n e)
   refine ⟨.inl ⟨rfl,xs,SqL.of hx4⟩,xs,hx4,zc9 (by omega),bb,by omega,s',xs++[v],zad,by rw [List.length_append,lx];rfl,(es s' hs').2.2.keep fun b' ys e'=>?_,fun _=>(es s' hs').2.1,run.trans (zs0 er hs')⟩
   rw [zaj fun z=>by rw [z,hx4] at e';cases e']
   exact e'
 ·rintro σ H' ⟨b,_,⟨s,xs,hx,lx,sx,sn,run⟩,x4,x5,x6,rfl⟩
  rw [ld] at lx sn run
  have sH':zaQ H H':=fun b' o e=>b _ _ (zaz e hHr) (s0 _ _ e)
  rw [zqh (by rw [List.length_dropLast];exact Nat.le_refl _)] at run
  have eo:=zlN run
  obtain ⟨r0,hr0⟩:∃ r0,rows[rows.length - 1]?=some r0:=⟨_,List.getElem?_eq_getElem (by have:=List.length_pos_iff.mpr rne;omega)⟩
  have hl0:rows.getLastD ""=r0:=by
   rw [List.getLastD_eq_getLast?,List.getLast?_eq_getElem?,hr0]
   rfl
  have hat:atI (rows.map V.str) (-1)=some (.str r0):=zov (n:=rows.length - 1) (by rw [List.length_map];have:=List.length_pos_iff.mpr rne;omega) (by rw [List.getElem?_map,hr0];rfl)
  have hdl:rows.dropLast=[]↔rows.length - 1=0:=by rw [← List.length_eq_zero_iff,List.length_dropLast]
  refine ⟨fun σ H4=>H4=H'∧rows.length - 1≠0∧r0=Str.ofString ""∧σ=[some (.str text),some (.ref q),some (.ref p),some (.ref rd),x4,x5,x6],?_,?_⟩
  ·unfold zeb
   simp_all only [zck,zcl,zbW,zac]
   have bad:zgl rows=.inl (rows.length - 1)→∃ x,(SqL K H' rd x∨SqT K H' rd x)∧∀ dx,H' dx=none→E (.ref a.c_NoText) (some dx) (L2.upd H' dx (.xd [(Str.ofString "row",.int x.length)])):=fun e=>⟨_,.inl (SqL.of hx),fun dx hdx=>q2 _ dx _ (by rw [e,lx]) (sH'.add hdx) (sH'.free hdx) zad⟩
   refine ⟨_,.inl ⟨xs,SqL.of hx,rfl⟩,?_⟩
   cases hxs:xs with
   | nil =>
    rw [hxs] at lx
    rw [if_pos (show (!([]:List V).isEmpty)=false from rfl)]
    exact bad (eo.trans (if_pos (.inl (hdl.mpr lx.symm))))
   | cons x0 xt =>
    rw [if_neg (show ¬ (!(x0::xt).isEmpty)=false from fun z=>Bool.noConfusion z)]
    have l0:rows.length - 1≠0:=by rw [← lx,hxs,List.length_cons];omega
    refine ⟨_,SqL.of (b _ _ npr h0p),_,hat,rfl,?_⟩
    by_cases he:r0=Str.ofString ""
    ·rw [if_neg (fun z=>z (by rw [he]))]
     exact ⟨l0,he⟩
    ·rw [if_pos (fun z=>he (V.str.inj z))]
     exact bad (eo.trans (if_pos (.inr (by rw [hl0];exact he))))
  ·rintro σ H4 ⟨rfl,hz,he,rfl⟩
   simp_all only [zck,zcl,zbW,zac]
   match s,sx,eo,sn hz with
   | none,_,_,z=>exact absurd rfl z
   | some (m,rs),⟨ts,e,T⟩,eo,_ =>
    rw [e,List.length_cons,List.length_map,T.1] at lx
    refine q1 m rs rd ts _ (eo.trans (if_neg ?_)) sH' hHr (by rw [← e];exact hx) T (by omega)
    rw [hdl,hl0]
    rintro (z | z)
    ·exact hz z
    ·exact z he
theorem zbd:zaP ["text","read_row","rows","read","k","row","thing"] ["text","read_row"] (zau zfu):=⟨rfl,rfl,rfl,by decide +kernel,rfl,by decide +kernel,by decide +kernel⟩
theorem zjP (T:Txt K mg base a):zcW P w K mg base (CXV P w) 6 a.f_read_rows a.d_read_rows ["text","read_row"] (zii a):=by
 have G_many_in:=zmY (P:=P) (w:=w) (base:=base) T
 have G_road_in:=zm2 (P:=P) (w:=w) (base:=base) T
 have G__NoText:=zdF (P:=P) (w:=w) (base:=base) T
 refine T.F_read_rows.okV zbd (fun vs H Q E h=>?_) (fun cdv A outer s H vs Q E hr h=>?_)
 ·obtain ⟨text,q,rfl,L,hR,lt,q1,q2⟩:=h
  rfl
 obtain ⟨text,q,rfl,L,hR,lt,q1,q2⟩:=h
 exact ⟨zfL K a E,(zaf (zaE (i:=2) zbd.nd rfl (Or.inl rfl) (zdN PySem.F.plainAttrs_str PySem.F.slot_str_split PySem.F.type_str_split zeY (pv 0) (zaa zaR zae)))
 (zaf (zaE (i:=3) zbd.nd rfl (Or.inl rfl) (zbX zae))
 (zaf (zdo PassesOwn.leaving rfl (zla rfl T.z_enumerate (zaa (zc1 zhC (pv 2) zd0 (zd9 (zjs zgJ zak))) zae)) (zef rfl (za2 (zaT (i:=4) zbd.nd rfl (Or.inl rfl)) (za2 (zaT (i:=5) zbd.nd rfl (Or.inl rfl)) zcT)))
 (zaf (zaE (i:=6) zbd.nd rfl (Or.inl rfl) (zqx (i:=1) (k:=4) rfl (Or.inl rfl) (hr.mono (by decide)) (zaa (pv 5) (zaa (pv 3) zae)) (fun _ _ _ _ _ _=>rfl) (by decide) rfl rfl rfl rfl rfl (by decide +kernel) (by decide +kernel) (fun _ _ _ _ _ _ hr=>(zdp (ziv (pv 1) (fun _=>rfl)) (zaG G_road_in (hr.mono (by decide)) rfl T.m_road_in T.F_road_in.kp T.b_road_in .nil zbs (zaa (pv 0) (zaa (zcN zbT (pv 1) zak (fun _ _=>rfl)) zae))) (zaG G_many_in (hr.mono (by decide)) rfl T.m_many_in T.F_many_in.kp T.b_many_in .nil zbs (zaa (pv 0) zae))))))
 (zaf (zbG (zb2 (zaI zfk (pv 6) zbM (zaL _)) (zah (zcL T.X_NoText G__NoText (hr.mono (by decide)) rfl T.m_NoText T.bi_NoText zbs rfl zgi (zaa (pv 4) zae))) za0))
 (zah (zco (zdN PySem.F.plainAttrs_list PySem.F.slot_list_append PySem.F.type_list_append zda (pv 3) (zaa (pv 6) zae)))))))
 (zaf (zbG (zb2 (PW.pt (zdO (zcX (ziv (pv 3) (fun _=>rfl))) (zcV (zaI zfN (zcN zbT (pv 2) (zjs zgJ zak) (fun _ _=>rfl)) zaR (zaL _))))) (zah (zcL T.X_NoText G__NoText (hr.mono (by decide)) rfl T.m_NoText T.bi_NoText zbs rfl zgi (zaa (zax zaY rfl T.z_len PySem.boot_len (zaa (pv 3) zae)) zae))) za0))
 (zah (zaU (pv 3))))))),
  zjn L hR lt q1 q2⟩
def zkb (a:Ad):Sp:=fun vs H Q E=>∃ text:Str,vs=[.str text]∧LT H a.p_lam∧Rn 4300 text∧text.length≤80000 ∧
 (∀ m rs w rl ts H',zn5 (Txt.split text (Str.ofString "\n"))=.inr (m,rs)→Bar a.p_lam H H'→LT H' a.p_lam→H w=none→H rl=none→zr9 H' w rl ts m rs→Q (.ref w) H') ∧
 ∀ (k:Nat) dx H',zn5 (Txt.split text (Str.ofString "\n"))=.inl k→Bar a.p_lam H H'→LT H' a.p_lam→H dx=none→H' dx=some (.xd [("row",.int k)])→E (.ref a.c_NoText) (some dx) H'
def zgD (K:PySem.W.Frag) (a:Ad) (E:XK):TS :=
 (zaN (zbe (znQ a.p_lam zud zr6 zgq (zii a) E (zac 0)) (zat 1))
 (zaN (zbe (zgZ (zab (tOp (zeA K) (zac 1) (tC (.int 0))) (zab (tSl (zpJ K) (zac 1) (zfC (tC (.int 1))) zcm) zav))) (zat 2))
 (zaN (ztO K (fun E'=>(zc2 (zin (zh5 a) [] E' (zab (zac 2) zav)))) (.ref a.c_NoWeb) a.c_NoText "row" E (zab (tCB (fun xs H Q=>∃ p ys,xs=[.ref p]∧(SqL K H p ys∨SqT K H p ys)∧Q (.int ys.length) H) (zab (zac 1) zav)) zav))
 (zbV (zac 2)))))
theorem znS {rows:List Str} {k:Nat} (h:zgl rows=.inl k):zn5 rows=.inl k:=by
 unfold zn5
 rw [h]
theorem zvk {rows:List Str} {m:Int} {rs:List zeB} (h:zgl rows=.inr (some (m,rs))) (g:zue m rs):zn5 rows=.inr (m,rs):=by
 unfold zn5
 rw [h]
 exact if_pos g
theorem zoF {rows:List Str} {m:Int} {rs:List zeB} (h:zgl rows=.inr (some (m,rs))) (g:¬ zue m rs):zn5 rows=.inl (rows.length - 1):=by
 unfold zn5
 rw [h]
 exact if_neg g
theorem zkw {E:XK} {text:Str} (su:PySem.W.subIn K (.ref a.c_NoWeb) (.ref a.c_NoWeb)=some true) (hP:LT H a.p_lam) (hr:Rn 4300 text) (lt:text.length≤80000)
  (q1:∀ m rs w rl ts H',zn5 (Txt.split text (Str.ofString "\n"))=.inr (m,rs)→Bar a.p_lam H H'→LT H' a.p_lam→H w=none→H rl=none→zr9 H' w rl ts m rs→Q (.ref w) H')
  (q2:∀ (k:Nat) dx H',zn5 (Txt.split text (Str.ofString "\n"))=.inl k→Bar a.p_lam H H'→LT H' a.p_lam→H dx=none→H' dx=some (.xd [("row",.int k)])→E (.ref a.c_NoText) (some dx) H'):zgD K a E { nx:=fun _ H'=>Q .non H',rt:=Q } (L2.zbB ["text","read","web"] [.str text]) H:=by
 unfold zgD
 simp_all only [zac]
 refine ⟨hP,fun qf H3 hb hl3 hq L=>?_⟩
 obtain ⟨ps3,hp3⟩:=hl3.tbl
 have new3:∀ b,H3 b=none→H b=none:=fun b e=>by
  have nP:b≠a.p_lam:=fun z=>by rw [z,hp3] at e;cases e
  cases h:H b with
  | none=>rfl
  | some o=>rw [hb b o nP h] at e;cases e
 have bar:∀ H',zaQ H3 H'→Bar a.p_lam H H':=fun H' s b o n e=>s _ _ (hb b o n e)
 have l80:(Txt.split text (Str.ofString "\n")).length≤80001:=by
  rw [zhx]
  have:=zeC text 10
  omega
 refine ⟨text,qf,rfl,L,hr,lt,fun m rs D ts H4 eo s4 hD hD4 T lrs=>?_,fun k dx H4 eo s4 hdx h4=>q2 k dx H4 (znS eo) (bar H4 s4) (hl3.same s4) (new3 dx hdx) h4⟩
 refine ⟨D,rfl,_,SqL.of hD4,.int m,zbJ (j:=0) rfl,D,rfl,_,SqL.of hD4,fun rl hrl=>⟨by decide,fun w hw=>?_⟩⟩
 rw [show znT (V.int m::ts.map V.ref) (some 1) none=ts.map V.ref from znJ _ 1] at hw ⊢
 have nw:rl≠w:=fun z=>by rw [← z,zad] at hw;cases hw
 have s5:zaQ H4 (L2.upd (L2.upd H4 rl (.lst (ts.map V.ref))) w (.tup [.int m,.ref rl])):=(zai hrl _).add hw
 have W:zr9 (L2.upd (L2.upd H4 rl (.lst (ts.map V.ref))) w (.tup [.int m,.ref rl])) w rl ts m rs:=⟨zad,by rw [zaj nw,zad],T.same s5⟩
 have nwH:H4 w=none:=by rw [zaj nw.symm] at hw;exact hw
 generalize L2.upd (L2.upd H4 rl (.lst (ts.map V.ref))) w (.tup [.int m,.ref rl])=H5 at s5 W
 refine ⟨w,rl,ts,m,rs,rfl,W,by omega,fun g H6 s6=>?_,fun d hd dx H6 s6 hdx=>⟨su,?_⟩⟩
 ·exact q1 m rs w rl ts H6 (zvk eo g) (bar H6 (s4.trans (s5.trans s6))) (hl3.same (s4.trans (s5.trans s6))) (new3 w (s4.free nwH)) (new3 rl (s4.free hrl)) (W.same s6)
 ·have s7:=(s4.trans (s5.trans s6)).add hdx (o:=HO.xd [("road",V.int d)])
  have hD7:=((s5.trans s6).add hdx (o:=HO.xd [("road",V.int d)])) _ _ hD4
  generalize L2.upd H6 dx (HO.xd [("road",V.int d)])=H7 at s7 hD7
  have e7:(V.int m::ts.map V.ref).length=(Txt.split text (Str.ofString "\n")).length - 1:=by rw [List.length_cons,List.length_map,T.1];omega
  have fin:∀ dx2,H7 dx2=none→E (.ref a.c_NoText) (some dx2) (L2.upd H7 dx2 (HO.xd [(Str.ofString "row",V.int (V.int m::ts.map V.ref).length)])):=fun dx2 hdx2=>q2 _ dx2 _ (zoF eo fun g=>hd.not g) (bar _ (s7.add hdx2)) (hl3.same (s7.add hdx2)) (new3 dx2 (s7.free hdx2)) (by rw [zad,e7])
  first | exact ⟨_,.inl (SqL.of hD7),fin⟩ | exact ⟨D,rfl,_,.inl (SqL.of hD7),fin⟩ | exact ⟨_,rfl,D,rfl,_,.inl (SqL.of hD7),_,rfl,fin⟩
theorem zfw:zaP ["text","read","web"] ["text"] (zau zeS):=⟨rfl,rfl,rfl,by decide +kernel,rfl,by decide +kernel,by decide +kernel⟩
theorem zkr (T:Txt K mg base a):zcW P w K mg base (CXV P w) 7 a.f_read_web a.d_read_web ["text"] (zkb a):=by
 have G_look_web:=zkJ (P:=P) (w:=w) (base:=base) T
 have G_read_rows:=zjP (P:=P) (w:=w) (base:=base) T
 have GH_NoText:=zhi (P:=P) (w:=w) (base:=base) T
 refine T.F_read_web.okV zfw (fun vs H Q E h=>?_) (fun A outer s H vs Q E hr h=>?_)
 ·obtain ⟨text,rfl,hP,hR,lt,q1,q2⟩:=h
  rfl
 obtain ⟨text,rfl,hP,hR,lt,q1,q2⟩:=h
 exact ⟨zgD K a E,(zaf (zaE (i:=1) zfw.nd rfl (Or.inl rfl) (zqm G_read_rows (hr.mono (by decide)) rfl T.m_read_rows T.F_read_rows.kp T.b_read_rows zsI (pv 0) rfl T.hC T.hB rfl rfl rfl rfl))
 (zaf (zaE (i:=2) zfw.nd rfl (Or.inl rfl) (zdj (zaa (zcN zbT (pv 1) zak (fun _ _=>rfl)) (zaa (zc1 zhC (pv 1) (zd9 zak) zd0) zae))))
 (zaf (zqy T.m_NoWeb T.X_NoWeb rfl T.X_NoText GH_NoText (hr.mono (by decide)) rfl T.m_NoText T.bi_NoText zsH rfl rfl rfl (fun _=>PassesOwnAt.leaving) (fun pins E'=>(zah (zco (zg0 G_look_web (hr.mono (by decide)) rfl T.m_look_web T.F_look_web.kp T.b_look_web .nil zuP (zaa (pv 2) zae)))))
 (fun ea=>(zaa (zax zaY rfl T.z_len PySem.boot_len (zaa (pv 1) zae)) zae)))
 (zah (zaU (pv 2)))))),
  zkw T.su_NoWeb hP hR lt q1 q2⟩
def zhh (a:Ad):Sp:=fun vs H Q E=>∃ (text:Str) (q c:Addr) (sp:Bool),vs=[.str text,.ref q]∧ztg zmj zeU "kind" H q c (.str (kdS sp))∧Rn 4300 text∧text.length≤80000 ∧
 (∀ ts v H',zie sp (Txt.split text "\n")=.inr ts→zaQ H H'→Sh (NwH H H') (.lst ts) v→Q v H') ∧
 ∀ (k:Nat) dx H',zie sp (Txt.split text "\n")=.inl k→zaQ H H'→H dx=none→H' dx=some (.xd [("row",.int k)])→E (.ref a.c_NoText) (some dx) H'
def zfe (K:PySem.W.Frag) (a:Ad) (E:XK):TS :=
 (zcb (tOr (zfj (zsz K (zac 3))) (zaJ (tOp rNe (tOp (zeA K) (zac 2) (tUn (rU fun i=>.int (-i)) (tC (.int 1)))) (tC (.str ""))))) (zbY a.c_NoText "row" E (zab (tCB (fun xs H Q=>∃ p ys,xs=[.ref p]∧(SqL K H p ys∨SqT K H p ys)∧Q (.int ys.length) H) (zab (zac 3) zav)) zav)) za4)
theorem zby (K:PySem.W.Frag) (a:Ad) (E:XK) (D:zb9) (σ:St) (H:Hp):zfe K a E D σ H=(zcb (tOr (zfj (zsz K (zac 3))) (zaJ (tOp rNe (tOp (zeA K) (zac 2) (tUn (rU fun i=>.int (-i)) (tC (.int 1)))) (tC (.str ""))))) (zbY a.c_NoText "row" E (zab (tCB (fun xs H Q=>∃ p ys,xs=[.ref p]∧(SqL K H p ys∨SqT K H p ys)∧Q (.int ys.length) H) (zab (zac 3) zav)) zav)) za4) D σ H:=rfl
def zcK (a:Ad) (E:XK):TS :=
 (zcb (zaJ (tOp (fun x y H Q=>y=.non∧Q (.bl (decide (x=.non))) H) (zac 6) (tC .non))) (zbY a.c_NoText "row" E (zab (zac 4) zav)) za4)
theorem zbu (a:Ad) (E:XK) (D:zb9) (σ:St) (H:Hp):zcK a E D σ H=(zcb (zaJ (tOp (fun x y H Q=>y=.non∧Q (.bl (decide (x=.non))) H) (zac 6) (tC .non))) (zbY a.c_NoText "row" E (zab (zac 4) zav)) za4) D σ H:=rfl
def zdE (K:PySem.W.Frag) (a:Ad) (E:XK):TS :=
 (zaN (zbe (zlD zmj zeU "kind" 1 (zaZ zkT [] E0 (zab (zac 0) (zab (zac 2) zav))) (zab (zac 5) (zab (zac 3) zav))) (zat 6))
 (zaN (zei (zcK a E))
 (zc2 (tBM K "list" zbK (zac 3) (zab (zac 6) zav)))))
theorem zbv (K:PySem.W.Frag) (a:Ad) (E:XK) (D:zb9) (σ:St) (H:Hp):zdE K a E D σ H=(zaN (zbe (zlD zmj zeU "kind" 1 (zaZ zkT [] E0 (zab (zac 0) (zab (zac 2) zav))) (zab (zac 5) (zab (zac 3) zav))) (zat 6))
 (zaN (zei (zcK a E))
 (zc2 (tBM K "list" zbK (zac 3) (zab (zac 6) zav))))) D σ H:=rfl
def zeG (K:PySem.W.Frag) (a:Ad) (E:XK):TS :=
 (zaN (zbe (tBM K "str" zf7 (zac 0) (zab (tC (.str "\n")) zav)) (zat 2))
 (zaN (zbe (zdM zav) (zat 3))
 (zaN (zg3 (zm4 K (zab (tSl (zpJ K) (zac 2) zcm (zfC (tUn (rU fun i=>.int (-i)) (tC (.int 1))))) zav)) (zic K 2 (zbI (zat 4) (zbI (zat 5) zh4)))
 (zdE K a E))
 (zaN (zei (zfe K a E))
 (zbV (zac 3))))))
theorem ziM {E:XK} {text:Str} {q c:Addr} {sp:Bool} (L:ztg zmj zeU "kind" H q c (.str (kdS sp))) (hr:Rn 4300 text) (lt:text.length≤80000)
  (q1:∀ ts v H',zie sp (Txt.split text (Str.ofString "\n"))=.inr ts→zaQ H H'→Sh (NwH H H') (.lst ts) v→Q v H')
  (q2:∀ (k:Nat) dx H',zie sp (Txt.split text (Str.ofString "\n"))=.inl k→zaQ H H'→H dx=none→H' dx=some (.xd [("row",.int k)])→E (.ref a.c_NoText) (some dx) H'):zeG K a E { nx:=fun _ H'=>Q .non H',rt:=Q } (L2.zbB ["text","read_row","rows","read","k","row","thing"] [.str text,.ref q]) H:=by
 unfold zeG
 simp_all only [zby,zbu,zbv,zac]
 refine ⟨rfl,by decide +kernel,by omega,fun p hp=>⟨by decide,fun rd hrd=>?_⟩⟩
 generalize eR:Txt.split text (Str.ofString "\n")=rows at *
 have rne:rows≠[]:=by rw [← eR];exact zf3 _ _
 have rln:rows.length≤80001:=by
  rw [← eR,zhx]
  have:=zeC text 10
  omega
 have rok:∀ r∈rows,Rn 4300 r∧10∉sgn r∧r.length≤90000:=fun r h=>by
  rw [← eR,zhx] at h
  exact ⟨zix hr r h,StrLaws.split_free text 10 r h,Nat.le_trans (zeT text 10 r h) (by omega)⟩
 have npr:p≠rd:=fun z=>by rw [z,zad] at hrd;cases hrd
 refine ⟨_,SqL.of (by rw [zaj npr];exact zad),fun sl hsl=>⟨⟨_,SqL.of zad⟩,?_⟩⟩
 rw [zlo]
 have nsr:sl≠rd:=fun z=>by rw [z,zad] at hsl;cases hsl
 have nsp:sl≠p:=fun z=>by rw [z,zaj npr,zad] at hsl;cases hsl
 generalize eH:L2.upd (L2.upd (L2.upd H p (.lst (rows.map V.str))) rd (.lst [])) sl (.lst (rows.map V.str).dropLast)=H0
 have s0:zaQ H H0:=by rw [← eH];exact ((zai hp _).add hrd).add hsl
 have h0p:H0 p=some (.lst (rows.map V.str)):=by rw [← eH,zaj nsp.symm,zaj npr,zad]
 have h0s:H0 sl=some (.lst (rows.map V.str).dropLast):=by rw [← eH,zad]
 have h0r:H0 rd=some (.lst []):=by rw [← eH,zaj nsr.symm,zad]
 have hHr:H rd=none:=(zai hp _).free hrd
 have ld:(rows.map V.str).dropLast.length=rows.length - 1:=by rw [List.length_dropLast,List.length_map]
 have edl:(rows.map V.str).dropLast=rows.dropLast.map V.str:=List.map_dropLast.symm
 refine zhk (xs:=(rows.map V.str).dropLast) (fun i σ H'=>Bar rd H0 H'∧i≤rows.length - 1∧(∀ (j:Nat) r,j<i→rows.dropLast[j]?=some r→shO sp r≠none)∧(∃ xs,H' rd=some (.lst xs)∧xs.length=i∧ShL (NwH H0 H') ((rows.dropLast.take i).filterMap (shO sp)) xs)∧∃ x4 x5 x6,σ=[some (.str text),some (.ref q),some (.ref p),some (.ref rd),x4,x5,x6]) ⟨fun _ _ _ e=>e,Nat.zero_le _,fun j r h=>absurd h (Nat.not_lt_zero _),⟨[],h0r,rfl,.nil⟩,_,_,_,rfl⟩ ?_ ?_ ?_
 ·rintro i σ H' _ ⟨b,_⟩
  exact SqL.of (b _ _ nsr h0s)
 ·rintro i x t σ H' e ⟨b,hi,hb,⟨xs,hx,lx,sx⟩,x4,x5,x6,rfl⟩ ht
  rw [edl] at e
  obtain ⟨r,er,rfl⟩:=zeh e
  have li:=(List.getElem?_eq_some_iff.mp e).1
  rw [List.length_map,List.length_dropLast] at li
  obtain ⟨k1,k2,k3⟩:=rok r (List.dropLast_subset _ (zdd er))
  unfold zdE
  simp_all only [zby,zbu,zbv,zac]
  have ntr:t≠rd:=fun z=>by rw [z,hx] at ht;cases ht
  have sH':zaQ H H':=fun b' o e=>b _ _ (zaz e hHr) (s0 _ _ e)
  have sHt:zaQ H (L2.upd H' t (.tup [.int i,.str r])):=sH'.add ht
  refine ⟨_,SqT.of zad,rfl,_,_,rfl,_,_,rfl,rfl,c,_,L.same sHt,sp,r,rfl,k1,k2,k3,fun v H2 s2 h2 hc F hF=>?_⟩
  have s3:zaQ (L2.upd H' t (.tup [.int i,.str r])) (L2.upd H2 c F):=fun b' o e=>by
   by_cases z:b'=c
   ·rw [z] at e ⊢
    rw [zad,← hF,e]
   ·rw [zaj z]
    exact s2 _ _ (by rw [zbb z];exact e)
  have h3:zlk (shO sp r) (NwH (L2.upd H' t (.tup [.int i,.str r])) (L2.upd H2 c F)) v:=h2.same (zcv fun b' o e1 e2=>by
   have z:b'≠c:=fun z=>by rw [z,hc] at e2;cases e2
   rw [zbb z] at e1
   exact ⟨e1,by rw [zaj z];exact e2⟩)
  generalize L2.upd H2 c F=H3 at s3 h3
  have s4:zaQ H' H3:=(zai ht _).trans s3
  refine ⟨fun σ H4=>H4=H3∧v≠.non∧σ=[some (.str text),some (.ref q),some (.ref p),some (.ref rd),some (.int i),some (.str r),some v],?_,?_⟩
  ·unfold zcK
   simp_all only [zby,zbu,zbv,zac]
   by_cases hv:v=.non
   ·rw [if_pos hv]
    intro dx hdx
    refine q2 i dx _ ?_ ((sH'.trans s4).add hdx) ((sH'.trans s4).free hdx) zad
    have en:shO sp r=none:=by
     cases h:shO sp r with
     | none=>rfl
     | some t=>rw [h] at h3;exact absurd hv h3.2
    exact zoe er en hb
   ·rw [if_neg hv]
    exact hv
  ·rintro σ H4 ⟨rfl,hv,rfl⟩
   simp_all only [zby,zbu,zbv,zac]
   have hx4:H4 rd=some (.lst xs):=s4 _ _ hx
   have bb:Bar rd H0 (L2.upd H4 rd (.lst (xs++[v]))):=fun b' o n e=>by
    rw [zaj n]
    exact s4 _ _ (b b' o n e)
   refine ⟨.inl ⟨rfl,xs,SqL.of hx4⟩,xs,hx4,zc9 (by omega),bb,by omega,fun j r' hj e'=>?_,xs++[v],zad,by rw [List.length_append,lx];rfl,?_⟩
   ·by_cases z:j<i
    ·exact hb j r' z e'
    ·have:j=i:=by omega
     subst this
     rw [er] at e'
     cases e'
     intro z
     rw [z] at h3
     exact hv h3
   ·have nr:∀ b',H0 b'=none→b'≠rd:=fun b' h z=>by rw [z,h0r] at h;cases h
    rw [List.take_add_one,er,List.filterMap_append]
    refine ShL.append (sx.same (zcv fun b' o e1 e2=>⟨e1,by rw [zaj (nr b' e1)];exact s4 _ _ e2⟩)) ?_
    cases ho:shO sp r with
    | none=>rw [ho] at h3;exact absurd h3 hv
    | some t' =>
     rw [ho] at h3
     have:List.filterMap (shO sp) (some r).toList=[t']:=by simp [ho]
     rw [this]
     refine .one (h3.1.same (zcv fun b' o e1 e2=>?_))
     have e3:H' b'=none:=(zai ht _).free e1
     have z1:b'≠rd:=fun z=>by rw [z,hx] at e3;cases e3
     refine ⟨?_,by rw [zaj z1];exact e2⟩
     cases h0:H0 b' with
     | none=>rfl
     | some o'=>rw [b _ _ z1 h0] at e3;cases e3
 ·rintro σ H' ⟨b,_,hb,⟨xs,hx,lx,sx⟩,x4,x5,x6,rfl⟩
  rw [ld] at hb lx sx
  have sH':zaQ H H':=fun b' o e=>b _ _ (zaz e hHr) (s0 _ _ e)
  have hall:∀ (j:Nat) r,rows.dropLast[j]?=some r→shO sp r≠none:=fun j r e=>hb j r (by have:=(List.getElem?_eq_some_iff.mp e).1;rw [List.length_dropLast] at this;exact this) e
  have eo:=zkK hall
  obtain ⟨r0,hr0⟩:∃ r0,rows[rows.length - 1]?=some r0:=⟨_,List.getElem?_eq_getElem (by have:=List.length_pos_iff.mpr rne;omega)⟩
  have hl0:rows.getLastD ""=r0:=by
   rw [List.getLastD_eq_getLast?,List.getLast?_eq_getElem?,hr0]
   rfl
  have hat:atI (rows.map V.str) (-1)=some (.str r0):=zov (n:=rows.length - 1) (by rw [List.length_map];have:=List.length_pos_iff.mpr rne;omega) (by rw [List.getElem?_map,hr0];rfl)
  have hdl:rows.dropLast=[]↔rows.length - 1=0:=by rw [← List.length_eq_zero_iff,List.length_dropLast]
  refine ⟨fun σ H4=>H4=H'∧rows.length - 1≠0∧r0=Str.ofString ""∧σ=[some (.str text),some (.ref q),some (.ref p),some (.ref rd),x4,x5,x6],?_,?_⟩
  ·simp_all only [zby,zbu,zbv,zac]
   have bad:zie sp rows=.inl (rows.length - 1)→∃ x,(SqL K H' rd x∨SqT K H' rd x)∧∀ dx,H' dx=none→E (.ref a.c_NoText) (some dx) (L2.upd H' dx (.xd [(Str.ofString "row",.int x.length)])):=fun e=>⟨_,.inl (SqL.of hx),fun dx hdx=>q2 _ dx _ (by rw [e,lx]) (sH'.add hdx) (sH'.free hdx) zad⟩
   refine ⟨_,.inl ⟨xs,SqL.of hx,rfl⟩,?_⟩
   cases hxs:xs with
   | nil =>
    rw [hxs] at lx
    rw [if_pos (show (!([]:List V).isEmpty)=false from rfl)]
    exact bad (eo.trans (if_pos (.inl (hdl.mpr lx.symm))))
   | cons x0 xt =>
    rw [if_neg (show ¬ (!(x0::xt).isEmpty)=false from fun z=>Bool.noConfusion z)]
    have l0:rows.length - 1≠0:=by rw [← lx,hxs,List.length_cons];omega
    refine ⟨_,SqL.of (b _ _ npr h0p),_,hat,rfl,?_⟩
    by_cases he:r0=Str.ofString ""
    ·rw [if_neg (fun z=>z (by rw [he]))]
     exact ⟨l0,he⟩
    ·rw [if_pos (fun z=>he (V.str.inj z))]
     exact bad (eo.trans (if_pos (.inr (by rw [hl0];exact he))))
  ·rintro σ H4 ⟨rfl,hz,he,rfl⟩
   simp_all only [zby,zbu,zbv,zac]
   refine q1 _ _ _ (eo.trans (if_neg ?_)) sH' (ShL.sh (p:=rd) (xs:=xs) ?_ (zce.mpr ⟨hHr,hx⟩))
   ·rw [hdl,hl0]
    rintro (z | z)
    ·exact hz z
    ·exact z he
   ·rw [List.take_of_length_le (by rw [List.length_dropLast];exact Nat.le_refl _)] at sx
    exact sx.same (zg9 s0 (.refl _))
theorem ziS (T:Txt K mg base a):zcW P w K mg base (CXV P w) 7 a.f_read_rows a.d_read_rows ["text","read_row"] (zhh a):=by
 have G_share_in:=zkz (P:=P) (w:=w) (base:=base) T
 have G__NoText:=zdF (P:=P) (w:=w) (base:=base) T
 refine T.F_read_rows.okV zbd (fun vs H Q E h=>?_) (fun cdv A outer s H vs Q E hr h=>?_)
 ·obtain ⟨text,q,c,sp,rfl,L,hR,lt,q1,q2⟩:=h
  rfl
 obtain ⟨text,q,c,sp,rfl,L,hR,lt,q1,q2⟩:=h
 exact ⟨zeG K a E,(zaf (zaE (i:=2) zbd.nd rfl (Or.inl rfl) (zdN PySem.F.plainAttrs_str PySem.F.slot_str_split PySem.F.type_str_split zeY (pv 0) (zaa zaR zae)))
 (zaf (zaE (i:=3) zbd.nd rfl (Or.inl rfl) (zbX zae))
 (zaf (zdo PassesOwn.leaving rfl (zla rfl T.z_enumerate (zaa (zc1 zhC (pv 2) zd0 (zd9 (zjs zgJ zak))) zae)) (zef rfl (za2 (zaT (i:=4) zbd.nd rfl (Or.inl rfl)) (za2 (zaT (i:=5) zbd.nd rfl (Or.inl rfl)) zcT)))
 (zaf (zaE (i:=6) zbd.nd rfl (Or.inl rfl) (zpT (i:=1) (k:=5) rfl (Or.inl rfl) (hr.mono (by decide)) (zaa (pv 5) (zaa (pv 3) zae)) (fun _ _ _ _ _ _=>rfl) (by decide) rfl rfl rfl rfl rfl (by decide +kernel) rfl (by decide +kernel) (fun _ _ _ _ _ _ _ hr=>(zaG G_share_in (hr.mono (by decide)) rfl T.m_share_in T.F_share_in.kp T.b_share_in .nil zbs (zaa (pv 0) (zaa (pv 2) zae))))))
 (zaf (zbG (zb2 (zaI zfk (pv 6) zbM (zaL _)) (zah (zcL T.X_NoText G__NoText (hr.mono (by decide)) rfl T.m_NoText T.bi_NoText zbs rfl zgi (zaa (pv 4) zae))) za0))
 (zah (zco (zdN PySem.F.plainAttrs_list PySem.F.slot_list_append PySem.F.type_list_append zda (pv 3) (zaa (pv 6) zae)))))))
 (zaf (zbG (zb2 (PW.pt (zdO (zcX (ziv (pv 3) (fun _=>rfl))) (zcV (zaI zfN (zcN zbT (pv 2) (zjs zgJ zak) (fun _ _=>rfl)) zaR (zaL _))))) (zah (zcL T.X_NoText G__NoText (hr.mono (by decide)) rfl T.m_NoText T.bi_NoText zbs rfl zgi (zaa (zax zaY rfl T.z_len PySem.boot_len (zaa (pv 3) zae)) zae))) za0))
 (zah (zaU (pv 3))))))),
  ziM L hR lt q1 q2⟩
def zfI (a:Ad):Sp:=fun vs H Q E=>∃ text:Str,vs=[.str text]∧LT2 H a.p_lam2∧Rn 4300 text∧text.length≤80000 ∧
 (∀ sp ts v H',zpg text=.inr (sp,ts)→Bar a.p_lam2 H H'→LT2 H' a.p_lam2→Sh (NwH H H') (.tup [.str (kdS sp),.lst ts]) v→Q v H') ∧
 ∀ (k:Nat) dx H',zpg text=.inl k→Bar a.p_lam2 H H'→LT2 H' a.p_lam2→H dx=none→H' dx=some (.xd [("row",.int k)])→E (.ref a.c_NoText) (some dx) H'
def zek (K:PySem.W.Frag) (a:Ad) (E:XK):TS :=
 (zaN (zbe (tOp (zjO K) (tBM K "str" zk7 (zac 0) (zab (tC (.str " ")) zav)) (tC (.int 0))) (zat 1))
 (zaN (zei (zcb (zaJ (tOp (rIn K true) (zac 1) (tC (.ref a.t_KINDS)))) (zbY a.c_NoText "row" E (zab (tC (.int 0)) zav)) za4))
 (zbV (zgZ (zab (zac 1) (zab (zn4 a.p_lam2 zmj znY zeU "kind" 1 (zhh a) E (zac 0)) zav))))))
theorem ziC {E:XK} {text:Str} (hP:LT2 H a.p_lam2) (hK:zrh K a.t_KINDS [.str "walk",.str "spread"]) (hr:Rn 4300 text) (lt:text.length≤80000)
  (q1:∀ sp ts v H',zpg text=.inr (sp,ts)→Bar a.p_lam2 H H'→LT2 H' a.p_lam2→Sh (NwH H H') (.tup [.str (kdS sp),.lst ts]) v→Q v H')
  (q2:∀ (k:Nat) dx H',zpg text=.inl k→Bar a.p_lam2 H H'→LT2 H' a.p_lam2→H dx=none→H' dx=some (.xd [("row",.int k)])→E (.ref a.c_NoText) (some dx) H'):zek K a E { nx:=fun _ H'=>Q .non H',rt:=Q } (L2.zbB ["text","kind"] [.str text]) H:=by
 unfold zek
 simp_all only [zac]
 refine ⟨rfl,by decide +kernel,by omega,fun p hp=>⟨_,SqT.of zad,_,zbJ (j:=0) rfl,?_⟩⟩
 have e1:(Txt.partition text (Str.ofString " ")).1=(Txt.partition text " ").1:=rfl
 generalize eH:L2.upd H p (.tup [.str (Txt.partition text (Str.ofString " ")).1,.str (Txt.partition text (Str.ofString " ")).2.1,.str (Txt.partition text (Str.ofString " ")).2.2])=H1
 have s1:zaQ H H1:=by rw [← eH];exact zai hp _
 generalize hkd:(Txt.partition text (Str.ofString " ")).1=kd
 have et:zpg text=if kd=kdS false then (match zie false (Txt.split text (Str.ofString "\n")) with | .inl k=>.inl k | .inr ts=>.inr (false,ts)) else if kd=kdS true then (match zie true (Txt.split text (Str.ofString "\n")) with | .inl k=>.inl k | .inr ts=>.inr (true,ts)) else .inl 0:=by
  rw [← hkd]
  rfl
 refine ⟨fun σ H'=>H'=H1∧(∃ sp,kd=kdS sp)∧σ=[some (.str text),some (.str kd)],?_,?_⟩
 ·simp_all only [zac]
  have einv:inV (.str kd) [.str "walk",.str "spread"]=(decide (kd=kdS false) || decide (kd=kdS true)):=by
   show ((Str.ofString "walk" == kd) || ((Str.ofString "spread" == kd) || false))=_
   rw [Bool.or_false]
   congr 1
   ·rw [Bool.eq_iff_iff,beq_iff_eq,decide_eq_true_eq]
    exact eq_comm
   ·rw [Bool.eq_iff_iff,beq_iff_eq,decide_eq_true_eq]
    exact eq_comm
  refine ⟨_,.inr (SqT.ofK hK),rfl,rfl,?_⟩
  rw [einv]
  by_cases k1:kd=kdS false
  ·rw [decide_eq_true k1,if_neg (by simp)]
   exact ⟨_,k1⟩
  ·by_cases k2:kd=kdS true
   ·rw [decide_eq_true k2,if_neg (by simp)]
    exact ⟨_,k2⟩
   ·rw [decide_eq_false k1,decide_eq_false k2,if_pos (show (false || false)=false from rfl)]
    intro dx hdx
    refine q2 0 dx _ (by rw [et,if_neg k1,if_neg k2]) (fun b o n e=>(s1.add hdx) _ _ e) (hP.same (s1.add hdx)) (s1.free hdx) zad
 ·rintro σ H' ⟨rfl,⟨sp,rfl⟩,rfl⟩
  have et2:zpg text=match zie sp (Txt.split text (Str.ofString "\n")) with | .inl k=>.inl k | .inr ts=>.inr (sp,ts):=by
   rw [et]
   cases sp
   ·rw [if_pos rfl]
   ·rw [if_neg (by rw [zpF];exact zgL),if_pos rfl]
  simp_all only [zac]
  refine ⟨hP.same s1,fun qf c H3 H4 hb hl3 hq hc3 hc1 s4 L=>?_⟩
  have hl4:LT2 H4 a.p_lam2:=hl3.same s4
  obtain ⟨ps4,hp4⟩:=hl4.tbl
  have hcs:∃ F,H4 c=some F:=by
   obtain ⟨a1,a2,a3,a4,a5,a6,a7,a8,a9,a10,a11,a12,b1,b2,b3,b4,b5,b6,b7,b8,b9⟩:=L
   exact ⟨_,b8⟩
  obtain ⟨F,hF⟩:=hcs
  have bH4:Bar a.p_lam2 H H4:=fun b o n e=>s4 _ _ (hb b o n (s1 _ _ e))
  have bH5:∀ H5,zaQ H4 H5→Bar a.p_lam2 H (zeg H5 c):=fun H5 s5 b o n e=>by
   have e3:=hb b o n (s1 _ _ e)
   have nc:b≠c:=fun z=>by rw [z,hc3] at e3;cases e3
   rw [zbb nc]
   exact s5 _ _ (s4 _ _ e3)
  have lH5:∀ H5,zaQ H4 H5→LT2 (zeg H5 c) a.p_lam2:=fun H5 s5=>hl3.same fun b o e3=>by
   have nc:b≠c:=fun z=>by rw [z,hc3] at e3;cases e3
   rw [zbb nc]
   exact s5 _ _ (s4 _ _ e3)
  have new4:∀ b,H4 b=none→H b=none∧b≠c:=fun b e=>by
   refine ⟨?_,fun z=>by rw [z,hF] at e;cases e⟩
   have nP:b≠a.p_lam2:=fun z=>by rw [z,hp4] at e;cases e
   cases h:H b with
   | none=>rfl
   | some o=>rw [bH4 b o nP h] at e;cases e
  refine ⟨text,qf,c,sp,rfl,L,hr,lt,fun ts v H5 eo s5 h5=>⟨by decide,fun p3 hp3=>?_⟩,fun k dx H5 eo s5 hdx h5=>?_⟩
  ·have np:p3≠a.p_lam2:=(lH5 H5 s5).new hp3
   refine q1 sp ts _ _ ?_ (fun b o n e=>by rw [zaj (zaz (bH5 H5 s5 b o n e) hp3)];exact bH5 H5 s5 b o n e) ((lH5 H5 s5).same (zai hp3 _)) ?_
   ·rw [et2,show zie sp (Txt.split text (Str.ofString "\n"))=.inr ts from eo]
   ·have hHp:H p3=none:=by
     cases h:H p3 with
     | none=>rfl
     | some o=>rw [bH5 H5 s5 p3 o np h] at hp3;cases hp3
    refine ShL.tp (.cons (.str _) (.one (h5.same (zcv fun b o e1 e2=>?_)))) (zce.mpr ⟨hHp,zad⟩)
    obtain ⟨n1,n2⟩:=new4 b e1
    have e3:zeg H5 c b=some o:=by rw [zbb n2];exact e2
    exact ⟨n1,by rw [zaj (zaz e3 hp3)];exact e3⟩
  ·obtain ⟨n1,n2⟩:=new4 dx hdx
   exact q2 k dx _ (by rw [et2,show zie sp (Txt.split text (Str.ofString "\n"))=.inl k from eo]) (bH5 H5 s5) (lH5 H5 s5) n1 (by rw [zbb n2];exact h5)
theorem zfO:zaP ["text","kind"] ["text"] (zau zdq):=⟨rfl,rfl,rfl,by decide +kernel,rfl,by decide +kernel,by decide +kernel⟩
theorem zfR (T:Txt K mg base a):zcW P w K mg base (CXV P w) 8 a.f_read_paper a.d_read_paper ["text"] (zfI a):=by
 have G_read_rowsP:=ziS (P:=P) (w:=w) (base:=base) T
 have G__NoText:=zdF (P:=P) (w:=w) (base:=base) T
 refine T.F_read_paper.okV zfO (fun vs H Q E h=>?_) (fun A outer s H vs Q E hr h=>?_)
 ·obtain ⟨text,rfl,hP,hR,lt,q1,q2⟩:=h
  rfl
 obtain ⟨text,rfl,hP,hR,lt,q1,q2⟩:=h
 exact ⟨zek K a E,(zaf (zaE (i:=1) zfO.nd rfl (Or.inr rfl) (zcN zg6 (zdN PySem.F.plainAttrs_str PySem.F.slot_str_partition PySem.F.type_str_partition zok (pv 0) (zaa zaR zae)) zak (fun _ _=>rfl)))
 (zaf (zbG (zb2 (zaI zgH (pv 1) (zbq rfl T.m_KINDS rfl) (by with_unfolding_all rfl)) (zah (zcL T.X_NoText G__NoText (hr.mono (by decide)) rfl T.m_NoText T.bi_NoText zbs rfl zgi (zaa zak zae))) za0))
 (zah (zaU (zdj (zaa (pv 1) (zaa (zqF G_read_rowsP (hr.mono (by decide)) rfl T.m_read_rows T.F_read_rows.kp T.b_read_rows zsI (pv 0) rfl T.hC2 T.hB2 rfl rfl rfl (zt9.one (j:=1) rfl rfl rfl rfl (by decide +kernel)) rfl rfl) zae))))))),
  ziC hP T.u_KINDS hR lt q1 q2⟩
def zfd:TS :=
 (zaN (zbe (tOp (rI0 fun i j=>.int (i+j)) (tOp (rI (fun _ j=>0<j) fun i j=>.int (i % j)) (zac 3) (tOp (rI zmN fun i j=>.int (i ^ j.toNat)) (tC (.int 10)) (tC (.int 18)))) (tOp (rI IntMulOk fun i j=>.int (i*j)) (tC (.int 48271)) (tOp (rI0 fun i j=>.int (i+j)) (zac 1) (tC (.int 1))))) (zat 5))
 (zaN (zbe (tOp (rI0 fun i j=>.int (i+j)) (tOp (rI (fun _ j=>0<j) fun i j=>.int (i % j)) (tOp (rI IntMulOk fun i j=>.int (i*j)) (zac 5) (zac 5)) (tC (.int 2147483629))) (tOp (rI IntMulOk fun i j=>.int (i*j)) (tC (.int 69621)) (zac 1))) (zat 5))
 (zbV (tOp (rI (fun _ j=>0<j) fun i j=>.int (i % j)) (tOp (rI IntMulOk fun i j=>.int (i*j)) (zac 5) (zac 5)) (tC (.int 2147483587))))))
theorem za7 (D:zb9) (σ:St) (H:Hp):zfd D σ H=(zaN (zbe (tOp (rI0 fun i j=>.int (i+j)) (tOp (rI (fun _ j=>0<j) fun i j=>.int (i % j)) (zac 3) (tOp (rI zmN fun i j=>.int (i ^ j.toNat)) (tC (.int 10)) (tC (.int 18)))) (tOp (rI IntMulOk fun i j=>.int (i*j)) (tC (.int 48271)) (tOp (rI0 fun i j=>.int (i+j)) (zac 1) (tC (.int 1))))) (zat 5))
 (zaN (zbe (tOp (rI0 fun i j=>.int (i+j)) (tOp (rI (fun _ j=>0<j) fun i j=>.int (i % j)) (tOp (rI IntMulOk fun i j=>.int (i*j)) (zac 5) (zac 5)) (tC (.int 2147483629))) (tOp (rI IntMulOk fun i j=>.int (i*j)) (tC (.int 69621)) (zac 1))) (zat 5))
 (zbV (tOp (rI (fun _ j=>0<j) fun i j=>.int (i % j)) (tOp (rI IntMulOk fun i j=>.int (i*j)) (zac 5) (zac 5)) (tC (.int 2147483587)))))) D σ H:=rfl
def zfl (K:PySem.W.Frag):TS :=
 (zcb (zaJ (tOp (rI0 fun i j=>.bl (decide (j<i))) (tCB (fun xs H Q=>∃ p ys,xs=[.ref p]∧(SqL K H p ys∨SqT K H p ys)∧Q (.int ys.length) H) (zab (zac 0) zav)) (tC (.int 0)))) (zbe (tOp (zeA K) (zac 0) (tOp (rI (fun _ j=>0<j) fun i j=>.int (i % j)) (zac 1) (tCB (fun xs H Q=>∃ i j,xs=[.int i,.int j]∧Q (.int (if j<i then j else i)) H) (zab (tC (.int 63)) (zab (tCB (fun xs H Q=>∃ p ys,xs=[.ref p]∧(SqL K H p ys∨SqT K H p ys)∧Q (.int ys.length) H) (zab (zac 0) zav)) zav))))) (zat 3)) za4)
theorem za5 (K:PySem.W.Frag) (D:zb9) (σ:St) (H:Hp):zfl K D σ H=(zcb (zaJ (tOp (rI0 fun i j=>.bl (decide (j<i))) (tCB (fun xs H Q=>∃ p ys,xs=[.ref p]∧(SqL K H p ys∨SqT K H p ys)∧Q (.int ys.length) H) (zab (zac 0) zav)) (tC (.int 0)))) (zbe (tOp (zeA K) (zac 0) (tOp (rI (fun _ j=>0<j) fun i j=>.int (i % j)) (zac 1) (tCB (fun xs H Q=>∃ i j,xs=[.int i,.int j]∧Q (.int (if j<i then j else i)) H) (zab (tC (.int 63)) (zab (tCB (fun xs H Q=>∃ p ys,xs=[.ref p]∧(SqL K H p ys∨SqT K H p ys)∧Q (.int ys.length) H) (zab (zac 0) zav)) zav))))) (zat 3)) za4) D σ H:=rfl
def zdC:TS :=
 (zcb (zaJ (tOp (rI0 fun i j=>.bl (decide (j<i))) (zac 3) (tC (.int 0)))) (zbV (tOp (rI (fun _ j=>0<j) fun i j=>.int (i % j)) (zac 3) (tC (.int 2147483587)))) za4)
theorem za8 (D:zb9) (σ:St) (H:Hp):zdC D σ H=(zcb (zaJ (tOp (rI0 fun i j=>.bl (decide (j<i))) (zac 3) (tC (.int 0)))) (zbV (tOp (rI (fun _ j=>0<j) fun i j=>.int (i % j)) (zac 3) (tC (.int 2147483587)))) za4) D σ H:=rfl
def zfa (K:PySem.W.Frag):TS :=
 (zcb (zt2 (zaJ (tOp (rI0 fun i j=>.bl (decide (i<j))) (zac 2) (tCB (fun xs H Q=>∃ p ys,xs=[.ref p]∧(SqL K H p ys∨SqT K H p ys)∧Q (.int ys.length) H) (zab (zac 0) zav)))) (zaJ (tOp (rI0 fun i j=>.bl (decide (j≤i))) (tOp (zeA K) (zac 0) (zac 2)) (tOp (rI zmN fun i j=>.int (i ^ j.toNat)) (tC (.int 10)) (tC (.int 18)))))) (zaN (zbe (tOp (rI (fun _ j=>0<j∧j.natAbs.log2<9000) fun i j=>.int (i / j)) (tOp (zeA K) (zac 0) (zac 2)) (tOp (rI zmN fun i j=>.int (i ^ j.toNat)) (tC (.int 10)) (tC (.int 18)))) (zat 3))
 (zaN (zg3 (zhP (zab (tOp (rI (fun _ j=>0<j) fun i j=>.int (i % j)) (zac 1) (tC (.int 8))) zav)) (zat 4)
 (zbe (tOp (rI (fun _ j=>0<j∧j.natAbs.log2<9000) fun i j=>.int (i / j)) (zac 3) (tC (.int 2147483587))) (zat 3)))
 (zdC))) za4)
theorem za6 (K:PySem.W.Frag) (D:zb9) (σ:St) (H:Hp):zfa K D σ H=(zcb (zt2 (zaJ (tOp (rI0 fun i j=>.bl (decide (i<j))) (zac 2) (tCB (fun xs H Q=>∃ p ys,xs=[.ref p]∧(SqL K H p ys∨SqT K H p ys)∧Q (.int ys.length) H) (zab (zac 0) zav)))) (zaJ (tOp (rI0 fun i j=>.bl (decide (j≤i))) (tOp (zeA K) (zac 0) (zac 2)) (tOp (rI zmN fun i j=>.int (i ^ j.toNat)) (tC (.int 10)) (tC (.int 18)))))) (zaN (zbe (tOp (rI (fun _ j=>0<j∧j.natAbs.log2<9000) fun i j=>.int (i / j)) (tOp (zeA K) (zac 0) (zac 2)) (tOp (rI zmN fun i j=>.int (i ^ j.toNat)) (tC (.int 10)) (tC (.int 18)))) (zat 3))
 (zaN (zg3 (zhP (zab (tOp (rI (fun _ j=>0<j) fun i j=>.int (i % j)) (zac 1) (tC (.int 8))) zav)) (zat 4)
 (zbe (tOp (rI (fun _ j=>0<j∧j.natAbs.log2<9000) fun i j=>.int (i / j)) (zac 3) (tC (.int 2147483587))) (zat 3)))
 (zdC))) za4) D σ H:=rfl
def zeK (K:PySem.W.Frag):TS :=
 (zaN (zbe (tOp (rI (fun _ j=>0<j) fun i j=>.int (i % j)) (tOp (rI (fun _ j=>0<j∧j.natAbs.log2<9000) fun i j=>.int (i / j)) (zac 1) (tC (.int 8))) (tC (.int 63))) (zat 2))
 (zaN (zei (zfa K))
 (zaN (zbe (tC (.int 0)) (zat 3))
 (zaN (zei (zfl K))
 (zfd)))))
theorem ziV {p:Addr} {ns:List Int} {k:Int} (hS:SqL K H p (ns.map V.int)) (hl:ns.length≤63) (k0:0≤k) (k1:k<1000000) (q:∀ r:Int,0≤r→r<2147483587→Q (.int r) H) :
  zeK K { nx:=fun _ H'=>Q .non H',rt:=Q } (L2.zbB ["_law_script","_law_k","_law_at","_law_cell","_law_j","_law_number"] [.ref p,.int k]) H:=by
 unfold zeK
 simp_all only [za7,za5,za8,za6,zac]
 have el:((ns.map V.int).length:Int)=(ns.length:Int):=by rw [List.length_map]
 refine ⟨log8.1,log8.2,by decide,fun σ H'=>H'=H∧∃ t c j,σ=[some (.ref p),some (.int k),t,c,j,none],?_,?_⟩
 ·simp_all only [za7,za5,za8,za6,zac]
  refine ⟨_,.inl hS,?_⟩
  rw [el]
  refine zdU (fun c=>?_) (fun c=>?_)
  ·obtain ⟨v,hv,_⟩:=zsf (ns:=ns) (k:=k / 8 % 63) (by omega) c
   refine ⟨_,hS,_,hv,?_⟩
   simp_all only [za7,za5,za8,za6,zac]
   refine ⟨zsZ,?_⟩
   refine zdU (fun c2=>?_) (fun c2=>trivial)
   ·refine ⟨_,hS,_,hv,zsZ,_,rfl,logA.1,logA.2,by decide,by omega,by omega,?_⟩
    refine zdR (fun _ σ H'=>H'=H∧∃ t c j,σ=[some (.ref p),some (.int k),t,some (.int c),j,none]) ⟨rfl,_,_,_,rfl⟩ ?_ ?_
    ·rintro i σ H' hi ⟨rfl,t,c,j,rfl⟩
     simp_all only [za7,za5,za8,za6,zac]
     exact ⟨logB.1,logB.2⟩
    ·rintro σ H' ⟨rfl,t,c,j,rfl⟩
     simp_all only [za7,za5,za8,za6,zac]
     refine zdU (fun c3=>?_) (fun c3=>?_)
     ·exact ⟨by decide,q _ (Int.emod_nonneg _ (by decide)) (Int.emod_lt_of_pos _ (by decide))⟩
     ·trivial
  ·trivial
 ·rintro σ H' ⟨e,t,c,j,rfl⟩
  rw [e]
  simp_all only [za7,za5,za8,za6,zac]
  refine ⟨fun σ H'=>H'=H∧∃ t c j,σ=[some (.ref p),some (.int k),t,some (.int c),j,none],?_,?_⟩
  ·simp_all only [za7,za5,za8,za6,zac]
   refine ⟨_,.inl hS,?_⟩
   rw [el]
   refine zdU (fun c=>?_) (fun c=>trivial)
   refine ⟨_,.inl hS,?_⟩
   rw [el]
   have hm:0<(if (ns.length:Int)<63 then (ns.length:Int) else 63):=by split <;> omega
   obtain ⟨v,hv,_⟩:=zsf (ns:=ns) (k:=k % if (ns.length:Int)<63 then (ns.length:Int) else 63) (Int.emod_nonneg _ (by omega)) (Int.lt_of_lt_of_le (Int.emod_lt_of_pos _ hm) (by split <;> omega))
   exact ⟨hm,_,hS,_,hv,_,rfl⟩
  ·rintro σ H' ⟨e,t,c,j,rfl⟩
   rw [e]
   simp_all only [za7,za5,za8,za6,zac]
   have b1:=Int.emod_nonneg c (show (1000000000000000000:Int)≠0 by decide)
   have b2:=Int.emod_lt_of_pos c (show (0:Int)<1000000000000000000 by decide)
   generalize c % 1000000000000000000=z at b1 b2 ⊢
   have m1:IntMulOk (z+48271*(k+1)) (z+48271*(k+1)):=mulR (by omega) (by omega)
   generalize (z+48271*(k+1))*(z+48271*(k+1))=y
   have b3:=Int.emod_nonneg y (show (2147483629:Int)≠0 by decide)
   have b4:=Int.emod_lt_of_pos y (show (0:Int)<2147483629 by decide)
   generalize y % 2147483629=x at b3 b4 ⊢
   exact ⟨zsZ,by decide,mulL (by decide) (by decide),m1,by decide,mulL (by decide) (by decide),mulR (by omega) (by omega),by decide,q _ (Int.emod_nonneg _ (by decide)) (Int.emod_lt_of_pos _ (by decide))⟩
theorem zbr:zaP ["_law_script","_law_k","_law_at","_law_cell","_law_j","_law_number"] ["_law_script","_law_k"] (zau zes):=⟨rfl,rfl,rfl,by decide +kernel,rfl,by decide +kernel,by decide +kernel⟩
theorem zfM (T:Txt K mg base a):zcW P w K mg base CX0 1 a.f__law_mixed a.d__law_mixed ["_law_script","_law_k"] (zcQ K):=by
 refine T.F__law_mixed.ok zbr (fun vs H Q E h=>?_) (fun cdv A outer s H vs Q E hr h=>?_)
 ·obtain ⟨p,ns,k,rfl,hS,hl,k0,k1,q⟩:=h
  rfl
 obtain ⟨p,ns,k,rfl,hS,hl,k0,k1,q⟩:=h
 exact ⟨zeK K,(zaf (zaE (i:=2) zbr.nd rfl (Or.inl rfl) (zaF zcd (zaF zci (pv 1) zak) zak))
 (zaf (zbG (zb2 (PW.pt (znV (zaI zom (pv 2) (zax zaY rfl T.z_len PySem.boot_len (zaa (pv 0) zae)) (zaL _)) (zkA (zaI op_ge (zcN zbT (pv 0) (pv 2) (fun _ _=>rfl)) (zaF zjo zak zak) (zaL _))))) (zaf (zaE (i:=3) zbr.nd rfl (Or.inl rfl) (zaF zci (zcN zbT (pv 0) (pv 2) (fun _ _=>rfl)) (zaF zjo zak zak)))
 (zaf (zdo PassesOwn.never rfl (zeJ rfl T.z_range (zaa (zaF zcd (pv 1) zak) zae)) (zaT (i:=4) zbr.nd rfl (Or.inl rfl))
 (zah (zaE (i:=3) zbr.nd rfl (Or.inl rfl) (zaF zci (pv 3) zak))))
 (zah (zb2 (zaI zp7 (pv 3) zak (zaL _)) (zah (zaU (zaF zcd (pv 3) zak))) za0)))) za0))
 (zaf (zaE (i:=3) zbr.nd rfl (Or.inl rfl) zak)
 (zaf (zbG (zb2 (zaI zp7 (zax zaY rfl T.z_len PySem.boot_len (zaa (pv 0) zae)) zak (zaL _)) (zah (zaE (i:=3) zbr.nd rfl (Or.inl rfl) (zcN zbT (pv 0) (zaF zcd (pv 1) (zax (zoG rfl) rfl T.z_min PyProof.Rows.boot_min (zaa zak (zaa (zax zaY rfl T.z_len PySem.boot_len (zaa (pv 0) zae)) zae)))) (fun _ _=>rfl)))) za0))
 (zaf (zaE (i:=5) zbr.nd rfl (Or.inl rfl) (zaF zc5 (zaF zcd (pv 3) (zaF zjo zak zak)) (zaF zgn zak (zaF zc5 (pv 1) zak))))
 (zaf (zaE (i:=5) zbr.nd rfl (Or.inl rfl) (zaF zc5 (zaF zcd (zaF zgn (pv 5) (pv 5)) zak) (zaF zgn zak (pv 1))))
 (zah (zaU (zaF zcd (zaF zgn (pv 5) (pv 5)) zak))))))))),
  ziV hS hl k0 k1 q⟩
def mkC (a:Ad):Bool→Value
 | true=>.ref a.c_NoText
 | false=>.ref a.c_NoKind
structure KK (K:PySem.W.Frag) (a:Ad) (b:Bool):Prop where
 ec:zfP K (mkC a b)
 k_NoWeb:PySem.W.kitOne K (mkC a b) (.ref a.c_NoWeb)=some false
 k_NoPlan:PySem.W.kitOne K (mkC a b) (.ref a.c_NoPlan)=some false
 k_NoText:PySem.W.kitOne K (mkC a b) (.ref a.c_NoText)=some b
 k_NoKind:PySem.W.kitOne K (mkC a b) (.ref a.c_NoKind)=some (!b)
 k_TooGreat:PySem.W.kitOne K (mkC a b) (.ref a.c_TooGreat)=some false
 k_NoTree:PySem.W.kitOne K (mkC a b) (.ref a.c_NoTree)=some false
 k_NoWeights:PySem.W.kitOne K (mkC a b) (.ref a.c_NoWeights)=some false
 k_NoTurns:PySem.W.kitOne K (mkC a b) (.ref a.c_NoTurns)=some false
 k_NoNumber:PySem.W.kitOne K (mkC a b) (.ref a.c_NoNumber)=some false
 k_NoBoxes:PySem.W.kitOne K (mkC a b) (.ref a.c_NoBoxes)=some false
 k_NoBudget:PySem.W.kitOne K (mkC a b) (.ref a.c_NoBudget)=some false
 k_NoName:PySem.W.kitOne K (mkC a b) (.ref a.c_NoName)=some false
 k_NoOrder:PySem.W.kitOne K (mkC a b) (.ref a.c_NoOrder)=some false
 k_NoPlay:PySem.W.kitOne K (mkC a b) (.ref a.c_NoPlay)=some false
 k_NoRoad:PySem.W.kitOne K (mkC a b) (.ref a.c_NoRoad)=some false
 k_NoRow:PySem.W.kitOne K (mkC a b) (.ref a.c_NoRow)=some false
 k_NoTable:PySem.W.kitOne K (mkC a b) (.ref a.c_NoTable)=some false
 k_NoPaper:PySem.W.kitOne K (mkC a b) (.ref a.c_NoPaper)=some false
 k_ValueError:PySem.W.kitOne K (mkC a b) (.type "ValueError")=some true
 sub:PySem.W.subIn K (mkC a b) (.ref a.c_HideError)=some true
theorem kk_of {b:Bool} (I:Isa K a) (I2:Isa2 K a):KK K a b:=by
 cases b
 ·exact ⟨I2.ec,I2.k_NoWeb,I2.k_NoPlan,I2.k_NoText,I2.k_NoKind,I2.k_TooGreat,I2.k_NoTree,I2.k_NoWeights,I2.k_NoTurns,I2.k_NoNumber,I2.k_NoBoxes,I2.k_NoBudget,I2.k_NoName,I2.k_NoOrder,I2.k_NoPlay,I2.k_NoRoad,I2.k_NoRow,I2.k_NoTable,I2.k_NoPaper,I2.k_ValueError,I2.sub⟩
 ·exact ⟨I.ec,I.k_NoWeb,I.k_NoPlan,I.k_NoText,I.k_NoKind,I.k_TooGreat,I.k_NoTree,I.k_NoWeights,I.k_NoTurns,I.k_NoNumber,I.k_NoBoxes,I.k_NoBudget,I.k_NoName,I.k_NoOrder,I.k_NoPlay,I.k_NoRoad,I.k_NoRow,I.k_NoTable,I.k_NoPaper,I.k_ValueError,I.sub⟩
def zhJ (a:Ad):Sp:=fun vs H Q _=>∃ (r:Addr) (od:Option Addr) (b:Bool),vs=[.ref r]∧H r=some (zh0 r (mkC a b) od)∧∀ H',zaQ H H'→Q (.int (if b then 2 else 3)) H'
def zdA (K:PySem.W.Frag):TS :=
 (zcb (tOr (zaJ (tOp rNe (tBM K "list" (zlH K) (zac 1) (zab (tC (.bl true)) zav)) (tC (.int 1)))) (zfj (tB (tCB (zbL K) (zab (zac 0) (zab (tC (.ty "ValueError")) zav)))))) (zbV (tUn (rU fun i=>.int (-i)) (tC (.int 2)))) za4)
theorem zbj (K:PySem.W.Frag) (D:zb9) (σ:St) (H:Hp):zdA K D σ H=(zcb (tOr (zaJ (tOp rNe (tBM K "list" (zlH K) (zac 1) (zab (tC (.bl true)) zav)) (tC (.int 1)))) (zfj (tB (tCB (zbL K) (zab (zac 0) (zab (tC (.ty "ValueError")) zav)))))) (zbV (tUn (rU fun i=>.int (-i)) (tC (.int 2)))) za4) D σ H:=rfl
def zfi (K:PySem.W.Frag) (a:Ad):TS :=
 (zaN (zbe (zdM (zab (tCB (zbL K) (zab (zac 0) (zab (tC (.ref a.c_NoWeb)) zav))) (zab (tCB (zbL K) (zab (zac 0) (zab (tC (.ref a.c_NoPlan)) zav))) (zab (tCB (zbL K) (zab (zac 0) (zab (tC (.ref a.c_NoText)) zav))) zav)))) (zat 1))
 (zaN (zbe (tOp zlE (zac 1) (zdM (zab (tCB (zbL K) (zab (zac 0) (zab (tC (.ref a.c_NoKind)) zav))) (zab (tCB (zbL K) (zab (zac 0) (zab (tC (.ref a.c_TooGreat)) zav))) (zab (tCB (zbL K) (zab (zac 0) (zab (tC (.ref a.c_NoTree)) zav))) zav))))) (zat 1))
 (zaN (zbe (tOp zlE (zac 1) (zdM (zab (tCB (zbL K) (zab (zac 0) (zab (tC (.ref a.c_NoWeights)) zav))) (zab (tCB (zbL K) (zab (zac 0) (zab (tC (.ref a.c_NoTurns)) zav))) (zab (tCB (zbL K) (zab (zac 0) (zab (tC (.ref a.c_NoNumber)) zav))) zav))))) (zat 1))
 (zaN (zbe (tOp zlE (zac 1) (zdM (zab (tCB (zbL K) (zab (zac 0) (zab (tC (.ref a.c_NoBoxes)) zav))) (zab (tCB (zbL K) (zab (zac 0) (zab (tC (.ref a.c_NoBudget)) zav))) (zab (tCB (zbL K) (zab (zac 0) (zab (tC (.ref a.c_NoName)) zav))) zav))))) (zat 1))
 (zaN (zbe (tOp zlE (zac 1) (zdM (zab (tCB (zbL K) (zab (zac 0) (zab (tC (.ref a.c_NoOrder)) zav))) (zab (tCB (zbL K) (zab (zac 0) (zab (tC (.ref a.c_NoPlay)) zav))) (zab (tCB (zbL K) (zab (zac 0) (zab (tC (.ref a.c_NoRoad)) zav))) zav))))) (zat 1))
 (zaN (zbe (tOp zlE (zac 1) (zdM (zab (tCB (zbL K) (zab (zac 0) (zab (tC (.ref a.c_NoRow)) zav))) (zab (tCB (zbL K) (zab (zac 0) (zab (tC (.ref a.c_NoTable)) zav))) (zab (tCB (zbL K) (zab (zac 0) (zab (tC (.ref a.c_NoPaper)) zav))) zav))))) (zat 1))
 (zaN (zei (zdA K))
 (zbV (tBM K "list" (znK K) (zac 1) (zab (tC (.bl true)) zav))))))))))
theorem zbm (K:PySem.W.Frag) (a:Ad) (D:zb9) (σ:St) (H:Hp):zfi K a D σ H=(zaN (zbe (zdM (zab (tCB (zbL K) (zab (zac 0) (zab (tC (.ref a.c_NoWeb)) zav))) (zab (tCB (zbL K) (zab (zac 0) (zab (tC (.ref a.c_NoPlan)) zav))) (zab (tCB (zbL K) (zab (zac 0) (zab (tC (.ref a.c_NoText)) zav))) zav)))) (zat 1))
 (zaN (zbe (tOp zlE (zac 1) (zdM (zab (tCB (zbL K) (zab (zac 0) (zab (tC (.ref a.c_NoKind)) zav))) (zab (tCB (zbL K) (zab (zac 0) (zab (tC (.ref a.c_TooGreat)) zav))) (zab (tCB (zbL K) (zab (zac 0) (zab (tC (.ref a.c_NoTree)) zav))) zav))))) (zat 1))
 (zaN (zbe (tOp zlE (zac 1) (zdM (zab (tCB (zbL K) (zab (zac 0) (zab (tC (.ref a.c_NoWeights)) zav))) (zab (tCB (zbL K) (zab (zac 0) (zab (tC (.ref a.c_NoTurns)) zav))) (zab (tCB (zbL K) (zab (zac 0) (zab (tC (.ref a.c_NoNumber)) zav))) zav))))) (zat 1))
 (zaN (zbe (tOp zlE (zac 1) (zdM (zab (tCB (zbL K) (zab (zac 0) (zab (tC (.ref a.c_NoBoxes)) zav))) (zab (tCB (zbL K) (zab (zac 0) (zab (tC (.ref a.c_NoBudget)) zav))) (zab (tCB (zbL K) (zab (zac 0) (zab (tC (.ref a.c_NoName)) zav))) zav))))) (zat 1))
 (zaN (zbe (tOp zlE (zac 1) (zdM (zab (tCB (zbL K) (zab (zac 0) (zab (tC (.ref a.c_NoOrder)) zav))) (zab (tCB (zbL K) (zab (zac 0) (zab (tC (.ref a.c_NoPlay)) zav))) (zab (tCB (zbL K) (zab (zac 0) (zab (tC (.ref a.c_NoRoad)) zav))) zav))))) (zat 1))
 (zaN (zbe (tOp zlE (zac 1) (zdM (zab (tCB (zbL K) (zab (zac 0) (zab (tC (.ref a.c_NoRow)) zav))) (zab (tCB (zbL K) (zab (zac 0) (zab (tC (.ref a.c_NoTable)) zav))) (zab (tCB (zbL K) (zab (zac 0) (zab (tC (.ref a.c_NoPaper)) zav))) zav))))) (zat 1))
 (zaN (zei (zdA K))
 (zbV (tBM K "list" (znK K) (zac 1) (zab (tC (.bl true)) zav)))))))))) D σ H:=rfl
def zfn:TS :=
 (zcb (zaJ (tOp (fun x y H Q=>y=.non∧Q (.bl (decide (x=.non))) H) (zac 0) (tC .non))) (zbV (tUn (rU fun i=>.int (-i)) (tC (.int 1)))) za4)
theorem zbl (D:zb9) (σ:St) (H:Hp):zfn D σ H=(zcb (zaJ (tOp (fun x y H Q=>y=.non∧Q (.bl (decide (x=.non))) H) (zac 0) (tC .non))) (zbV (tUn (rU fun i=>.int (-i)) (tC (.int 1)))) za4) D σ H:=rfl
def zev (K:PySem.W.Frag) (a:Ad):TS :=
 (zaN (zei (zfn))
 (zfi K a))
theorem isV {x:Addr} {od:Option Addr} {d:V} {cv dv:Value} {b:Bool} (hc:clsV d=some dv) (h:H x=some (zh0 x cv od)) (k:zfP K cv) (e:PySem.W.kitOne K cv dv=some b) (q:Q (.bl b) H):zbL K [.ref x,d] H Q:=⟨x,d,cv,_,dv,b,rfl,hc,h,k,e,q⟩
theorem ziZ {r:Addr} {od:Option Addr} {b:Bool} (J:Isa K a) (J2:Isa2 K a) (hr:H r=some (zh0 r (mkC a b) od)) (q:∀ H',zaQ H H'→Q (.int (if b then 2 else 3)) H'):zev K a { nx:=fun _ H'=>Q .non H',rt:=Q } (L2.zbB ["_law_caught_here","_law_tests"] [.ref r]) H:=by
 unfold zev
 have I:=kk_of (b:=b) J J2
 simp_all only [zbj,zbm,zbl,zac]
 refine ⟨fun σ H'=>H'=H∧σ=[some (.ref r),none],?_,?_⟩
 ·simp_all only [zbj,zbm,zbl,zac]
 rintro σ H' ⟨e,rfl⟩
 rw [e]
 simp_all only [zbj,zbm,zbl,zac]
 refine isV rfl hr I.ec I.k_NoWeb ?_
 refine isV rfl hr I.ec I.k_NoPlan ?_
 refine isV rfl hr I.ec I.k_NoText ?_
 refine ⟨by decide,fun p0 n0=>?_⟩
 have s0:=zai n0 (.lst [V.bl false,V.bl false,V.bl b])
 have l0:(L2.upd H p0 (.lst [V.bl false,V.bl false,V.bl b])) p0=some (.lst [V.bl false,V.bl false,V.bl b]):=zad
 generalize L2.upd H p0 (.lst [V.bl false,V.bl false,V.bl b])=G0 at s0 l0 ⊢
 have h0:=s0 _ _ hr
 refine isV rfl h0 I.ec I.k_NoKind ?_
 refine isV rfl h0 I.ec I.k_TooGreat ?_
 refine isV rfl h0 I.ec I.k_NoTree ?_
 refine ⟨by decide,fun p1 n1=>?_⟩
 have s1:=zai n1 (.lst [V.bl (!b),V.bl false,V.bl false])
 have l1:(L2.upd G0 p1 (.lst [V.bl (!b),V.bl false,V.bl false])) p1=some (.lst [V.bl (!b),V.bl false,V.bl false]):=zad
 generalize L2.upd G0 p1 (.lst [V.bl (!b),V.bl false,V.bl false])=G1 at s1 l1 ⊢
 refine ⟨_,s1 _ _ l0,_,l1,Nat.le_of_ble_eq_true rfl,fun u1 m1=>?_⟩
 simp only [List.cons_append,List.nil_append]
 have t1:=zai m1 (.lst [V.bl false,V.bl false,V.bl b,V.bl (!b),V.bl false,V.bl false])
 have k1:(L2.upd G1 u1 (.lst [V.bl false,V.bl false,V.bl b,V.bl (!b),V.bl false,V.bl false])) u1=some (.lst [V.bl false,V.bl false,V.bl b,V.bl (!b),V.bl false,V.bl false]):=zad
 generalize L2.upd G1 u1 (.lst [V.bl false,V.bl false,V.bl b,V.bl (!b),V.bl false,V.bl false])=F1 at t1 k1 ⊢
 have z1:=(s0.trans s1).trans t1
 have h1:=z1 _ _ hr
 refine isV rfl h1 I.ec I.k_NoWeights ?_
 refine isV rfl h1 I.ec I.k_NoTurns ?_
 refine isV rfl h1 I.ec I.k_NoNumber ?_
 refine ⟨by decide,fun p2 n2=>?_⟩
 have s2:=zai n2 (.lst [V.bl false,V.bl false,V.bl false])
 have l2:(L2.upd F1 p2 (.lst [V.bl false,V.bl false,V.bl false])) p2=some (.lst [V.bl false,V.bl false,V.bl false]):=zad
 generalize L2.upd F1 p2 (.lst [V.bl false,V.bl false,V.bl false])=G2 at s2 l2 ⊢
 refine ⟨_,s2 _ _ k1,_,l2,Nat.le_of_ble_eq_true rfl,fun u2 m2=>?_⟩
 simp only [List.cons_append,List.nil_append]
 have t2:=zai m2 (.lst [V.bl false,V.bl false,V.bl b,V.bl (!b),V.bl false,V.bl false,V.bl false,V.bl false,V.bl false])
 have k2:(L2.upd G2 u2 (.lst [V.bl false,V.bl false,V.bl b,V.bl (!b),V.bl false,V.bl false,V.bl false,V.bl false,V.bl false])) u2=some (.lst [V.bl false,V.bl false,V.bl b,V.bl (!b),V.bl false,V.bl false,V.bl false,V.bl false,V.bl false]):=zad
 generalize L2.upd G2 u2 (.lst [V.bl false,V.bl false,V.bl b,V.bl (!b),V.bl false,V.bl false,V.bl false,V.bl false,V.bl false])=F2 at t2 k2 ⊢
 have z2:=(z1.trans s2).trans t2
 have h2:=z2 _ _ hr
 refine isV rfl h2 I.ec I.k_NoBoxes ?_
 refine isV rfl h2 I.ec I.k_NoBudget ?_
 refine isV rfl h2 I.ec I.k_NoName ?_
 refine ⟨by decide,fun p3 n3=>?_⟩
 have s3:=zai n3 (.lst [V.bl false,V.bl false,V.bl false])
 have l3:(L2.upd F2 p3 (.lst [V.bl false,V.bl false,V.bl false])) p3=some (.lst [V.bl false,V.bl false,V.bl false]):=zad
 generalize L2.upd F2 p3 (.lst [V.bl false,V.bl false,V.bl false])=G3 at s3 l3 ⊢
 refine ⟨_,s3 _ _ k2,_,l3,Nat.le_of_ble_eq_true rfl,fun u3 m3=>?_⟩
 simp only [List.cons_append,List.nil_append]
 have t3:=zai m3 (.lst [V.bl false,V.bl false,V.bl b,V.bl (!b),V.bl false,V.bl false,V.bl false,V.bl false,V.bl false,V.bl false,V.bl false,V.bl false])
 have k3:(L2.upd G3 u3 (.lst [V.bl false,V.bl false,V.bl b,V.bl (!b),V.bl false,V.bl false,V.bl false,V.bl false,V.bl false,V.bl false,V.bl false,V.bl false])) u3=some (.lst [V.bl false,V.bl false,V.bl b,V.bl (!b),V.bl false,V.bl false,V.bl false,V.bl false,V.bl false,V.bl false,V.bl false,V.bl false]):=zad
 generalize L2.upd G3 u3 (.lst [V.bl false,V.bl false,V.bl b,V.bl (!b),V.bl false,V.bl false,V.bl false,V.bl false,V.bl false,V.bl false,V.bl false,V.bl false])=F3 at t3 k3 ⊢
 have z3:=(z2.trans s3).trans t3
 have h3:=z3 _ _ hr
 refine isV rfl h3 I.ec I.k_NoOrder ?_
 refine isV rfl h3 I.ec I.k_NoPlay ?_
 refine isV rfl h3 I.ec I.k_NoRoad ?_
 refine ⟨by decide,fun p4 n4=>?_⟩
 have s4:=zai n4 (.lst [V.bl false,V.bl false,V.bl false])
 have l4:(L2.upd F3 p4 (.lst [V.bl false,V.bl false,V.bl false])) p4=some (.lst [V.bl false,V.bl false,V.bl false]):=zad
 generalize L2.upd F3 p4 (.lst [V.bl false,V.bl false,V.bl false])=G4 at s4 l4 ⊢
 refine ⟨_,s4 _ _ k3,_,l4,Nat.le_of_ble_eq_true rfl,fun u4 m4=>?_⟩
 simp only [List.cons_append,List.nil_append]
 have t4:=zai m4 (.lst [V.bl false,V.bl false,V.bl b,V.bl (!b),V.bl false,V.bl false,V.bl false,V.bl false,V.bl false,V.bl false,V.bl false,V.bl false,V.bl false,V.bl false,V.bl false])
 have k4:(L2.upd G4 u4 (.lst [V.bl false,V.bl false,V.bl b,V.bl (!b),V.bl false,V.bl false,V.bl false,V.bl false,V.bl false,V.bl false,V.bl false,V.bl false,V.bl false,V.bl false,V.bl false])) u4=some (.lst [V.bl false,V.bl false,V.bl b,V.bl (!b),V.bl false,V.bl false,V.bl false,V.bl false,V.bl false,V.bl false,V.bl false,V.bl false,V.bl false,V.bl false,V.bl false]):=zad
 generalize L2.upd G4 u4 (.lst [V.bl false,V.bl false,V.bl b,V.bl (!b),V.bl false,V.bl false,V.bl false,V.bl false,V.bl false,V.bl false,V.bl false,V.bl false,V.bl false,V.bl false,V.bl false])=F4 at t4 k4 ⊢
 have z4:=(z3.trans s4).trans t4
 have h4:=z4 _ _ hr
 refine isV rfl h4 I.ec I.k_NoRow ?_
 refine isV rfl h4 I.ec I.k_NoTable ?_
 refine isV rfl h4 I.ec I.k_NoPaper ?_
 refine ⟨by decide,fun p5 n5=>?_⟩
 have s5:=zai n5 (.lst [V.bl false,V.bl false,V.bl false])
 have l5:(L2.upd F4 p5 (.lst [V.bl false,V.bl false,V.bl false])) p5=some (.lst [V.bl false,V.bl false,V.bl false]):=zad
 generalize L2.upd F4 p5 (.lst [V.bl false,V.bl false,V.bl false])=G5 at s5 l5 ⊢
 refine ⟨_,s5 _ _ k4,_,l5,Nat.le_of_ble_eq_true rfl,fun u5 m5=>?_⟩
 simp only [List.cons_append,List.nil_append]
 have t5:=zai m5 (.lst [V.bl false,V.bl false,V.bl b,V.bl (!b),V.bl false,V.bl false,V.bl false,V.bl false,V.bl false,V.bl false,V.bl false,V.bl false,V.bl false,V.bl false,V.bl false,V.bl false,V.bl false,V.bl false])
 have k5:(L2.upd G5 u5 (.lst [V.bl false,V.bl false,V.bl b,V.bl (!b),V.bl false,V.bl false,V.bl false,V.bl false,V.bl false,V.bl false,V.bl false,V.bl false,V.bl false,V.bl false,V.bl false,V.bl false,V.bl false,V.bl false])) u5=some (.lst [V.bl false,V.bl false,V.bl b,V.bl (!b),V.bl false,V.bl false,V.bl false,V.bl false,V.bl false,V.bl false,V.bl false,V.bl false,V.bl false,V.bl false,V.bl false,V.bl false,V.bl false,V.bl false]):=zad
 generalize L2.upd G5 u5 (.lst [V.bl false,V.bl false,V.bl b,V.bl (!b),V.bl false,V.bl false,V.bl false,V.bl false,V.bl false,V.bl false,V.bl false,V.bl false,V.bl false,V.bl false,V.bl false,V.bl false,V.bl false,V.bl false])=F5 at t5 k5 ⊢
 have z5:=(z4.trans s5).trans t5
 have h5:=z5 _ _ hr
 clear k4 k3 k2 k1 l5 l4 l3 l2 l1 l0
 cases b with
 | true =>
  refine ⟨fun σ H'=>H'=F5∧σ=[some (.ref r),some (.ref u5)],?_,?_⟩
  ·simp_all only [zbj,zbm,zbl,zac]
   refine ⟨.inl ⟨rfl,_,SqL.of k5⟩,_,SqL.of k5,rfl,rfl,?_⟩
   refine zdU (fun z=>absurd rfl z) (fun _=>?_)
   exact isV rfl h5 I.ec I.k_ValueError ⟨true,rfl,zdU (fun z=>absurd z (by decide)) (fun _=>rfl)⟩
  rintro σ H' ⟨e,rfl⟩
  rw [e]
  simp_all only [zbj,zbm,zbl,zac]
  exact ⟨.inl ⟨rfl,_,SqL.of k5⟩,_,_,_,2,rfl,rfl,SqL.of k5,rfl,rfl,rfl,by decide,q _ z5⟩
 | false =>
  refine ⟨fun σ H'=>H'=F5∧σ=[some (.ref r),some (.ref u5)],?_,?_⟩
  ·simp_all only [zbj,zbm,zbl,zac]
   refine ⟨.inl ⟨rfl,_,SqL.of k5⟩,_,SqL.of k5,rfl,rfl,?_⟩
   refine zdU (fun z=>absurd rfl z) (fun _=>?_)
   exact isV rfl h5 I.ec I.k_ValueError ⟨true,rfl,zdU (fun z=>absurd z (by decide)) (fun _=>rfl)⟩
  rintro σ H' ⟨e,rfl⟩
  rw [e]
  simp_all only [zbj,zbm,zbl,zac]
  exact ⟨.inl ⟨rfl,_,SqL.of k5⟩,_,_,_,3,rfl,rfl,SqL.of k5,rfl,rfl,rfl,by decide,q _ z5⟩
theorem zbP:zaP ["_law_caught_here","_law_tests"] ["_law_caught_here"] (zau zel):=⟨rfl,rfl,rfl,by decide +kernel,rfl,by decide +kernel,by decide +kernel⟩
theorem zdW (T:Txt K mg base a):zcW P w K mg base CX0 1 a.f__law_class a.d__law_class ["_law_caught_here"] (zhJ a):=by
 refine T.F__law_class.ok zbP (fun vs H Q E h=>?_) (fun cdv A outer s H vs Q E hr h=>?_)
 ·obtain ⟨r,od,b,rfl,h,q⟩:=h
  rfl
 obtain ⟨r,od,b,rfl,h,q⟩:=h
 exact ⟨zev K a,(zaf (zbG (zb2 (zaI zfk (pv 0) zbM (zaL _)) (zah (zaU (zjs zgJ zak))) za0))
 (zaf (zaE (i:=1) zbP.nd rfl (Or.inl rfl) (zbX (zaa (zax zaH rfl T.z_isinstance PyProof.Rows.boot_isinstance (zaa (pv 0) (zaa (zbq rfl T.m_NoWeb rfl) zae))) (zaa (zax zaH rfl T.z_isinstance PyProof.Rows.boot_isinstance (zaa (pv 0) (zaa (zbq rfl T.m_NoPlan rfl) zae))) (zaa (zax zaH rfl T.z_isinstance PyProof.Rows.boot_isinstance (zaa (pv 0) (zaa (zbq rfl T.m_NoText rfl) zae))) zae)))))
 (zaf (zaE (i:=1) zbP.nd rfl (Or.inl rfl) (zaF zh6 (pv 1) (zbX (zaa (zax zaH rfl T.z_isinstance PyProof.Rows.boot_isinstance (zaa (pv 0) (zaa (zbq rfl T.m_NoKind rfl) zae))) (zaa (zax zaH rfl T.z_isinstance PyProof.Rows.boot_isinstance (zaa (pv 0) (zaa (zbq rfl T.m_TooGreat rfl) zae))) (zaa (zax zaH rfl T.z_isinstance PyProof.Rows.boot_isinstance (zaa (pv 0) (zaa (zbq rfl T.m_NoTree rfl) zae))) zae))))))
 (zaf (zaE (i:=1) zbP.nd rfl (Or.inl rfl) (zaF zh6 (pv 1) (zbX (zaa (zax zaH rfl T.z_isinstance PyProof.Rows.boot_isinstance (zaa (pv 0) (zaa (zbq rfl T.m_NoWeights rfl) zae))) (zaa (zax zaH rfl T.z_isinstance PyProof.Rows.boot_isinstance (zaa (pv 0) (zaa (zbq rfl T.m_NoTurns rfl) zae))) (zaa (zax zaH rfl T.z_isinstance PyProof.Rows.boot_isinstance (zaa (pv 0) (zaa (zbq rfl T.m_NoNumber rfl) zae))) zae))))))
 (zaf (zaE (i:=1) zbP.nd rfl (Or.inl rfl) (zaF zh6 (pv 1) (zbX (zaa (zax zaH rfl T.z_isinstance PyProof.Rows.boot_isinstance (zaa (pv 0) (zaa (zbq rfl T.m_NoBoxes rfl) zae))) (zaa (zax zaH rfl T.z_isinstance PyProof.Rows.boot_isinstance (zaa (pv 0) (zaa (zbq rfl T.m_NoBudget rfl) zae))) (zaa (zax zaH rfl T.z_isinstance PyProof.Rows.boot_isinstance (zaa (pv 0) (zaa (zbq rfl T.m_NoName rfl) zae))) zae))))))
 (zaf (zaE (i:=1) zbP.nd rfl (Or.inl rfl) (zaF zh6 (pv 1) (zbX (zaa (zax zaH rfl T.z_isinstance PyProof.Rows.boot_isinstance (zaa (pv 0) (zaa (zbq rfl T.m_NoOrder rfl) zae))) (zaa (zax zaH rfl T.z_isinstance PyProof.Rows.boot_isinstance (zaa (pv 0) (zaa (zbq rfl T.m_NoPlay rfl) zae))) (zaa (zax zaH rfl T.z_isinstance PyProof.Rows.boot_isinstance (zaa (pv 0) (zaa (zbq rfl T.m_NoRoad rfl) zae))) zae))))))
 (zaf (zaE (i:=1) zbP.nd rfl (Or.inl rfl) (zaF zh6 (pv 1) (zbX (zaa (zax zaH rfl T.z_isinstance PyProof.Rows.boot_isinstance (zaa (pv 0) (zaa (zbq rfl T.m_NoRow rfl) zae))) (zaa (zax zaH rfl T.z_isinstance PyProof.Rows.boot_isinstance (zaa (pv 0) (zaa (zbq rfl T.m_NoTable rfl) zae))) (zaa (zax zaH rfl T.z_isinstance PyProof.Rows.boot_isinstance (zaa (pv 0) (zaa (zbq rfl T.m_NoPaper rfl) zae))) zae))))))
 (zaf (zbG (zb2 (PW.pt (zdO (zaI zfN (zdN PySem.F.plainAttrs_list PySem.F.slot_list_count PySem.F.type_list_count zpB (pv 1) (zaa zgE zae)) zak (zaL _)) (zcV (zcX (zcz (zax zaH rfl T.z_isinstance PyProof.Rows.boot_isinstance (zaa (pv 0) (zaa (zbS rfl T.z_ValueError zhz rfl) zae)))))))) (zah (zaU (zjs zgJ zak))) za0))
 (zah (zaU (zdN PySem.F.plainAttrs_list PySem.F.slot_list_index PySem.F.type_list_index zqC (pv 1) (zaa zgE zae)))))))))))),
  ziZ T.I T.I2 h q⟩
def big:Int:=1000000000000000000000000000000
abbrev nm (n:Int):Str:=Str.ofString (toString n)
theorem za9 (c:Nat) (x z:Str) (l:List Str):sgn (Str.join ⟨#[c]⟩ (x::z::l))=sgn x++c::sgn (Str.join ⟨#[c]⟩ (z::l)):=zfX _ _ _ _
theorem zrM {c:Nat}:∀ {a b u v:List Nat},c∉a→c∉b→a++c::u=b++c::v→a=b∧u=v
 | [],[],u,v,_,_,h=>⟨rfl,(List.cons.inj h).2⟩
 | [],y::b,u,v,_,hb,h=>absurd (List.mem_cons.mpr (.inl (List.cons.inj h).1)) hb
 | x::a,[],u,v,ha,_,h=>absurd (List.mem_cons.mpr (.inl (List.cons.inj h).1.symm)) ha
 | x::a,y::b,u,v,ha,hb,h=>by
  obtain ⟨e,h⟩:=List.cons.inj h
  obtain ⟨e1,e2⟩:=zrM (fun m=>ha (List.mem_cons_of_mem _ m)) (fun m=>hb (List.mem_cons_of_mem _ m)) h
  exact ⟨by rw [e,e1],e2⟩
theorem zlj {c:Nat}:∀ {a b:List Str},a≠[]→b≠[]→(∀ x∈a,c∉sgn x)→(∀ x∈b,c∉sgn x)→Str.join ⟨#[c]⟩ a=Str.join ⟨#[c]⟩ b→a=b
 | [],_,na,_,_,_,_=>absurd rfl na
 | _,[],_,nb,_,_,_=>absurd rfl nb
 | [x],[y],_,_,_,_,h=>by rw [show x=y from h]
 | [x],y::z::b,_,_,ha,_,h=>by
  have h2:sgn x=sgn y++c::sgn (Str.join ⟨#[c]⟩ (z::b)):=(congrArg sgn h).trans (za9 c y z b)
  exact absurd (by rw [h2];exact List.mem_append_right _ (List.mem_cons_self ..)) (ha x (List.mem_cons_self ..))
 | x::z::a,[y],_,_,_,hb,h=>by
  have h2:sgn y=sgn x++c::sgn (Str.join ⟨#[c]⟩ (z::a)):=(congrArg sgn h.symm).trans (za9 c x z a)
  exact absurd (by rw [h2];exact List.mem_append_right _ (List.mem_cons_self ..)) (hb y (List.mem_cons_self ..))
 | x::z::a,y::w::b,_,_,ha,hb,h=>by
  have h2:=((za9 c x z a).symm.trans (congrArg sgn h)).trans (za9 c y w b)
  obtain ⟨e1,e2⟩:=zrM (ha x (List.mem_cons_self ..)) (hb y (List.mem_cons_self ..)) h2
  rw [zcu e1,zlj (List.cons_ne_nil _ _) (List.cons_ne_nil _ _) (fun u hu=>ha u (List.mem_cons_of_mem _ hu)) (fun u hu=>hb u (List.mem_cons_of_mem _ hu)) (zcu e2)]
theorem zdv {c:Nat} {l:List Str} {s:Str} (n:l≠[]) (f:∀ x∈l,c∉sgn x) (e:Str.join ⟨#[c]⟩ l=s):Txt.split s ⟨#[c]⟩=l:=by
 subst e
 exact zlj (zf3 _ _) n (fun x hx=>StrLaws.split_free _ c x hx) f (StrLaws.join_split _ _)
theorem zfJ:sgn (Str.ofString "")=[]:=by decide +kernel
theorem zho (c:Nat):∀ l:List Str,sgn (Str.join ⟨#[c]⟩ (l++[Str.ofString ""]))=(l.map fun x=>sgn x++[c]).flatten
 | []=>zfJ
 | [x]=>by
  rw [List.cons_append,List.nil_append,za9,show Str.join ⟨#[c]⟩ [Str.ofString ""]=Str.ofString "" from rfl,zfJ,List.map_cons,List.map_nil,List.flatten_cons,List.flatten_nil,List.append_nil]
 | x::z::l=>by
  rw [List.cons_append,List.cons_append,za9,← List.cons_append,zho c (z::l),List.map_cons (l:=z::l),List.flatten_cons,List.append_assoc]
  rfl
theorem zjN:∀ l:List Str,sgn (Str.join (Str.ofString "") l)=(l.map sgn).flatten
 | []=>zfJ
 | [x]=>by rw [zcx,List.map_cons,List.map_nil,List.flatten_cons,List.flatten_nil,List.append_nil]
 | x::z::l=>by rw [zfX,zjN (z::l),zfJ,List.nil_append,List.map_cons (l:=z::l),List.flatten_cons]
theorem zp4 (c:Nat) (hc:c≠45∧(c<48∨57<c)) (n:Int):c∉sgn (Str.ofString (toString n)):=PyProof.Rows.int_text_free' c hc n
theorem zpH:∀ m:Nat,0<m→(Nat.toDigits 10 m).head?≠some '0':=by
 intro m
 induction m using Nat.strongRecOn with
 | _ m ih =>
  intro h0
  by_cases h:m<10
  ·rw [Nat.toDigits_of_lt_base h]
   have key:∀ k:Nat,k<10→0<k→[Nat.digitChar k].head?≠some '0':=by decide
   exact key m h h0
  ·have hm:m % 10<10:=Nat.mod_lt m (by decide)
   have t:Nat.toDigits 10 (m / 10)++Nat.toDigits 10 (m % 10)=Nat.toDigits 10 (10*(m / 10)+m % 10):=Nat.toDigits_append_toDigits (by decide) (by omega) hm
   rw [Nat.div_add_mod] at t
   rw [← t]
   have i:=ih (m / 10) (by omega) (by omega)
   cases hd:Nat.toDigits 10 (m / 10) with
   | nil =>
    have:=PySem.toDigits_len_ge 10 (m / 10)
    rw [hd] at this
    exact absurd this (by decide)
   | cons a l =>
    rw [hd] at i
    exact i
theorem zoW (m:Nat):PySem.NumText.AllDigits (nm ((m:Nat):Int)).cps.toList:=fun c hc=>by
 rw [PySem.W.KIN.signs_num] at hc
 obtain ⟨ch,hch,e⟩:=List.mem_map.mp hc
 rw [← e]
 exact PyProof.Rows.digit_range (Nat.isDigit_of_mem_toDigits (by decide) (by decide) hch)
theorem zd1 {n:Int} (h:0≤n∧n<big):zc0 (nm n)=some n:=by
 have l30:(nm n).length≤30:=zo1 h.1 (by decide) h.2
 obtain ⟨m,rfl⟩:=Int.eq_ofNat_of_zero_le h.1
 have es:=PySem.W.KIN.signs_num m
 have hl:=PySem.toDigits_len_ge 10 m
 have ok:okW (Str.ofString (toString ((m:Nat):Int)))=true:=by
  unfold okW
  rw [es]
  have lw:(Str.ofString (toString ((m:Nat):Int))).length=(Nat.toDigits 10 m).length:=by
   have:=zbQ (Str.ofString (toString ((m:Nat):Int)))
   unfold sgn at this
   rw [this,es,List.length_map]
  rw [lw] at l30
  rw [lw,decide_eq_true (show 1≤(Nat.toDigits 10 m).length∧(Nat.toDigits 10 m).length≤2000 from ⟨hl,by omega⟩),Bool.true_and,Bool.and_eq_true]
  refine ⟨List.all_eq_true.mpr fun c hc=>?_,?_⟩
  ·obtain ⟨ch,hch,e⟩:=List.mem_map.mp hc
   have r:=PyProof.Rows.digit_range (Nat.isDigit_of_mem_toDigits (by decide) (by decide) hch)
   unfold dg
   rw [Bool.and_eq_true,decide_eq_true_eq,decide_eq_true_eq,← e]
   exact r
  ·by_cases z:m=0
   ·subst z
    decide +kernel
   ·have nh:¬ ((Nat.toDigits 10 m).map Char.toNat).head?=some 48:=fun e=>by
     rw [List.head?_map] at e
     obtain ⟨ch,e1,e2⟩:=Option.map_eq_some_iff.mp e
     have:ch='0':=Char.toNat_inj'  e2
     rw [this] at e1
     exact zpH m (by omega) e1
    rw [decide_eq_false nh]
    rfl
 have hd:PySem.NumText.AllDigits (nm ((m:Nat):Int)).cps.toList:=zoW m
 have e:=PySem.intText_digits hd (fun z=>by
  rw [es] at z
  rw [List.map_eq_nil_iff.mp z] at hl
  exact absurd hl (by decide)) (Nat.le_trans l30 (by decide))
 rw [es,PySem.W.KIN.val_back] at e
 unfold zc0
 rw [if_pos ok]
 exact e
where
 Char.toNat_inj' {c:Char} (h:c.toNat=48):c='0':=by
  apply Char.ext
  apply UInt32.toNat_inj.mp
  exact h
theorem zjl (c:Nat) (x:Str):∀ l:List Str,l≠[]→sgn (Str.join ⟨#[c]⟩ (l++[x]))=sgn (Str.join ⟨#[c]⟩ l)++c::sgn x
 | [],h=>absurd rfl h
 | [y],_=>by
  rw [List.cons_append,List.nil_append,za9]
  rfl
 | y::z::l,_=>by
  rw [List.cons_append,List.cons_append,za9,za9,← List.cons_append,zjl c x (z::l) (List.cons_ne_nil _ _),List.append_assoc]
  rfl
theorem ziX (c:Nat) {m:Nat}:∀ l:List Str,(∀ x∈l,x.length≤m)→(Str.join ⟨#[c]⟩ l).length≤l.length*(m+1)
 | [],_=>by
  show (Str.ofString "").length≤_
  rw [zbQ,zfJ]
  exact Nat.zero_le _
 | [x],h=>by
  have:=h x (List.mem_cons_self ..)
  show x.length≤1*(m+1)
  omega
 | x::z::l,h=>by
  have h1:=h x (List.mem_cons_self ..)
  have h2:=ziX c (z::l) fun y hy=>h y (List.mem_cons_of_mem _ hy)
  rw [zbQ,za9,List.length_append,List.length_cons,← zbQ,← zbQ,List.length_cons,Nat.add_mul]
  omega
theorem zsp {n:Nat} {s:Str} (h:s.length≤n):Rn n s:=by
 have:=znn (sgn s) 0
 rw [zbQ] at h
 unfold Rn
 omega
theorem zu7 {rows:List Str} {sp:Bool}:finO (kdS sp) rows=match zie sp rows with | .inl k=>.inl k | .inr ts=>.inr (sp,ts):=by
 unfold finO
 cases sp
 ·exact (if_pos rfl).trans (by cases zie false rows <;> rfl)
 ·exact (if_neg (by rw [zpF];exact zgL)).trans ((if_pos rfl).trans (by cases zie true rows <;> rfl))
abbrev PR:=List (Int×Int)×Int
def NB (n:Int):Prop:=0≤n∧n<big
def thS (sp:Bool) (x:Int×Int):Str:=if sp then nm x.1++Str.ofString "-"++nm x.2 else nm x.1
def thT (sp:Bool) (x:Int×Int):Tr:=if sp then .tup [.int x.1,.int x.2] else .int x.1
def zpl (sp:Bool) (p:PR):List Str:=kdS sp::nm p.2::p.1.map (thS sp)
def zhH (sp:Bool) (p:PR):Str:=Str.join ⟨#[32]⟩ (zpl sp p)
def zcO (sp:Bool) (p:PR):Tr:=.tup [.lst (p.1.map (thT sp)),.int p.2]
def txP (sp:Bool) (ps:List PR):Str:=Str.join ⟨#[10]⟩ (ps.map (zhH sp)++[Str.ofString ""])
structure GP (sp:Bool) (p:PR):Prop where
 w1:1≤p.2
 wb:p.2<big
 len:p.1.length≤9
 ne:sp=false→p.1≠[]
 th:∀ x∈p.1,NB x.1∧NB x.2
theorem zgI {n:Int} (h:NB n):(nm n).length≤30:=zo1 h.1 (by decide) h.2
theorem zbC (s t:Str):(s++t).length=s.length+t.length:=by rw [zbQ,zaM,List.length_append,← zbQ,← zbQ]
theorem zow (sp:Bool):(kdS sp).length≤6:=by cases sp <;> decide +kernel
theorem zg1 (sp:Bool) {c:Nat} (hc:c=32∨c=10):c∉sgn (kdS sp):=by rcases hc with rfl | rfl <;> cases sp <;> decide +kernel
theorem zi6 {n:Int} {c:Nat} (hc:c=32∨c=10):c∉sgn (nm n):=zp4 c (by rcases hc with rfl | rfl <;> decide) n
theorem zun {n:Int} (h:NB n):45∉sgn (nm n):=fun z=>by
 obtain ⟨m,rfl⟩:=Int.eq_ofNat_of_zero_le h.1
 exact absurd (zoW m 45 z).1 (by decide)
theorem zpI (sp:Bool) (x:Int×Int) {c:Nat} (hc:c=32∨c=10):c∉sgn (thS sp x):=by
 unfold thS
 cases sp
 ·exact zi6 hc
 ·rw [if_pos rfl,zaM,zaM,zl6,List.mem_append,List.mem_append]
  rintro ((z | z) | z)
  ·exact zi6 hc z
  ·rw [List.mem_singleton.mp z] at hc
   omega
  ·exact zi6 hc z
theorem ztl (sp:Bool) {x:Int×Int} (h:NB x.1∧NB x.2):(thS sp x).length≤61:=by
 have h1:=zgI h.1
 have h2:=zgI h.2
 unfold thS
 cases sp
 ·rw [if_neg Bool.false_ne_true]
  omega
 ·rw [if_pos rfl,zbC,zbC,show (Str.ofString "-").length=1 by decide +kernel]
  omega
theorem zj2 (sp:Bool) (p:PR) {c:Nat} (hc:c=32∨c=10):∀ x∈zpl sp p,c∉sgn x:=fun x hx=>by
 rcases List.mem_cons.mp hx with rfl | hx
 ·exact zg1 sp hc
 ·rcases List.mem_cons.mp hx with rfl | hx
  ·exact zi6 hc
  ·obtain ⟨y,_,rfl⟩:=List.mem_map.mp hx
   exact zpI sp y hc
theorem zjM (sp:Bool) (p:PR):Txt.split (zhH sp p) (Str.ofString " ")=zpl sp p:=by
 rw [zgX]
 exact zdv (List.cons_ne_nil _ _) (zj2 sp p (.inl rfl)) rfl
theorem zhc {c d:Nat} (n:c≠d):∀ l:List Str,(∀ x∈l,c∉sgn x)→c∉sgn (Str.join ⟨#[d]⟩ l)
 | [],_=>by
  show c∉sgn (Str.ofString "")
  rw [zfJ]
  exact List.not_mem_nil
 | [x],h=>h x (List.mem_cons_self ..)
 | x::z::l,h=>by
  rw [za9,List.mem_append,List.mem_cons]
  rintro (y | y | y)
  ·exact h x (List.mem_cons_self ..) y
  ·exact n y
  ·exact zhc n (z::l) (fun u hu=>h u (List.mem_cons_of_mem _ hu)) y
theorem zlW (sp:Bool) (p:PR):10∉sgn (zhH sp p):=zhc (by decide) _ (zj2 sp p (.inr rfl))
theorem zk9 (sp:Bool) {p:PR} (g:GP sp p):(zhH sp p).length≤682:=by
 have h:=ziX 32 (m:=61) (zpl sp p) fun x hx=>by
  rcases List.mem_cons.mp hx with rfl | hx
  ·exact Nat.le_trans (zow sp) (by decide)
  ·rcases List.mem_cons.mp hx with rfl | hx
   ·have w1:=g.w1
    exact Nat.le_trans (zgI ⟨by omega,g.wb⟩) (by decide)
   ·obtain ⟨y,hy,rfl⟩:=List.mem_map.mp hx
    exact ztl sp (g.th y hy)
 have l9:=g.len
 have e:(zpl sp p).length=p.1.length+2:=by
  unfold zpl
  rw [List.length_cons,List.length_cons,List.length_map]
 rw [e] at h
 exact Nat.le_trans h (Nat.mul_le_mul_right 62 (show _≤11 by omega))
theorem zuH (sp:Bool) {ps:List PR} (g:∀ p∈ps,GP sp p) (l:ps.length≤4):(txP sp ps).length≤3415:=by
 have h:=ziX 10 (m:=682) (ps.map (zhH sp)++[Str.ofString ""]) fun x hx=>by
  rcases List.mem_append.mp hx with hx | hx
  ·obtain ⟨p,hp,rfl⟩:=List.mem_map.mp hx
   exact zk9 sp (g p hp)
  ·rw [List.mem_singleton.mp hx,zbQ,zfJ]
   exact Nat.zero_le _
 rw [List.length_append,List.length_map] at h
 exact Nat.le_trans h (Nat.mul_le_mul_right 683 (show ps.length+1≤5 by omega))
theorem zsS (sp:Bool) (ps:List PR):Txt.split (txP sp ps) (Str.ofString "\n")=ps.map (zhH sp)++[Str.ofString ""]:=by
 rw [zhx]
 refine zdv (List.append_ne_nil_of_right_ne_nil _ (List.cons_ne_nil _ _)) (fun x hx=>?_) rfl
 rcases List.mem_append.mp hx with hx | hx
 ·obtain ⟨p,_,rfl⟩:=List.mem_map.mp hx
  exact zlW sp p
 ·rw [List.mem_singleton.mp hx,zfJ]
  exact List.not_mem_nil
theorem ztI (sp:Bool) {x:Int×Int} (h:NB x.1∧NB x.2):thO sp (thS sp x)=some (thT sp x):=by
 cases sp
 ·show (zc0 (nm x.1)).map Tr.int=_
  rw [zd1 h.1]
  rfl
 ·have e:Txt.split (thS true x) (Str.ofString "-")=[nm x.1,nm x.2]:=by
   rw [zl6]
   refine zdv (List.cons_ne_nil _ _) (fun y hy=>?_) (zcu ?_)
   ·rcases List.mem_cons.mp hy with rfl | hy
    ·exact zun h.1
    ·rw [List.mem_singleton.mp hy]
     exact zun h.2
   ·unfold thS
    rw [za9,zcx,if_pos rfl,zaM,zaM,zl6,List.append_assoc]
    rfl
  show (match zdh (Txt.split (thS true x) (Str.ofString "-")) with | some [x,y]=>some (Tr.tup [.int x,.int y]) | _=>none)=_
  rw [e,zc4,zc4,zd1 h.1,zd1 h.2]
  rfl
theorem znb (sp:Bool):∀ l:List (Int×Int),(∀ x∈l,NB x.1∧NB x.2)→plO sp (l.map (thS sp))=some (l.map (thT sp))
 | [],_=>rfl
 | x::l,h=>by
  rw [List.map_cons,ziw,ztI sp (h x (List.mem_cons_self ..)),znb sp l fun y hy=>h y (List.mem_cons_of_mem _ hy)]
  rfl
theorem zlB {sp:Bool} {r w0:Str} {ws:List Str} (e:Txt.split r (Str.ofString " ")=kdS sp::w0::ws) (n:sp=false→ws≠[]):shO sp r=(zc0 w0).bind fun n=>if n<1 then none else (plO sp ws).map fun p=>.tup [.lst p,.int n]:=by
 show (if (Txt.split r (Str.ofString " ")).getD 0 ""=kdS sp∧(if sp then 2 else 3)≤(Txt.split r (Str.ofString " ")).length then (zc0 ((Txt.split r (Str.ofString " ")).getD 1 "")).bind fun n=>if n<1 then none else (plO sp ((Txt.split r (Str.ofString " ")).drop 2)).map fun p=>Tr.tup [.lst p,.int n] else none)=_
 rw [e]
 refine (if_pos ⟨rfl,?_⟩).trans rfl
 cases sp
 ·cases ws with
  | nil=>exact absurd rfl (n rfl)
  | cons x l=>exact Nat.le_add_left 3 l.length
 ·exact Nat.le_add_left 2 ws.length
theorem ziI {sp:Bool} {p:PR} (g:GP sp p):shO sp (zhH sp p)=some (zcO sp p):=by
 have w1:=g.w1
 rw [zlB (zjM sp p) fun e z=>g.ne e (List.map_eq_nil_iff.mp z),zd1 ⟨by omega,g.wb⟩,znb sp _ g.th]
 show (if p.2<1 then none else some (zcO sp p))=_
 rw [if_neg (by omega)]
theorem tw_kd {k s:List Nat} (h:32∉k):(k++32::s).takeWhile (fun d=>decide (d≠32))=k:=by
 rw [List.takeWhile_append_of_pos (show ∀ x∈k,decide (x≠32)=true from fun x hx=>decide_eq_true fun z=>h (z ▸ hx)),List.takeWhile_cons_of_neg (by decide),List.append_nil]
theorem ztY {sp:Bool} {s:Str} {r:List Nat} (e:sgn s=sgn (kdS sp)++32::r):(Txt.partition s (Str.ofString " ")).1=kdS sp:=by
 refine zcu ?_
 rw [zgX,parti,e]
 exact tw_kd (zg1 sp (.inl rfl))
theorem zse {sp:Bool} {s:Str} {r:List Nat} (e:sgn s=sgn (kdS sp)++32::r):zpg s=match zie sp (Txt.split s (Str.ofString "\n")) with | .inl k=>.inl k | .inr ts=>.inr (sp,ts):=by
 show finO (Txt.partition s (Str.ofString " ")).1 (Txt.split s (Str.ofString "\n"))=_
 rw [ztY e,zu7]
theorem zoi {sp:Bool} {ps:List PR} (g:∀ p∈ps,GP sp p) (n:ps≠[]):zpg (txP sp ps)=.inr (sp,ps.map (zcO sp)):=by
 obtain ⟨p,l,rfl⟩:=List.exists_cons_of_ne_nil n
 have e:∃ r,sgn (txP sp (p::l))=sgn (kdS sp)++32::r:=by
  obtain ⟨y,m,em⟩:=List.exists_cons_of_ne_nil (show l.map (zhH sp)++[Str.ofString ""]≠[] from List.append_ne_nil_of_right_ne_nil _ (List.cons_ne_nil _ _))
  unfold txP
  rw [List.map_cons,List.cons_append,em,za9]
  unfold zhH zpl
  rw [za9,List.append_assoc]
  exact ⟨_,rfl⟩
 obtain ⟨r,e⟩:=e
 rw [zse e,zsS,zkK]
 ·rw [List.dropLast_concat,List.getLastD_concat,if_neg]
  ·have:((p::l).map (zhH sp)).filterMap (shO sp)=(p::l).map (zcO sp):=by
    have key:∀ m:List PR,(∀ p∈m,GP sp p)→(m.map (zhH sp)).filterMap (shO sp)=m.map (zcO sp):=by
     intro m
     induction m with
     | nil=>intro _;rfl
     | cons x m ih =>
      intro h
      rw [List.map_cons,List.filterMap_cons_some (ziI (h x (List.mem_cons_self ..))),ih fun y hy=>h y (List.mem_cons_of_mem _ hy),List.map_cons]
    exact key _ g
   rw [this]
  ·rintro (z | z)
   ·cases z
   ·exact z rfl
 ·intro i x hx
  rw [List.dropLast_concat] at hx
  obtain ⟨q,hq,rfl⟩:=List.mem_map.mp (List.mem_of_getElem? hx)
  rw [ziI (g q hq)]
  exact nofun
theorem zrE (sp:Bool):(kdS sp=Str.ofString "walk")↔sp=false:=by
 cases sp
 ·exact ⟨fun _=>rfl,fun _=>rfl⟩
 ·exact ⟨fun z=>absurd z zgL,fun z=>by cases z⟩
theorem zu2 (sp:Bool):(if kdS sp=Str.ofString "walk" then (1:Int) else 0)=(if sp=true then 0 else 1):=by
 cases sp
 ·rw [if_pos ((zrE false).mpr rfl),if_neg Bool.false_ne_true]
 ·rw [if_neg (fun z=>by cases (zrE true).mp z),if_pos rfl]
def PTh (sp:Bool) (H:Hp) (y:V):Prop:=if sp then ∃ u a b,y=.ref u∧H u=some (.tup [.int a,.int b])∧0≤a∧a<big∧0≤b∧b<big else ∃ n,y=.int n∧0≤n∧n<big
theorem PTh.same {sp:Bool} {H H':Hp} {y:V} (h:PTh sp H y) (s:zaQ H H'):PTh sp H' y:=by
 unfold PTh at h ⊢
 cases sp
 ·exact h
 ·rw [if_pos rfl] at h ⊢
  obtain ⟨u,a,b,e,h1,h2⟩:=h
  exact ⟨u,a,b,e,s _ _ h1,h2⟩
def PSh (sp:Bool) (H:Hp) (x:V):Prop:=∃ (t l:Addr) (w:Int) (ys:List V),x=.ref t∧H t=some (.tup [.ref l,.int w])∧1≤w∧w<big∧H l=some (.lst ys)∧ys.length≤9∧(sp=false→ys≠[])∧∀ y∈ys,PTh sp H y
theorem PSh.same {sp:Bool} {H H':Hp} {x:V} (h:PSh sp H x) (s:zaQ H H'):PSh sp H' x:=by
 obtain ⟨t,l,w,ys,e,h1,h2,h3,h4,h5,h7,h6⟩:=h
 exact ⟨t,l,w,ys,e,s _ _ h1,h2,h3,s _ _ h4,h5,h7,fun y hy=>(h6 y hy).same s⟩
def znD (K:PySem.W.Frag):Sp:=fun vs H Q _=>∃ (p:Addr) (ns:List Int) (st:Int) (sp:Bool),vs=[.ref p,.int st,.str (kdS sp)]∧0≤st∧st≤1000∧SqL K H p (ns.map V.int)∧ns.length≤63∧∀ r xs H',zaQ H H'→H' r=some (.lst xs)→1≤xs.length→xs.length≤4→(∀ x∈xs,PSh sp H' x)→Q (.ref r) H'
def zch (K:PySem.W.Frag):TS :=
 (zaN (zbe (zaZ (zcQ K) [] E0 (zab (zac 0) (zab (tOp (rI0 fun i j=>.int (i+j)) (tOp (rI0 fun i j=>.int (i+j)) (tOp (rI0 fun i j=>.int (i+j)) (zac 1) (tC (.int 10))) (tOp (rI IntMulOk fun i j=>.int (i*j)) (tC (.int 10)) (zac 4))) (zac 7)) zav))) (zat 10))
 (zaN (zbe (tOp (zeA K) (zdM (zab (tOp (rI (fun _ j=>0<j) fun i j=>.int (i % j)) (tOp (rI (fun _ j=>0<j∧j.natAbs.log2<9000) fun i j=>.int (i / j)) (zac 10) (tC (.int 3))) (tC (.int 8))) (zab (tOp (rI (fun _ j=>0<j) fun i j=>.int (i % j)) (tOp (rI (fun _ j=>0<j∧j.natAbs.log2<9000) fun i j=>.int (i / j)) (zac 10) (tC (.int 3))) (tC (.int 100))) (zab (tOp (rI0 fun i j=>.int (i - j)) (tOp (rI zmN fun i j=>.int (i ^ j.toNat)) (tC (.int 10)) (tC (.int 29))) (zac 10)) zav)))) (tOp (rI (fun _ j=>0<j) fun i j=>.int (i % j)) (zac 10) (tC (.int 3)))) (zat 11))
 (zcb (zaJ (tOp rEq (zac 2) (tC (.str "walk")))) (zc2 (tBM K "list" zbK (zac 9) (zab (zac 11) zav))) (zc2 (tBM K "list" zbK (zac 9) (zab (zgZ (zab (zac 11) (zab (tOp (rI (fun _ j=>0<j) fun i j=>.int (i % j)) (tOp (rI (fun _ j=>0<j∧j.natAbs.log2<9000) fun i j=>.int (i / j)) (zac 10) (tC (.int 24))) (tC (.int 60))) zav))) zav))))))
theorem zbk (K:PySem.W.Frag) (D:zb9) (σ:St) (H:Hp):zch K D σ H=(zaN (zbe (zaZ (zcQ K) [] E0 (zab (zac 0) (zab (tOp (rI0 fun i j=>.int (i+j)) (tOp (rI0 fun i j=>.int (i+j)) (tOp (rI0 fun i j=>.int (i+j)) (zac 1) (tC (.int 10))) (tOp (rI IntMulOk fun i j=>.int (i*j)) (tC (.int 10)) (zac 4))) (zac 7)) zav))) (zat 10))
 (zaN (zbe (tOp (zeA K) (zdM (zab (tOp (rI (fun _ j=>0<j) fun i j=>.int (i % j)) (tOp (rI (fun _ j=>0<j∧j.natAbs.log2<9000) fun i j=>.int (i / j)) (zac 10) (tC (.int 3))) (tC (.int 8))) (zab (tOp (rI (fun _ j=>0<j) fun i j=>.int (i % j)) (tOp (rI (fun _ j=>0<j∧j.natAbs.log2<9000) fun i j=>.int (i / j)) (zac 10) (tC (.int 3))) (tC (.int 100))) (zab (tOp (rI0 fun i j=>.int (i - j)) (tOp (rI zmN fun i j=>.int (i ^ j.toNat)) (tC (.int 10)) (tC (.int 29))) (zac 10)) zav)))) (tOp (rI (fun _ j=>0<j) fun i j=>.int (i % j)) (zac 10) (tC (.int 3)))) (zat 11))
 (zcb (zaJ (tOp rEq (zac 2) (tC (.str "walk")))) (zc2 (tBM K "list" zbK (zac 9) (zab (zac 11) zav))) (zc2 (tBM K "list" zbK (zac 9) (zab (zgZ (zab (zac 11) (zab (tOp (rI (fun _ j=>0<j) fun i j=>.int (i % j)) (tOp (rI (fun _ j=>0<j∧j.natAbs.log2<9000) fun i j=>.int (i / j)) (zac 10) (tC (.int 24))) (tC (.int 60))) zav))) zav)))))) D σ H:=rfl
def zcH (K:PySem.W.Frag):TS :=
 (zaN (zbe (tOp (zeA K) (zdM (zab (tOp (rI0 fun i j=>.int (i+j)) (tC (.int 1)) (tOp (rI (fun _ j=>0<j) fun i j=>.int (i % j)) (tOp (rI (fun _ j=>0<j∧j.natAbs.log2<9000) fun i j=>.int (i / j)) (zac 5) (tC (.int 4))) (tC (.int 9)))) (zab (tOp (rI0 fun i j=>.int (i - j)) (tOp (rI zmN fun i j=>.int (i ^ j.toNat)) (tC (.int 10)) (tC (.int 29))) (zac 5)) (zab (tOp (rI0 fun i j=>.int (i+j)) (tC (.int 1)) (tOp (rI (fun _ j=>0<j∧j.natAbs.log2<9000) fun i j=>.int (i / j)) (zac 5) (tC (.int 4)))) (zab (zac 6) zav))))) (tOp (rI (fun _ j=>0<j) fun i j=>.int (i % j)) (zac 5) (tC (.int 4)))) (zat 8))
 (zaN (zbe (zdM zav) (zat 9))
 (zaN (zg3 (zhP (zab (tOp (rI0 fun i j=>.int (i+j)) (tOp (rI (fun _ j=>0<j) fun i j=>.int (i % j)) (zaZ (zcQ K) [] E0 (zab (zac 0) (zab (tOp (rI0 fun i j=>.int (i+j)) (tOp (rI0 fun i j=>.int (i+j)) (zac 1) (tC (.int 5))) (zac 4)) zav))) (tC (.int 9))) (tCB (fun xs H Q=>(∃ i,xs=[.int i]∧Q (.int i) H)∨∃ k,xs=[.bl k]∧Q (.int (if k then 1 else 0)) H) (zab (tOp rEq (zac 2) (tC (.str "walk"))) zav))) zav)) (zat 7)
 (zch K))
 (zc2 (tBM K "list" zbK (zac 3) (zab (zgZ (zab (zac 9) (zab (zac 8) zav))) zav))))))
theorem zbi (K:PySem.W.Frag) (D:zb9) (σ:St) (H:Hp):zcH K D σ H=(zaN (zbe (tOp (zeA K) (zdM (zab (tOp (rI0 fun i j=>.int (i+j)) (tC (.int 1)) (tOp (rI (fun _ j=>0<j) fun i j=>.int (i % j)) (tOp (rI (fun _ j=>0<j∧j.natAbs.log2<9000) fun i j=>.int (i / j)) (zac 5) (tC (.int 4))) (tC (.int 9)))) (zab (tOp (rI0 fun i j=>.int (i - j)) (tOp (rI zmN fun i j=>.int (i ^ j.toNat)) (tC (.int 10)) (tC (.int 29))) (zac 5)) (zab (tOp (rI0 fun i j=>.int (i+j)) (tC (.int 1)) (tOp (rI (fun _ j=>0<j∧j.natAbs.log2<9000) fun i j=>.int (i / j)) (zac 5) (tC (.int 4)))) (zab (zac 6) zav))))) (tOp (rI (fun _ j=>0<j) fun i j=>.int (i % j)) (zac 5) (tC (.int 4)))) (zat 8))
 (zaN (zbe (zdM zav) (zat 9))
 (zaN (zg3 (zhP (zab (tOp (rI0 fun i j=>.int (i+j)) (tOp (rI (fun _ j=>0<j) fun i j=>.int (i % j)) (zaZ (zcQ K) [] E0 (zab (zac 0) (zab (tOp (rI0 fun i j=>.int (i+j)) (tOp (rI0 fun i j=>.int (i+j)) (zac 1) (tC (.int 5))) (zac 4)) zav))) (tC (.int 9))) (tCB (fun xs H Q=>(∃ i,xs=[.int i]∧Q (.int i) H)∨∃ k,xs=[.bl k]∧Q (.int (if k then 1 else 0)) H) (zab (tOp rEq (zac 2) (tC (.str "walk"))) zav))) zav)) (zat 7)
 (zch K))
 (zc2 (tBM K "list" zbK (zac 3) (zab (zgZ (zab (zac 9) (zab (zac 8) zav))) zav)))))) D σ H:=rfl
def zdI (K:PySem.W.Frag):TS :=
 (zaN (zbe (zaZ (zcQ K) [] E0 (zab (zac 0) (zab (tOp (rI0 fun i j=>.int (i+j)) (tOp (rI0 fun i j=>.int (i+j)) (zac 1) (tC (.int 1))) (zac 4)) zav))) (zat 5))
 (zaN (zbe (tC (.int 1)) (zat 6))
 (zaN (zg3 (zhP (zab (tOp (rI (fun _ j=>0<j) fun i j=>.int (i % j)) (tOp (rI (fun _ j=>0<j∧j.natAbs.log2<9000) fun i j=>.int (i / j)) (zac 5) (tC (.int 4))) (tC (.int 30))) zav)) (zat 7)
 (zbe (tOp (rI IntMulOk fun i j=>.int (i*j)) (tC (.int 10)) (zac 6)) (zat 6)))
 (zcH K))))
theorem zbn (K:PySem.W.Frag) (D:zb9) (σ:St) (H:Hp):zdI K D σ H=(zaN (zbe (zaZ (zcQ K) [] E0 (zab (zac 0) (zab (tOp (rI0 fun i j=>.int (i+j)) (tOp (rI0 fun i j=>.int (i+j)) (zac 1) (tC (.int 1))) (zac 4)) zav))) (zat 5))
 (zaN (zbe (tC (.int 1)) (zat 6))
 (zaN (zg3 (zhP (zab (tOp (rI (fun _ j=>0<j) fun i j=>.int (i % j)) (tOp (rI (fun _ j=>0<j∧j.natAbs.log2<9000) fun i j=>.int (i / j)) (zac 5) (tC (.int 4))) (tC (.int 30))) zav)) (zat 7)
 (zbe (tOp (rI IntMulOk fun i j=>.int (i*j)) (tC (.int 10)) (zac 6)) (zat 6)))
 (zcH K)))) D σ H:=rfl
def zeQ (K:PySem.W.Frag):TS :=
 (zaN (zbe (zdM zav) (zat 3))
 (zaN (zg3 (zhP (zab (tOp (rI0 fun i j=>.int (i+j)) (tC (.int 1)) (tOp (rI (fun _ j=>0<j) fun i j=>.int (i % j)) (zaZ (zcQ K) [] E0 (zab (zac 0) (zab (zac 1) zav))) (tC (.int 4)))) zav)) (zat 4)
 (zdI K))
 (zbV (zac 3))))
theorem PTh.int {n:Int} (h0:0≤n) (h1:n<big):PTh false H (.int n):=by
 unfold PTh
 rw [if_neg Bool.false_ne_true]
 exact ⟨n,rfl,h0,h1⟩
theorem PTh.tup {a b:Int} {u:Addr} (h:H u=some (.tup [.int a,.int b])) (a0:0≤a) (a1:a<big) (b0:0≤b) (b1:b<big):PTh true H (.ref u):=by
 unfold PTh
 rw [if_pos rfl]
 exact ⟨u,a,b,rfl,h,a0,a1,b0,b1⟩
theorem pick3 {i a b c:Int} (h:∀ x,x=a∨x=b∨x=c→0≤x∧x<big):∃ v:Int,atI [V.int a,V.int b,V.int c] (i % 3)=some (.int v)∧0≤v∧v<big:=by
 have:i % 3=0∨i % 3=1∨i % 3=2:=by omega
 rcases this with e | e | e
 ·exact ⟨a,by rw [e];exact zbJ (j:=0) rfl,h a (.inl rfl)⟩
 ·exact ⟨b,by rw [e];exact zbJ (j:=1) rfl,h b (.inr (.inl rfl))⟩
 ·exact ⟨c,by rw [e];exact zbJ (j:=2) rfl,h c (.inr (.inr rfl))⟩
theorem pick4 {i a b c d:Int} (h:∀ x,x=a∨x=b∨x=c∨x=d→1≤x∧x<big):∃ v:Int,atI [V.int a,V.int b,V.int c,V.int d] (i % 4)=some (.int v)∧1≤v∧v<big:=by
 have:i % 4=0∨i % 4=1∨i % 4=2∨i % 4=3:=by omega
 rcases this with e | e | e | e
 ·exact ⟨a,by rw [e];exact zbJ (j:=0) rfl,h a (.inl rfl)⟩
 ·exact ⟨b,by rw [e];exact zbJ (j:=1) rfl,h b (.inr (.inl rfl))⟩
 ·exact ⟨c,by rw [e];exact zbJ (j:=2) rfl,h c (.inr (.inr (.inl rfl)))⟩
 ·exact ⟨d,by rw [e];exact zbJ (j:=3) rfl,h d (.inr (.inr (.inr rfl)))⟩
theorem zvF:zmN 10 29:=⟨by decide,by decide,by decide⟩
theorem zt5 {D:zb9} {p pl:Addr} {ns:List Int} {sp:Bool} {st i j:Int} {ys:List V} {x3 x5 x6 x8 x10 x11:Option V} (st0:0≤st) (st1:st≤1000) (hS:SqL K H p (ns.map V.int)) (hl:ns.length≤63) (i0:0≤i) (i4:i<4) (j0:0≤j) (j9:j<10) (hpl:H pl=some (.lst ys)) (ly:ys.length≤9)
  (good:∀ y H' z10 z11,Bar pl H H'→H' pl=some (.lst (ys++[y]))→PTh sp (NwH H H') y→D.nx [some (.ref p),some (.int st),some (.str (kdS sp)),x3,some (.int i),x5,x6,some (.int j),x8,some (.ref pl),z10,z11] H') :
  zch K D [some (.ref p),some (.int st),some (.str (kdS sp)),x3,some (.int i),x5,x6,some (.int j),x8,some (.ref pl),x10,x11] H:=by
 unfold zch
 simp_all only [zbk,zbi,zbn,zac]
 refine ⟨mulL (by decide) (by decide),p,ns,_,rfl,hS,hl,by omega,by omega,fun r r0 r1=>⟨r,rfl,by decide,by decide +kernel,by decide,r,rfl,by decide,by decide +kernel,by decide,zvF,r,rfl,by decide,fun tp htp=>⟨r,rfl,by decide,_,SqL.of zad,?_⟩⟩⟩
 obtain ⟨v,hv,v0,v1⟩:=pick3 (i:=r) (a:=r / 3 % 8) (b:=r / 3 % 100) (c:=100000000000000000000000000000 - r) fun x hx=>by
  unfold big
  rcases hx with rfl | rfl | rfl <;> omega
 refine ⟨.int v,hv,rfl,?_⟩
 generalize eH:L2.upd H tp (.lst [.int (r / 3 % 8),.int (r / 3 % 100),.int (100000000000000000000000000000 - r)])=H1
 have s1:zaQ H H1:=by rw [← eH];exact zai htp _
 have h1:=s1 _ _ hpl
 cases sp
 ·rw [if_pos zos]
  refine ⟨.inl ⟨rfl,_,SqL.of h1⟩,ys,h1,zc9 (by omega),good _ _ _ _ (fun b o n e=>by rw [zaj n];exact s1 _ _ e) zad (.int v0 v1)⟩
 ·rw [if_neg (show ¬ kdS true=Str.ofString "walk" from zgL)]
  refine ⟨.inl ⟨rfl,_,SqL.of h1⟩,r,rfl,by decide,by decide +kernel,by decide,by decide,fun u hu=>⟨ys,(zai hu _) _ _ h1,zc9 (by omega),good _ _ _ _ (fun b o n e=>by rw [zaj n];exact (zai hu _) _ _ (s1 _ _ e)) zad (.tup (a:=v) (b:=r / 24 % 60) (zce.mpr ⟨s1.free hu,?_⟩) v0 v1 (by omega) (by unfold big;omega))⟩⟩
  have n1:u≠pl:=fun z=>by rw [z,h1] at hu;cases hu
  rw [zaj n1,zad]
theorem ziR {p:Addr} {ns:List Int} {st:Int} {sp:Bool} (st0:0≤st) (st1:st≤1000) (hS:SqL K H p (ns.map V.int)) (hl:ns.length≤63) (q:∀ r xs H',zaQ H H'→H' r=some (.lst xs)→1≤xs.length→xs.length≤4→(∀ x∈xs,PSh sp H' x)→Q (.ref r) H'):zeQ K { nx:=fun _ H'=>Q .non H',rt:=Q } (L2.zbB ["_law_script","_law_start","_law_kind","_law_paper_here","_law_k","_law_number","_law_ten","_law_j","_law_weight","_law_plan","_law_draw","_law_place"] [.ref p,.int st,.str (kdS sp)]) H:=by
 unfold zeQ
 simp_all only [zbk,zbi,zbn,zac]
 refine ⟨by decide,fun pp hpp=>⟨p,ns,_,rfl,(zai hpp _).seq hS,hl,by omega,by omega,fun r r0 r1=>⟨r,rfl,by decide,by omega,by omega,?_⟩⟩⟩
 generalize eH:L2.upd H pp (.lst [])=H0
 have s0:zaQ H H0:=by rw [← eH];exact zai hpp _
 have h0:H0 pp=some (.lst []):=by rw [← eH,zad]
 have toS:∀ H',Bar pp H0 H'→zaQ H H':=fun H' b b' o e=>b _ _ (zaz e hpp) (s0 _ _ e)
 refine zdR (fun i σ H'=>Bar pp H0 H'∧(∃ xs,H' pp=some (.lst xs)∧xs.length=i∧∀ x∈xs,PSh sp (NwH H0 H') x)∧∃ z4 z5 z6 z7 z8 z9 z10 z11,σ=[some (.ref p),some (.int st),some (.str (kdS sp)),some (.ref pp),z4,z5,z6,z7,z8,z9,z10,z11]) ⟨fun _ _ _ e=>e,⟨[],h0,rfl,fun x h=>by cases h⟩,_,_,_,_,_,_,_,_,rfl⟩ ?_ ?_
 ·rintro i σ H' hi ⟨b,⟨xs,hx,lx,sx⟩,z4,z5,z6,z7,z8,z9,z10,z11,rfl⟩
  have hi4:i<4:=by omega
  rw [Int.zero_add]
  unfold zdI
  simp_all only [zbk,zbi,zbn,zac]
  refine ⟨p,ns,_,rfl,(toS H' b).seq hS,hl,by omega,by omega,fun r r0 r1=>⟨r,rfl,by decide,by decide +kernel,by decide,by omega,by omega,?_⟩⟩
  refine zdR (fun j σ H2=>H2=H'∧∃ (c:Nat) (z7:Option V),(1≤c∧c≤10 ^ j)∧σ=[some (.ref p),some (.int st),some (.str (kdS sp)),some (.ref pp),some (.int i),some (.int r),some (.int c),z7,z8,z9,z10,z11]) ⟨rfl,1,_,⟨Nat.le_refl _,Nat.le_refl _⟩,rfl⟩ ?_ ?_
  ·rintro j σ H2 hj ⟨rfl,c,z7,hc,rfl⟩
   simp_all only [zbk,zbi,zbn,zac]
   refine ⟨mulL (by decide) (by decide),10*c,by omega,?_,rfl⟩
   rw [Nat.pow_succ]
   omega
  rintro σ H2 ⟨rfl,c,z7,hc,rfl⟩
  have hc2:c≤10 ^ 29:=Nat.le_trans hc.2 (Nat.pow_le_pow_right (by decide) (by omega))
  unfold zcH
  simp_all only [zbk,zbi,zbn,zac]
  have hc3:(c:Int)<big:=by
   have:(10:Nat) ^ 29=100000000000000000000000000000:=by decide
   unfold big
   omega
  refine ⟨by decide,by decide +kernel,by decide,zvF,by decide,by decide +kernel,by decide,fun tq htq=>⟨by decide,_,SqL.of zad,?_⟩⟩
  obtain ⟨wg,hw,w0,w1⟩:=pick4 (i:=r) (a:=1+r / 4 % 9) (b:=100000000000000000000000000000 - r) (c:=1+r / 4) (d:=(c:Int)) fun x hx=>by
   rcases hx with rfl | rfl | rfl | rfl
   ·unfold big;omega
   ·unfold big;omega
   ·unfold big;omega
   ·exact ⟨by omega,hc3⟩
  refine ⟨.int wg,hw,by decide,fun pl hpl=>?_⟩
  have npl:pl≠pp:=fun z=>by
   have:=(zai htq (.lst [.int (1+r / 4 % 9),.int (100000000000000000000000000000 - r),.int (1+r / 4),.int (c:Int)])) _ _ hx
   rw [z,this] at hpl
   cases hpl
  have hHpl:H2 pl=none:=(zai htq _).free hpl
  generalize eH3:L2.upd (L2.upd H2 tq (.lst [.int (1+r / 4 % 9),.int (100000000000000000000000000000 - r),.int (1+r / 4),.int (c:Int)])) pl (.lst [])=H3
  have s3:zaQ H2 H3:=by rw [← eH3];exact (zai htq _).add hpl
  have h3l:H3 pl=some (.lst []):=by rw [← eH3,zad]
  have ei:=zu2 sp
  have hb2:0≤(if sp=true then (0:Int) else 1)∧(if sp=true then (0:Int) else 1)≤1:=by cases sp <;> decide
  have sHs:∀ H4,Bar pl H3 H4→zaQ H H4:=fun H4 b4 b' o e=>b4 _ _ (fun z=>by rw [z] at e;rw [toS H2 b _ _ e] at hHpl;cases hHpl) (s3 _ _ (toS H2 b _ _ e))
  refine ⟨p,ns,_,rfl,s3.seq ((toS H2 b).seq hS),hl,by omega,by omega,fun m m0 m1=>⟨m,rfl,by decide,rfl,.inr ?_⟩⟩
  rw [ei]
  refine ⟨by omega,by omega,?_⟩
  refine zdR (fun j σ H4=>Bar pl H3 H4∧(∃ ys,H4 pl=some (.lst ys)∧ys.length=j∧∀ y∈ys,PTh sp (NwH H3 H4) y)∧∃ z7 z10 z11,σ=[some (.ref p),some (.int st),some (.str (kdS sp)),some (.ref pp),some (.int i),some (.int r),some (.int c),z7,some (.int wg),some (.ref pl),z10,z11]) ⟨fun _ _ _ e=>e,⟨[],h3l,rfl,fun y h=>by cases h⟩,_,_,_,rfl⟩ ?_ ?_
  ·rintro j σ H4 hj ⟨b4,⟨ys,hy,ly,sy⟩,y7,y10,y11,rfl⟩
   rw [Int.zero_add]
   refine zt5 (sp:=sp) st0 st1 ((sHs H4 b4).seq hS) hl (by omega) (by omega) (by omega) (by omega) hy (by omega) fun y H5 z10 z11 b5 h5 sh5=>?_
   refine ⟨fun b' o n e=>b5 _ _ n (b4 b' o n e),⟨ys++[y],h5,by rw [List.length_append,ly];rfl,fun z hz=>?_⟩,_,_,_,rfl⟩
   have nb:∀ b',H3 b'=none→b'≠pl:=fun b' h z=>by rw [z,h3l] at h;cases h
   rcases List.mem_append.mp hz with hz | hz
   ·exact (sy z hz).same (zcv fun b' o e1 e2=>⟨e1,b5 _ _ (nb b' e1) e2⟩)
   ·rw [List.mem_singleton.mp hz]
    refine sh5.same (zcv fun b' o e1 e2=>⟨?_,e2⟩)
    cases h0:H3 b' with
    | none=>rfl
    | some o' =>
     have n:b'≠pl:=fun z=>by rw [z,hy] at e1;cases e1
     rw [b4 _ _ n h0] at e1
     cases e1
  ·rintro σ H4 ⟨b4,⟨ys,hy,ly,sy⟩,y7,y10,y11,rfl⟩
   have hx4:H4 pp=some (.lst xs):=b4 _ _ npl.symm (s3 _ _ hx)
   have b04:Bar pp H0 H4:=fun b' o n e=>b4 _ _ (fun z=>by rw [z] at e;rw [b _ _ (z ▸ n) e] at hHpl;cases hHpl) (s3 _ _ (b b' o n e))
   simp_all only [zbk,zbi,zbn,zac]
   refine ⟨.inl ⟨rfl,_,SqL.of hx4⟩,by decide,fun tt htt=>⟨xs,(zai htt _) _ _ hx4,zc9 (by omega),?_⟩⟩
   have nt1:tt≠pp:=fun z=>by rw [z,hx4] at htt;cases htt
   have nt2:tt≠pl:=fun z=>by rw [z,hy] at htt;cases htt
   have no0:∀ b',H4 b'=none→b'≠pp→H0 b'=none:=fun b' h n=>by
    cases h0:H0 b' with
    | none=>rfl
    | some o=>rw [b04 _ _ n h0] at h;cases h
   refine ⟨fun b' o n e=>by rw [zaj n];exact (zai htt _) _ _ (b04 b' o n e),⟨xs++[.ref tt],zad,by rw [List.length_append,lx];rfl,fun x hxx=>?_⟩⟩
   have n0:∀ b',H0 b'=none→b'≠pp:=fun b' h z=>by rw [z,h0] at h;cases h
   rcases List.mem_append.mp hxx with hxx | hxx
   ·refine (sx x hxx).same (zcv fun b' o e1 e2=>⟨e1,?_⟩)
    have e3:=b4 _ _ (fun z=>by rw [z,hHpl] at e2;cases e2) (s3 _ _ e2)
    rw [zaj (n0 b' e1),zaj (zaz e3 htt)]
    exact e3
   ·rw [List.mem_singleton.mp hxx]
    have hl0:H0 pl=none:=by
     cases h0:H0 pl with
     | none=>rfl
     | some o=>rw [b _ _ npl h0] at hHpl;cases hHpl
    refine ⟨tt,pl,wg,ys,rfl,zce.mpr ⟨no0 tt htt nt1,by rw [zaj nt1,zad]⟩,w0,w1,zce.mpr ⟨hl0,?_⟩,by omega,fun es z=>by rw [es,if_neg Bool.false_ne_true] at ly;rw [z,List.length_nil] at ly;omega,fun y hyy=>(sy y hyy).same (zcv fun b' o e1 e2=>?_)⟩
    ·rw [zaj npl,zaj nt2.symm]
     exact hy
    ·have m1:b'≠pp:=fun z=>by rw [z,s3 _ _ hx] at e1;cases e1
     have m2:b'≠tt:=zaz e2 htt
     refine ⟨?_,by rw [zaj m1,zaj m2];exact e2⟩
     cases h0:H0 b' with
     | none=>rfl
     | some o'=>rw [s3 _ _ (b _ _ m1 h0)] at e1;cases e1
 ·rintro σ H' ⟨b,⟨xs,hx,lx,sx⟩,z4,z5,z6,z7,z8,z9,z10,z11,rfl⟩
  simp_all only [zbk,zbi,zbn,zac]
  exact q pp xs H' (toS H' b) hx (by omega) (by omega) fun x hx=>(sx x hx).same zlp
theorem za3:zaP ["_law_script","_law_start","_law_kind","_law_paper_here","_law_k","_law_number","_law_ten","_law_j","_law_weight","_law_plan","_law_draw","_law_place"] ["_law_script","_law_start","_law_kind"] (zau zeH):=⟨rfl,rfl,rfl,by decide +kernel,rfl,by decide +kernel,by decide +kernel⟩
theorem ziz (T:Txt K mg base a):zcW P w K mg base CX0 2 a.f__law_paper a.d__law_paper ["_law_script","_law_start","_law_kind"] (znD K):=by
 have G__law_mixed:=zfM (P:=P) (w:=w) (base:=base) T
 refine T.F__law_paper.ok za3 (fun vs H Q E h=>?_) (fun cdv A outer s H vs Q E hr h=>?_)
 ·obtain ⟨p,ns,st,sp,rfl,st0,st1,hS,hl,q⟩:=h
  rfl
 obtain ⟨p,ns,st,sp,rfl,st0,st1,hS,hl,q⟩:=h
 exact ⟨zeQ K,(zaf (zaE (i:=3) za3.nd rfl (Or.inl rfl) (zbX zae))
 (zaf (zdo PassesOwn.never rfl (zeJ rfl T.z_range (zaa (zaF zc5 zak (zaF zcd (zaG G__law_mixed (hr.mono (by decide)) rfl T.m__law_mixed T.F__law_mixed.kp T.b__law_mixed .nil zbs (zaa (pv 0) (zaa (pv 1) zae))) zak)) zae)) (zaT (i:=4) za3.nd rfl (Or.inl rfl))
 (zaf (zaE (i:=5) za3.nd rfl (Or.inl rfl) (zaG G__law_mixed (hr.mono (by decide)) rfl T.m__law_mixed T.F__law_mixed.kp T.b__law_mixed .nil zbs (zaa (pv 0) (zaa (zaF zc5 (zaF zc5 (pv 1) zak) (pv 4)) zae))))
 (zaf (zaE (i:=6) za3.nd rfl (Or.inl rfl) zak)
 (zaf (zdo PassesOwn.never rfl (zeJ rfl T.z_range (zaa (zaF zcd (zaF zci (pv 5) zak) zak) zae)) (zaT (i:=7) za3.nd rfl (Or.inl rfl))
 (zah (zaE (i:=6) za3.nd rfl (Or.inl rfl) (zaF zgn zak (pv 6)))))
 (zaf (zaE (i:=8) za3.nd rfl (Or.inl rfl) (zcN zbT (zbX (zaa (zaF zc5 zak (zaF zcd (zaF zci (pv 5) zak) zak)) (zaa (zaF zlF (zaF zjo zak zak) (pv 5)) (zaa (zaF zc5 zak (zaF zci (pv 5) zak)) (zaa (pv 6) zae))))) (zaF zcd (pv 5) zak) (fun _ _=>rfl)))
 (zaf (zaE (i:=9) za3.nd rfl (Or.inl rfl) (zbX zae))
 (zaf (zdo PassesOwn.never rfl (zeJ rfl T.z_range (zaa (zaF zc5 (zaF zcd (zaG G__law_mixed (hr.mono (by decide)) rfl T.m__law_mixed T.F__law_mixed.kp T.b__law_mixed .nil zbs (zaa (pv 0) (zaa (zaF zc5 (zaF zc5 (pv 1) zak) (pv 4)) zae))) zak) (zbA zkc rfl T.z_int zds (zaa (zcg zeM (pv 2) zaR (zaL _)) zae))) zae)) (zaT (i:=7) za3.nd rfl (Or.inl rfl))
 (zaf (zaE (i:=10) za3.nd rfl (Or.inl rfl) (zaG G__law_mixed (hr.mono (by decide)) rfl T.m__law_mixed T.F__law_mixed.kp T.b__law_mixed .nil zbs (zaa (pv 0) (zaa (zaF zc5 (zaF zc5 (zaF zc5 (pv 1) zak) (zaF zgn zak (pv 4))) (pv 7)) zae))))
 (zaf (zaE (i:=11) za3.nd rfl (Or.inl rfl) (zcN zbT (zbX (zaa (zaF zcd (zaF zci (pv 10) zak) zak) (zaa (zaF zcd (zaF zci (pv 10) zak) zak) (zaa (zaF zlF (zaF zjo zak zak) (pv 10)) zae)))) (zaF zcd (pv 10) zak) (fun _ _=>rfl)))
 (zah (zb2 (zaI zeM (pv 2) zaR (zaL _)) (zah (zco (zdN PySem.F.plainAttrs_list PySem.F.slot_list_append PySem.F.type_list_append zda (pv 9) (zaa (pv 11) zae)))) (zah (zco (zdN PySem.F.plainAttrs_list PySem.F.slot_list_append PySem.F.type_list_append zda (pv 9) (zaa (zdj (zaa (pv 11) (zaa (zaF zcd (zaF zci (pv 10) zak) zak) zae))) zae)))))))))
 (zah (zco (zdN PySem.F.plainAttrs_list PySem.F.slot_list_append PySem.F.type_list_append zda (pv 3) (zaa (zdj (zaa (pv 9) (zaa (pv 8) zae))) zae)))))))))))
 (zah (zaU (pv 3))))),
  ziR st0 st1 hS hl q⟩
theorem ziA {α β:Type} {R:α→β→Prop}:∀ l:List α,(∀ x∈l,∃ y,R x y)→∃ ys:List β,ys.length=l.length∧∀ (i:Nat) x y,l[i]?=some x→ys[i]?=some y→R x y
 | [],_=>⟨[],rfl,fun i x y e=>by cases e⟩
 | x::l,h=>by
  obtain ⟨y,hy⟩:=h x (List.mem_cons_self ..)
  obtain ⟨ys,e,hs⟩:=ziA l fun z hz=>h z (List.mem_cons_of_mem _ hz)
  refine ⟨y::ys,by rw [List.length_cons,List.length_cons,e],fun i u v e1 e2=>?_⟩
  cases i with
  | zero=>cases e1;cases e2;exact hy
  | succ i=>exact hs i u v e1 e2
theorem zrY {β:Type} {P:β→Prop} {ys:List β} {n:Nat} (l:ys.length=n) (h:∀ (i:Nat) y,i<n→ys[i]?=some y→P y):∀ y∈ys,P y:=fun y hy=>by
 obtain ⟨i,e⟩:=List.mem_iff_getElem?.mp hy
 exact h i y (by have:=(List.getElem?_eq_some_iff.mp e).1;omega) e
theorem zvS {sp:Bool} {y:V} (h:PTh sp H y):∃ x:Int×Int,(NB x.1∧NB x.2)∧Sh H (thT sp x) y:=by
 unfold PTh at h
 cases sp
 ·rw [if_neg Bool.false_ne_true] at h
  obtain ⟨n,rfl,h1,h2⟩:=h
  exact ⟨(n,0),⟨⟨h1,h2⟩,Int.le_refl 0,show (0:Int)<big by decide⟩,.int n⟩
 ·rw [if_pos rfl] at h
  obtain ⟨u,a,b,rfl,hu,h1,h2,h3,h4⟩:=h
  exact ⟨(a,b),⟨⟨h1,h2⟩,h3,h4⟩,(ShL.cons (.int a) (.one (.int b))).tp hu⟩
theorem zvq {sp:Bool} {x:V} (h:PSh sp H x):∃ p:PR,GP sp p∧Sh H (zcO sp p) x:=by
 obtain ⟨t,l,w,ys,rfl,ht,w1,wb,hl,l9,ne,hy⟩:=h
 obtain ⟨zs,lz,hz⟩:=ziA ys fun y hy'=>zvS (hy y hy')
 refine ⟨(zs,w),⟨w1,wb,by omega,fun e z=>?_,zrY lz fun i z li ez=>(hz i _ z (List.getElem?_eq_getElem li) ez).1⟩,?_⟩
 ·have z:zs=[]:=z
  rw [z] at lz
  exact ne e (List.eq_nil_of_length_eq_zero lz.symm)
 ·refine (ShL.cons (ShL.sh ⟨by rw [List.length_map,lz],fun i y u e1 e2=>?_⟩ hl) (.one (.int w))).tp ht
  obtain ⟨z,ez,rfl⟩:=zeh e2
  exact (hz i y z e1 ez).2
theorem ztJ {sp:Bool} {xs:List V} {r:Addr} (hr:H r=some (.lst xs)) (hx:∀ x∈xs,PSh sp H x):∃ ps:List PR,ps.length=xs.length∧(∀ p∈ps,GP sp p)∧Sh H (.lst (ps.map (zcO sp))) (.ref r):=by
 obtain ⟨ps,lp,hp⟩:=ziA xs fun x hx'=>zvq (hx x hx')
 refine ⟨ps,lp,zrY lp fun i z li ez=>(hp i _ z (List.getElem?_eq_getElem li) ez).1,ShL.sh ⟨by rw [List.length_map,lp],fun i y u e1 e2=>?_⟩ hr⟩
 obtain ⟨z,ez,rfl⟩:=zeh e2
 exact (hp i y z e1 ez).2
theorem zjk {ts:List Tr} {v:V} (h:Sh H (.lst ts) v):∃ p xs,v=.ref p∧H p=some (.lst xs)∧ShL H ts xs:=by
 cases h with
 | lst h l e=>exact ⟨_,_,rfl,h,l,e⟩
theorem zoO {ts:List Tr} {v:V} (h:Sh H (.tup ts) v):∃ p xs,v=.ref p∧H p=some (.tup xs)∧ShL H ts xs:=by
 cases h with
 | tup h l e=>exact ⟨_,_,rfl,h,l,e⟩
theorem ShL.two {t u:Tr} {xs:List V} (h:ShL H [t,u] xs):∃ x y,xs=[x,y]∧Sh H t x∧Sh H u y:=by
 obtain ⟨l,e⟩:=h
 match xs,l with
 | [x,y],_=>exact ⟨x,y,rfl,e 0 x t rfl rfl,e 1 y u rfl rfl⟩
theorem zj6 {sp:Bool} {p:PR} {x:V} (h:Sh H (zcO sp p) x):∃ t l ys,x=.ref t∧H t=some (.tup [.ref l,.int p.2])∧H l=some (.lst ys)∧ShL H (p.1.map (thT sp)) ys:=by
 obtain ⟨t,xs,rfl,ht,hs⟩:=zoO h
 obtain ⟨x,y,rfl,h1,h2⟩:=hs.two
 obtain ⟨l,ys,rfl,hl,hy⟩:=zjk h1
 cases h2
 exact ⟨t,l,ys,rfl,ht,hl,hy⟩
theorem thf {x:Int×Int} {y:V} (h:Sh H (thT false x) y):y=.int x.1:=by cases h;rfl
theorem tht {x:Int×Int} {y:V} (h:Sh H (thT true x) y):∃ u,y=.ref u∧H u=some (.tup [.int x.1,.int x.2]):=by
 obtain ⟨t,xs,rfl,ht,hs⟩:=zoO h
 obtain ⟨x,y,rfl,h1,h2⟩:=hs.two
 cases h1
 cases h2
 exact ⟨t,rfl,ht⟩
theorem zem {n:Int} (h:NB n):n.natAbs.log2<1920:=by
 have h1:=h.1
 have h2:=h.2
 unfold big at h2
 by_cases z:n.natAbs=0
 ·rw [z,Nat.log2_zero]
  decide
 ·exact (Nat.log2_lt z).mpr (Nat.lt_trans (show n.natAbs<1000000000000000000000000000000 by omega) (by decide))
def zot (K:PySem.W.Frag):Sp:=fun vs H Q _=>∃ (sp:Bool) (v:V) (ps:List PR),vs=[.str (kdS sp),v]∧Sh H (.lst (ps.map (zcO sp))) v∧(∀ p∈ps,GP sp p)∧ps.length≤4∧Q (.str (txP sp ps)) H
def zbU (K:PySem.W.Frag):TS :=
 (zcb (zaJ (tOp rEq (zac 0) (tC (.str "walk")))) (zbe (tOp zcq (tOp zcq (zac 2) (tC (.str " "))) (tCB zgk (zab (zac 5) zav))) (zat 2)) (zbe (tOp zcq (tOp zcq (tOp zcq (tOp zcq (zac 2) (tC (.str " "))) (tCB zgk (zab (tOp (zjO K) (zac 5) (tC (.int 0))) zav))) (tC (.str "-"))) (tCB zgk (zab (tOp (zjO K) (zac 5) (tC (.int 1))) zav))) (zat 2)))
theorem zbg (K:PySem.W.Frag) (D:zb9) (σ:St) (H:Hp):zbU K D σ H=(zcb (zaJ (tOp rEq (zac 0) (tC (.str "walk")))) (zbe (tOp zcq (tOp zcq (zac 2) (tC (.str " "))) (tCB zgk (zab (zac 5) zav))) (zat 2)) (zbe (tOp zcq (tOp zcq (tOp zcq (tOp zcq (zac 2) (tC (.str " "))) (tCB zgk (zab (tOp (zjO K) (zac 5) (tC (.int 0))) zav))) (tC (.str "-"))) (tCB zgk (zab (tOp (zjO K) (zac 5) (tC (.int 1))) zav))) (zat 2))) D σ H:=rfl
def zcn (K:PySem.W.Frag):TS :=
 (zaN (zbe (tOp zcq (tOp zcq (tOp zcq (zac 2) (zac 0)) (tC (.str " "))) (tCB zgk (zab (zac 4) zav))) (zat 2))
 (zaN (zg3 (ze7 K (zac 3)) (zat 5)
 (zbU K))
 (zbe (tOp zcq (zac 2) (tC (.str "\n"))) (zat 2))))
theorem zbf (K:PySem.W.Frag) (D:zb9) (σ:St) (H:Hp):zcn K D σ H=(zaN (zbe (tOp zcq (tOp zcq (tOp zcq (zac 2) (zac 0)) (tC (.str " "))) (tCB zgk (zab (zac 4) zav))) (zat 2))
 (zaN (zg3 (ze7 K (zac 3)) (zat 5)
 (zbU K))
 (zbe (tOp zcq (zac 2) (tC (.str "\n"))) (zat 2)))) D σ H:=rfl
def zcD (K:PySem.W.Frag):TS :=
 (zaN (zbe (tC (.str "")) (zat 2))
 (zaN (zg3 (ze7 K (zac 1)) (zic K 2 (zbI (zat 3) (zbI (zat 4) zh4)))
 (zcn K))
 (zbV (zac 2))))
theorem zf0 {sp:Bool} {v:V} {ps:List PR} (hs:Sh H (.lst (ps.map (zcO sp))) v) (g:∀ p∈ps,GP sp p) (l4:ps.length≤4) (q:Q (.str (txP sp ps)) H):zcD K { nx:=fun _ H'=>Q .non H',rt:=Q } (L2.zbB ["_law_kind","_law_paper_here","_law_text","_law_plan","_law_weight","_law_thing"] [.str (kdS sp),v]) H:=by
 obtain ⟨r,xs,rfl,hr,hx⟩:=zjk hs
 have lx:=hx.len
 rw [List.length_map] at lx
 have l1:(Str.ofString " ").length=1:=by decide +kernel
 have l2:(Str.ofString "\n").length=1:=by decide +kernel
 have l3:(Str.ofString "-").length=1:=by decide +kernel
 have k6:=zow sp
 unfold zcD
 simp_all only [zbg,zbf,zac]
 refine ⟨⟨_,SqL.of hr⟩,?_⟩
 refine zet (xs:=xs) (fun i σ H'=>H'=H∧∃ (s:Str) (z3 z4 z5:Option V),sgn s=(((ps.take i).map (zhH sp)).map fun x=>sgn x++[10]).flatten∧s.length≤700*i∧σ=[some (.str (kdS sp)),some (.ref r),some (.str s),z3,z4,z5]) ⟨rfl,_,_,_,_,zfJ,(by decide +kernel),rfl⟩ ?_ ?_ ?_
 ·rintro i σ H' _ ⟨rfl,_⟩
  exact SqL.of hr
 ·rintro i x σ H' e ⟨rfl,s,z3,z4,z5,h1,h2,rfl⟩
  have li:=(List.getElem?_eq_some_iff.mp e).1
  have ep:ps[i]?=some ps[i]:=List.getElem?_eq_getElem (by omega)
  have G:=g _ (zdd ep)
  obtain ⟨t,l,ys,rfl,ht,hl,hy⟩:=zj6 (hx.el i x _ e (by rw [List.getElem?_map,ep];rfl))
  generalize ps[i]=p at ep G ht hy
  have w1:=G.w1
  have hwb:NB p.2:=⟨by omega,G.wb⟩
  have hw:=zgI hwb
  have ly:=hy.len
  rw [List.length_map] at ly
  have l9:=G.len
  unfold zcn
  simp_all only [zbg,zbf,zac]
  refine ⟨_,SqT.of ht,rfl,_,_,rfl,_,_,rfl,rfl,?_⟩
  have lx1:=zbC s (kdS sp)
  have lx2:=zbC (s++kdS sp) (Str.ofString " ")
  have lx3:=zbC (s++kdS sp++Str.ofString " ") (nm p.2)
  refine ⟨zcr (by omega),zcr (by omega),p.2,rfl,zem hwb,zcr (by omega),l,rfl,⟨_,SqL.of hl⟩,?_⟩
  have e1:sgn (s++kdS sp++Str.ofString " "++nm p.2)=sgn s++sgn (Str.join ⟨#[32]⟩ (kdS sp::nm p.2::((p.1.take 0).map (thS sp)))):=by
   rw [zaM,zaM,zaM,zgX,List.append_assoc,List.append_assoc,za9]
   rfl
  generalize s++kdS sp++Str.ofString " "++nm p.2=s1 at lx3 e1
  refine zet (xs:=ys) (fun j σ H2=>H2=H'∧∃ (s2:Str) (z5:Option V),sgn s2=sgn s++sgn (Str.join ⟨#[32]⟩ (kdS sp::nm p.2::((p.1.take j).map (thS sp))))∧s2.length≤s1.length+62*j∧σ=[some (.str (kdS sp)),some (.ref r),some (.str s2),some (.ref l),some (.int p.2),z5]) ⟨rfl,s1,_,e1,by omega,rfl⟩ ?_ ?_ ?_
  ·rintro j σ H2 _ ⟨rfl,_⟩
   exact SqL.of hl
  ·rintro j y σ H2 ey ⟨rfl,s2,z5,g1,g2,rfl⟩
   have lj:=(List.getElem?_eq_some_iff.mp ey).1
   have ez:p.1[j]?=some p.1[j]:=List.getElem?_eq_getElem (by omega)
   have hz:=G.th _ (zdd ez)
   have sy:=hy.el j y _ ey (by rw [List.getElem?_map,ez];rfl)
   have step:∀ s3:Str,sgn s3=sgn s2++32::sgn (thS sp p.1[j])→sgn s3=sgn s++sgn (Str.join ⟨#[32]⟩ (kdS sp::nm p.2::((p.1.take (j+1)).map (thS sp)))):=fun s3 e3=>by
    rw [e3,g1,List.take_add_one,ez,List.map_append,List.append_assoc,← zjl 32 _ _ (List.cons_ne_nil _ _)]
    rfl
   have n1:=zgI hz.1
   have n2:=zgI hz.2
   have lx4:=zbC s2 (Str.ofString " ")
   unfold zbU
   simp_all only [zbg,zbf,zac]
   refine ⟨rfl,?_⟩
   generalize p.1[j]=z at ez hz sy step n1 n2
   cases sp
   ·rw [if_pos zos]
    have lx5:=zbC (s2++Str.ofString " ") (nm z.1)
    refine ⟨zcr (by omega),z.1,thf sy,zem hz.1,zcr (by omega),s2++Str.ofString " "++nm z.1,step _ ?_,by omega,rfl⟩
    rw [zaM,zaM,zgX,List.append_assoc]
    rfl
   ·rw [if_neg (show ¬ kdS true=Str.ofString "walk" from zgL)]
    obtain ⟨u,rfl,hu⟩:=tht sy
    have lx5:=zbC (s2++Str.ofString " ") (nm z.1)
    have lx6:=zbC (s2++Str.ofString " "++nm z.1) (Str.ofString "-")
    have lx7:=zbC (s2++Str.ofString " "++nm z.1++Str.ofString "-") (nm z.2)
    refine ⟨zcr (by omega),u,rfl,_,SqT.of hu,.int z.1,zbJ (j:=0) rfl,z.1,rfl,zem hz.1,zcr (by omega),zcr (by omega),u,rfl,_,SqT.of hu,.int z.2,zbJ (j:=1) rfl,z.2,rfl,zem hz.2,zcr (by omega),_,step _ ?_,by omega,rfl⟩
    unfold thS
    rw [if_pos rfl]
    simp only [zaM,List.append_assoc]
    rw [zgX]
    rfl
  ·rintro σ H2 ⟨rfl,s2,z5,g1,g2,rfl⟩
   have lx4:=zbC s2 (Str.ofString "\n")
   simp_all only [zbg,zbf,zac]
   refine ⟨zcr (by omega),_,?_,by omega,rfl⟩
   rw [List.take_of_length_le (by omega)] at g1
   rw [zaM,g1,h1,List.take_add_one,ep,List.map_append,List.map_append,List.flatten_append,zhx,List.append_assoc]
   show _=_++((sgn (zhH sp p)++[10])++[])
   rw [List.append_nil]
   rfl
 ·rintro σ H' ⟨rfl,s,z3,z4,z5,h1,h2,rfl⟩
  simp_all only [zbg,zbf,zac]
  rw [List.take_of_length_le (by omega),← zho] at h1
  rw [show s=txP sp ps from zcu h1]
  exact q
theorem zaV:zaP ["_law_kind","_law_paper_here","_law_text","_law_plan","_law_weight","_law_thing"] ["_law_kind","_law_paper_here"] (zau zcA):=⟨rfl,rfl,rfl,by decide +kernel,rfl,by decide +kernel,by decide +kernel⟩
theorem zf5 (T:Txt K mg base a):zcW P w K mg base CX0 1 a.f__law_paper_text a.d__law_paper_text ["_law_kind","_law_paper_here"] (zot K):=by
 refine T.F__law_paper_text.ok zaV (fun vs H Q E h=>?_) (fun cdv A outer s H vs Q E hr h=>?_)
 ·obtain ⟨sp,v,ps,rfl,hs,g,l4,q⟩:=h
  rfl
 obtain ⟨sp,v,ps,rfl,hs,g,l4,q⟩:=h
 exact ⟨zcD K,(zaf (zaE (i:=2) zaV.nd rfl (Or.inl rfl) zaR)
 (zaf (zdo PassesOwn.never rfl (zdL (pv 1)) (zef rfl (za2 (zaT (i:=3) zaV.nd rfl (Or.inl rfl)) (za2 (zaT (i:=4) zaV.nd rfl (Or.inl rfl)) zcT)))
 (zaf (zaE (i:=2) zaV.nd rfl (Or.inl rfl) (zaF zb1 (zaF zb1 (zaF zb1 (pv 2) (pv 0)) zaR) (zbA zdS rfl T.z_str zdn (zaa (pv 4) zae))))
 (zaf (zdo PassesOwn.never rfl (zdL (pv 3)) (zaT (i:=5) zaV.nd rfl (Or.inl rfl))
 (zah (zb2 (zaI zeM (pv 0) zaR (zaL _)) (zah (zaE (i:=2) zaV.nd rfl (Or.inl rfl) (zaF zb1 (zaF zb1 (pv 2) zaR) (zbA zdS rfl T.z_str zdn (zaa (pv 5) zae))))) (zah (zaE (i:=2) zaV.nd rfl (Or.inl rfl) (zaF zb1 (zaF zb1 (zaF zb1 (zaF zb1 (pv 2) zaR) (zbA zdS rfl T.z_str zdn (zaa (zcN zg6 (pv 5) zak (fun _ _=>rfl)) zae))) zaR) (zbA zdS rfl T.z_str zdn (zaa (zcN zg6 (pv 5) zak (fun _ _=>rfl)) zae))))))))
 (zah (zaE (i:=2) zaV.nd rfl (Or.inl rfl) (zaF zb1 (pv 2) zaR))))))
 (zah (zaU (pv 2))))),
  zf0 hs g l4 q⟩
theorem zfQ (s:Str):Str.empty++s=s:=by
 refine zcu ?_
 rw [zaM]
 rfl
def zrF:List Str:=["","walks","Walk","spread ","road"]
def zhf (a:Ad):Sp:=fun vs H Q E=>∃ kd:Str,vs=[.str kd]∧(((kd="walk"∨kd="spread")∧Q .non H)∨(kd∈zrF∧E (.ref a.c_NoKind) none H))
def zfH (K:PySem.W.Frag) (a:Ad) (E:XK):TS :=
 (zcb (zaJ (tOp (rIn K true) (zac 0) (tC (.ref a.t_KINDS)))) (znR (.ref a.c_NoKind) E) za4)
theorem zj3 {E:XK} {kd:Str} (hK:zrh K a.t_KINDS [.str "walk",.str "spread"]) (h:((kd="walk"∨kd="spread")∧Q .non H)∨(kd∈zrF∧E (.ref a.c_NoKind) none H)):zfH K a E { nx:=fun _ H'=>Q .non H',rt:=Q } (L2.zbB ["kind"] [.str kd]) H:=by
 unfold zfH
 simp_all only [zac]
 refine ⟨_,.inr (SqT.ofK hK),rfl,rfl,?_⟩
 rcases h with ⟨rfl | rfl,q⟩ | ⟨h,e⟩
 ·exact zdU (fun z=>absurd z (by decide +kernel)) (fun _=>q)
 ·exact zdU (fun z=>absurd z (by decide +kernel)) (fun _=>q)
 ·unfold zrF at h
  simp only [List.mem_cons,List.not_mem_nil,or_false] at h
  rcases h with rfl | rfl | rfl | rfl | rfl <;> exact zdU (fun _=>e) (fun z=>absurd (by decide +kernel) z)
theorem zjy:zaP ["kind"] ["kind"] (zau zfF):=⟨rfl,rfl,rfl,by decide +kernel,rfl,by decide +kernel,by decide +kernel⟩
theorem zjG (T:Txt K mg base a):zcW P w K mg base (CXV P w) 1 a.f_look_kind a.d_look_kind ["kind"] (zhf a):=by
 refine T.F_look_kind.okV zjy (fun vs H Q E h=>?_) (fun cdv A outer s H vs Q E hr h=>?_)
 ·obtain ⟨kd,rfl,h⟩:=h
  rfl
 obtain ⟨kd,rfl,h⟩:=h
 exact ⟨zfH K a E,(zah (zb2 (zaI zgH (pv 0) (zbq rfl T.m_KINDS rfl) (by with_unfolding_all rfl)) (zah (zp8 T.m_NoKind T.x_NoKind rfl rfl zti)) za0)),
  zj3 T.u_KINDS h⟩
def ziL:Sp:=fun vs H Q _=>∃ (sp:Bool) (x:Int×Int) (v:V),vs=[.str (kdS sp),v]∧Sh H (thT sp x) v∧(NB x.1∧NB x.2)∧Q (.str (thS sp x)) H
def zex (K:PySem.W.Frag):TS :=
 (zaN (zei (zcb (zaJ (tOp rEq (zac 0) (tC (.str "walk")))) (zbV (tCB zgk (zab (zac 1) zav))) za4))
 (zaN (zbe (zac 1) (zic K 2 (zbI (zat 2) (zbI (zat 3) zh4))))
 (zbV (tJ [fI (zac 2),fS (tC (.str "-")),fI (zac 3)] Str.empty))))
theorem ziN {sp:Bool} {x:Int×Int} {v:V} (hs:Sh H (thT sp x) v) (b:NB x.1∧NB x.2) (q:Q (.str (thS sp x)) H):zex K { nx:=fun _ H'=>Q .non H',rt:=Q } (L2.zbB ["kind","thing","a","b"] [.str (kdS sp),v]) H:=by
 unfold zex
 simp_all only [zac]
 have n1:=zgI b.1
 have n2:=zgI b.2
 cases sp
 ·rw [thf hs]
  refine ⟨fun _ _=>False,?_,fun _ _ z=>z.elim⟩
  simp_all only [zac]
  refine ⟨rfl,?_⟩
  rw [if_pos zos]
  exact ⟨zem b.1,q⟩
 ·refine ⟨fun σ H'=>H'=H∧σ=[some (.str (kdS true)),some v,none,none],?_,?_⟩
  ·simp_all only [zac]
   refine ⟨rfl,?_⟩
   rw [if_neg (show ¬ kdS true=Str.ofString "walk" from zgL)]
   trivial
  ·rintro σ H' ⟨rfl,rfl⟩
   obtain ⟨u,rfl,hu⟩:=tht hs
   have l1:(Str.ofString "-").length=1:=by decide +kernel
   simp_all only [zac]
   refine ⟨_,SqT.of hu,rfl,_,_,rfl,_,_,rfl,rfl,x.1,rfl,zem b.1,zcr (by rw [zfQ];omega),zcr (by rw [zfQ,zbC];omega),x.2,rfl,zem b.2,zcr (by rw [zfQ,zbC,zbC];omega),?_⟩
   rw [zfQ]
   exact q
theorem zdZ:zaP ["kind","thing","a","b"] ["kind","thing"] (zau zeN):=⟨rfl,rfl,rfl,by decide +kernel,rfl,by decide +kernel,by decide +kernel⟩
theorem ziB (T:Txt K mg base a):zcW P w K mg base CX0 1 a.f_thing_text a.d_thing_text ["kind","thing"] ziL:=by
 refine T.F_thing_text.ok zdZ (fun vs H Q E h=>?_) (fun cdv A outer s H vs Q E hr h=>?_)
 ·obtain ⟨sp,x,v,rfl,hs,b,q⟩:=h
  rfl
 obtain ⟨sp,x,v,rfl,hs,b,q⟩:=h
 exact ⟨zex K,(zaf (zbG (zb2 (zaI zeM (pv 0) zaR (zaL _)) (zah (zaU (zbA zdS rfl T.z_str zdn (zaa (pv 1) zae)))) za0))
 (zaf (znc (pv 1) (zef rfl (za2 (zaT (i:=2) zdZ.nd rfl (Or.inl rfl)) (za2 (zaT (i:=3) zdZ.nd rfl (Or.inl rfl)) zcT))))
 (zah (zaU (zuY (PFs.cons (zr4 (pv 2)) (PFs.cons (zwn zaR) (PFs.cons (zr4 (pv 3)) PFs.nil)))))))),
  ziN hs b q⟩
def zhE:Sp:=fun vs H Q _=>∃ (sp:Bool) (v:V) (ps:List PR),vs=[.str (kdS sp),v]∧Sh H (.lst (ps.map (zcO sp))) v∧(∀ p∈ps,GP sp p)∧ps.length≤4∧∀ D H',zaQ H H'→H' D=some (.lst ((ps.map (zhH sp)).map V.str))→Q (.ref D) H'
def zdy (K:PySem.W.Frag):TS :=
 (zaN (zbe (tOp zlE (zdM (zab (zac 0) (zab (tCB zgk (zab (zac 4) zav)) zav))) (zgT (ze7 K (zac 3)) (zat 0) zcB (zaZ ziL [] E0 (zab (zac 1) (zab (zac 0) zav))) [none,some 0])) (zat 5))
 (zc2 (tBM K "list" zbK (zac 2) (zab (tBM K "str" (zkV K) (tC (.str " ")) (zab (zac 5) zav)) zav))))
theorem zdT (K:PySem.W.Frag) (D:zb9) (σ:St) (H:Hp):zdy K D σ H=(zaN (zbe (tOp zlE (zdM (zab (zac 0) (zab (tCB zgk (zab (zac 4) zav)) zav))) (zgT (ze7 K (zac 3)) (zat 0) zcB (zaZ ziL [] E0 (zab (zac 1) (zab (zac 0) zav))) [none,some 0])) (zat 5))
 (zc2 (tBM K "list" zbK (zac 2) (zab (tBM K "str" (zkV K) (tC (.str " ")) (zab (zac 5) zav)) zav)))) D σ H:=rfl
def zeR (K:PySem.W.Frag):TS :=
 (zaN (zbe (zdM zav) (zat 2))
 (zaN (zg3 (ze7 K (zac 1)) (zic K 2 (zbI (zat 3) (zbI (zat 4) zh4)))
 (zdy K))
 (zbV (zac 2))))
theorem ziY {sp:Bool} {v:V} {ps:List PR} (hs:Sh H (.lst (ps.map (zcO sp))) v) (g:∀ p∈ps,GP sp p) (l4:ps.length≤4) (q:∀ D H',zaQ H H'→H' D=some (.lst ((ps.map (zhH sp)).map V.str))→Q (.ref D) H'):zeR K { nx:=fun _ H'=>Q .non H',rt:=Q } (L2.zbB ["kind","paper","rows","plan","weight","words"] [.str (kdS sp),v]) H:=by
 obtain ⟨pp,xs,rfl,hp,hx⟩:=zjk hs
 have lx:=hx.len
 rw [List.length_map] at lx
 unfold zeR
 simp_all only [zac]
 refine ⟨by decide,fun D hD=>⟨⟨_,SqL.of ((zai hD _) _ _ hp)⟩,?_⟩⟩
 refine zet (xs:=xs) (fun i σ H'=>zaQ H H'∧H' D=some (.lst (((ps.take i).map (zhH sp)).map V.str))∧∃ x3 x4 x5,σ=[some (.str (kdS sp)),some (.ref pp),some (.ref D),x3,x4,x5]) ⟨zai hD _,zad,_,_,_,rfl⟩ ?_ ?_ ?_
 ·rintro i σ H' _ ⟨s,_⟩
  exact SqL.of (s _ _ hp)
 ·rintro i x σ H1 e ⟨s1,h1,x3,x4,x5,rfl⟩
  have li:=(List.getElem?_eq_some_iff.mp e).1
  have ep:ps[i]?=some ps[i]:=List.getElem?_eq_getElem (by omega)
  have G:=g _ (zdd ep)
  obtain ⟨tt,pl,ys,rfl,htt,hpl,hy⟩:=zj6 (hx.el i x _ e (by rw [List.getElem?_map,ep];rfl))
  generalize ps[i]=p at ep G htt hy
  have w1:=G.w1
  have hwb:NB p.2:=⟨by omega,G.wb⟩
  have ly:=hy.len
  rw [List.length_map] at ly
  have l9:=G.len
  refine ⟨tt,_,rfl,SqT.of (s1 _ _ htt),rfl,_,_,rfl,_,_,rfl,rfl,?_⟩
  unfold zdy
  simp_all only [zdT,zac]
  refine ⟨zem hwb,by decide,fun p1 hp1=>?_⟩
  have s2:=zai hp1 (.lst [V.str (kdS sp),V.str (nm p.2)])
  have h2:(L2.upd H1 p1 (.lst [V.str (kdS sp),V.str (nm p.2)])) p1=some (.lst [V.str (kdS sp),V.str (nm p.2)]):=zad
  generalize L2.upd H1 p1 (.lst [V.str (kdS sp),V.str (nm p.2)])=H2 at s2 h2 ⊢
  have s12:=s1.trans s2
  refine ⟨⟨_,SqL.of (s12 _ _ hpl)⟩,fun D1 hD1=>?_⟩
  refine zeZ (K:=K) (xs:=ys) (fun j zs σ H'=>zaQ H2 H'∧zs=((p.1.take j).map (thS sp)).map V.str∧∃ x,σ=[x,some (.str (kdS sp))]) ⟨zai hD1 _,rfl,_,rfl⟩ ?_ ?_ ?_
  ·rintro j zs σ H' _ ⟨s,_⟩
   exact SqL.of (s _ _ (s12 _ _ hpl))
  ·rintro j y zs σ H' ej hD' ⟨s,rfl,u,rfl⟩
   have lj:=(List.getElem?_eq_some_iff.mp ej).1
   have ez:p.1[j]?=some p.1[j]:=List.getElem?_eq_getElem (by omega)
   refine ⟨_,rfl,_,rfl,sp,p.1[j],y,rfl,(hy.el j y _ ej (by rw [List.getElem?_map,ez];rfl)).same (s12.trans s),G.th _ (zdd ez),D1,_,_,rfl,rfl,hD',zc9 (by rw [List.length_map,List.length_map,List.length_take];omega),_,zad,s.put hD1,?_,_,rfl⟩
   rw [List.take_add_one,ez,List.map_append,List.map_append]
   rfl
  ·rintro zs σ H3 hD3 ⟨s3,rfl,u,rfl⟩
   rw [List.take_of_length_le (by omega)] at hD3
   refine ⟨D1,rfl,_,s3 _ _ h2,_,hD3,zcr (by rw [List.length_map,List.length_map];show 2+p.1.length≤_;omega),fun p3 hp3=>?_⟩
   have s4:=zai hp3 (.lst ([V.str (kdS sp),V.str (nm p.2)]++(p.1.map (thS sp)).map V.str))
   have h4:L2.upd H3 p3 (.lst ([V.str (kdS sp),V.str (nm p.2)]++(p.1.map (thS sp)).map V.str)) p3=some (.lst ((zpl sp p).map V.str)):=zad
   generalize L2.upd H3 p3 (.lst ([V.str (kdS sp),V.str (nm p.2)]++(p.1.map (thS sp)).map V.str))=H4 at s4 h4
   have s14:=(s2.trans s3).trans s4
   have hD4:=s14 _ _ h1
   have e1:(Str.ofString " ").length=1:=by decide +kernel
   have sw:=PyProof.Rows.split_weight (zhH sp p) (Str.ofString " ") (by decide +kernel)
   have rl:=zk9 sp G
   rw [zjM] at sw
   have rw2:(zpl sp p).length=p.1.length+2:=by
    unfold zpl
    rw [List.length_cons,List.length_cons,List.length_map]
   refine ⟨.inl ⟨rfl,_,SqL.of hD4⟩,rfl,_,SqL.of h4,?_,_,hD4,zc9 (by rw [List.length_map,List.length_map,List.length_take];omega),?_,?_⟩
   ·rw [e1]
    exact Nat.le_trans (show _≤999999 by omega) (by decide)
   ·exact (s1.trans s14).put hD
   ·rw [zad,List.take_add_one,ep,List.map_append,List.map_append]
    show some (HO.lst (_++[V.str (PySem.Builtin.Str.glued _ _)]))=_
    rw [StrLaws.glued_eq_join,zgX]
    rfl
 ·rintro σ H1 ⟨s1,h1,x3,x4,x5,rfl⟩
  rw [List.take_of_length_le (by omega)] at h1
  simp_all only [zdT,zac]
  exact q D H1 s1 h1
theorem zcw:zaP ["kind","paper","rows","plan","weight","words"] ["kind","paper"] (zau zdl):=⟨rfl,rfl,rfl,by decide +kernel,rfl,by decide +kernel,by decide +kernel⟩
theorem zi4 (T:Txt K mg base a):zcW P w K mg base CX0 2 a.f_paper_rows a.d_paper_rows ["kind","paper"] zhE:=by
 have G_thing_text:=ziB (P:=P) (w:=w) (base:=base) T
 refine T.F_paper_rows.ok zcw (fun vs H Q E h=>?_) (fun cdv A outer s H vs Q E hr h=>?_)
 ·obtain ⟨sp,v,ps,rfl,hs,g,l4,q⟩:=h
  rfl
 obtain ⟨sp,v,ps,rfl,hs,g,l4,q⟩:=h
 exact ⟨zeR K,(zaf (zaE (i:=2) zcw.nd rfl (Or.inl rfl) (zbX zae))
 (zaf (zdo PassesOwn.never rfl (zdL (pv 1)) (zef rfl (za2 (zaT (i:=3) zcw.nd rfl (Or.inl rfl)) (za2 (zaT (i:=4) zcw.nd rfl (Or.inl rfl)) zcT)))
 (zaf (zaE (i:=5) zcw.nd rfl (Or.inl rfl) (zaF zh6 (zbX (zaa (pv 0) (zaa (zbA zdS rfl T.z_str zdn (zaa (pv 4) zae)) zae))) (zk5 (sc:=zau zdl) (N:=["kind","paper","rows","plan","weight","words"]) (Nc:=["thing","kind"]) (cap:=[none,some 0]) rfl rfl rfl (.of (by decide +kernel)) (zdL (pv 3)) (fun _ _ _ _=>(zaT (i:=0) (show List.Nodup (["thing","kind"]:List Str) from by decide) rfl (Or.inl rfl))) (fun _ _ _ _=>zgu) (fun _ _ _ _=>(zaG G_thing_text (hr.mono (by decide)) rfl T.m_thing_text T.F_thing_text.kp T.b_thing_text .nil zbs (zaa (pv 1) (zaa (pv 0) zae)))))))
 (zah (zco (zdN PySem.F.plainAttrs_list PySem.F.slot_list_append PySem.F.type_list_append zda (pv 2) (zaa (zdN PySem.F.plainAttrs_str PySem.F.slot_str_join PySem.F.type_str_join ziu zaR (zaa (pv 5) zae)) zae))))))
 (zah (zaU (pv 2))))),
  ziY hs g l4 q⟩
def zls (K:PySem.W.Frag):Sp:=fun vs H Q _=>∃ (p:Addr) (ss:List Str),vs=[.ref p]∧H p=some (.lst (ss.map V.str))∧(ss.map (·.length)).sum+ss.length≤90000∧∀ H',zaQ H H'→Q (.str (Str.join (Str.ofString "") (ss.map fun x=>x++Str.ofString "\n"))) H'
def zhs (K:PySem.W.Frag):TS :=
 (zbV (tBM K "str" (zkV K) (tC (.str "")) (zab (zgT (ze7 K (zac 0)) (zat 0) zcB (tOp zcq (zac 0) (tC (.str "\n"))) [none]) zav)))
theorem zmD {p:Addr} {ss:List Str} (hp:H p=some (.lst (ss.map V.str))) (l:(ss.map (·.length)).sum+ss.length≤90000) (q:∀ H',zaQ H H'→Q (.str (Str.join (Str.ofString "") (ss.map fun x=>x++Str.ofString "\n"))) H'):zhs K { nx:=fun _ H'=>Q .non H',rt:=Q } (L2.zbB ["rows"] [.ref p]) H:=by
 unfold zhs
 simp_all only [zac]
 have lss:ss.length≤90000:=by omega
 refine ⟨rfl,⟨_,SqL.of hp⟩,fun D hD=>?_⟩
 have e0:(Str.ofString "").length=0:=by decide +kernel
 have l1:(Str.ofString "\n").length=1:=by decide +kernel
 have each:∀ x∈ss,x.length≤90000:=fun x hx=>by
  have:x.length≤(ss.map (·.length)).sum:=zeT.List.le_sum_of_mem' (List.mem_map.mpr ⟨x,hx,rfl⟩)
  omega
 refine zeZ (K:=K) (xs:=ss.map V.str) (fun i ys σ H'=>zaQ H H'∧ys=((ss.take i).map fun x=>x++Str.ofString "\n").map V.str∧∃ x,σ=[x]) ⟨zai hD _,rfl,_,rfl⟩ ?_ ?_ ?_
 ·rintro i ys σ H' _ ⟨s,_⟩
  exact SqL.of (s _ _ hp)
 ·rintro i x ys σ H' e hD' ⟨s,rfl,u,rfl⟩
  obtain ⟨x,ex,rfl⟩:=zeh e
  have li:=(List.getElem?_eq_some_iff.mp ex).1
  have lx:=each x (zdd ex)
  refine ⟨_,rfl,x,_,rfl,rfl,zcr (by omega),D,_,_,rfl,rfl,hD',zc9 (by rw [List.length_map,List.length_map,List.length_take];omega),_,zad,s.put hD,?_,_,rfl⟩
  rw [List.take_add_one,ex,List.map_append,List.map_append]
  rfl
 ·rintro ys σ H' hD' ⟨s,rfl,u,rfl⟩
  rw [List.take_of_length_le (by rw [List.length_map];exact Nat.le_refl _)] at hD'
  refine ⟨D,rfl,_,SqL.of hD',?_,?_⟩
  ·rw [e0,Nat.mul_zero,Nat.add_zero]
   have:∀ l:List Str,((l.map fun x=>x++Str.ofString "\n").map (·.length)).sum=(l.map (·.length)).sum+l.length:=by
    intro l
    induction l with
    | nil=>rfl
    | cons x l ih =>
     rw [List.map_cons,List.map_cons,List.sum_cons,ih,List.map_cons,List.sum_cons,List.length_cons,zbC]
     omega
   rw [this]
   exact zcr (by omega)
  ·show Q (.str (PySem.Builtin.Str.glued _ _)) H'
   rw [StrLaws.glued_eq_join]
   exact q H' s
theorem zmS:zaP ["rows"] ["rows"] (zau zge):=⟨rfl,rfl,rfl,by decide +kernel,rfl,by decide +kernel,by decide +kernel⟩
theorem zma (T:Txt K mg base a):zcW P w K mg base CX0 1 a.f_text_of a.d_text_of ["rows"] (zls K):=by
 refine T.F_text_of.ok zmS (fun vs H Q E h=>?_) (fun cdv A outer s H vs Q E hr h=>?_)
 ·obtain ⟨p,ss,rfl,hp,l,q⟩:=h
  rfl
 obtain ⟨p,ss,rfl,hp,l,q⟩:=h
 exact ⟨zhs K,(zah (zaU (zdN PySem.F.plainAttrs_str PySem.F.slot_str_join PySem.F.type_str_join ziu zaR (zaa (zk5 (sc:=zau zge) (N:=["rows"]) (Nc:=["row"]) (cap:=[none]) rfl rfl rfl (.of (by decide +kernel)) (zdL (pv 0)) (fun _ _ _ _=>(zaT (i:=0) (show List.Nodup (["row"]:List Str) from by decide) rfl (Or.inl rfl))) (fun _ _ _ _=>zgu) (fun _ _ _ _=>(zaF zb1 (pv 0) zaR))) zae)))),
  zmD hp l q⟩
theorem zs9 (sp:Bool) (ps:List PR):Str.join (Str.ofString "") ((ps.map (zhH sp)).map fun x=>x++Str.ofString "\n")=txP sp ps:=by
 refine zcu ?_
 unfold txP
 rw [zho,zjN,List.map_map,List.map_map,List.map_map]
 congr 1
 refine List.map_congr_left fun x _=>?_
 show sgn (zhH sp x++Str.ofString "\n")=_
 rw [zaM,zhx]
 rfl
def zdu (a:Ad):Sp:=fun vs H Q E=>∃ (kd:Str) (v:V),vs=[.str kd,v]∧((∃ (sp:Bool) (ps:List PR),kd=kdS sp∧Sh H (.lst (ps.map (zcO sp))) v∧(∀ p∈ps,GP sp p)∧ps.length≤4∧∀ H',zaQ H H'→Q (.str (txP sp ps)) H')∨(kd∈zrF∧E (.ref a.c_NoKind) none H))
def zeP (K:PySem.W.Frag) (a:Ad) (E:XK):TS :=
 (zaN (zc2 (zaZ (zhf a) [] E (zab (zac 0) zav)))
 (zbV (zaZ (zls K) [] E0 (zab (zaZ zhE [] E0 (zab (zac 0) (zab (zac 1) zav))) zav))))
theorem zi5 {E:XK} {kd:Str} {v:V} (h:(∃ (sp:Bool) (ps:List PR),kd=kdS sp∧Sh H (.lst (ps.map (zcO sp))) v∧(∀ p∈ps,GP sp p)∧ps.length≤4∧∀ H',zaQ H H'→Q (.str (txP sp ps)) H')∨(kd∈zrF∧E (.ref a.c_NoKind) none H)):zeP K a E { nx:=fun _ H'=>Q .non H',rt:=Q } (L2.zbB ["kind","paper"] [.str kd,v]) H:=by
 unfold zeP
 simp_all only [zac]
 rcases h with ⟨sp,ps,rfl,hs,g,l4,q⟩ | ⟨h,e⟩
 ·refine ⟨_,rfl,.inl ⟨?_,sp,v,ps,rfl,hs,g,l4,fun D H1 s1 hD=>⟨D,ps.map (zhH sp),rfl,hD,?_,fun H2 s2=>?_⟩⟩⟩
  ·cases sp
   ·exact .inl rfl
   ·exact .inr rfl
  ·have:∀ l:List PR,(∀ p∈l,GP sp p)→((l.map (zhH sp)).map (·.length)).sum≤682*l.length:=by
    intro l
    induction l with
    | nil=>intro _;exact Nat.le_refl _
    | cons p l ih =>
     intro h
     have h1:=zk9 sp (h p (List.mem_cons_self ..))
     have h2:=ih fun x hx=>h x (List.mem_cons_of_mem _ hx)
     rw [List.map_cons,List.map_cons,List.sum_cons,List.length_cons]
     omega
   have:=this ps g
   rw [List.length_map]
   omega
  ·rw [zs9]
   exact q H2 (s1.trans s2)
 ·exact ⟨_,rfl,.inr ⟨h,e⟩⟩
theorem zis:zaP ["kind","paper"] ["kind","paper"] (zau zew):=⟨rfl,rfl,rfl,by decide +kernel,rfl,by decide +kernel,by decide +kernel⟩
theorem zfS (T:Txt K mg base a):zcW P w K mg base (CXV P w) 3 a.f_paper_text a.d_paper_text ["kind","paper"] (zdu a):=by
 have G_look_kind:=zjG (P:=P) (w:=w) (base:=base) T
 have G_paper_rows:=zi4 (P:=P) (w:=w) (base:=base) T
 have G_text_of:=zma (P:=P) (w:=w) (base:=base) T
 refine T.F_paper_text.okV zis (fun vs H Q E h=>?_) (fun cdv A outer s H vs Q E hr h=>?_)
 ·obtain ⟨kd,v,rfl,h⟩:=h
  rfl
 obtain ⟨kd,v,rfl,h⟩:=h
 exact ⟨zeP K a E,(zaf (zco (zaG G_look_kind (hr.mono (by decide)) rfl T.m_look_kind T.F_look_kind.kp T.b_look_kind .nil zsI (zaa (pv 0) zae)))
 (zah (zaU (zaG G_text_of (hr.mono (by decide)) rfl T.m_text_of T.F_text_of.kp T.b_text_of .nil zbs (zaa (zaG G_paper_rows (hr.mono (by decide)) rfl T.m_paper_rows T.F_paper_rows.kp T.b_paper_rows .nil zbs (zaa (pv 0) (zaa (pv 1) zae))) zae))))),
  zi5 h⟩
def zoc:Sp:=fun _ _ _ _=>False
theorem zqu {P:Program} {w:World} {K:PySem.W.Frag} {mg:Str→Option Value} {base:Heap} {CX:CXT} {k:Nat} {f:Addr} {fd:FuncData} {ps:List Str}:zcW P w K mg base CX k f fd ps zoc :=
 ⟨fun _ _ _ _ h=>h.elim,fun _ _ _ _ _ _ _ _ _ _ _ _ _ h=>h.elim⟩
inductive ShT (H:Hp):Nat→Tr→V→Prop where
 | int {n:Nat} (i:Int):ShT H n (.int i) (.int i)
 | str {n:Nat} (x:Str):ShT H n (.str x) (.str x)
 | lst {n:Nat} {p:Addr} {xs:List V} {ts:List Tr} (h:H p=some (.lst xs)) (l:xs.length=ts.length) (e:∀ (i:Nat) x t,xs[i]?=some x→ts[i]?=some t→ShT H n t x):ShT H (n+1) (.lst ts) (.ref p)
 | tup {n:Nat} {p:Addr} {xs:List V} {ts:List Tr} (h:H p=some (.tup xs)) (l:xs.length=ts.length) (e:∀ (i:Nat) x t,xs[i]?=some x→ts[i]?=some t→ShT H n t x):ShT H (n+1) (.tup ts) (.ref p)
def zhy (n:Nat):Sp:=fun vs H Q _=>∃ (x y:V) (t:Tr),vs=[x,y]∧ShT H n t x∧ShT H n t y∧∀ H',zaQ H H'→Q (.bl true) H'
def zkP:Nat→Sp
 | 0=>zoc
 | n+1=>zhy n
theorem ShT.same {H H':Hp} (s:zaQ H H') {n:Nat} {t:Tr} {x:V} (h:ShT H n t x):ShT H' n t x:=by
 induction h with
 | int i=>exact .int i
 | str x=>exact .str x
 | lst h l _ ih=>exact .lst (s _ _ h) l ih
 | tup h l _ ih=>exact .tup (s _ _ h) l ih
def zfW:TS :=
 (zbV (zcE (tOp (fun x y H Q=>y=.non∧Q (.bl (decide (x=.non))) H) (zac 1) (tC .non)) (tOp (fun x y H Q=>y=.non∧Q (.bl (decide (x=.non))) H) (zac 0) (tC .non))))
theorem zan (D:zb9) (σ:St) (H:Hp):zfW D σ H=(zbV (zcE (tOp (fun x y H Q=>y=.non∧Q (.bl (decide (x=.non))) H) (zac 1) (tC .non)) (tOp (fun x y H Q=>y=.non∧Q (.bl (decide (x=.non))) H) (zac 0) (tC .non)))) D σ H:=rfl
def zfU (K:PySem.W.Frag):TS :=
 (zcb (tB (tCB (zdV K) (zab (zac 1) (zab (tC (.ty "str")) zav)))) (zbV (zcE (tCB (zdV K) (zab (zac 0) (zab (tC (.ty "str")) zav))) (tOp rEq (zac 0) (zac 1)))) za4)
theorem zas (K:PySem.W.Frag) (D:zb9) (σ:St) (H:Hp):zfU K D σ H=(zcb (tB (tCB (zdV K) (zab (zac 1) (zab (tC (.ty "str")) zav)))) (zbV (zcE (tCB (zdV K) (zab (zac 0) (zab (tC (.ty "str")) zav))) (tOp rEq (zac 0) (zac 1)))) za4) D σ H:=rfl
def zf4 (K:PySem.W.Frag):TS :=
 (zcb (tB (tCB (zdV K) (zab (zac 1) (zab (tC (.ty "int")) zav)))) (zbV (zcE (tCB (zdV K) (zab (zac 0) (zab (tC (.ty "int")) zav))) (zcE (zoo (tCB (zdV K) (zab (zac 0) (zab (tC (.ty "bool")) zav)))) (tOp rEq (zac 0) (zac 1))))) za4)
theorem zal (K:PySem.W.Frag) (D:zb9) (σ:St) (H:Hp):zf4 K D σ H=(zcb (tB (tCB (zdV K) (zab (zac 1) (zab (tC (.ty "int")) zav)))) (zbV (zcE (tCB (zdV K) (zab (zac 0) (zab (tC (.ty "int")) zav))) (zcE (zoo (tCB (zdV K) (zab (zac 0) (zab (tC (.ty "bool")) zav)))) (tOp rEq (zac 0) (zac 1))))) za4) D σ H:=rfl
def zgd (K:PySem.W.Frag):TS :=
 (zcb (tB (tCB (zdV K) (zab (zac 1) (zab (tC (.ty "bool")) zav)))) (zbV (zcE (tCB (zdV K) (zab (zac 0) (zab (tC (.ty "bool")) zav))) (tOp rEq (zac 0) (zac 1)))) za4)
theorem zao (K:PySem.W.Frag) (D:zb9) (σ:St) (H:Hp):zgd K D σ H=(zcb (tB (tCB (zdV K) (zab (zac 1) (zab (tC (.ty "bool")) zav)))) (zbV (zcE (tCB (zdV K) (zab (zac 0) (zab (tC (.ty "bool")) zav))) (tOp rEq (zac 0) (zac 1)))) za4) D σ H:=rfl
def zdX (K:PySem.W.Frag) (nRec:Nat):TS :=
 (zaN (zg3 (zq1 K (zab (zac 0) (zab (zac 1) zav))) (zic K 2 (zbI (zat 2) (zbI (zat 3) zh4)))
 (zcb (zfj (tB (zaZ (zkP nRec) [] E0 (zab (zac 2) (zab (zac 3) zav))))) (zbV (tC (.bl false))) za4))
 (zbV (tC (.bl true))))
theorem zaq (K:PySem.W.Frag) (nRec:Nat) (D:zb9) (σ:St) (H:Hp):zdX K nRec D σ H=(zaN (zg3 (zq1 K (zab (zac 0) (zab (zac 1) zav))) (zic K 2 (zbI (zat 2) (zbI (zat 3) zh4)))
 (zcb (zfj (tB (zaZ (zkP nRec) [] E0 (zab (zac 2) (zab (zac 3) zav))))) (zbV (tC (.bl false))) za4))
 (zbV (tC (.bl true)))) D σ H:=rfl
def zee (K:PySem.W.Frag):TS :=
 (zcb (zaJ (tOp rNe (tCB (fun xs H Q=>∃ p ys,xs=[.ref p]∧(SqL K H p ys∨SqT K H p ys)∧Q (.int ys.length) H) (zab (zac 0) zav)) (tCB (fun xs H Q=>∃ p ys,xs=[.ref p]∧(SqL K H p ys∨SqT K H p ys)∧Q (.int ys.length) H) (zab (zac 1) zav)))) (zbV (tC (.bl false))) za4)
theorem zam (K:PySem.W.Frag) (D:zb9) (σ:St) (H:Hp):zee K D σ H=(zcb (zaJ (tOp rNe (tCB (fun xs H Q=>∃ p ys,xs=[.ref p]∧(SqL K H p ys∨SqT K H p ys)∧Q (.int ys.length) H) (zab (zac 0) zav)) (tCB (fun xs H Q=>∃ p ys,xs=[.ref p]∧(SqL K H p ys∨SqT K H p ys)∧Q (.int ys.length) H) (zab (zac 1) zav)))) (zbV (tC (.bl false))) za4) D σ H:=rfl
def zd2 (K:PySem.W.Frag):TS :=
 (zcb (tOr (zaJ (tOp rNe (tCB (zdV K) (zab (zac 0) (zab (tC (.ty "tuple")) zav))) (tCB (zdV K) (zab (zac 1) (zab (tC (.ty "tuple")) zav))))) (zaJ (tOp rNe (tCB (zdV K) (zab (zac 0) (zab (tC (.ty "list")) zav))) (tCB (zdV K) (zab (zac 1) (zab (tC (.ty "list")) zav)))))) (zbV (tC (.bl false))) za4)
theorem zar (K:PySem.W.Frag) (D:zb9) (σ:St) (H:Hp):zd2 K D σ H=(zcb (tOr (zaJ (tOp rNe (tCB (zdV K) (zab (zac 0) (zab (tC (.ty "tuple")) zav))) (tCB (zdV K) (zab (zac 1) (zab (tC (.ty "tuple")) zav))))) (zaJ (tOp rNe (tCB (zdV K) (zab (zac 0) (zab (tC (.ty "list")) zav))) (tCB (zdV K) (zab (zac 1) (zab (tC (.ty "list")) zav)))))) (zbV (tC (.bl false))) za4) D σ H:=rfl
def zf2 (K:PySem.W.Frag) (nRec:Nat):TS :=
 (zcb (tOr (tB (tCB (zdV K) (zab (zac 1) (zab (tC (.ty "tuple")) zav)))) (tB (tCB (zdV K) (zab (zac 1) (zab (tC (.ty "list")) zav))))) (zaN (zei (zd2 K))
 (zaN (zei (zee K))
 (zdX K nRec))) za4)
theorem zap (K:PySem.W.Frag) (nRec:Nat) (D:zb9) (σ:St) (H:Hp):zf2 K nRec D σ H=(zcb (tOr (tB (tCB (zdV K) (zab (zac 1) (zab (tC (.ty "tuple")) zav)))) (tB (tCB (zdV K) (zab (zac 1) (zab (tC (.ty "list")) zav))))) (zaN (zei (zd2 K))
 (zaN (zei (zee K))
 (zdX K nRec))) za4) D σ H:=rfl
def zfK (K:PySem.W.Frag) (nRec:Nat):TS :=
 (zaN (zei (zf2 K nRec))
 (zaN (zei (zgd K))
 (zaN (zei (zf4 K))
 (zaN (zei (zfU K))
 (zfW)))))
theorem zjt {n:Nat} {x y:V} {t:Tr} (h1:ShT H n t x) (h2:ShT H n t y) (q:∀ H',zaQ H H'→Q (.bl true) H') :
  zfK K n { nx:=fun _ H'=>Q .non H',rt:=Q } (L2.zbB ["_law_told","_law_due","_law_one","_law_other"] [x,y]) H:=by
 unfold zfK
 simp_all only [zan,zas,zal,zao,zaq,zam,zar,zap,zac]
 have q0:=q H (.refl _)
 cases h1 with
 | int i =>
  cases h2
  refine ⟨fun σ H'=>H'=H∧σ=[some (.int i),some (.int i),none,none],?_,?_⟩
  ·simp_all only [zan,zas,zal,zao,zaq,zam,zar,zap,zac]
   refine zdr (.int i) (ziH K) ⟨false,rfl,zrO ?_⟩
   refine zdr (.int i) (zje K) ⟨false,rfl,zrO ?_⟩
   first | rfl | trivial
  rintro σ H1 ⟨rfl,rfl⟩
  simp_all only [zan,zas,zal,zao,zaq,zam,zar,zap,zac]
  refine ⟨fun σ H'=>H'=H1∧σ=[some (.int i),some (.int i),none,none],?_,?_⟩
  ·simp_all only [zan,zas,zal,zao,zaq,zam,zar,zap,zac]
   refine zdr (.int i) (zgF K) ⟨false,rfl,zrO ?_⟩
   first | rfl | trivial
  rintro σ H2 ⟨rfl,rfl⟩
  simp_all only [zan,zas,zal,zao,zaq,zam,zar,zap,zac]
  refine ⟨fun σ H'=>False,?_,fun _ _ z=>z.elim⟩
  simp_all only [zan,zas,zal,zao,zaq,zam,zar,zap,zac]
  refine zfB ⟨true,rfl,zsa ?_⟩
  refine zfB ⟨true,rfl,zsa ?_⟩
  refine zgP ⟨_,rfl,?_⟩
  exact zdU (fun _=>by simpa using q0) (fun z=>absurd rfl z)
 | str z =>
  cases h2
  refine ⟨fun σ H'=>H'=H∧σ=[some (.str z),some (.str z),none,none],?_,?_⟩
  ·simp_all only [zan,zas,zal,zao,zaq,zam,zar,zap,zac]
   refine zdr (.str z) (zi3 K) ⟨false,rfl,zrO ?_⟩
   refine zdr (.str z) (zjC K) ⟨false,rfl,zrO ?_⟩
   first | rfl | trivial
  rintro σ H1 ⟨rfl,rfl⟩
  simp_all only [zan,zas,zal,zao,zaq,zam,zar,zap,zac]
  refine ⟨fun σ H'=>H'=H1∧σ=[some (.str z),some (.str z),none,none],?_,?_⟩
  ·simp_all only [zan,zas,zal,zao,zaq,zam,zar,zap,zac]
   refine zdr (.str z) (zjm K) ⟨false,rfl,zrO ?_⟩
   first | rfl | trivial
  rintro σ H2 ⟨rfl,rfl⟩
  simp_all only [zan,zas,zal,zao,zaq,zam,zar,zap,zac]
  refine ⟨fun σ H'=>H'=H2∧σ=[some (.str z),some (.str z),none,none],?_,?_⟩
  ·simp_all only [zan,zas,zal,zao,zaq,zam,zar,zap,zac]
   refine zdr (.str z) (zlb K) ⟨false,rfl,zrO ?_⟩
   first | rfl | trivial
  rintro σ H3 ⟨rfl,rfl⟩
  simp_all only [zan,zas,zal,zao,zaq,zam,zar,zap,zac]
  refine ⟨fun σ H'=>False,?_,fun _ _ z=>z.elim⟩
  simp_all only [zan,zas,zal,zao,zaq,zam,zar,zap,zac]
  refine zdr (.str z) rfl ⟨true,rfl,zsa ?_⟩
  refine zdr (.str z) rfl ⟨true,rfl,zsa ?_⟩
  exact ⟨rfl,by simpa using q0⟩
 | @lst n p xs ts h l e =>
  cases h2 with
  | @lst _ p2 ys _ h' l' e' =>
   refine ⟨fun σ H'=>False,?_,fun _ _ z=>z.elim⟩
   simp_all only [zan,zas,zal,zao,zaq,zam,zar,zap,zac]
   refine zdr (.lst h') (zdB K) ⟨false,rfl,zrO ?_⟩
   refine zd5 h' ⟨true,rfl,zsa ?_⟩
   refine ⟨fun σ H'=>H'=H∧σ=[some (.ref p),some (.ref p2),none,none],?_,?_⟩
   ·simp_all only [zan,zas,zal,zao,zaq,zam,zar,zap,zac]
    refine zdr (.lst h) (zdB K) ?_
    refine zdr (.lst h') (zdB K) ?_
    refine ⟨rfl,zdU (fun z=>absurd rfl z) (fun _=>?_)⟩
    refine zd5 h ?_
    refine zd5 h' ?_
    refine ⟨rfl,zdU (fun z=>absurd rfl z) (fun _=>?_)⟩
    first | rfl | trivial
   rintro σ H1 ⟨rfl,rfl⟩
   simp_all only [zan,zas,zal,zao,zaq,zam,zar,zap,zac]
   refine ⟨fun σ H'=>H'=H1∧σ=[some (.ref p),some (.ref p2),none,none],?_,?_⟩
   ·simp_all only [zan,zas,zal,zao,zaq,zam,zar,zap,zac]
    refine ⟨_,.inl (SqL.of h),_,.inl (SqL.of h'),?_⟩
    rw [l,l']
    exact zdU (fun z=>absurd rfl z) (fun _=>by first | rfl | trivial)
   rintro σ H2 ⟨rfl,rfl⟩
   simp_all only [zan,zas,zal,zao,zaq,zam,zar,zap,zac]
   refine .inl ⟨⟨_,SqL.of h⟩,⟨_,SqL.of h'⟩,?_⟩
   refine zqc (K:=K) (xs:=xs) (ys:=ys) (fun i σ H'=>zaQ H2 H'∧∃ z1 z2,σ=[some (.ref p),some (.ref p2),z1,z2]) ⟨.refl _,_,_,rfl⟩ ?_ ?_ ?_
   ·rintro i σ H' _ ⟨s,_⟩
    exact ⟨SqL.of (s _ _ h),SqL.of (s _ _ h')⟩
   ·rintro i x y u σ H3 hx hy ⟨s3,z1,z2,rfl⟩ hu
    have lx:=(List.getElem?_eq_some_iff.mp hx).1
    have et:ts[i]?=some ts[i]:=List.getElem?_eq_getElem (by omega)
    simp_all only [zan,zas,zal,zao,zaq,zam,zar,zap,zac]
    refine ⟨_,SqT.of zad,rfl,_,_,rfl,_,_,rfl,rfl,?_⟩
    have s4:=s3.add hu (o:=.tup [x,y])
    refine ⟨x,y,ts[i],rfl,(e i x _ hx et).same s4,(e' i y _ hy et).same s4,fun H5 s5=>?_⟩
    exact ⟨true,rfl,zdU (fun z=>absurd z (by decide)) (fun _=>s4.trans s5)⟩
   ·rintro σ H3 ⟨s3,z1,z2,rfl⟩
    simp_all only [zan,zas,zal,zao,zaq,zam,zar,zap,zac]
    exact q _ s3
 | @tup n p xs ts h l e =>
  cases h2 with
  | @tup _ p2 ys _ h' l' e' =>
   refine ⟨fun σ H'=>False,?_,fun _ _ z=>z.elim⟩
   simp_all only [zan,zas,zal,zao,zaq,zam,zar,zap,zac]
   refine zc8 h' ⟨true,rfl,zsa ?_⟩
   refine ⟨fun σ H'=>H'=H∧σ=[some (.ref p),some (.ref p2),none,none],?_,?_⟩
   ·simp_all only [zan,zas,zal,zao,zaq,zam,zar,zap,zac]
    refine zc8 h ?_
    refine zc8 h' ?_
    refine ⟨rfl,zdU (fun z=>absurd rfl z) (fun _=>?_)⟩
    refine zdr (.tup h) (zfb K) ?_
    refine zdr (.tup h') (zfb K) ?_
    refine ⟨rfl,zdU (fun z=>absurd rfl z) (fun _=>?_)⟩
    first | rfl | trivial
   rintro σ H1 ⟨rfl,rfl⟩
   simp_all only [zan,zas,zal,zao,zaq,zam,zar,zap,zac]
   refine ⟨fun σ H'=>H'=H1∧σ=[some (.ref p),some (.ref p2),none,none],?_,?_⟩
   ·simp_all only [zan,zas,zal,zao,zaq,zam,zar,zap,zac]
    refine ⟨_,.inr (SqT.of h),_,.inr (SqT.of h'),?_⟩
    rw [l,l']
    exact zdU (fun z=>absurd rfl z) (fun _=>by first | rfl | trivial)
   rintro σ H2 ⟨rfl,rfl⟩
   simp_all only [zan,zas,zal,zao,zaq,zam,zar,zap,zac]
   refine .inr ⟨⟨_,SqT.of h⟩,⟨_,SqT.of h'⟩,?_⟩
   refine zn1 (K:=K) (xs:=xs) (ys:=ys) (fun i σ H'=>zaQ H2 H'∧∃ z1 z2,σ=[some (.ref p),some (.ref p2),z1,z2]) ⟨.refl _,_,_,rfl⟩ ?_ ?_ ?_
   ·rintro i σ H' _ ⟨s,_⟩
    exact ⟨SqT.of (s _ _ h),SqT.of (s _ _ h')⟩
   ·rintro i x y u σ H3 hx hy ⟨s3,z1,z2,rfl⟩ hu
    have lx:=(List.getElem?_eq_some_iff.mp hx).1
    have et:ts[i]?=some ts[i]:=List.getElem?_eq_getElem (by omega)
    simp_all only [zan,zas,zal,zao,zaq,zam,zar,zap,zac]
    refine ⟨_,SqT.of zad,rfl,_,_,rfl,_,_,rfl,rfl,?_⟩
    have s4:=s3.add hu (o:=.tup [x,y])
    refine ⟨x,y,ts[i],rfl,(e i x _ hx et).same s4,(e' i y _ hy et).same s4,fun H5 s5=>?_⟩
    exact ⟨true,rfl,zdU (fun z=>absurd z (by decide)) (fun _=>s4.trans s5)⟩
   ·rintro σ H3 ⟨s3,z1,z2,rfl⟩
    simp_all only [zan,zas,zal,zao,zaq,zam,zar,zap,zac]
    exact q _ s3
theorem zep:zaP ["_law_told","_law_due","_law_one","_law_other"] ["_law_told","_law_due"] (zau zfx):=⟨rfl,rfl,rfl,by decide +kernel,rfl,by decide +kernel,by decide +kernel⟩
theorem ze8 (T:Txt K mg base a):∀ n,zcW P w K mg base CX0 n a.f__law_same a.d__law_same ["_law_told","_law_due"] (zkP n)
 | 0=>zqu
 | n+1=>by
  have G__law_same:=ze8 T n
  refine T.F__law_same.ok zep (fun vs H Q E h=>?_) (fun cdv A outer s H vs Q E hr h=>?_)
  ·obtain ⟨x,y,t,rfl,h1,h2,q⟩:=h
   rfl
  obtain ⟨x,y,t,rfl,h1,h2,q⟩:=h
  exact ⟨zfK K n,(zaf (zbG (zb2 (PW.pt (zdO (zcz (zax zaS rfl T.z_isinstance PyProof.Rows.boot_isinstance (zaa (pv 1) (zaa (zbS rfl T.z_tuple zcp rfl) zae)))) (zcV (zcz (zax zaS rfl T.z_isinstance PyProof.Rows.boot_isinstance (zaa (pv 1) (zaa (zbS rfl T.z_list zeq rfl) zae))))))) (zaf (zbG (zb2 (PW.pt (zdO (zaI zfN (zax zaS rfl T.z_isinstance PyProof.Rows.boot_isinstance (zaa (pv 0) (zaa (zbS rfl T.z_tuple zcp rfl) zae))) (zax zaS rfl T.z_isinstance PyProof.Rows.boot_isinstance (zaa (pv 1) (zaa (zbS rfl T.z_tuple zcp rfl) zae))) (zaL _)) (zcV (zaI zfN (zax zaS rfl T.z_isinstance PyProof.Rows.boot_isinstance (zaa (pv 0) (zaa (zbS rfl T.z_list zeq rfl) zae))) (zax zaS rfl T.z_isinstance PyProof.Rows.boot_isinstance (zaa (pv 1) (zaa (zbS rfl T.z_list zeq rfl) zae))) (zaL _))))) (zah (zaU zgE)) za0))
 (zaf (zbG (zb2 (zaI zfN (zax zaY rfl T.z_len PySem.boot_len (zaa (pv 0) zae)) (zax zaY rfl T.z_len PySem.boot_len (zaa (pv 1) zae)) (zaL _)) (zah (zaU zgE)) za0))
 (zaf (zdo PassesOwn.never rfl (ztp rfl T.z_zip (zaa (pv 0) (zaa (pv 1) zae))) (zef rfl (za2 (zaT (i:=2) zep.nd rfl (Or.inl rfl)) (za2 (zaT (i:=3) zep.nd rfl (Or.inl rfl)) zcT)))
 (zah (zb2 (zcX (zcz (zaG G__law_same (hr.mono (by omega)) rfl T.m__law_same T.F__law_same.kp T.b__law_same .nil zbs (zaa (pv 2) (zaa (pv 3) zae))))) (zah (zaU zgE)) za0)))
 (zah (zaU zgE))))) za0))
 (zaf (zbG (zb2 (zcz (zax zaS rfl T.z_isinstance PyProof.Rows.boot_isinstance (zaa (pv 1) (zaa (zbS rfl T.z_bool zgg rfl) zae)))) (zah (zaU (zdc (zax zaS rfl T.z_isinstance PyProof.Rows.boot_isinstance (zaa (pv 0) (zaa (zbS rfl T.z_bool zgg rfl) zae))) (zen (zcg zeM (pv 0) (pv 1) (zaL _)))))) za0))
 (zaf (zbG (zb2 (zcz (zax zaS rfl T.z_isinstance PyProof.Rows.boot_isinstance (zaa (pv 1) (zaa (zbS rfl T.z_int zds rfl) zae)))) (zah (zaU (zdc (zax zaS rfl T.z_isinstance PyProof.Rows.boot_isinstance (zaa (pv 0) (zaa (zbS rfl T.z_int zds rfl) zae))) (zdc (zrz (zax zaS rfl T.z_isinstance PyProof.Rows.boot_isinstance (zaa (pv 0) (zaa (zbS rfl T.z_bool zgg rfl) zae)))) (zen (zcg zeM (pv 0) (pv 1) (zaL _))))))) za0))
 (zaf (zbG (zb2 (zcz (zax zaS rfl T.z_isinstance PyProof.Rows.boot_isinstance (zaa (pv 1) (zaa (zbS rfl T.z_str zdn rfl) zae)))) (zah (zaU (zdc (zax zaS rfl T.z_isinstance PyProof.Rows.boot_isinstance (zaa (pv 0) (zaa (zbS rfl T.z_str zdn rfl) zae))) (zen (zcg zeM (pv 0) (pv 1) (zaL _)))))) za0))
 (zah (zaU (zdc (zcg zfk (pv 1) zbM (zaL _)) (zen (zcg zfk (pv 0) zbM (zaL _)))))))))),zjt h1 h2 q⟩
theorem zgS (T:Txt K mg base a):zcW P w K mg base CX0 6 a.f__law_same a.d__law_same ["_law_told","_law_due"] (zhy 5):=ze8 T 6
structure zrS (w:Str):Prop where
 dg:PySem.NumText.AllDigits w.cps.toList
 hd:∃ c r,w.cps.toList=c::r∧49≤c
 l1:1999≤w.length
 l2:w.length≤2001
theorem zvt:∀ (cs:List Nat) (acc:Nat),acc≤cs.foldl (fun acc c=>acc*10+(c - 48)) acc
 | [],acc=>Nat.le_refl _
 | c::cs,acc=>Nat.le_trans (by omega) (zvt cs (acc*10+(c - 48)))
theorem dg_of {w:Str} (h:PySem.NumText.AllDigits w.cps.toList):w.cps.toList.all dg=true:=List.all_eq_true.mpr fun c hc=>by
 have:=h c hc
 unfold dg
 rw [decide_eq_true this.1,decide_eq_true this.2]
 rfl
theorem zrS.num {w:Str} (B:zrS w):∃ n:Int,PySem.intText? w=some n∧60<n∧zc0 w=if w.length≤2000 then some n else none:=by
 obtain ⟨c,r,e,hc⟩:=B.hd
 have l1:=B.l1
 have l2:=B.l2
 have lw:w.length=w.cps.toList.length:=zbQ w
 have hn:=PySem.intText_digits B.dg (by rw [e];exact List.cons_ne_nil _ _) (by omega)
 refine ⟨_,hn,?_,?_⟩
 ·rw [e] at lw ⊢
  rw [List.length_cons] at lw
  match r,lw with
  | [],h=>exact absurd h (by rw [List.length_nil];omega)
  | [_],h=>exact absurd h (by rw [List.length_cons,List.length_nil];omega)
  | d::d2::r,_ =>
   have h1:=zvt r (((0*10+(c - 48))*10+(d - 48))*10+(d2 - 48))
   have h2:100≤PySem.NumText.digitsVal (c::d::d2::r):=Nat.le_trans (by omega) h1
   omega
 ·unfold zc0 okW
  rw [dg_of B.dg,Bool.and_true,decide_eq_false (p:=w.cps.toList.head?=some 48) (fun z=>by rw [e] at z;cases z;exact absurd hc (by decide)),Bool.false_and,Bool.not_false,Bool.and_true]
  by_cases h:w.length≤2000
  ·rw [decide_eq_true (show 1≤w.length∧w.length≤2000 from ⟨by omega,h⟩),if_pos rfl,if_pos h]
   exact hn
  ·rw [decide_eq_false (fun z=>h z.2),if_neg Bool.false_ne_true,if_neg h]
theorem zec {w:Str} (h:PySem.NumText.AllDigits w.cps.toList) {c:Nat} (hc:c<48):c∉sgn w:=fun z=>by
 have:=(h c z).1
 omega
theorem zo7 {w:Str} (B:zrS w):zn5 (Txt.split (Str.ofString "web "++w++Str.ofString "\n") (Str.ofString "\n"))=.inl (if w.length≤2000 then 1 else 0):=by
 obtain ⟨n,_,n60,hn⟩:=B.num
 have e1:Txt.split (Str.ofString "web "++w++Str.ofString "\n") (Str.ofString "\n")=[Str.ofString "web "++w,Str.ofString ""]:=by
  rw [zhx]
  refine zdv (List.cons_ne_nil _ _) (fun x hx=>?_) (zcu ?_)
  ·rcases List.mem_cons.mp hx with rfl | hx
   ·rw [zaM,List.mem_append]
    rintro (z | z)
    ·exact absurd z (by decide +kernel)
    ·exact zec B.dg (by decide) z
   ·rw [List.mem_singleton.mp hx,zfJ]
    exact List.not_mem_nil
  ·rw [za9,zcx,zfJ,zaM _ ⟨#[10]⟩]
   rfl
 have e2:Txt.split (Str.ofString "web "++w) (Str.ofString " ")=[Str.ofString "web",w]:=by
  rw [zgX]
  refine zdv (List.cons_ne_nil _ _) (fun x hx=>?_) (zcu ?_)
  ·rcases List.mem_cons.mp hx with rfl | hx
   ·decide +kernel
   ·rw [List.mem_singleton.mp hx]
    exact zec B.dg (by decide)
  ·rw [za9,zcx,zaM,show sgn (Str.ofString "web ")=sgn (Str.ofString "web")++[32] by decide +kernel,List.append_assoc]
   rfl
 have e3:zgW (Str.ofString "web "++w)=zc0 w:=by
  unfold zgW
  rw [e2,if_pos ⟨rfl,rfl⟩]
  rfl
 rw [e1]
 by_cases h:w.length≤2000
 ·rw [if_pos h] at hn ⊢
  have e4:zfA none (Str.ofString "web "++w)=some (some (n,[])):=by
   show (zgW _).map _=_
   rw [e3,hn]
   rfl
  have run:zkZ none 0 [Str.ofString "web "++w,Str.ofString ""].dropLast=.inr (some (n,[])):=by
   show (match zfA none (Str.ofString "web "++w) with | none=>Sum.inl 0 | some s'=>zkZ s' (0+1) [])=_
   rw [e4]
   rfl
  exact zoF ((zlN run).trans (if_neg fun z=>z.elim (fun z=>by cases z) fun z=>z rfl)) fun g=>by
   have:=g.2.2.1
   omega
 ·rw [if_neg h] at hn ⊢
  have e4:zfA none (Str.ofString "web "++w)=none:=by
   show (zgW _).map _=_
   rw [e3,hn]
   rfl
  refine znS (zlV ?_)
  show (match zfA none (Str.ofString "web "++w) with | none=>Sum.inl 0 | some s'=>zkZ s' (0+1) [])=_
  rw [e4]
structure Wds (w0 w1:Str) (i0 i1:Int) (sh:Prop):Prop where
 d0:PySem.NumText.AllDigits w0.cps.toList
 d1:PySem.NumText.AllDigits w1.cps.toList
 l:w0.length+w1.length≤2002
 t0:PySem.intText? w0=some i0
 t1:PySem.intText? w1=some i1
 p:1≤i0
 short:sh→zc0 w0=some i0∧zc0 w1=some i1
 long:¬ sh→zc0 w0=none∨zc0 w1=none
def tl (sp:Bool):Str:=if sp then Str.ofString "-1" else Str.ofString ""
def hdr (sp:Bool):Str:=if sp then Str.ofString "spread 1\nspread " else Str.ofString "walk 1 0\nwalk "
def p0 (sp:Bool):PR:=if sp then ([],1) else ([(0,0)],1)
def zug (sp:Bool) (w0 w1:Str):Str:=Str.join ⟨#[32]⟩ [kdS sp,w0,w1++tl sp]
def grT (sp:Bool) (w0 w1:Str):Str:=hdr sp++Txt.join (Str.ofString " ") [w0,w1]++(tl sp++Str.ofString "\n")
theorem zsq (sp:Bool):GP sp (p0 sp):=by
 cases sp
 ·exact ⟨by decide,by decide,by decide,fun _=>by decide,fun x hx=>by rw [List.mem_singleton.mp hx];exact ⟨⟨by decide,by decide⟩,by decide,by decide⟩⟩
 ·exact ⟨by decide,by decide,by decide,fun z=>(by cases z),fun x hx=>(by cases hx)⟩
theorem znN (sp:Bool) {c:Nat} (hc:c=32∨c=10):c∉sgn (tl sp):=by rcases hc with rfl | rfl <;> cases sp <;> decide +kernel
theorem th_tl (sp:Bool) {w:Str} (d:PySem.NumText.AllDigits w.cps.toList):thO sp (w++tl sp)=(zc0 w).map fun n=>thT sp (n,1):=by
 cases sp
 ·have:w++tl false=w:=zcu (by rw [zaM,show sgn (tl false)=[] from zfJ,List.append_nil])
  rw [this]
  rfl
 ·have e:Txt.split (w++tl true) (Str.ofString "-")=[w,Str.ofString "1"]:=by
   rw [zl6]
   refine zdv (List.cons_ne_nil _ _) (fun y hy=>?_) (zcu ?_)
   ·rcases List.mem_cons.mp hy with rfl | hy
    ·exact zec d (by decide)
    ·rw [List.mem_singleton.mp hy]
     decide +kernel
   ·rw [za9,zcx,zaM,show sgn (tl true)=45::sgn (Str.ofString "1") by decide +kernel]
  have e1:zc0 (Str.ofString "1")=some 1:=zd1 (n:=1) ⟨by decide,by decide⟩
  show (match zdh (Txt.split (w++tl true) (Str.ofString "-")) with | some [x,y]=>some (Tr.tup [.int x,.int y]) | _=>none)=_
  rw [e,zc4,zc4,e1]
  cases zc0 w <;> rfl
theorem zo9 (sp:Bool) {w0 w1:Str} {i0 i1:Int} {sh:Prop} (W:Wds w0 w1 i0 i1 sh):(sh→shO sp (zug sp w0 w1)=some (zcO sp ([(i1,1)],i0)))∧(¬ sh→shO sp (zug sp w0 w1)=none):=by
 have e:Txt.split (zug sp w0 w1) (Str.ofString " ")=[kdS sp,w0,w1++tl sp]:=by
  rw [zgX]
  refine zdv (List.cons_ne_nil _ _) (fun x hx=>?_) rfl
  simp only [List.mem_cons,List.not_mem_nil,or_false] at hx
  rcases hx with rfl | rfl | rfl
  ·exact zg1 sp (.inl rfl)
  ·exact zec W.d0 (by decide)
  ·rw [zaM,List.mem_append]
   rintro (z | z)
   ·exact zec W.d1 (by decide) z
   ·exact znN sp (.inl rfl) z
 have p:=W.p
 rw [zlB e fun _=>List.cons_ne_nil _ _,ziw,th_tl sp W.d1]
 refine ⟨fun h=>?_,fun h=>?_⟩
 ·rw [(W.short h).1,(W.short h).2]
  show (if i0<1 then none else some (zcO sp ([(i1,1)],i0)))=_
  rw [if_neg (by omega)]
 ·rcases W.long h with z | z
  ·rw [z]
   rfl
  ·rw [z]
   cases zc0 w0 with
   | none=>rfl
   | some n =>
    show (if n<1 then none else none)=_
    split <;> rfl
theorem zqg (sp:Bool) {w0 w1:Str} (d0:PySem.NumText.AllDigits w0.cps.toList) (d1:PySem.NumText.AllDigits w1.cps.toList):Txt.split (grT sp w0 w1) (Str.ofString "\n")=[zhH sp (p0 sp),zug sp w0 w1,Str.ofString ""]:=by
 rw [zhx]
 refine zdv (List.cons_ne_nil _ _) (fun x hx=>?_) (zcu ?_)
 ·simp only [List.mem_cons,List.not_mem_nil,or_false] at hx
  rcases hx with rfl | rfl | rfl
  ·exact zlW sp _
  ·refine zhc (by decide) _ fun x hx=>?_
   simp only [List.mem_cons,List.not_mem_nil,or_false] at hx
   rcases hx with rfl | rfl | rfl
   ·exact zg1 sp (.inr rfl)
   ·exact zec d0 (by decide)
   ·rw [zaM,List.mem_append]
    rintro (z | z)
    ·exact zec d1 (by decide) z
    ·exact znN sp (.inr rfl) z
  ·rw [zfJ]
   exact List.not_mem_nil
 ·have h1:sgn (hdr sp)=sgn (zhH sp (p0 sp))++10::(sgn (kdS sp)++[32]):=by cases sp <;> decide +kernel
  unfold grT zug
  rw [za9,za9,zcx,zfJ,zaM,zaM,h1,za9,za9,zcx,zaM,zaM,zhx]
  show _=_++sgn (PySem.Builtin.Str.glued _ _)++_
  rw [StrLaws.glued_eq_join,zgX,za9,zcx]
  simp only [List.append_assoc,List.cons_append,List.nil_append]
  rfl
theorem znl (sp:Bool) {w0 w1:Str} {i0 i1:Int} {sh:Prop} (W:Wds w0 w1 i0 i1 sh):(sh→zpg (grT sp w0 w1)=.inr (sp,[p0 sp,([(i1,1)],i0)].map (zcO sp)))∧(¬ sh→zpg (grT sp w0 w1)=.inl 1):=by
 have e:∃ r,sgn (grT sp w0 w1)=sgn (kdS sp)++32::r:=by
  unfold grT
  rw [zaM,zaM]
  have:∃ r,sgn (hdr sp)=sgn (kdS sp)++32::r:=by
   cases sp
   ·exact ⟨[49,32,48,10,119,97,108,107,32],by decide +kernel⟩
   ·exact ⟨[49,10,115,112,114,101,97,100,32],by decide +kernel⟩
  obtain ⟨r,er⟩:=this
  rw [er]
  exact ⟨_,by rw [List.append_assoc,List.append_assoc];rfl⟩
 obtain ⟨r,e⟩:=e
 obtain ⟨g1,g2⟩:=zo9 sp W
 rw [zse e,zqg sp W.d0 W.d1]
 have b0:=ziI (zsq sp)
 refine ⟨fun h=>?_,fun h=>?_⟩
 ·have:=g1 h
  rw [zkK]
  ·rw [if_neg fun z=>z.elim (fun z=>by cases z) fun z=>z rfl]
   show Sum.inr (sp,List.filterMap (shO sp) [_,_])=_
   rw [List.filterMap_cons_some b0,List.filterMap_cons_some this]
   rfl
  ·intro i x hx
   match i,hx with
   | 0,hx=>cases hx;rw [b0];exact nofun
   | 1,hx=>cases hx;rw [this];exact nofun
 ·rw [zoe (k:=1) (r:=zug sp w0 w1) rfl (g2 h)]
  intro i x li hx
  match i,li,hx with
  | 0,_,hx=>cases hx;rw [b0];exact nofun
def zlM (a:Ad):Sp:=fun vs H Q _=>∃ (kd:Str) (v:V),vs=[.str kd,v]∧kd∈zrF∧∀ H',zaQ H H'→Q (.int 3) H'
def zd4 (K:PySem.W.Frag) (a:Ad):TS :=
 (zaN (zbe (tC .non) (zat 2))
 (zaN (zo3 K (fun E'=>(zc2 (zin (zdu a) [] E' (zab (zac 0) (zab (zac 1) zav))))) (.ref a.c_HideError) 3
 (zbe (zac 3) (zat 2)))
 (zbV (zaZ (zhJ a) [] E0 (zab (zac 2) zav)))))
theorem zhY {kd:Str} {v:V} (I2:Isa2 K a) (h:kd∈zrF) (q:∀ H',zaQ H H'→Q (.int 3) H'):zd4 K a { nx:=fun _ H'=>Q .non H',rt:=Q } (L2.zbB ["_law_kind","_law_paper_here","_law_caught_here","e"] [.str kd,v]) H:=by
 unfold zd4
 simp_all only [zac]
 refine ⟨kd,v,rfl,.inr ⟨h,I2.ec,I2.sub,fun x hx=>⟨x,none,false,rfl,zad,fun H' s=>q H' ((zai hx _).trans s)⟩⟩⟩
theorem zcF:zaP ["_law_kind","_law_paper_here","_law_caught_here","e"] ["_law_kind","_law_paper_here"] (zau zd6):=⟨rfl,rfl,rfl,by decide +kernel,rfl,by decide +kernel,by decide +kernel⟩
theorem zh2 (T:Txt K mg base a):zcW P w K mg base CX0 5 a.f__law_caught a.d__law_caught ["_law_kind","_law_paper_here"] (zlM a):=by
 have G__law_class:=zdW (P:=P) (w:=w) (base:=base) T
 have G_paper_text:=zfS (P:=P) (w:=w) (base:=base) T
 refine T.F__law_caught.ok zcF (fun vs H Q E h=>?_) (fun cdv A outer s H vs Q E hr h=>?_)
 ·obtain ⟨kd,v,rfl,h,q⟩:=h
  rfl
 obtain ⟨kd,v,rfl,h,q⟩:=h
 exact ⟨zd4 K a,(zaf (zaE (i:=2) zcF.nd rfl (Or.inl rfl) zbM)
 (zaf (zkL (i:=3) T.m_HideError T.x_HideError rfl zcF.nd rfl rfl rfl rfl rfl rfl (fun pins E'=>(zah (zco (zg0 G_paper_text (hr.mono (by decide)) rfl T.m_paper_text T.F_paper_text.kp T.b_paper_text .nil znH (zaa (pv 0) (zaa (pv 1) zae))))))
 (fun ea=>(zah (zaE (i:=2) zcF.nd rfl (Or.inl rfl) (pv 3)))))
 (zah (zaU (zaG G__law_class (hr.mono (by decide)) rfl T.m__law_class T.F__law_class.kp T.b__law_class .nil zbs (zaa (pv 2) zae)))))),
  zhY T.I2 h q⟩
def zlS (a:Ad):Sp:=fun vs H Q _=>∃ w:Str,vs=[.str w]∧LT H a.p_lam∧zrS w∧∀ H',Bar a.p_lam H H'→LT H' a.p_lam→Q (.bl true) H'
def zdJ (K:PySem.W.Frag) (a:Ad):TS :=
 (zaN (zbe (tC .non) (zat 1))
 (zaN (zo3 K (fun E'=>(zc2 (zin (zkb a) [] E' (zab (tOp zcq (tOp zcq (tC (.str "web ")) (zac 0)) (tC (.str "\n"))) zav)))) (.ref a.c_HideError) 2
 (zbe (zac 2) (zat 1)))
 (zbV (zcE (tOp rEq (zaZ (zhJ a) [] E0 (zab (zac 1) zav)) (tC (.int 2))) (tOp rEq (zpb K (zac 1) "row") (tCB (fun xs H Q=>(∃ i,xs=[.int i]∧Q (.int i) H)∨∃ k,xs=[.bl k]∧Q (.int (if k then 1 else 0)) H) (zab (tOp (rI0 fun i j=>.bl (decide (i≤j))) (tCB zkI (zab (zac 0) zav)) (tC (.int 2000))) zav)))))))
theorem zhA {w:Str} (I:Isa K a) (xa:zhV K a.c_NoText "row") (hP:LT H a.p_lam) (B:zrS w) (q:∀ H',Bar a.p_lam H H'→LT H' a.p_lam→Q (.bl true) H'):zdJ K a { nx:=fun _ H'=>Q .non H',rt:=Q } (L2.zbB ["_law_word","_law_caught_here","e"] [.str w]) H:=by
 have l1:(Str.ofString "web ").length=4:=by decide +kernel
 have l2:(Str.ofString "\n").length=1:=by decide +kernel
 have lw:=B.l2
 have k1:=zbC (Str.ofString "web ") w
 have k2:=zbC (Str.ofString "web "++w) (Str.ofString "\n")
 have e:=zo7 B
 unfold zdJ
 simp_all only [zac]
 refine ⟨zcr (by omega),zcr (by omega),_,rfl,hP,zsp (by omega),by omega,fun m rs w' rl ts H' e'=>absurd (e.symm.trans e') nofun,fun k dx H' e' b L hdx hd=>⟨I.ec,I.sub,fun x hx=>⟨x,some dx,true,rfl,zad,fun H2 s2=>⟨rfl,?_⟩⟩⟩⟩
 rw [if_pos rfl]
 have s:=(zai hx (zh0 x (.ref a.c_NoText) (some dx))).trans s2
 refine ⟨_,dx,s2 _ _ zad,_,s _ _ hd,xa,.int k,rfl,zcr (by omega),.inr ⟨rfl,?_⟩⟩
 rw [decide_eq_true]
 ·exact q H2 (fun b' o n e=>s _ _ (b b' o n e)) (L.same s)
 ·have:=e.symm.trans e'
  cases this
  by_cases h:w.length≤2000
  ·rw [if_pos h,if_pos (by omega)]
   rfl
  ·rw [if_neg h,if_neg (by omega)]
   rfl
theorem zct:zaP ["_law_word","_law_caught_here","e"] ["_law_word"] (zau zdG):=⟨rfl,rfl,rfl,by decide +kernel,rfl,by decide +kernel,by decide +kernel⟩
theorem zhd (T:Txt K mg base a):zcW P w K mg base CX0 8 a.f__law_web_row a.d__law_web_row ["_law_word"] (zlS a):=by
 have G__law_class:=zdW (P:=P) (w:=w) (base:=base) T
 have G_read_web:=zkr (P:=P) (w:=w) (base:=base) T
 refine T.F__law_web_row.ok zct (fun vs H Q E h=>?_) (fun cdv A outer s H vs Q E hr h=>?_)
 ·obtain ⟨w',rfl,hP,B,q⟩:=h
  rfl
 obtain ⟨w',rfl,hP,B,q⟩:=h
 exact ⟨zdJ K a,(zaf (zaE (i:=1) zct.nd rfl (Or.inl rfl) zbM)
 (zaf (zkL (i:=2) T.m_HideError T.x_HideError rfl zct.nd rfl rfl rfl rfl rfl rfl (fun pins E'=>(zah (zco (zg0 G_read_web (hr.mono (by decide)) rfl T.m_read_web T.F_read_web.kp T.b_read_web .nil znH (zaa (zaF zb1 (zaF zb1 zaR (pv 0)) zaR) zae)))))
 (fun ea=>(zah (zaE (i:=1) zct.nd rfl (Or.inl rfl) (pv 2)))))
 (zah (zaU (zdc (zcg zeM (zaG G__law_class (hr.mono (by decide)) rfl T.m__law_class T.F__law_class.kp T.b__law_class .nil zbs (zaa (pv 1) zae)) zak (zaL _)) (zen (zcg zeM (zoZ (pv 1) rfl) (zbA zkc rfl T.z_int zds (zaa (zcg zk1 (zax zht rfl T.z_len PySem.boot_len (zaa (pv 0) zae)) zak (zaL _)) zae)) (zaL _)))))))),
  zhA T.I T.xa_NoText hP B q⟩
theorem ztw (d:Nat) (n:Nat):sgn (zpk ⟨#[d]⟩ n)=List.replicate n d:=by
 have key:∀ (n:Nat) (b:Array Nat),((List.replicate n #[d]).foldl (·++·) b).toList=b.toList++List.replicate n d:=by
  intro n
  induction n with
  | zero=>intro b;rw [List.replicate_zero,List.replicate_zero,List.append_nil];rfl
  | succ n ih =>
   intro b
   rw [List.replicate_succ,List.foldl_cons,ih,List.replicate_succ,Array.toList_append,List.append_assoc]
   rfl
 exact key n #[]
theorem zwp {z:Str} {k:Nat} {c:Nat} (h:z.cps.toList[k]?=some c):∃ y:Str,y=⟨((z.cps.toList.drop (HT.sIx z.length 0 (some (k:Int)))).take (HT.sIx z.length z.length none - HT.sIx z.length 0 (some (k:Int)))).toArray⟩∧y.length≤z.length∧(⟨((y.cps.toList.drop (HT.sIx y.length 0 none)).take (HT.sIx y.length y.length (some 1) - HT.sIx y.length 0 none)).toArray⟩:Str)=⟨#[c]⟩:=by
 obtain ⟨hk,e⟩:=List.getElem?_eq_some_iff.mp h
 have lz:z.length=z.cps.toList.length:=zbQ z
 have i1:HT.sIx z.length 0 (some (k:Int))=k:=by
  show (if (k:Int)<0 then ((k:Int)+(z.length:Int)).toNat else min (k:Int).toNat z.length)=k
  rw [if_neg (by omega)]
  omega
 have i2:HT.sIx z.length z.length none=z.length:=rfl
 rw [i1,i2]
 refine ⟨_,rfl,?_,?_⟩
 ·rw [zbQ,zuD,List.length_take,List.length_drop]
  omega
 ·generalize hy:(⟨((z.cps.toList.drop k).take (z.length - k)).toArray⟩:Str)=y
  have ey:y.cps.toList=z.cps.toList.drop k:=by
   rw [← hy]
   show (z.cps.toList.drop k).take (z.length - k)=_
   rw [List.take_of_length_le (by rw [List.length_drop];omega)]
  have ly:1≤y.length:=by
   rw [zbQ]
   unfold sgn
   rw [ey,List.length_drop]
   omega
  have j1:HT.sIx y.length 0 none=0:=rfl
  have j2:HT.sIx y.length y.length (some 1)=1:=by
   show (if (1:Int)<0 then ((1:Int)+(y.length:Int)).toNat else min (1:Int).toNat y.length)=1
   rw [if_neg (by decide)]
   have:(1:Int).toNat=1:=rfl
   omega
  rw [j1,j2,ey,List.drop_zero,List.drop_eq_getElem_cons hk,e]
  rfl
theorem zry {i:Int} {n:Nat} (h0:0≤i) (h1:i<n):∃ k:Nat,i=k∧k<n:=⟨i.toNat,by omega,by omega⟩
theorem sg9:(Str.ofString "123456789").cps.toList=[49,50,51,52,53,54,55,56,57]:=by decide +kernel
theorem pick9 {k:Nat} (h:k<9):∃ c,(Str.ofString "123456789").cps.toList[k]?=some c∧49≤c∧c≤57:=by
 rw [sg9]
 refine ⟨_,List.getElem?_eq_getElem (l:=[49,50,51,52,53,54,55,56,57]) h,?_⟩
 have key:∀ c∈[49,50,51,52,53,54,55,56,57],49≤c∧c≤57:=by decide
 exact key _ (List.getElem_mem h)
theorem zul {k:Nat} (h:k<10):∃ c,(Str.ofString "0123456789").cps.toList[k]?=some c∧48≤c∧c≤57:=by
 rw [zjq]
 refine ⟨_,List.getElem?_eq_getElem (l:=[48,49,50,51,52,53,54,55,56,57]) h,?_⟩
 have key:∀ c∈[48,49,50,51,52,53,54,55,56,57],48≤c∧c≤57:=by decide
 exact key _ (List.getElem_mem h)
theorem zpV {c d:Nat} {m:Int} (hc:49≤c∧c≤57) (hd:48≤d∧d≤57) (m0:0≤m) (m1:m<3):zrS ((⟨#[c]⟩:Str)++zpk ⟨#[d]⟩ (1998+m).toNat):=by
 have e:sgn ((⟨#[c]⟩:Str)++zpk ⟨#[d]⟩ (1998+m).toNat)=c::List.replicate (1998+m).toNat d:=by
  rw [zaM,ztw]
  rfl
 have l:=zbQ ((⟨#[c]⟩:Str)++zpk ⟨#[d]⟩ (1998+m).toNat)
 rw [e,List.length_cons,List.length_replicate] at l
 refine ⟨fun x hx=>?_,⟨c,_,e,hc.1⟩,by omega,by omega⟩
 have hx:x∈sgn ((⟨#[c]⟩:Str)++zpk ⟨#[d]⟩ (1998+m).toNat):=hx
 rw [e] at hx
 rcases List.mem_cons.mp hx with rfl | hx
 ·exact ⟨by omega,hc.2⟩
 ·rw [(List.mem_replicate.mp hx).2]
  exact hd
theorem dig1 {w:Str} (h:w.cps.toList.all dg=true):PySem.NumText.AllDigits w.cps.toList:=fun c hc=>by
 have:=List.all_eq_true.mp h c hc
 unfold dg at this
 rw [Bool.and_eq_true,decide_eq_true_eq,decide_eq_true_eq] at this
 exact this
theorem num0:zc0 (Str.ofString "0")=some 0:=zd1 (n:=0) ⟨by decide,by decide⟩
theorem num5:zc0 (Str.ofString "5")=some 5:=zd1 (n:=5) ⟨by decide,by decide⟩
theorem zox {w:Str} {n:Int} (h:zc0 w=some n):PySem.intText? w=some n:=by
 unfold zc0 at h
 split at h
 ·exact h
 ·cases h
theorem wds_a {w:Str} (B:zrS w):∃ i0 i1,Wds w (Str.ofString "0") i0 i1 (w.length≤2000):=by
 obtain ⟨n,h1,h2,h3⟩:=B.num
 have l:=B.l2
 refine ⟨n,0,B.dg,dig1 (by decide +kernel),by rw [show (Str.ofString "0").length=1 by decide +kernel];omega,h1,zox num0,by omega,fun h=>⟨by rw [h3,if_pos h],num0⟩,fun h=>.inl (by rw [h3,if_neg h])⟩
theorem wds_b {w:Str} (B:zrS w):∃ i0 i1,Wds (Str.ofString "5") w i0 i1 (w.length≤2000):=by
 obtain ⟨n,h1,h2,h3⟩:=B.num
 have l:=B.l2
 refine ⟨5,n,dig1 (by decide +kernel),B.dg,by rw [show (Str.ofString "5").length=1 by decide +kernel];omega,zox num5,h1,by decide,fun h=>⟨num5,by rw [h3,if_pos h]⟩,fun h=>.inr (by rw [h3,if_neg h])⟩
structure Lm (a:Ad) (H:Hp):Prop where
 l1:LT H a.p_lam
 l2:LT2 H a.p_lam2
theorem Lm.same {H H':Hp} (h:Lm a H) (s:zaQ H H'):Lm a H':=⟨h.l1.same s,h.l2.same s⟩
theorem zrV {P P2:Addr} {pos:Pos} {qual:Str} {H H':Hp} {ps:Array Value} (h:zb5 H P2 pos qual) (hP:H P=some (.tbl ps)) (b:Bar P H H') (n:P2≠P):zb5 H' P2 pos qual:=by
 rcases h with h | ⟨c',oc,vs,t,n',h1,h2,h3,h4⟩
 ·exact .inl (b _ _ n h)
 ·exact .inr ⟨c',oc,vs,t,n',b _ _ n h1,b _ _ (fun z=>by rw [z,hP] at h2;cases h2) h2,h3,h4⟩
def Kp (H H':Hp):Prop:=∀ b o,H b=some o→(∀ ps,o≠.tbl ps)→H' b=some o
theorem Kp.trans {H H1 H2:Hp} (h:Kp H H1) (g:Kp H1 H2):Kp H H2:=fun b o e n=>g b o (h b o e n) n
theorem Kp.same {H H':Hp} (s:zaQ H H'):Kp H H':=fun b o e _=>s _ _ e
theorem Kp.bar {P:Addr} {H H':Hp} {ps:Array Value} (hP:H P=some (.tbl ps)) (b:Bar P H H'):Kp H H':=fun x o e n=>b x o (fun z=>by rw [z,hP] at e;cases e;exact n _ rfl) e
theorem Kp.sh {H H':Hp} (k:Kp H H') {t:Tr} {v:V} (h:Sh H t v):Sh H' t v:=by
 induction h with
 | int i=>exact .int i
 | bl b=>exact .bl b
 | str x=>exact .str x
 | non=>exact .non
 | lst h l _ ih=>exact .lst (k _ _ h nofun) l ih
 | tup h l _ ih=>exact .tup (k _ _ h nofun) l ih
theorem Kp.seq {H H':Hp} {b:Addr} {xs:List V} (k:Kp H H') (e:SqL K H b xs):SqL K H' b xs:=by
 rcases e with (e | ⟨o,e⟩) | e
 ·exact .inl (.inl (k _ _ e nofun))
 ·exact .inl (.inr ⟨o,k _ _ e nofun⟩)
 ·exact .inr e
inductive DpT:Nat→Tr→Prop where
 | int {n:Nat} (i:Int):DpT n (.int i)
 | str {n:Nat} (x:Str):DpT n (.str x)
 | lst {n:Nat} {ts:List Tr} (h:∀ t∈ts,DpT n t):DpT (n+1) (.lst ts)
 | tup {n:Nat} {ts:List Tr} (h:∀ t∈ts,DpT n t):DpT (n+1) (.tup ts)
theorem Sh.toT {H:Hp} {t:Tr} {v:V} (h:Sh H t v):∀ {n:Nat},DpT n t→ShT H n t v:=by
 induction h with
 | int i=>intro n _;exact .int i
 | bl b=>intro n d;cases d
 | str x=>intro n _;exact .str x
 | non=>intro n d;cases d
 | lst h l _ ih =>
  intro n d
  cases d with
  | lst d=>exact .lst h l fun i x t e1 e2=>ih i x t e1 e2 (d t (zdd e2))
 | tup h l _ ih =>
  intro n d
  cases d with
  | tup d=>exact .tup h l fun i x t e1 e2=>ih i x t e1 e2 (d t (zdd e2))
theorem zkR {α:Type} {P:α→Prop} {x y:α} (h1:P x) (h2:P y):∀ z∈[x,y],P z:=fun z hz=>by
 rcases List.mem_cons.mp hz with rfl | hz
 ·exact h1
 ·rw [List.mem_singleton.mp hz]
  exact h2
theorem zus (sp:Bool) (p:PR):DpT 3 (zcO sp p):=.tup (zkR (.lst fun t ht=>by
 obtain ⟨x,_,rfl⟩:=List.mem_map.mp ht
 cases sp
 ·exact .int _
 ·exact .tup (zkR (.int _) (.int _))) (.int _))
theorem zrI (sp:Bool) (ps:List PR):DpT 4 (.lst (ps.map (zcO sp))):=.lst fun t ht=>by
 obtain ⟨x,_,rfl⟩:=List.mem_map.mp ht
 exact zus sp x
theorem zlu (sp:Bool) (ps:List PR):DpT 5 (.tup [.str (kdS sp),.lst (ps.map (zcO sp))]):=.tup (zkR (.str _) (zrI sp ps))
def EvR (te:TE) (σ:St) (H:Hp) (P:V→Hp→Prop):Prop:=∀ R:VK,(∀ v H',zaQ H H'→P v H'→R v H')→te σ H R
theorem zhW {te:TE} {σ:St} {m:Nat} {T:TS} {D:zb9} (P:V→Hp→Prop) (e:EvR te σ H P) (k:∀ v H',zaQ H H'→P v H'→T D (σ.set m (some v)) H'):zaN (zbe te (zat m)) T D σ H:=e _ k
theorem zrP {te:TE} {σ:St} {z:Str} {k c:Nat} {i:Int} (h:z.cps.toList[k]?=some c) (lz:z.length≤sizeLine) (ei:i=k) (e:∀ R:VK,R (.int i) H→te σ H R):EvR (tSl zrx (tSl zrx (tC (.str z)) (zfC te) zcm) zcm (zfC (tC (.int 1)))) σ H (fun v H'=>v=.str ⟨#[c]⟩∧H=H'):=fun R r=>by
 obtain ⟨y,ey,ly,e1⟩:=zwp h
 refine e _ (Exists.intro i (And.intro rfl (Exists.intro z (And.intro rfl (And.intro lz (Exists.intro 1 (And.intro rfl (Exists.intro y (And.intro ?_ (And.intro (Nat.le_trans ly lz) ?_))))))))))
 ·rw [ey,ei]
 ·rw [e1]
  exact r _ _ (.refl _) ⟨rfl,rfl⟩
theorem par_r {ta:TA} {σ:St} {m j:Nat} {v u:V} {T:TS} {D:zb9} (e:∀ R:List V→Hp→Prop,R [v,u] H→ta σ H R) (k:T D ((σ.set m (some v)).set j (some u)) H):zaN (tPar m j ta) T D σ H:=e _ ⟨v,u,rfl,k⟩
theorem zp0 {t T:TS} {D:zb9} {σ:St} (R:St→Hp→Prop) (h1:t { D with nx:=R } σ H) (h2:∀ σ' H',R σ' H'→T D σ' H'):zaN (zei t) T D σ H:=⟨R,h1,h2⟩
theorem if_t {te:TE} {t u:TS} {D:zb9} {σ:St} {b:Bool} (h:∀ R:VK,R (.bl b) H→te σ H R) (k:if b=true then t D σ H else u D σ H):zcb (zaJ te) t u D σ H:=h _ ⟨b,rfl,k⟩
theorem sz9 {n:Nat} (h:Nat.ble n 9=true):n≤sizeLine:=Nat.le_trans (Nat.le_of_ble_eq_true h) (by decide)
theorem zsE (w0 w1:Str):Str.ofString "walk 1 0\nwalk "++Txt.join (Str.ofString " ") [w0,w1]++Str.ofString "\n"=grT false w0 w1:=by
 refine zcu ?_
 unfold grT
 rw [zaM,zaM,zaM,zaM,zaM,show sgn (tl false)=[] from zfJ,List.nil_append]
 rfl
theorem znO (w0 w1:Str):Str.ofString "spread 1\nspread "++Txt.join (Str.ofString " ") [w0,w1]++Str.ofString "-1\n"=grT true w0 w1:=by
 refine zcu ?_
 unfold grT
 rw [zaM,zaM,zaM,zaM,zaM,show sgn (Str.ofString "-1\n")=sgn (tl true)++sgn (Str.ofString "\n") by decide +kernel]
 rfl
theorem zr2 (w0 w1:Str):(Txt.join (Str.ofString " ") [w0,w1]).length=w0.length+1+w1.length:=by
 show (PySem.Builtin.Str.glued _ _).length=_
 rw [StrLaws.glued_eq_join,zgX,zbQ,za9,zcx,List.length_append,List.length_cons,← zbQ,← zbQ]
 omega
theorem zuE (sp:Bool) {w0 w1:Str} (l:w0.length+w1.length≤2002):(grT sp w0 w1).length≤2100:=by
 have h1:(hdr sp).length≤20:=by cases sp <;> decide +kernel
 have h2:(tl sp).length≤2:=by cases sp <;> decide +kernel
 unfold grT
 rw [zbC,zbC,zbC,zr2,show (Str.ofString "\n").length=1 by decide +kernel]
 omega
def znW (a:Ad):Sp:=fun vs H Q _=>∃ (sp:Bool) (n:Int),vs=[.str (kdS sp),.int n]∧0≤n∧n<2147483587∧Lm a H∧∀ H',Q (.bl true) H'
def zdH:TS :=
 (zbV (zcE (tOp (fun x y H Q=>y=.non∧Q (.bl (decide (x=.non))) H) (zac 10) (tC .non)) (zaZ (zhy 5) [] E0 (zab (zac 11) (zab (zac 8) zav)))))
theorem zaC (D:zb9) (σ:St) (H:Hp):zdH D σ H=(zbV (zcE (tOp (fun x y H Q=>y=.non∧Q (.bl (decide (x=.non))) H) (zac 10) (tC .non)) (zaZ (zhy 5) [] E0 (zab (zac 11) (zab (zac 8) zav))))) D σ H:=rfl
def zcI (K:PySem.W.Frag) (a:Ad):TS :=
 (zcb (zaJ (tOp (rI0 fun i j=>.bl (decide (j<i))) (tCB zkI (zab (zac 4) zav)) (tC (.int 2000)))) (zbV (zcE (tOp rEq (zaZ (zhJ a) [] E0 (zab (zac 10) zav)) (tC (.int 2))) (tOp rEq (zpb K (zac 10) "row") (tC (.int 1))))) za4)
theorem zaB (K:PySem.W.Frag) (a:Ad) (D:zb9) (σ:St) (H:Hp):zcI K a D σ H=(zcb (zaJ (tOp (rI0 fun i j=>.bl (decide (j<i))) (tCB zkI (zab (zac 4) zav)) (tC (.int 2000)))) (zbV (zcE (tOp rEq (zaZ (zhJ a) [] E0 (zab (zac 10) zav)) (tC (.int 2))) (tOp rEq (zpb K (zac 10) "row") (tC (.int 1))))) za4) D σ H:=rfl
def zdz (K:PySem.W.Frag):TS :=
 (zbe (tOp zcq (tOp zcq (tC (.str "spread 1\nspread ")) (tBM K "str" (zkV K) (tC (.str " ")) (zab (zac 5) zav))) (tC (.str "-1\n"))) (zat 9))
def zdx (K:PySem.W.Frag):TS :=
 (zcb (zaJ (tOp rEq (zac 0) (tC (.str "spread")))) (zaN (zbe (zgZ (zab (zac 0) (zab (zdM (zab (zgZ (zab (zdM zav) (zab (tC (.int 1)) zav))) (zab (zgZ (zab (zdM (zab (zgZ (zab (zac 7) (zab (tC (.int 1)) zav))) zav)) (zab (zac 6) zav))) zav))) zav))) (zat 8))
 (zdz K)) za4)
theorem zaA (K:PySem.W.Frag) (D:zb9) (σ:St) (H:Hp):zdx K D σ H=(zcb (zaJ (tOp rEq (zac 0) (tC (.str "spread")))) (zaN (zbe (zgZ (zab (zac 0) (zab (zdM (zab (zgZ (zab (zdM zav) (zab (tC (.int 1)) zav))) (zab (zgZ (zab (zdM (zab (zgZ (zab (zac 7) (zab (tC (.int 1)) zav))) zav)) (zab (zac 6) zav))) zav))) zav))) (zat 8))
 (zdz K)) za4) D σ H:=rfl
def zeI (K:PySem.W.Frag) (a:Ad):TS :=
 (zaN (zbe (tSl zrx (tSl zrx (tC (.str "123456789")) (zfC (tOp (rI (fun _ j=>0<j) fun i j=>.int (i % j)) (zac 1) (tC (.int 9)))) zcm) zcm (zfC (tC (.int 1)))) (zat 2))
 (zaN (zbe (tSl zrx (tSl zrx (tC (.str "0123456789")) (zfC (tOp (rI (fun _ j=>0<j) fun i j=>.int (i % j)) (tOp (rI (fun _ j=>0<j∧j.natAbs.log2<9000) fun i j=>.int (i / j)) (zac 1) (tC (.int 9))) (tC (.int 10)))) zcm) zcm (zfC (tC (.int 1)))) (zat 3))
 (zaN (zbe (tOp zcq (zac 2) (tOp ztM (zac 3) (tOp (rI0 fun i j=>.int (i+j)) (tC (.int 1998)) (tOp (rI (fun _ j=>0<j) fun i j=>.int (i % j)) (tOp (rI (fun _ j=>0<j∧j.natAbs.log2<9000) fun i j=>.int (i / j)) (zac 1) (tC (.int 90))) (tC (.int 3)))))) (zat 4))
 (zaN (zbe (tOp (zeA K) (zdM (zab (zdM (zab (zac 4) (zab (tC (.str "0")) zav))) (zab (zdM (zab (tC (.str "5")) (zab (zac 4) zav))) zav))) (tOp (rI (fun _ j=>0<j) fun i j=>.int (i % j)) (tOp (rI (fun _ j=>0<j∧j.natAbs.log2<9000) fun i j=>.int (i / j)) (zac 1) (tC (.int 270))) (tC (.int 2)))) (zat 5))
 (zaN (zei (zcb (zfj (tB (zaZ (zlS a) [] E0 (zab (zac 4) zav)))) (zbV (tC (.bl false))) za4))
 (zaN (tPar 6 7 (zab (tCB zmE (zab (tOp (zeA K) (zac 5) (tC (.int 0))) zav)) (zab (tCB zmE (zab (tOp (zeA K) (zac 5) (tC (.int 1))) zav)) zav)))
 (zaN (zbe (zgZ (zab (zac 0) (zab (zdM (zab (zgZ (zab (zdM (zab (tC (.int 0)) zav)) (zab (tC (.int 1)) zav))) (zab (zgZ (zab (zdM (zab (zac 7) zav)) (zab (zac 6) zav))) zav))) zav))) (zat 8))
 (zaN (zbe (tOp zcq (tOp zcq (tC (.str "walk 1 0\nwalk ")) (tBM K "str" (zkV K) (tC (.str " ")) (zab (zac 5) zav))) (tC (.str "\n"))) (zat 9))
 (zaN (zei (zdx K))
 (zaN (zbe (tC .non) (zat 10))
 (zaN (zbe (tC .non) (zat 11))
 (zaN (zo3 K (fun E'=>(zbe (zin (zfI a) [] E' (zab (zac 9) zav)) (zat 11))) (.ref a.c_HideError) 12
 (zbe (zac 12) (zat 10)))
 (zaN (zei (zcI K a))
 (zdH))))))))))))))
theorem zi2 {sp:Bool} {n:Int} (I:Isa K a) (xa:zhV K a.c_NoText "row") (hpp:a.p_lam≠a.p_lam2) (n0:0≤n) (n1:n<2147483587) (L:Lm a H) (q:∀ H',Q (.bl true) H'):zeI K a { nx:=fun _ H'=>Q .non H',rt:=Q } (L2.zbB ["_law_kind","_law_number","_law_first","_law_others","_law_word","_law_words","_law_weight","_law_place","_law_due","_law_text","_law_caught_here","_law_told","e"] [.str (kdS sp),.int n]) H:=by
 obtain ⟨k,ek,hk⟩:=zry (i:=n % 9) (n:=9) (by omega) (by omega)
 obtain ⟨c,hc,c9⟩:=pick9 hk
 obtain ⟨j,ej,hj⟩:=zry (i:=n / 9 % 10) (n:=10) (by omega) (by omega)
 obtain ⟨d,hd,d9⟩:=zul hj
 have B:=zpV (m:=n / 90 % 3) c9 d9 (by omega) (by omega)
 unfold zeI
 refine zhW _ (zrP hc (by decide +kernel) ek fun R r=>?_) ?_
 ·simp_all only [zaC,zaB,zaA,zac]
  exact ⟨by decide,r⟩
 rintro _ _ - ⟨rfl,rfl⟩
 refine zhW _ (zrP hd (by decide +kernel) ej fun R r=>?_) ?_
 ·simp_all only [zaC,zaB,zaA,zac]
  exact ⟨by decide,by decide +kernel,by decide,r⟩
 rintro _ _ - ⟨rfl,rfl⟩
 refine zhW (fun v H'=>v=.str ((⟨#[c]⟩:Str)++zpk ⟨#[d]⟩ (1998+n / 90 % 3).toNat)∧H=H') (fun R r=>?_) ?_
 ·simp_all only [zaC,zaB,zaA,zac]
  have l1:(⟨#[c]⟩:Str).length=1:=rfl
  have l2:(⟨#[d]⟩:Str).length=1:=rfl
  have l3:=zlw ⟨#[d]⟩ (1998+n / 90 % 3).toNat
  rw [l2,Nat.mul_one] at l3
  exact ⟨by decide,by decide +kernel,by decide,by omega,by omega,by omega,by omega,zcr (by omega),r _ _ (.refl _) ⟨rfl,rfl⟩⟩
 rintro _ _ - ⟨rfl,rfl⟩
 generalize (⟨#[c]⟩:Str)++zpk ⟨#[d]⟩ (1998+n / 90 % 3).toNat=w at B ⊢
 refine zhW (fun v H'=>∃ (p:Addr) (w0 w1:Str) (i0 i1:Int),v=.ref p∧H' p=some (.lst [.str w0,.str w1])∧Wds w0 w1 i0 i1 (w.length≤2000)) (fun R r=>?_) ?_
 ·simp_all only [zaC,zaB,zaA,zac]
  refine ⟨by decide,fun p1 e1=>?_⟩
  have s1:=zai e1 (.lst [V.str w,V.str (Str.ofString "0")])
  have h1:(L2.upd H p1 (.lst [V.str w,V.str (Str.ofString "0")])) p1=some (.lst [V.str w,V.str (Str.ofString "0")]):=zad
  generalize L2.upd H p1 (.lst [V.str w,V.str (Str.ofString "0")])=G1 at s1 h1 ⊢
  refine ⟨by decide,fun p2 e2=>?_⟩
  have s2:=zai e2 (.lst [V.str (Str.ofString "5"),V.str w])
  have h2:(L2.upd G1 p2 (.lst [V.str (Str.ofString "5"),V.str w])) p2=some (.lst [V.str (Str.ofString "5"),V.str w]):=zad
  generalize L2.upd G1 p2 (.lst [V.str (Str.ofString "5"),V.str w])=G2 at s2 h2 ⊢
  refine ⟨by decide,fun p3 e3=>⟨by decide,by decide +kernel,by decide,_,SqL.of zad,?_⟩⟩
  have s3:=zai e3 (.lst [V.ref p1,V.ref p2])
  have:n / 270 % 2=0∨n / 270 % 2=1:=by omega
  rcases this with e | e <;> rw [e]
  ·obtain ⟨i0,i1,W⟩:=wds_a B
   exact ⟨_,rfl,r _ _ (s1.trans (s2.trans s3)) ⟨p1,_,_,i0,i1,rfl,(s2.trans s3) _ _ h1,W⟩⟩
  ·obtain ⟨i0,i1,W⟩:=wds_b B
   exact ⟨_,rfl,r _ _ (s1.trans (s2.trans s3)) ⟨p2,_,_,i0,i1,rfl,s3 _ _ h2,W⟩⟩
 rintro _ H1 s1 ⟨p,w0,w1,i0,i1,rfl,hp,W⟩
 have L1:=L.same s1
 have lw:=B.l2
 have wl:=W.l
 obtain ⟨ps1,hp1⟩:=L1.l1.tbl
 refine zp0 (fun σ' H'=>σ'=[some (.str (kdS sp)),some (.int n),some (.str ⟨#[c]⟩),some (.str ⟨#[d]⟩),some (.str w),some (.ref p),none,none,none,none,none,none,none]∧Bar a.p_lam H1 H') ?_ ?_
 ·simp_all only [zaC,zaB,zaA,zac]
  refine ⟨w,rfl,L1.l1,B,fun H' b l=>⟨true,rfl,?_⟩⟩
  exact zdU (fun z=>absurd z (by decide)) (fun _=>b)
 rintro _ H2 ⟨rfl,b2⟩
 have L2':LT2 H2 a.p_lam2:=zrV L1.l2 hp1 b2 hpp.symm
 have hp2:H2 p=some (.lst [.str w0,.str w1]):=b2 _ _ (fun z=>by rw [z,hp1] at hp;cases hp) hp
 refine par_r (v:=.int i0) (u:=.int i1) (fun R r=>?_) ?_
 ·simp_all only [zaC,zaB,zaA,zac]
  exact ⟨_,SqL.of hp2,_,rfl,w0,rfl,by omega,W.d0,i0,W.t0,_,SqL.of hp2,_,rfl,w1,rfl,by omega,W.d1,i1,W.t1,r⟩
 refine zsc (t:=.tup [.str (kdS sp),.lst [.tup [.lst [.int 0],.int 1],.tup [.lst [.int i1],.int i0]]]) (.tup (.cons (.var rfl (.str _)) (.cons (.lst (.cons (.tup (.cons (.lst (.cons .int .nil) (sz9 rfl)) (.cons .int .nil)) (sz9 rfl)) (.cons (.tup (.cons (.lst (.cons (.var rfl (.int _)) .nil) (sz9 rfl)) (.cons (.var rfl (.int _)) .nil)) (sz9 rfl)) .nil)) (sz9 rfl)) .nil)) (sz9 rfl)) ?_
 intro dv H3 s3 hd3
 have hp3:=s3 _ _ hp2
 have j1:=zr2 w0 w1
 have o1:(Str.ofString " ").length=1:=by decide +kernel
 have o2:(Str.ofString "\n").length=1:=by decide +kernel
 have o3:(Str.ofString "-1\n").length=3:=by decide +kernel
 have o4:(Str.ofString "walk 1 0\nwalk ").length=14:=by decide +kernel
 have o5:(Str.ofString "spread 1\nspread ").length=16:=by decide +kernel
 refine zhW (fun v H'=>v=.str (grT false w0 w1)∧H3=H') (fun R r=>?_) ?_
 ·simp_all only [zaC,zaB,zaA,zac]
  refine ⟨rfl,[w0,w1],SqL.of hp3,zcr (by rw [o1];show w0.length+(w1.length+0)+2*1≤_;omega),zcr (by omega),zcr (by rw [zbC];omega),?_⟩
  rw [zsE]
  exact r _ _ (.refl _) ⟨rfl,rfl⟩
 rintro _ _ - ⟨rfl,rfl⟩
 refine zp0 (fun σ' H'=>zaQ H3 H'∧∃ v,σ'=[some (.str (kdS sp)),some (.int n),some (.str ⟨#[c]⟩),some (.str ⟨#[d]⟩),some (.str w),some (.ref p),some (.int i0),some (.int i1),some v,some (.str (grT sp w0 w1)),none,none,none]∧Sh H' (.tup [.str (kdS sp),.lst ([p0 sp,([(i1,1)],i0)].map (zcO sp))]) v) ?_ ?_
 ·unfold zdx
  cases sp
  ·refine if_t (b:=false) (fun R r=>?_) ?_
   ·simp_all only [zaC,zaB,zaA,zac]
    exact ⟨rfl,r⟩
   ·rw [if_neg Bool.false_ne_true]
    exact ⟨.refl _,dv,rfl,hd3⟩
  ·refine if_t (b:=true) (fun R r=>?_) ?_
   ·simp_all only [zaC,zaB,zaA,zac]
    exact ⟨rfl,r⟩
   ·rw [if_pos rfl]
    refine zsc (t:=.tup [.str (kdS true),.lst ([p0 true,([(i1,1)],i0)].map (zcO true))]) (.tup (.cons (.var rfl (.str _)) (.cons (.lst (.cons (.tup (.cons (.lst .nil (sz9 rfl)) (.cons .int .nil)) (sz9 rfl)) (.cons (.tup (.cons (.lst (.cons (.tup (.cons (.var rfl (.int _)) (.cons .int .nil)) (sz9 rfl)) .nil) (sz9 rfl)) (.cons (.var rfl (.int _)) .nil)) (sz9 rfl)) .nil)) (sz9 rfl)) .nil)) (sz9 rfl)) ?_
    intro dv4 H4 s4 hd4
    unfold zdz
    simp_all only [zaC,zaB,zaA,zac]
    refine ⟨rfl,[w0,w1],SqL.of (s4 _ _ hp3),zcr (by rw [o1];show w0.length+(w1.length+0)+2*1≤_;omega),zcr (by omega),zcr (by rw [zbC];omega),s4,?_⟩
    rw [znO]
    exact ⟨rfl,hd4⟩
 rintro _ H4 ⟨s4,v,rfl,hv⟩
 have L4:=L2'.same (s3.trans s4)
 obtain ⟨ps4,hp4⟩:=L4.tbl
 have gl:=zuE sp wl
 obtain ⟨t1,t2⟩:=znl sp W
 simp_all only [zaC,zaB,zaA,zac]
 refine ⟨_,rfl,L4,zsp (by omega),by omega,fun sp' ts tv H5 e b l sh=>?_,fun k' dx H5 e b l hdx hd=>⟨I.ec,I.sub,fun x hx=>?_⟩⟩
 ·have h:w.length≤2000:=Decidable.not_not.mp fun z=>absurd ((t2 z).symm.trans e) nofun
  have e2:=(t1 h).symm.trans e
  cases e2
  refine Exists.intro (fun σ' H'=>σ'=[some (.str (kdS sp)),some (.int n),some (.str ⟨#[c]⟩),some (.str ⟨#[d]⟩),some (.str w),some (.ref p),some (.int i0),some (.int i1),some v,some (.str (grT sp w0 w1)),some .non,some tv,none]∧H'=H5) (And.intro ?_ ?_)
  ·unfold zcI
   refine if_t (b:=false) (fun R r=>?_) ?_
   ·simp_all only [zaC,zaB,zaA,zac]
    rw [decide_eq_false (by omega)]
    exact ⟨zcr (by omega),r⟩
   ·rw [if_neg Bool.false_ne_true]
    exact ⟨rfl,rfl⟩
  ·rintro _ _ ⟨rfl,rfl⟩
   unfold zdH
   simp_all only [zaC,zaB,zaA,zac]
   exact ⟨tv,v,_,rfl,(sh.same zlp).toT (zlu sp _),((Kp.bar hp4 b).sh hv).toT (zlu sp _),fun H' _=>q H'⟩
 ·have h:¬ w.length≤2000:=fun z=>absurd ((t1 z).symm.trans e) nofun
  have e2:=(t2 h).symm.trans e
  cases e2
  refine Exists.intro (fun _ _=>False) (And.intro ?_ fun _ _ z=>z.elim)
  unfold zcI
  refine if_t (b:=true) (fun R r=>?_) ?_
  ·simp_all only [zaC,zaB,zaA,zac]
   rw [decide_eq_true (by omega)]
   exact ⟨zcr (by omega),r⟩
  ·rw [if_pos rfl]
   simp_all only [zaC,zaB,zaA,zac]
   refine ⟨x,some dx,true,rfl,zad,fun H6 s6=>⟨rfl,?_⟩⟩
   rw [if_pos rfl]
   refine ⟨_,dx,s6 _ _ zad,_,((zai hx _).trans s6) _ _ hd,xa,.int 1,rfl,rfl,?_⟩
   rw [decide_eq_true rfl]
   exact q H6
theorem zaO:zaP ["_law_kind","_law_number","_law_first","_law_others","_law_word","_law_words","_law_weight","_law_place","_law_due","_law_text","_law_caught_here","_law_told","e"] ["_law_kind","_law_number"] (zau zey):=⟨rfl,rfl,rfl,by decide +kernel,rfl,by decide +kernel,by decide +kernel⟩
theorem ziF (T:Txt K mg base a):zcW P w K mg base CX0 9 a.f__law_great a.d__law_great ["_law_kind","_law_number"] (znW a):=by
 have G__law_class:=zdW (P:=P) (w:=w) (base:=base) T
 have G__law_same:=zgS (P:=P) (w:=w) (base:=base) T
 have G__law_web_row:=zhd (P:=P) (w:=w) (base:=base) T
 have G_read_paper:=zfR (P:=P) (w:=w) (base:=base) T
 refine T.F__law_great.ok zaO (fun vs H Q E h=>?_) (fun cdv A outer s H vs Q E hr h=>?_)
 ·obtain ⟨sp,n,rfl,n0,n1,L,q⟩:=h
  rfl
 obtain ⟨sp,n,rfl,n0,n1,L,q⟩:=h
 exact ⟨zeI K a,(zaf (zaE (i:=2) zaO.nd rfl (Or.inl rfl) (zc1 zln (zc1 zln zaR (zd9 (zaF zcd (pv 1) zak)) zd0) zd0 (zd9 zak)))
 (zaf (zaE (i:=3) zaO.nd rfl (Or.inl rfl) (zc1 zln (zc1 zln zaR (zd9 (zaF zcd (zaF zci (pv 1) zak) zak)) zd0) zd0 (zd9 zak)))
 (zaf (zaE (i:=4) zaO.nd rfl (Or.inl rfl) (zaF zb1 (pv 2) (zaF zsK (pv 3) (zaF zc5 zak (zaF zcd (zaF zci (pv 1) zak) zak)))))
 (zaf (zaE (i:=5) zaO.nd rfl (Or.inl rfl) (zcN zbT (zbX (zaa (zbX (zaa (pv 4) (zaa zaR zae))) (zaa (zbX (zaa zaR (zaa (pv 4) zae))) zae))) (zaF zcd (zaF zci (pv 1) zak) zak) (fun _ _=>rfl)))
 (zaf (zbG (zb2 (zcX (zcz (zaG G__law_web_row (hr.mono (by decide)) rfl T.m__law_web_row T.F__law_web_row.kp T.b__law_web_row .nil zbs (zaa (pv 4) zae)))) (zah (zaU zgE)) za0))
 (zaf (zvb (i:=6) (j:=7) rfl zaO.nd rfl rfl (by decide) rfl rfl (zaa (zbA (zhM T.dg) rfl T.z_int zds (zaa (zcN zbT (pv 5) zak (fun _ _=>rfl)) zae)) (zaa (zbA (zhM T.dg) rfl T.z_int zds (zaa (zcN zbT (pv 5) zak (fun _ _=>rfl)) zae)) zae)) rfl)
 (zaf (zaE (i:=8) zaO.nd rfl (Or.inl rfl) (zdj (zaa (pv 0) (zaa (zbX (zaa (zdj (zaa (zbX (zaa zak zae)) (zaa zak zae))) (zaa (zdj (zaa (zbX (zaa (pv 7) zae)) (zaa (pv 6) zae))) zae))) zae))))
 (zaf (zaE (i:=9) zaO.nd rfl (Or.inl rfl) (zaF zb1 (zaF zb1 zaR (zdN PySem.F.plainAttrs_str PySem.F.slot_str_join PySem.F.type_str_join ziu zaR (zaa (pv 5) zae))) zaR))
 (zaf (zbG (zb2 (zaI zeM (pv 0) zaR (zaL _)) (zaf (zaE (i:=8) zaO.nd rfl (Or.inl rfl) (zdj (zaa (pv 0) (zaa (zbX (zaa (zdj (zaa (zbX zae) (zaa zak zae))) (zaa (zdj (zaa (zbX (zaa (zdj (zaa (pv 7) (zaa zak zae))) zae)) (zaa (pv 6) zae))) zae))) zae))))
 (zah (zaE (i:=9) zaO.nd rfl (Or.inl rfl) (zaF zb1 (zaF zb1 zaR (zdN PySem.F.plainAttrs_str PySem.F.slot_str_join PySem.F.type_str_join ziu zaR (zaa (pv 5) zae))) zaR)))) za0))
 (zaf (zaE (i:=10) zaO.nd rfl (Or.inl rfl) zbM)
 (zaf (zaE (i:=11) zaO.nd rfl (Or.inl rfl) zbM)
 (zaf (zkL (i:=12) T.m_HideError T.x_HideError rfl zaO.nd rfl rfl rfl rfl rfl rfl (fun pins E'=>(zah (zaE (i:=11) zaO.nd rfl (Or.inl rfl) (zg0 G_read_paper (hr.mono (by decide)) rfl T.m_read_paper T.F_read_paper.kp T.b_read_paper .nil znH (zaa (pv 9) zae)))))
 (fun ea=>(zah (zaE (i:=10) zaO.nd rfl (Or.inl rfl) (pv 12)))))
 (zaf (zbG (zb2 (zaI zp7 (zax zht rfl T.z_len PySem.boot_len (zaa (pv 4) zae)) zak (zaL _)) (zah (zaU (zdc (zcg zeM (zaG G__law_class (hr.mono (by decide)) rfl T.m__law_class T.F__law_class.kp T.b__law_class .nil zbs (zaa (pv 10) zae)) zak (zaL _)) (zen (zcg zeM (zoZ (pv 10) rfl) zak (zaL _)))))) za0))
 (zah (zaU (zdc (zcg zfk (pv 10) zbM (zaL _)) (zen (zaG G__law_same (hr.mono (by decide)) rfl T.m__law_same T.F__law_same.kp T.b__law_same .nil zbs (zaa (pv 11) (zaa (pv 8) zae)))))))))))))))))))),
  zi2 T.I T.xa_NoText T.hpp n0 n1 L q⟩
def zpQ (K:PySem.W.Frag) (P P2:Addr):Sp:=fun vs H Q _=>∃ (p:Addr) (ns:List Int),vs=[.ref p]∧SqL K H p (ns.map V.int)∧ns.length≤63∧(∀ x∈ns,x.natAbs<2 ^ 2 ^ 20)∧LT H P∧LT2 H P2∧∀ H',Q (.bl true) H'
theorem ShT.shows {n:Nat} {t:Tr} {v:V} (h:ShT H n t v):zdK K H n t v:=by
 induction h with
 | int i=>exact .int i
 | str x=>exact .str x
 | lst h l _ ih=>exact .lst (SqL.of h) l ih
 | tup h l _ ih=>exact .tup (SqT.of h) l ih
def Clr (H0 H6:Hp) (rl:Addr) (H':Hp):Prop:=∀ b o,H6 b=some o→H' b=some o∨(H0 b=none∧b≠rl∧(∃ ys,o=.lst ys)∧∃ ys,H' b=some (.lst ys))
theorem Clr.get {H0 H6 H':Hp} {rl b:Addr} {o:HO} (c:Clr H0 H6 rl H') (h:H6 b=some o) (n:∀ ys,o≠.lst ys):H' b=some o :=
 (c b o h).resolve_right fun ⟨_,_,⟨ys,e⟩,_⟩=>n ys e
theorem Clr.lst {H0 H6 H':Hp} {rl b:Addr} {ys:List V} (c:Clr H0 H6 rl H') (h:H6 b=some (.lst ys)):∃ zs,H' b=some (.lst zs) :=
 (c b _ h).elim (fun e=>⟨_,e⟩) fun z=>z.2.2.2
theorem Clr.put {H0 H6 H':Hp} {rl b:Addr} {ys:List V} (c:Clr H0 H6 rl H') (h:H6 b=some (.lst ys)) (n:H0 b=none) (nr:b≠rl):Clr H0 H6 rl (L2.upd H' b (.lst [])):=fun x o e=>by
 by_cases z:x=b
 ·subst z
  rw [h] at e
  cases e
  exact .inr ⟨n,nr,⟨_,rfl⟩,_,zad⟩
 ·rw [zaj z]
  exact c x o e
theorem ztA {sp:Bool} {ps:List PR} {rl t l:Addr} {xs ys:List V} {p:PR} (g:GP sp p) (hr:H rl=some (.lst xs)) (hx:ShL H (ps.map (zcO sp)) xs) (m:.ref t∈xs) (hl:H l=some (.lst ys)) (hy:ShL H (p.1.map (thT sp)) ys):l≠rl:=fun e=>by
 subst e
 rw [hr] at hl
 cases hl
 obtain ⟨i,ei⟩:=List.mem_iff_getElem?.mp m
 have li:=(List.getElem?_eq_some_iff.mp ei).1
 have l1:=hx.len
 have l2:=hy.len
 rw [List.length_map] at l1 l2
 have e1:ps[i]?=some ps[i]:=List.getElem?_eq_getElem (by omega)
 have e2:p.1[i]?=some p.1[i]:=List.getElem?_eq_getElem (by omega)
 obtain ⟨t',l',zs,et,ht,_,_⟩:=zj6 (hx.el i _ _ ei (by rw [List.getElem?_map,e1];rfl))
 have h2:=hy.el i _ _ ei (by rw [List.getElem?_map,e2];rfl)
 cases sp
 ·cases thf h2
 ·obtain ⟨u,eu,hu⟩:=tht h2
  cases et
  cases eu
  rw [ht] at hu
  cases hu
theorem zrG {P:Addr} {pos:Pos} {qual:Str} {H H':Hp} (h:zb5 H P pos qual) (tb:∀ b o,H b=some o→(∀ ys,o≠.lst ys)→H' b=some o):zb5 H' P pos qual:=by
 rcases h with h | ⟨c',oc,vs,t,n',h1,h2,h3,h4⟩
 ·exact .inl (tb _ _ h nofun)
 ·exact .inr ⟨c',oc,vs,t,n',tb _ _ h1 nofun,tb _ _ h2 nofun,h3,h4⟩
def zku (K:PySem.W.Frag) (a:Ad):TS :=
 (zbV (zcE (tOp rEq (zaZ (zlM a) [] E0 (zab (zac 9) (zab (zac 4) zav))) (tC (.int 3))) (zcE (tOp (rEqD K) (zac 4) (zac 2)) (zaZ (znW a) [] E0 (zab (zac 1) (zab (zaZ (zcQ K) [] E0 (zab (zac 0) (zab (tC (.int 92)) zav))) zav))))))
def zk2 (K:PySem.W.Frag):TS :=
 (zaN (zg3 (ze7 K (tOp (zjO K) (zac 6) (tC (.int 1)))) (zic K 2 (zbI (zat 7) (zbI (zat 8) zh4)))
 (zc2 (zuc K "list" zh8 (zac 7))))
 (zc2 (zuc K "list" zh8 (tOp (zjO K) (zac 6) (tC (.int 1))))))
theorem zbw (K:PySem.W.Frag) (D:zb9) (σ:St) (H:Hp):zk2 K D σ H=(zaN (zg3 (ze7 K (tOp (zjO K) (zac 6) (tC (.int 1)))) (zic K 2 (zbI (zat 7) (zbI (zat 8) zh4)))
 (zc2 (zuc K "list" zh8 (zac 7))))
 (zc2 (zuc K "list" zh8 (tOp (zjO K) (zac 6) (tC (.int 1)))))) D σ H:=rfl
def zor (K:PySem.W.Frag):TS :=
 (zaN (zei (zcb (zfj (tB (zaZ (zhy 5) [] E0 (zab (zac 6) (zab (zgZ (zab (zac 1) (zab (zac 2) zav))) zav))))) (zbV (tC (.bl false))) za4))
 (zk2 K))
def zkM (K:PySem.W.Frag) (a:Ad):TS :=
 (zcb (tOr (zfj (tB (zaZ (zhy 5) [] E0 (zab (zaZ (zdu a) [] E0 (zab (zac 1) (zab (zac 4) zav))) (zab (zac 3) zav))))) (zaJ (tOp (rNeD K) (zac 4) (zac 2)))) (zbV (tC (.bl false))) za4)
theorem zbx (K:PySem.W.Frag) (a:Ad) (D:zb9) (σ:St) (H:Hp):zkM K a D σ H=(zcb (tOr (zfj (tB (zaZ (zhy 5) [] E0 (zab (zaZ (zdu a) [] E0 (zab (zac 1) (zab (zac 4) zav))) (zab (zac 3) zav))))) (zaJ (tOp (rNeD K) (zac 4) (zac 2)))) (zbV (tC (.bl false))) za4) D σ H:=rfl
def zi7 (K:PySem.W.Frag) (a:Ad):TS :=
 (zaN (zbe (tOp (zeA K) (zdM (zab (tC (.str "")) (zab (tC (.str "walks")) (zab (tC (.str "Walk")) (zab (tC (.str "spread ")) (zab (tC (.str "road")) zav)))))) (tOp (rI (fun _ j=>0<j) fun i j=>.int (i % j)) (zaZ (zcQ K) [] E0 (zab (zac 0) (zab (tC (.int 91)) zav))) (tC (.int 5)))) (zat 9))
 (zku K a))
theorem zbz (K:PySem.W.Frag) (a:Ad) (D:zb9) (σ:St) (H:Hp):zi7 K a D σ H=(zaN (zbe (tOp (zeA K) (zdM (zab (tC (.str "")) (zab (tC (.str "walks")) (zab (tC (.str "Walk")) (zab (tC (.str "spread ")) (zab (tC (.str "road")) zav)))))) (tOp (rI (fun _ j=>0<j) fun i j=>.int (i % j)) (zaZ (zcQ K) [] E0 (zab (zac 0) (zab (tC (.int 91)) zav))) (tC (.int 5)))) (zat 9))
 (zku K a)) D σ H:=rfl
def znF (K:PySem.W.Frag) (a:Ad):TS :=
 (zaN (zg3 (zhP (zab (tC (.int 2)) zav)) (zat 5)
 (zaN (zei (zkM K a))
 (zaN (zbe (zaZ (zfI a) [] E0 (zab (zac 3) zav)) (zat 6))
 (zor K))))
 (zi7 K a))
def zoS (K:PySem.W.Frag) (a:Ad):TS :=
 (zaN (zbe (zgT (ze7 K (zac 2)) (zic K 2 (zbI (zat 0) (zbI (zat 1) zh4))) zcB (zgZ (zab (tCB (fun xs H Q=>∃ p ys,xs=[.ref p]∧(SqL K H p ys∨SqT K H p ys)∧∀ l,H l=none→Q (.ref l) (upd H l (.lst ys))) (zab (zac 0) zav)) (zab (zac 1) zav))) [none,none]) (zat 4))
 (znF K a))
def zpc (K:PySem.W.Frag) (a:Ad):TS :=
 (zaN (zbe (zaZ (znD K) [] E0 (zab (zac 0) (zab (tC (.int 0)) (zab (zac 1) zav)))) (zat 2))
 (zaN (zbe (zaZ (zot K) [] E0 (zab (zac 1) (zab (zac 2) zav))) (zat 3))
 (zoS K a)))
def zth (K:PySem.W.Frag) (a:Ad):TS :=
 (zaN (zbe (tOp (zeA K) (zdM (zab (tC (.str "walk")) (zab (tC (.str "spread")) zav))) (tOp (rI (fun _ j=>0<j) fun i j=>.int (i % j)) (zaZ (zcQ K) [] E0 (zab (zac 0) (zab (tC (.int 90)) zav))) (tC (.int 2)))) (zat 1))
 (zpc K a))
theorem zv3 {p:Addr} {ns:List Int} (hpp:a.p_lam≠a.p_lam2) (hS:SqL K H p (ns.map V.int)) (hl:ns.length≤63) (L:Lm a H) (q:∀ H',Q (.bl true) H') :
  zth K a { nx:=fun _ H'=>Q .non H',rt:=Q } (L2.zbB ["_law_script","_law_kind","_law_paper_here","_law_text","_law_handed","_law_turn","_law_told","_law_plan","_law_weight","_law_odd"] [.ref p]) H:=by
 unfold zth
 refine zhW (fun v H'=>∃ sp,v=.str (kdS sp)) (fun R r=>?_) ?_
 ·simp_all only [zbw,zbx,zbz,zac]
  refine ⟨by decide,fun kl hkl=>⟨p,ns,90,rfl,(zai hkl _).seq hS,hl,by decide,by decide,fun r0 r00 r01=>⟨r0,rfl,by decide,_,SqL.of zad,?_⟩⟩⟩
  have:r0 % 2=0∨r0 % 2=1:=by omega
  rcases this with e | e <;> rw [e]
  ·exact ⟨_,rfl,r _ _ (zai hkl _) ⟨false,rfl⟩⟩
  ·exact ⟨_,rfl,r _ _ (zai hkl _) ⟨true,rfl⟩⟩
 rintro _ H1 s1 ⟨sp,rfl⟩
 unfold zpc
 refine zhW (fun v H'=>∃ ps:List PR,Sh H' (.lst (ps.map (zcO sp))) v∧(∀ p∈ps,GP sp p)∧ps≠[]∧ps.length≤4) (fun R r=>?_) ?_
 ·simp_all only [zbw,zbx,zbz,zac]
  refine ⟨p,ns,0,sp,rfl,by decide,by decide,s1.seq hS,hl,fun b xs H' s h x1 x4 hx=>?_⟩
  obtain ⟨ps,lp,g,hs⟩:=ztJ h hx
  exact r _ _ s ⟨ps,hs,g,fun z=>by rw [z,List.length_nil] at lp;omega,by omega⟩
 rintro pv H2 s2 ⟨ps,hps,g,ne,l4⟩
 refine zhW (fun v H'=>v=.str (txP sp ps)∧H2=H') (fun R r=>?_) ?_
 ·simp_all only [zbw,zbx,zbz,zac]
  exact ⟨sp,pv,ps,rfl,hps,g,l4,r _ _ (.refl _) ⟨rfl,rfl⟩⟩
 rintro _ _ - ⟨rfl,rfl⟩
 unfold zoS
 refine zhW (fun v H'=>Sh H' (.lst (ps.map (zcO sp))) v) (fun R r=>?_) ?_
 ·simp_all only [zbw,zbx,zbz,zac]
  obtain ⟨pr,xs,rfl,hpr,hx⟩:=zjk hps
  have lx:=hx.len
  rw [List.length_map] at lx
  refine ⟨pr,rfl,⟨_,SqL.of hpr⟩,fun D hD=>?_⟩
  have sD:∀ {H':Hp},zaQ H2 H'→zaQ H2 (Off D D H'):=fun s b o e=>by
   have n:b≠D:=zaz e hD
   rw [zlT n n]
   exact s _ _ e
  refine zeZ (K:=K) (xs:=xs) (fun i ys σ H'=>zaQ H2 H'∧ys.length=i∧(∀ (j:Nat) y p,ys[j]?=some y→ps[j]?=some p→Sh (Off D D H') (zcO sp p) y)∧∃ z1 z2,σ=[z1,z2]) ⟨zai hD _,rfl,fun j y p e=>(by cases e),_,_,rfl⟩ ?_ ?_ ?_
  ·rintro i ys σ H' _ ⟨s,_⟩
   exact SqL.of (s _ _ hpr)
  ·rintro i x ys σ H' e hD' ⟨s,ly,hy,z1,z2,rfl⟩
   have li:=(List.getElem?_eq_some_iff.mp e).1
   have ep:ps[i]?=some ps[i]:=List.getElem?_eq_getElem (by omega)
   obtain ⟨t,l,zs,rfl,ht,hl,hz⟩:=zj6 (hx.el i x _ e (by rw [List.getElem?_map,ep];rfl))
   refine ⟨t,_,rfl,SqT.of (s _ _ ht),rfl,_,_,rfl,_,_,rfl,rfl,?_⟩
   refine ⟨_,rfl,l,rfl,zs,.inl (SqL.of (s _ _ hl)),fun l2 e2=>?_⟩
   have s6:=zai e2 (.lst zs)
   have h6:(L2.upd H' l2 (.lst zs)) l2=some (.lst zs):=zad
   generalize L2.upd H' l2 (.lst zs)=G1 at s6 h6 ⊢
   refine ⟨_,rfl,sz9 rfl,fun t2 e3=>?_⟩
   have s7:=zai e3 (.tup [.ref l2,.int ps[i].2])
   have h7:(L2.upd G1 t2 (.tup [.ref l2,.int ps[i].2])) t2=some (.tup [.ref l2,.int ps[i].2]):=zad
   generalize L2.upd G1 t2 (.tup [.ref l2,.int ps[i].2])=G2 at s7 h7 ⊢
   have s67:=s6.trans s7
   refine ⟨D,_,_,rfl,rfl,s67 _ _ hD',zc9 (by omega),_,zad,(s.trans s67).put hD,by rw [List.length_append,ly];rfl,fun j y p ey ep'=>?_,_,_,rfl⟩
   rw [off_p]
   by_cases c:j<ys.length
   ·rw [List.getElem?_append_left c] at ey
    exact (hy j y p ey ep').same (zqW D D s67)
   ·rw [List.getElem?_append_right (by omega)] at ey
    have l1:=(List.getElem?_eq_some_iff.mp ey).1
    rw [List.length_singleton] at l1
    have ej:j - ys.length=0:=by omega
    rw [ej] at ey
    cases ey
    obtain rfl:j=i:=by omega
    rw [ep] at ep'
    cases ep'
    have n2:t2≠D:=fun z=>by rw [z,s6 _ _ hD'] at e3;cases e3
    have n3:l2≠D:=fun z=>by rw [z,hD'] at e2;cases e2
    exact (ShL.cons (ShL.sh (hz.same (sD (s.trans s67))) (by rw [zlT n3 n3];exact s7 _ _ h6)) (.one (.int _))).tp (by rw [zlT n2 n2];exact h7)
  ·rintro ys σ H' hD' ⟨s,ly,hy,z1,z2,rfl⟩
   refine r _ _ s (ShL.sh ⟨by rw [List.length_map,ly,lx],fun j y t e1 e2=>?_⟩ hD')
   obtain ⟨p,ep,rfl⟩:=zeh e2
   exact (hy j y p e1 ep).same (zvi D D H')
 intro hv H3 s3 hh
 have S3:=(s1.trans s2).trans s3
 have tl:=zuH sp g l4
 have hp3:=hps.same s3
 have dp:=zrI sp ps
 unfold znF
 simp_all only [zbw,zbx,zbz,zac]
 refine ⟨by decide,by decide,?_⟩
 refine zdR (fun i σ H'=>Kp H3 H'∧Lm a H'∧∃ z5 z6 z7 z8,σ=[some (.ref p),some (.str (kdS sp)),some pv,some (.str (txP sp ps)),some hv,z5,z6,z7,z8,none]) ⟨.same (.refl _),L.same S3,_,_,_,_,rfl⟩ ?_ ?_
 ·rintro i σ H4 hi ⟨k4,L4,z5,z6,z7,z8,rfl⟩
  refine zp0 (fun σ' H'=>zaQ H4 H'∧σ'=[some (.ref p),some (.str (kdS sp)),some pv,some (.str (txP sp ps)),some hv,some (.int (0+i)),z6,z7,z8,none]) ?_ ?_
  ·unfold zkM
   simp_all only [zbw,zbx,zbz,zac]
   refine ⟨_,_,rfl,.inl ⟨sp,ps,rfl,k4.sh hh,g,l4,fun H5 s5=>⟨_,_,.str (txP sp ps),rfl,.str _,.str _,fun H6 s6=>⟨true,rfl,?_⟩⟩⟩⟩
   rw [if_neg Bool.noConfusion]
   have k6:=k4.trans (.same (s5.trans s6))
   exact ⟨3,by decide,_,.inl ⟨((k6.sh hh).toT dp).shows,((k6.sh hp3).toT dp).shows⟩,s5.trans s6⟩
  rintro _ H5 ⟨s5,rfl⟩
  have k5:=k4.trans (.same s5)
  have L5:=L4.same s5
  obtain ⟨ps1,hq1⟩:=L5.l1.tbl
  obtain ⟨ps2,hq2⟩:=L5.l2.tbl
  simp_all only [zbw,zbx,zbz,zac]
  refine ⟨_,rfl,L5.l2,zsp (by omega),by omega,fun sp' ts tv H6 e b l sh=>?_,fun k dx H' e=>absurd ((zoi g ne).symm.trans e) nofun⟩
  cases (zoi g ne).symm.trans e
  have k6:=Kp.bar hq2 b
  have L6:Lm a H6:=⟨zrV L5.l1 hq2 b hpp,l⟩
  unfold zor
  refine zp0 (fun σ' H'=>zaQ H6 H'∧σ'=[some (.ref p),some (.str (kdS sp)),some pv,some (.str (txP sp ps)),some hv,some (.int (0+i)),some tv,z7,z8,none]) ?_ ?_
  ·simp_all only [zbw,zbx,zbz,zac]
   refine ⟨by decide,fun u hu=>?_⟩
   have su:=zai hu (.tup [.str (kdS sp),pv])
   refine ⟨tv,.ref u,_,rfl,((sh.same zlp).same su).toT (zlu sp ps),((ShL.cons (.str _) (.one ((k5.trans (k6.trans (.same su))).sh hp3))).tp zad).toT (zlu sp ps),fun H7 s7=>⟨true,rfl,?_⟩⟩
   rw [if_neg Bool.noConfusion]
   exact su.trans s7
  rintro _ H7 ⟨s7,rfl⟩
  obtain ⟨tt,us,rfl,htt,hus⟩:=zoO sh
  obtain ⟨u1,u2,rfl,hu1,hu2⟩:=hus.two
  cases hu1
  obtain ⟨rl,xs,rfl,hrl,hxs⟩:=zjk hu2
  have lx:=hxs.len
  rw [List.length_map] at lx
  obtain ⟨r0,r6⟩:=zce.mp hrl
  have tt7:=s7 _ _ (zce.mp htt).2
  have rl7:=s7 _ _ r6
  have k7:=k6.trans (.same s7)
  have L7:=L6.same s7
  unfold zk2
  simp_all only [zbw,zbx,zbz,zac]
  refine ⟨_,SqT.of tt7,_,zbJ (j:=1) rfl,rl,rfl,⟨_,SqL.of rl7⟩,?_⟩
  refine zet (K:=K) (xs:=xs) (fun j σ H'=>Clr H5 H7 rl H'∧∃ z7 z8,σ=[some (.ref p),some (.str (kdS sp)),some pv,some (.str (txP sp ps)),some hv,some (.int (0+i)),some (.ref tt),z7,z8,none]) ⟨fun b o e=>.inl e,_,_,rfl⟩ ?_ ?_ ?_
  ·rintro j σ H' _ ⟨c,_⟩
   exact SqL.of ((c _ _ rl7).resolve_right fun z=>z.2.1 rfl)
  ·rintro j x σ H' ej ⟨c,z7,z8,rfl⟩
   have lj:=(List.getElem?_eq_some_iff.mp ej).1
   have ep:ps[j]?=some ps[j]:=List.getElem?_eq_getElem (by omega)
   obtain ⟨t,l',zs,rfl,ht,hl',hz⟩:=zj6 (hxs.el j x _ ej (by rw [List.getElem?_map,ep];rfl))
   have nl:=ztA (g _ (zdd ep)) hrl hxs (zdd ej) hl' hz
   have l7:=s7 _ _ (zce.mp hl').2
   obtain ⟨ws,hw⟩:=c.lst l7
   simp_all only [zbw,zbx,zbz,zac]
   exact ⟨_,SqT.of (c.get (s7 _ _ (zce.mp ht).2) nofun),rfl,_,_,rfl,_,_,rfl,rfl,.inl ⟨rfl,_,SqL.of hw⟩,_,rfl,_,hw,c.put l7 (zce.mp hl').1 nl⟩
  ·rintro σ H' ⟨c,z7,z8,rfl⟩
   have rl':=(c _ _ rl7).resolve_right fun z=>z.2.1 rfl
   have tb:∀ b o,H7 b=some o→(∀ ys,o≠.lst ys)→L2.upd H' rl (.lst []) b=some o:=fun b o e n=>by
    rw [zaj fun z=>by rw [z,rl7] at e;cases e;exact n _ rfl]
    exact c.get e n
   simp_all only [zbw,zbx,zbz,zac]
   refine ⟨_,SqT.of (c.get tt7 nofun),_,zbJ (j:=1) rfl,.inl ⟨rfl,_,SqL.of rl'⟩,rl,rfl,_,rl',fun b o e n=>?_,zrG L7.l1 tb,zrG L7.l2 tb⟩
   have e5:=k5 b o e n
   rw [zaj fun z=>by rw [z,r0] at e5;cases e5]
   exact (c b o (k7 b o e5 n)).resolve_right fun z=>by
    rw [e5] at z
    cases z.1
 ·rintro σ H4 ⟨k4,L4,z5,z6,z7,z8,rfl⟩
  show zi7 K a _ _ _
  unfold zi7
  refine zhW (fun v _=>∃ kd,v=.str kd∧kd∈zrF) (fun R r=>?_) ?_
  ·simp_all only [zbw,zbx,zbz,zac]
   refine ⟨by decide,fun l1 e1=>⟨p,ns,91,rfl,(zai e1 _).seq ((Kp.same S3).trans k4 |>.seq hS),hl,by decide,by decide,fun r1 r10 r11=>⟨r1,rfl,by decide,_,SqL.of zad,?_⟩⟩⟩
   have:r1 % 5=0∨r1 % 5=1∨r1 % 5=2∨r1 % 5=3∨r1 % 5=4:=by omega
   rcases this with e | e | e | e | e <;> rw [e] <;> exact ⟨_,rfl,r _ _ (zai e1 _) ⟨_,rfl,by decide +kernel⟩⟩
  rintro _ H5 s5 ⟨kd,rfl,hk⟩
  unfold zku
  simp_all only [zbw,zbx,zbz,zac]
  refine ⟨kd,hv,rfl,hk,fun H6 s6=>⟨rfl,?_⟩⟩
  rw [if_pos rfl]
  have s56:=s5.trans s6
  have k6:=k4.trans (.same s56)
  exact ⟨3,by decide,_,.inl ⟨((k6.sh hh).toT dp).shows,((k6.sh hp3).toT dp).shows⟩,p,ns,92,rfl,((Kp.same S3).trans k6).seq hS,hl,by decide,by decide,fun r1 r10 r11=>⟨sp,r1,rfl,r10,r11,L4.same s56,q⟩⟩
theorem ze9:zaP ["_law_script","_law_kind","_law_paper_here","_law_text","_law_handed","_law_turn","_law_told","_law_plan","_law_weight","_law_odd"] ["_law_script"] (zau zn3):=⟨rfl,rfl,rfl,by decide +kernel,rfl,by decide +kernel,by decide +kernel⟩
theorem zvG (T:Txt K mg base a):zcW P w K mg base CX0 10 a.f_law a.d_law ["_law_script"] (zpQ K a.p_lam a.p_lam2):=by
 have G__law_caught:=zh2 (P:=P) (w:=w) (base:=base) T
 have G__law_great:=ziF (P:=P) (w:=w) (base:=base) T
 have G__law_mixed:=zfM (P:=P) (w:=w) (base:=base) T
 have G__law_paper:=ziz (P:=P) (w:=w) (base:=base) T
 have G__law_paper_text:=zf5 (P:=P) (w:=w) (base:=base) T
 have G__law_same:=zgS (P:=P) (w:=w) (base:=base) T
 have G_paper_text:=zfS (P:=P) (w:=w) (base:=base) T
 have G_read_paper:=zfR (P:=P) (w:=w) (base:=base) T
 refine T.F_law.ok ze9 (fun vs H Q E h=>?_) (fun cdv A outer s H vs Q E hr h=>?_)
 ·obtain ⟨p,ns,rfl,hS,hl,hb,hP,hP2,q⟩:=h
  rfl
 obtain ⟨p,ns,rfl,hS,hl,hb,hP,hP2,q⟩:=h
 exact ⟨zth K a,(zaf (zaE (i:=1) ze9.nd rfl (Or.inl rfl) (zcN zbT (zbX (zaa zaR (zaa zaR zae))) (zaF zcd (zaG G__law_mixed (hr.mono (by decide)) rfl T.m__law_mixed T.F__law_mixed.kp T.b__law_mixed .nil zbs (zaa (pv 0) (zaa zak zae))) zak) (fun _ _=>rfl)))
 (zaf (zaE (i:=2) ze9.nd rfl (Or.inl rfl) (zaG G__law_paper (hr.mono (by decide)) rfl T.m__law_paper T.F__law_paper.kp T.b__law_paper .nil zbs (zaa (pv 0) (zaa zak (zaa (pv 1) zae)))))
 (zaf (zaE (i:=3) ze9.nd rfl (Or.inl rfl) (zaG G__law_paper_text (hr.mono (by decide)) rfl T.m__law_paper_text T.F__law_paper_text.kp T.b__law_paper_text .nil zbs (zaa (pv 1) (zaa (pv 2) zae))))
 (zaf (zgr (i:=4) ze9.nd rfl rfl (sc:=zau zn3) (N:=["_law_script","_law_kind","_law_paper_here","_law_text","_law_handed","_law_turn","_law_told","_law_plan","_law_weight","_law_odd"]) (Nc:=["_law_plan","_law_weight"]) (cap:=[none,none]) rfl rfl rfl (.of (by decide +kernel)) (zdL (pv 2)) (fun _ _ _ _=>(zef rfl (za2 (zaT (i:=0) (show List.Nodup (["_law_plan","_law_weight"]:List Str) from by decide) rfl (Or.inl rfl)) (za2 (zaT (i:=1) (show List.Nodup (["_law_plan","_law_weight"]:List Str) from by decide) rfl (Or.inl rfl)) zcT)))) (fun _ _ _ _=>zgu) (fun _ _ _ _=>(zdj (zaa (zbA zjW rfl T.z_list zeq (zaa (pv 0) zae)) (zaa (pv 1) zae)))))
 (zaf (zdo PassesOwn.never rfl (zeJ rfl T.z_range (zaa zak zae)) (zaT (i:=5) ze9.nd rfl (Or.inl rfl))
 (zaf (zbG (zb2 (PW.pt (zdO (zcX (zcz (zaG G__law_same (hr.mono (by decide)) rfl T.m__law_same T.F__law_same.kp T.b__law_same .nil zbs (zaa (zaG G_paper_text (hr.mono (by decide)) rfl T.m_paper_text T.F_paper_text.kp T.b_paper_text .nil zrR (zaa (pv 1) (zaa (pv 4) zae))) (zaa (pv 3) zae))))) (zcV (zaI (zu8 hr.units) (pv 4) (pv 2) (zaL _))))) (zah (zaU zgE)) za0))
 (zaf (zaE (i:=6) ze9.nd rfl (Or.inl rfl) (zaG G_read_paper (hr.mono (by decide)) rfl T.m_read_paper T.F_read_paper.kp T.b_read_paper .nil zrR (zaa (pv 3) zae)))
 (zaf (zbG (zb2 (zcX (zcz (zaG G__law_same (hr.mono (by decide)) rfl T.m__law_same T.F__law_same.kp T.b__law_same .nil zbs (zaa (pv 6) (zaa (zdj (zaa (pv 1) (zaa (pv 2) zae))) zae))))) (zah (zaU zgE)) za0))
 (zaf (zdo PassesOwn.never rfl (zdL (zcN zg6 (pv 6) zak (fun _ _=>rfl))) (zef rfl (za2 (zaT (i:=7) ze9.nd rfl (Or.inl rfl)) (za2 (zaT (i:=8) ze9.nd rfl (Or.inl rfl)) zcT)))
 (zah (zco (zrw PySem.F.plainAttrs_list PySem.F.slot_list_clear PySem.F.type_list_clear zlL (pv 7)))))
 (zah (zco (zrw PySem.F.plainAttrs_list PySem.F.slot_list_clear PySem.F.type_list_clear zlL (zcN zg6 (pv 6) zak (fun _ _=>rfl))))))))))
 (zaf (zaE (i:=9) ze9.nd rfl (Or.inl rfl) (zcN zbT (zbX (zaa zaR (zaa zaR (zaa zaR (zaa zaR (zaa zaR zae)))))) (zaF zcd (zaG G__law_mixed (hr.mono (by decide)) rfl T.m__law_mixed T.F__law_mixed.kp T.b__law_mixed .nil zbs (zaa (pv 0) (zaa zak zae))) zak) (fun _ _=>rfl)))
 (zah (zaU (zdc (zcg zeM (zaG G__law_caught (hr.mono (by decide)) rfl T.m__law_caught T.F__law_caught.kp T.b__law_caught .nil zbs (zaa (pv 9) (zaa (pv 4) zae))) zak (zaL _)) (zdc (zcg (zvu hr.units) (pv 4) (pv 2) (zaL _)) (zen (zaG G__law_great (hr.mono (by decide)) rfl T.m__law_great T.F__law_great.kp T.b__law_great .nil zbs (zaa (pv 1) (zaa (zaG G__law_mixed (hr.mono (by decide)) rfl T.m__law_mixed T.F__law_mixed.kp T.b__law_mixed .nil zbs (zaa (pv 0) (zaa zak zae))) zae)))))))))))))),
  zv3 T.hpp hS hl ⟨hP,hP2⟩ q⟩
end
theorem zua {us:List Value} {n:Nat} (h:us.length=n+1):∃ a t,us=a::t∧t.length=n:=by
 cases us with
 | nil=>cases h
 | cons a t=>exact ⟨a,t,rfl,Nat.succ.inj h⟩
theorem zmM {us:List Value} (h:us.length=1):∃ a0,us=[a0]:=by
 obtain ⟨a0,u0,rfl,h0⟩:=zua h
 cases List.eq_nil_of_length_eq_zero h0
 exact ⟨a0,rfl⟩
theorem zlx {us:List Value} (h:us.length=2):∃ a0,∃ a1,us=[a0,a1]:=by
 obtain ⟨a0,u0,rfl,h0⟩:=zua h
 obtain ⟨a1,u1,rfl,h1⟩:=zua h0
 cases List.eq_nil_of_length_eq_zero h1
 exact ⟨a0,a1,rfl⟩
theorem lst3 {us:List Value} (h:us.length=3):∃ a0,∃ a1,∃ a2,us=[a0,a1,a2]:=by
 obtain ⟨a0,u0,rfl,h0⟩:=zua h
 obtain ⟨a1,u1,rfl,h1⟩:=zua h0
 obtain ⟨a2,u2,rfl,h2⟩:=zua h1
 cases List.eq_nil_of_length_eq_zero h2
 exact ⟨a0,a1,a2,rfl⟩
structure Txm (K:PySem.W.Frag) (mg:Str→Option Value) (a:Ad):Prop where
 m:mg "law"=some (.ref a.f_law)
 F:Fun K "law" "law" zn3 a.f_law a.d_law
 p:a.p_lam=390
 p2:a.p_lam2=397
 T:∀ base:Heap,PySem.W.CodeHd base 394 390→base.BuiltinsAt mg 390→PySem.W.CodeHd base 401 397→base.BuiltinsAt mg 397→Txt (zbc 397 (zbc 390 K)) mg base a
theorem zuL {K:PySem.W.Frag} {mg:Str→Option Value} (hP:K.lookup 390=some (PySem.W.tabObj #[])) (hP2:K.lookup 397=some (PySem.W.tabObj #[]))
  {f0 f1 f2 f3 f4 f5 f6 f7 f8 f9 f10 f11 f12 f13 f14 f15 f16 f17 f18 f19 f20 f21 f22 f23 f24 f25 f26 f27 f28:Addr} {d0 d1 d2 d3 d4 d5 d6 d7 d8 d9 d10 d11 d12 d13 d14 d15 d16 d17 d18 d19 d20 d21 d22 d23 d24 d25 d26 d27 d28:FuncData}
  {c_HideError c_NoNumber c_NoTable c_NoBoxes c_NoBudget c_NoOrder c_NoWeights c_TooGreat c_NoKind c_NoTree c_NoTurns c_NoPlay c_NoRow c_NoName c_NoRoad c_NoWeb c_NoPlan c_NoText c_NoPaper:Addr}
  (F0:Fun K "is_whole" "is_whole" zgC f0 d0) (m0:mg "is_whole"=some (.ref f0))
  (F1:Fun K "is_within" "is_within" zfq f1 d1) (m1:mg "is_within"=some (.ref f1))
  (F2:Fun K "is_road" "is_road" zg5 f2 d2) (m2:mg "is_road"=some (.ref f2))
  (F3:Fun K "places_come_to" "places_come_to" zcP f3 d3) (m3:mg "places_come_to"=some (.ref f3))
  (F4:Fun K "look_web" "look_web" zgx f4 d4) (m4:mg "look_web"=some (.ref f4))
  (F5:Fun K "look_kind" "look_kind" zfF f5 d5) (m5:mg "look_kind"=some (.ref f5))
  (F6:Fun K "thing_text" "thing_text" zeN f6 d6) (m6:mg "thing_text"=some (.ref f6))
  (F7:Fun K "paper_rows" "paper_rows" zdl f7 d7) (m7:mg "paper_rows"=some (.ref f7))
  (F8:Fun K "text_of" "text_of" zge f8 d8) (m8:mg "text_of"=some (.ref f8))
  (F9:Fun K "paper_text" "paper_text" zew f9 d9) (m9:mg "paper_text"=some (.ref f9))
  (F10:Fun K "number_in" "number_in" zea f10 d10) (m10:mg "number_in"=some (.ref f10))
  (F11:Fun K "numbers_in" "numbers_in" zdk f11 d11) (m11:mg "numbers_in"=some (.ref f11))
  (F12:Fun K "thing_in" "thing_in" zgm f12 d12) (m12:mg "thing_in"=some (.ref f12))
  (F13:Fun K "plan_in" "plan_in" zfZ f13 d13) (m13:mg "plan_in"=some (.ref f13))
  (F14:Fun K "many_in" "many_in" zhB f14 d14) (m14:mg "many_in"=some (.ref f14))
  (F15:Fun K "road_in" "road_in" zhF f15 d15) (m15:mg "road_in"=some (.ref f15))
  (F16:Fun K "share_in" "share_in" zgh f16 d16) (m16:mg "share_in"=some (.ref f16))
  (F17:Fun K "read_rows" "read_rows" zfu f17 d17) (m17:mg "read_rows"=some (.ref f17))
  (F18:zm5 K "read_web" "read_web" zeS f18 d18 394) (m18:mg "read_web"=some (.ref f18))
  (F19:zm5 K "read_paper" "read_paper" zdq f19 d19 401) (m19:mg "read_paper"=some (.ref f19))
  (F20:Fun K "_law_mixed" "_law_mixed" zes f20 d20) (m20:mg "_law_mixed"=some (.ref f20))
  (F21:Fun K "_law_class" "_law_class" zel f21 d21) (m21:mg "_law_class"=some (.ref f21))
  (F22:Fun K "_law_paper" "_law_paper" zeH f22 d22) (m22:mg "_law_paper"=some (.ref f22))
  (F23:Fun K "_law_paper_text" "_law_paper_text" zcA f23 d23) (m23:mg "_law_paper_text"=some (.ref f23))
  (F24:Fun K "_law_same" "_law_same" zfx f24 d24) (m24:mg "_law_same"=some (.ref f24))
  (F25:Fun K "_law_caught" "_law_caught" zd6 f25 d25) (m25:mg "_law_caught"=some (.ref f25))
  (F26:Fun K "_law_web_row" "_law_web_row" zdG f26 d26) (m26:mg "_law_web_row"=some (.ref f26))
  (F27:Fun K "_law_great" "_law_great" zey f27 d27) (m27:mg "_law_great"=some (.ref f27))
  (F28:Fun K "law" "law" zn3 f28 d28) (m28:mg "law"=some (.ref f28))
  (z_isinstance:mg "isinstance"=none)
  (z_int:mg "int"=none)
  (z_bool:mg "bool"=none)
  (z_list:mg "list"=none)
  (z_len:mg "len"=none)
  (z_all:mg "all"=none)
  (z_range:mg "range"=none)
  (z_tuple:mg "tuple"=none)
  (z_str:mg "str"=none)
  (z_enumerate:mg "enumerate"=none)
  (z_zip:mg "zip"=none)
  (z_min:mg "min"=none)
  (z_ValueError:mg "ValueError"=none)
  (ac_HideError:mg "HideError"=some (.ref c_HideError))
  (ac_NoNumber:mg "NoNumber"=some (.ref c_NoNumber))
  (ac_NoTable:mg "NoTable"=some (.ref c_NoTable))
  (ac_NoBoxes:mg "NoBoxes"=some (.ref c_NoBoxes))
  (ac_NoBudget:mg "NoBudget"=some (.ref c_NoBudget))
  (ac_NoOrder:mg "NoOrder"=some (.ref c_NoOrder))
  (ac_NoWeights:mg "NoWeights"=some (.ref c_NoWeights))
  (ac_TooGreat:mg "TooGreat"=some (.ref c_TooGreat))
  (ac_NoKind:mg "NoKind"=some (.ref c_NoKind))
  (ac_NoTree:mg "NoTree"=some (.ref c_NoTree))
  (ac_NoTurns:mg "NoTurns"=some (.ref c_NoTurns))
  (ac_NoPlay:mg "NoPlay"=some (.ref c_NoPlay))
  (ac_NoRow:mg "NoRow"=some (.ref c_NoRow))
  (ac_NoName:mg "NoName"=some (.ref c_NoName))
  (ac_NoRoad:mg "NoRoad"=some (.ref c_NoRoad))
  (ac_NoWeb:mg "NoWeb"=some (.ref c_NoWeb))
  (ac_NoPlan:mg "NoPlan"=some (.ref c_NoPlan))
  (ac_NoText:mg "NoText"=some (.ref c_NoText))
  (ac_NoPaper:mg "NoPaper"=some (.ref c_NoPaper))
  {k_MOST_PLACES:PySem.Tok} (ak_MOST_PLACES:mg "MOST_PLACES"=some (.int 60 k_MOST_PLACES))
  {k_MOST_ROADS:PySem.Tok} (ak_MOST_ROADS:mg "MOST_ROADS"=some (.int 120 k_MOST_ROADS))
  {k_MOST_LENGTH:PySem.Tok} (ak_MOST_LENGTH:mg "MOST_LENGTH"=some (.int 1000000 k_MOST_LENGTH))
  {k_MOST_FIGURES:PySem.Tok} (ak_MOST_FIGURES:mg "MOST_FIGURES"=some (.int 2000 k_MOST_FIGURES))
  {k_FIGURES:PySem.Tok} (ak_FIGURES:mg "FIGURES"=some (.str "0123456789" k_FIGURES))
  {t_KINDS:Addr} (at_KINDS:mg "KINDS"=some (.ref t_KINDS)) {tk0_KINDS:Tok} {tk1_KINDS:Tok} {od_KINDS:Option Addr} {n_KINDS:Nat} {sl_KINDS:Array (Option Value)} (lt_KINDS:K.lookup t_KINDS=some ⟨.type "tuple",od_KINDS,.seq #[.str "walk" tk0_KINDS,.str "spread" tk1_KINDS] n_KINDS,sl_KINDS⟩)
  (xc_HideError:PySem.W.excIn K c_HideError zez "ValueError.__new__"=true)
  (xc_NoKind:PySem.W.excIn K c_NoKind zez "ValueError.__new__"=true)
  (vsg:PySem.W.specialIn K (.ref c_HideError) "__getattribute__"=some (some (.builtin "type.__getattribute__")))
  (vrd:PySem.W.readsIn K c_HideError (.type "type")=true)
  (vfc:PySem.W.findCls K (.ref c_HideError) (.type "type") "__init__"=some (.val (.builtin "ValueError.__init__")))
  {i_NoWeb:Addr} (vin_NoWeb:PySem.W.findIn K (.ref c_NoWeb) "__init__"=some (some (.ref i_NoWeb)))
  {voc_NoWeb vkV_NoWeb vdc_NoWeb vpm_NoWeb vcd_NoWeb vct_NoWeb:Value} {vod_NoWeb van_NoWeb:Option Addr} {vsl_NoWeb:Array (Option Value)} (vl_NoWeb:K.lookup i_NoWeb=some ⟨voc_NoWeb,vod_NoWeb,.func (PySem.W.fnOf "__init__" "NoWeb.__init__" (zdf zcY) (zb0 zcY) (zau zcY) .none vkV_NoWeb vdc_NoWeb vpm_NoWeb van_NoWeb vcd_NoWeb vct_NoWeb),vsl_NoWeb⟩)
  (vc_NoWeb:PySem.W.codeIn K vcd_NoWeb "NoWeb.__init__"=true)
  (vk_NoWeb:PySem.W.keepIn K (.ref i_NoWeb)=true)
  {vnm_NoWeb vq_NoWeb:Str} {vN_NoWeb:Addr} {vbs_NoWeb vbm_NoWeb:List Value} {vsn_NoWeb:List Str} {vsub_NoWeb:List Value} {vab_NoWeb:Bool} {vcol_NoWeb:Option Bool} {vdd_NoWeb:Option Addr} {v0_NoWeb v1_NoWeb v2_NoWeb v3_NoWeb v5_NoWeb:Option Value} (vlk_NoWeb:K.lookup c_NoWeb=some (excClassObj vnm_NoWeb vq_NoWeb c_NoWeb vN_NoWeb vbs_NoWeb vbm_NoWeb true vsn_NoWeb vsub_NoWeb vab_NoWeb vcol_NoWeb vdd_NoWeb v0_NoWeb v1_NoWeb v2_NoWeb v3_NoWeb v5_NoWeb "ValueError.__new__"))
  (vtl_NoWeb:PySem.W.tailIn K zez vbm_NoWeb=true)
  (vfn_NoWeb:PySem.W.isFn K (.ref i_NoWeb)=true)
  (vkp_NoWeb:PySem.W.keepIn K (.ref c_NoWeb)=true)
  (vmo_NoWeb:PySem.W.mroIn K c_NoWeb (.type "object")=some true)
  (vsa_NoWeb:PySem.W.findIn K (.ref c_NoWeb) "__setattr__"=some (some (.builtin "object.__setattr__")))
  (vga_NoWeb:PySem.W.findIn K (.ref c_NoWeb) "__getattribute__"=some (some (.builtin "BaseException.__getattribute__")))
  (vgn_NoWeb:PySem.W.findIn K (.ref c_NoWeb) "__getattr__"=some none)
  (vcl_NoWeb:PySem.W.findIn K (.ref c_NoWeb) "__class__"=some (some (.builtin "object.__class__")))
  (vmb_NoWeb:PySem.W.mroIn K c_NoWeb (.type "BaseException")=some true)
  (vhd_NoWeb:PySem.W.hasDictIn K c_NoWeb=true)
  (vna_NoWeb:PySem.W.findIn K (.ref c_NoWeb) "road"=some none)
  {i_NoText:Addr} (vin_NoText:PySem.W.findIn K (.ref c_NoText) "__init__"=some (some (.ref i_NoText)))
  {voc_NoText vkV_NoText vdc_NoText vpm_NoText vcd_NoText vct_NoText:Value} {vod_NoText van_NoText:Option Addr} {vsl_NoText:Array (Option Value)} (vl_NoText:K.lookup i_NoText=some ⟨voc_NoText,vod_NoText,.func (PySem.W.fnOf "__init__" "NoText.__init__" (zdf zcy) (zb0 zcy) (zau zcy) .none vkV_NoText vdc_NoText vpm_NoText van_NoText vcd_NoText vct_NoText),vsl_NoText⟩)
  (vc_NoText:PySem.W.codeIn K vcd_NoText "NoText.__init__"=true)
  (vk_NoText:PySem.W.keepIn K (.ref i_NoText)=true)
  {vnm_NoText vq_NoText:Str} {vN_NoText:Addr} {vbs_NoText vbm_NoText:List Value} {vsn_NoText:List Str} {vsub_NoText:List Value} {vab_NoText:Bool} {vcol_NoText:Option Bool} {vdd_NoText:Option Addr} {v0_NoText v1_NoText v2_NoText v3_NoText v5_NoText:Option Value} (vlk_NoText:K.lookup c_NoText=some (excClassObj vnm_NoText vq_NoText c_NoText vN_NoText vbs_NoText vbm_NoText true vsn_NoText vsub_NoText vab_NoText vcol_NoText vdd_NoText v0_NoText v1_NoText v2_NoText v3_NoText v5_NoText "ValueError.__new__"))
  (vtl_NoText:PySem.W.tailIn K zez vbm_NoText=true)
  (vfn_NoText:PySem.W.isFn K (.ref i_NoText)=true)
  (vkp_NoText:PySem.W.keepIn K (.ref c_NoText)=true)
  (vmo_NoText:PySem.W.mroIn K c_NoText (.type "object")=some true)
  (vsa_NoText:PySem.W.findIn K (.ref c_NoText) "__setattr__"=some (some (.builtin "object.__setattr__")))
  (vga_NoText:PySem.W.findIn K (.ref c_NoText) "__getattribute__"=some (some (.builtin "BaseException.__getattribute__")))
  (vgn_NoText:PySem.W.findIn K (.ref c_NoText) "__getattr__"=some none)
  (vcl_NoText:PySem.W.findIn K (.ref c_NoText) "__class__"=some (some (.builtin "object.__class__")))
  (vmb_NoText:PySem.W.mroIn K c_NoText (.type "BaseException")=some true)
  (vhd_NoText:PySem.W.hasDictIn K c_NoText=true)
  (vna_NoText:PySem.W.findIn K (.ref c_NoText) "row"=some none)
  (su_NoWeb:PySem.W.subIn K (.ref c_NoWeb) (.ref c_NoWeb)=some true)
  (dgn:PySem.W.nsIn K cStatics "sys.int_max_str_digits"=some none)
  (i_k_NoNumber:PySem.W.kitOne K (.ref c_NoText) (.ref c_NoNumber)=some false)
  (i_k_NoTable:PySem.W.kitOne K (.ref c_NoText) (.ref c_NoTable)=some false)
  (i_k_NoBoxes:PySem.W.kitOne K (.ref c_NoText) (.ref c_NoBoxes)=some false)
  (i_k_NoBudget:PySem.W.kitOne K (.ref c_NoText) (.ref c_NoBudget)=some false)
  (i_k_NoOrder:PySem.W.kitOne K (.ref c_NoText) (.ref c_NoOrder)=some false)
  (i_k_NoWeights:PySem.W.kitOne K (.ref c_NoText) (.ref c_NoWeights)=some false)
  (i_k_TooGreat:PySem.W.kitOne K (.ref c_NoText) (.ref c_TooGreat)=some false)
  (i_k_NoKind:PySem.W.kitOne K (.ref c_NoText) (.ref c_NoKind)=some false)
  (i_k_NoTree:PySem.W.kitOne K (.ref c_NoText) (.ref c_NoTree)=some false)
  (i_k_NoTurns:PySem.W.kitOne K (.ref c_NoText) (.ref c_NoTurns)=some false)
  (i_k_NoPlay:PySem.W.kitOne K (.ref c_NoText) (.ref c_NoPlay)=some false)
  (i_k_NoRow:PySem.W.kitOne K (.ref c_NoText) (.ref c_NoRow)=some false)
  (i_k_NoName:PySem.W.kitOne K (.ref c_NoText) (.ref c_NoName)=some false)
  (i_k_NoRoad:PySem.W.kitOne K (.ref c_NoText) (.ref c_NoRoad)=some false)
  (i_k_NoWeb:PySem.W.kitOne K (.ref c_NoText) (.ref c_NoWeb)=some false)
  (i_k_NoPlan:PySem.W.kitOne K (.ref c_NoText) (.ref c_NoPlan)=some false)
  (i_k_NoText:PySem.W.kitOne K (.ref c_NoText) (.ref c_NoText)=some true)
  (i_k_NoPaper:PySem.W.kitOne K (.ref c_NoText) (.ref c_NoPaper)=some false)
  (i_k_ValueError:PySem.W.kitOne K (.ref c_NoText) (.type "ValueError")=some true)
  (i_sub:PySem.W.subIn K (.ref c_NoText) (.ref c_HideError)=some true)
  (e_ga:PySem.W.findIn K (.ref c_NoText) "__getattribute__"=some (some (.builtin "BaseException.__getattribute__")))
  (e_gn:PySem.W.findIn K (.ref c_NoText) "__getattr__"=some none)
  (e_cl:PySem.W.findIn K (.ref c_NoText) "__class__"=some (some (.builtin "object.__class__")))
  (e_mb:PySem.W.mroIn K c_NoText (.type "BaseException")=some true)
  (e_mo:PySem.W.mroIn K c_NoText (.type "object")=some true)
  (i2_k_NoNumber:PySem.W.kitOne K (.ref c_NoKind) (.ref c_NoNumber)=some false)
  (i2_k_NoTable:PySem.W.kitOne K (.ref c_NoKind) (.ref c_NoTable)=some false)
  (i2_k_NoBoxes:PySem.W.kitOne K (.ref c_NoKind) (.ref c_NoBoxes)=some false)
  (i2_k_NoBudget:PySem.W.kitOne K (.ref c_NoKind) (.ref c_NoBudget)=some false)
  (i2_k_NoOrder:PySem.W.kitOne K (.ref c_NoKind) (.ref c_NoOrder)=some false)
  (i2_k_NoWeights:PySem.W.kitOne K (.ref c_NoKind) (.ref c_NoWeights)=some false)
  (i2_k_TooGreat:PySem.W.kitOne K (.ref c_NoKind) (.ref c_TooGreat)=some false)
  (i2_k_NoKind:PySem.W.kitOne K (.ref c_NoKind) (.ref c_NoKind)=some true)
  (i2_k_NoTree:PySem.W.kitOne K (.ref c_NoKind) (.ref c_NoTree)=some false)
  (i2_k_NoTurns:PySem.W.kitOne K (.ref c_NoKind) (.ref c_NoTurns)=some false)
  (i2_k_NoPlay:PySem.W.kitOne K (.ref c_NoKind) (.ref c_NoPlay)=some false)
  (i2_k_NoRow:PySem.W.kitOne K (.ref c_NoKind) (.ref c_NoRow)=some false)
  (i2_k_NoName:PySem.W.kitOne K (.ref c_NoKind) (.ref c_NoName)=some false)
  (i2_k_NoRoad:PySem.W.kitOne K (.ref c_NoKind) (.ref c_NoRoad)=some false)
  (i2_k_NoWeb:PySem.W.kitOne K (.ref c_NoKind) (.ref c_NoWeb)=some false)
  (i2_k_NoPlan:PySem.W.kitOne K (.ref c_NoKind) (.ref c_NoPlan)=some false)
  (i2_k_NoText:PySem.W.kitOne K (.ref c_NoKind) (.ref c_NoText)=some false)
  (i2_k_NoPaper:PySem.W.kitOne K (.ref c_NoKind) (.ref c_NoPaper)=some false)
  (i2_k_ValueError:PySem.W.kitOne K (.ref c_NoKind) (.type "ValueError")=some true)
  (i2_sub:PySem.W.subIn K (.ref c_NoKind) (.ref c_HideError)=some true)
  (e2_ga:PySem.W.findIn K (.ref c_NoKind) "__getattribute__"=some (some (.builtin "BaseException.__getattribute__")))
  (e2_gn:PySem.W.findIn K (.ref c_NoKind) "__getattr__"=some none)
  (e2_cl:PySem.W.findIn K (.ref c_NoKind) "__class__"=some (some (.builtin "object.__class__")))
  (e2_mb:PySem.W.mroIn K c_NoKind (.type "BaseException")=some true)
  (e2_mo:PySem.W.mroIn K c_NoKind (.type "object")=some true)
  : Txm K mg ⟨f0,d0,f1,d1,f2,d2,f3,d3,f4,d4,f5,d5,f6,d6,f7,d7,f8,d8,f9,d9,f10,d10,f11,d11,f12,d12,f13,d13,f14,d14,f15,d15,f16,d16,f17,d17,f18,d18,f19,d19,f20,d20,f21,d21,f22,d22,f23,d23,f24,d24,f25,d25,f26,d26,f27,d27,f28,d28,c_HideError,c_NoNumber,c_NoTable,c_NoBoxes,c_NoBudget,c_NoOrder,c_NoWeights,c_TooGreat,c_NoKind,c_NoTree,c_NoTurns,c_NoPlay,c_NoRow,c_NoName,c_NoRoad,c_NoWeb,c_NoPlan,c_NoText,c_NoPaper,i_NoWeb,PySem.W.fnOf "__init__" "NoWeb.__init__" (zdf zcY) (zb0 zcY) (zau zcY) .none vkV_NoWeb vdc_NoWeb vpm_NoWeb van_NoWeb vcd_NoWeb vct_NoWeb,i_NoText,PySem.W.fnOf "__init__" "NoText.__init__" (zdf zcy) (zb0 zcy) (zau zcy) .none vkV_NoText vdc_NoText vpm_NoText van_NoText vcd_NoText vct_NoText,k_MOST_PLACES,k_MOST_ROADS,k_MOST_LENGTH,k_MOST_FIGURES,k_FIGURES,t_KINDS,390,397,394,401⟩:=by
 have hQ:(zbc 390 K).lookup 397=some (PySem.W.tabObj #[]):=(zaK (by decide)).trans hP2
 have G0:=zay hQ (zay hP F0)
 have G1:=zay hQ (zay hP F1)
 have G2:=zay hQ (zay hP F2)
 have G3:=zay hQ (zay hP F3)
 have G4:=zay hQ (zay hP F4)
 have G5:=zay hQ (zay hP F5)
 have G6:=zay hQ (zay hP F6)
 have G7:=zay hQ (zay hP F7)
 have G8:=zay hQ (zay hP F8)
 have G9:=zay hQ (zay hP F9)
 have G10:=zay hQ (zay hP F10)
 have G11:=zay hQ (zay hP F11)
 have G12:=zay hQ (zay hP F12)
 have G13:=zay hQ (zay hP F13)
 have G14:=zay hQ (zay hP F14)
 have G15:=zay hQ (zay hP F15)
 have G16:=zay hQ (zay hP F16)
 have G17:=zay hQ (zay hP F17)
 have G18:=((F18).drop hP).drop hQ
 have G19:=((F19).drop hP).drop hQ
 have G20:=zay hQ (zay hP F20)
 have G21:=zay hQ (zay hP F21)
 have G22:=zay hQ (zay hP F22)
 have G23:=zay hQ (zay hP F23)
 have G24:=zay hQ (zay hP F24)
 have G25:=zay hQ (zay hP F25)
 have G26:=zay hQ (zay hP F26)
 have G27:=zay hQ (zay hP F27)
 have G28:=zay hQ (zay hP F28)
 have VF_NoWeb:=zay hQ (zay hP (zbD (st:=zcY) vl_NoWeb vc_NoWeb vk_NoWeb))
 have vb_NoWeb:=VF_NoWeb.binds (ps:=["self","road"]) fun _ _ _ _ _ _ us hl=>by obtain ⟨_,_,rfl⟩:=zuT hl;rfl
 have VX_NoWeb:=((ExI.mk ⟨_,_,_,_,_,_,_,_,_,_,_,_,_,_,_,vlk_NoWeb,vtl_NoWeb⟩ vin_NoWeb vfn_NoWeb vkp_NoWeb vmo_NoWeb vsa_NoWeb).drop hP).drop hQ
 have VF_NoText:=zay hQ (zay hP (zbD (st:=zcy) vl_NoText vc_NoText vk_NoText))
 have vb_NoText:=VF_NoText.binds (ps:=["self","row"]) fun _ _ _ _ _ _ us hl=>by obtain ⟨_,_,rfl⟩:=zuT hl;rfl
 have VX_NoText:=((ExI.mk ⟨_,_,_,_,_,_,_,_,_,_,_,_,_,_,_,vlk_NoText,vtl_NoText⟩ vin_NoText vfn_NoText vkp_NoText vmo_NoText vsa_NoText).drop hP).drop hQ
 refine ⟨m28,F28,rfl,rfl,fun base hC hB hC2 hB2=>⟨G0,G0.binds fun _ _ _ _ _ _ us hl=>by obtain ⟨_,rfl⟩:=zmM hl;rfl,m0,G1,G1.binds fun _ _ _ _ _ _ us hl=>by obtain ⟨_,_,_,rfl⟩:=lst3 hl;rfl,m1,G2,G2.binds fun _ _ _ _ _ _ us hl=>by obtain ⟨_,_,rfl⟩:=zlx hl;rfl,m2,G3,G3.binds fun _ _ _ _ _ _ us hl=>by obtain ⟨_,rfl⟩:=zmM hl;rfl,m3,G4,G4.binds fun _ _ _ _ _ _ us hl=>by obtain ⟨_,rfl⟩:=zmM hl;rfl,m4,G5,G5.binds fun _ _ _ _ _ _ us hl=>by obtain ⟨_,rfl⟩:=zmM hl;rfl,m5,G6,G6.binds fun _ _ _ _ _ _ us hl=>by obtain ⟨_,_,rfl⟩:=zlx hl;rfl,m6,G7,G7.binds fun _ _ _ _ _ _ us hl=>by obtain ⟨_,_,rfl⟩:=zlx hl;rfl,m7,G8,G8.binds fun _ _ _ _ _ _ us hl=>by obtain ⟨_,rfl⟩:=zmM hl;rfl,m8,G9,G9.binds fun _ _ _ _ _ _ us hl=>by obtain ⟨_,_,rfl⟩:=zlx hl;rfl,m9,G10,G10.binds fun _ _ _ _ _ _ us hl=>by obtain ⟨_,rfl⟩:=zmM hl;rfl,m10,G11,G11.binds fun _ _ _ _ _ _ us hl=>by obtain ⟨_,rfl⟩:=zmM hl;rfl,m11,G12,G12.binds fun _ _ _ _ _ _ us hl=>by obtain ⟨_,_,rfl⟩:=zlx hl;rfl,m12,G13,G13.binds fun _ _ _ _ _ _ us hl=>by obtain ⟨_,_,rfl⟩:=zlx hl;rfl,m13,G14,G14.binds fun _ _ _ _ _ _ us hl=>by obtain ⟨_,rfl⟩:=zmM hl;rfl,m14,G15,G15.binds fun _ _ _ _ _ _ us hl=>by obtain ⟨_,_,rfl⟩:=zlx hl;rfl,m15,G16,G16.binds fun _ _ _ _ _ _ us hl=>by obtain ⟨_,_,rfl⟩:=zlx hl;rfl,m16,G17,G17.binds fun _ _ _ _ _ _ us hl=>by obtain ⟨_,_,rfl⟩:=zlx hl;rfl,m17,G18,G18.fun.binds fun _ _ _ _ _ _ us hl=>by obtain ⟨_,rfl⟩:=zmM hl;rfl,m18,G19,G19.fun.binds fun _ _ _ _ _ _ us hl=>by obtain ⟨_,rfl⟩:=zmM hl;rfl,m19,G20,G20.binds fun _ _ _ _ _ _ us hl=>by obtain ⟨_,_,rfl⟩:=zlx hl;rfl,m20,G21,G21.binds fun _ _ _ _ _ _ us hl=>by obtain ⟨_,rfl⟩:=zmM hl;rfl,m21,G22,G22.binds fun _ _ _ _ _ _ us hl=>by obtain ⟨_,_,_,rfl⟩:=lst3 hl;rfl,m22,G23,G23.binds fun _ _ _ _ _ _ us hl=>by obtain ⟨_,_,rfl⟩:=zlx hl;rfl,m23,G24,G24.binds fun _ _ _ _ _ _ us hl=>by obtain ⟨_,_,rfl⟩:=zlx hl;rfl,m24,G25,G25.binds fun _ _ _ _ _ _ us hl=>by obtain ⟨_,_,rfl⟩:=zlx hl;rfl,m25,G26,G26.binds fun _ _ _ _ _ _ us hl=>by obtain ⟨_,rfl⟩:=zmM hl;rfl,m26,G27,G27.binds fun _ _ _ _ _ _ us hl=>by obtain ⟨_,_,rfl⟩:=zlx hl;rfl,m27,G28,G28.binds fun _ _ _ _ _ _ us hl=>by obtain ⟨_,rfl⟩:=zmM hl;rfl,m28,hC,hB,hC2,hB2,Nat.ne_of_beq_eq_false rfl,z_isinstance,z_int,z_bool,z_list,z_len,z_all,z_range,z_tuple,z_str,z_enumerate,z_zip,z_min,z_ValueError,ac_HideError,ac_NoNumber,ac_NoTable,ac_NoBoxes,ac_NoBudget,ac_NoOrder,ac_NoWeights,ac_TooGreat,ac_NoKind,ac_NoTree,ac_NoTurns,ac_NoPlay,ac_NoRow,ac_NoName,ac_NoRoad,ac_NoWeb,ac_NoPlan,ac_NoText,ac_NoPaper,ak_MOST_PLACES,ak_MOST_ROADS,ak_MOST_LENGTH,ak_MOST_FIGURES,ak_FIGURES,at_KINDS,zrh.drop hQ (zrh.drop hP ⟨_,_,_,lt_KINDS,rfl,rfl,(show 2≤sizeLine by decide),(.cons ⟨_,rfl⟩ (.cons ⟨_,rfl⟩ .nil))⟩),(ze2 hQ _ _ _).trans ((ze2 hP _ _ _).trans xc_HideError),(ze2 hQ _ _ _).trans ((ze2 hP _ _ _).trans xc_NoKind),((ExB.mk vsg vrd vfc).drop hP).drop hQ,VF_NoWeb,vb_NoWeb,VX_NoWeb,((zhV.mk ⟨vga_NoWeb,vgn_NoWeb,vcl_NoWeb,vmb_NoWeb,vmo_NoWeb⟩ vhd_NoWeb vna_NoWeb).drop hP).drop hQ,VF_NoText,vb_NoText,VX_NoText,((zhV.mk ⟨vga_NoText,vgn_NoText,vcl_NoText,vmb_NoText,vmo_NoText⟩ vhd_NoText vna_NoText).drop hP).drop hQ,(zcZ hQ _ _).trans ((zcZ hP _ _).trans su_NoWeb),(zhX.drop (Nat.ne_of_beq_eq_false rfl) (zhX.drop (Nat.ne_of_beq_eq_false rfl) dgn)),⟨(zag hQ _ _).trans ((zag hP _ _).trans i_k_NoNumber),(zag hQ _ _).trans ((zag hP _ _).trans i_k_NoTable),(zag hQ _ _).trans ((zag hP _ _).trans i_k_NoBoxes),(zag hQ _ _).trans ((zag hP _ _).trans i_k_NoBudget),(zag hQ _ _).trans ((zag hP _ _).trans i_k_NoOrder),(zag hQ _ _).trans ((zag hP _ _).trans i_k_NoWeights),(zag hQ _ _).trans ((zag hP _ _).trans i_k_TooGreat),(zag hQ _ _).trans ((zag hP _ _).trans i_k_NoKind),(zag hQ _ _).trans ((zag hP _ _).trans i_k_NoTree),(zag hQ _ _).trans ((zag hP _ _).trans i_k_NoTurns),(zag hQ _ _).trans ((zag hP _ _).trans i_k_NoPlay),(zag hQ _ _).trans ((zag hP _ _).trans i_k_NoRow),(zag hQ _ _).trans ((zag hP _ _).trans i_k_NoName),(zag hQ _ _).trans ((zag hP _ _).trans i_k_NoRoad),(zag hQ _ _).trans ((zag hP _ _).trans i_k_NoWeb),(zag hQ _ _).trans ((zag hP _ _).trans i_k_NoPlan),(zag hQ _ _).trans ((zag hP _ _).trans i_k_NoText),(zag hQ _ _).trans ((zag hP _ _).trans i_k_NoPaper),(zag hQ _ _).trans ((zag hP _ _).trans i_k_ValueError),(zcZ hQ _ _).trans ((zcZ hP _ _).trans i_sub),zmw (((zcC.mk e_ga e_gn e_cl e_mb e_mo).drop hP).drop hQ) VX_NoText⟩,⟨(zag hQ _ _).trans ((zag hP _ _).trans i2_k_NoNumber),(zag hQ _ _).trans ((zag hP _ _).trans i2_k_NoTable),(zag hQ _ _).trans ((zag hP _ _).trans i2_k_NoBoxes),(zag hQ _ _).trans ((zag hP _ _).trans i2_k_NoBudget),(zag hQ _ _).trans ((zag hP _ _).trans i2_k_NoOrder),(zag hQ _ _).trans ((zag hP _ _).trans i2_k_NoWeights),(zag hQ _ _).trans ((zag hP _ _).trans i2_k_TooGreat),(zag hQ _ _).trans ((zag hP _ _).trans i2_k_NoKind),(zag hQ _ _).trans ((zag hP _ _).trans i2_k_NoTree),(zag hQ _ _).trans ((zag hP _ _).trans i2_k_NoTurns),(zag hQ _ _).trans ((zag hP _ _).trans i2_k_NoPlay),(zag hQ _ _).trans ((zag hP _ _).trans i2_k_NoRow),(zag hQ _ _).trans ((zag hP _ _).trans i2_k_NoName),(zag hQ _ _).trans ((zag hP _ _).trans i2_k_NoRoad),(zag hQ _ _).trans ((zag hP _ _).trans i2_k_NoWeb),(zag hQ _ _).trans ((zag hP _ _).trans i2_k_NoPlan),(zag hQ _ _).trans ((zag hP _ _).trans i2_k_NoText),(zag hQ _ _).trans ((zag hP _ _).trans i2_k_NoPaper),(zag hQ _ _).trans ((zag hP _ _).trans i2_k_ValueError),(zcZ hQ _ _).trans ((zcZ hP _ _).trans i2_sub),znq ⟨(zbh hQ _ _).trans ((zbh hP _ _).trans e2_ga),(zbh hQ _ _).trans ((zbh hP _ _).trans e2_gn),(zbh hQ _ _).trans ((zbh hP _ _).trans e2_cl),(zdm hQ _ _).trans ((zdm hP _ _).trans e2_mb),(zdm hQ _ _).trans ((zdm hP _ _).trans e2_mo),(ze2 hQ _ _ _).trans ((ze2 hP _ _ _).trans xc_NoKind)⟩⟩⟩⟩
theorem zuz {K:PySem.W.Frag} {w:World} {mg:Str→Option Value} {fa:Addr} {P:Program} (hfa:mg "law"=some (.ref fa)) {a:Ad} (M:Txm K mg a) :
  ∃ fd:FuncData,(∀ (s:Shared) (u:Value),BindsTo s fd ⟨[u],[]⟩ [("_law_script",u)])∧∀ base:Heap,(zbc 397 (zbc 390 K)).In base→base.Ns mainGlobals mg→PySem.W.CodeHd base 394 390→base.BuiltinsAt mg 390→PySem.W.CodeHd base 401 397→base.BuiltinsAt mg 397→zcW P w (zbc 397 (zbc 390 K)) mg base CX0 10 fa fd ["_law_script"] (zpQ (zbc 397 (zbc 390 K)) 390 397):=by
 have e:=hfa.symm.trans M.m
 cases e
 refine ⟨a.d_law,fun s v=>?_,fun base _ _ hC hB hC2 hB2=>?_⟩
 ·obtain ⟨oc,od,kV,doc,pm,an,cdv,ct,osl,e,lk,hcd⟩:=M.F.ex
  rw [e]
  exact .of_eq rfl
 ·have h:=zvG (P:=P) (w:=w) (M.T base hC hB hC2 hB2)
  rw [M.p,M.p2] at h
  exact h
theorem walk {l:PySem.W.OpenLaw} {q:Program} {loose:List Str} {XP:(Str→Option Value)→Heap→Prop} {YP:World→Heap→Prop} {d:DefRec} {K:Params→PySem.W.Frag} (hn:l.most=some 63) (hdf:d.params.defaults=[])
  (hY:∀ (w:World) (h:Heap),YP w h→(K w.params).In h) (hPt:∀ w:World,(K w.params).lookup 390=some (PySem.W.tabObj #[])) (hPt2:∀ w:World,(K w.params).lookup 397=some (PySem.W.tabObj #[])) (hC:∀ (w:World) (h:Heap),(K w.params).In h→PySem.W.CodeHd h 394 390) (hC2:∀ (w:World) (h:Heap),(K w.params).In h→PySem.W.CodeHd h 401 397)
  (F:∀ (w:World) (mg:Str→Option Value) (fa:Addr) (h:Heap),(K w.params).In h→h.Ns mainGlobals mg→mg d.name=some (.ref fa) →
   ∃ fd:FuncData,(∀ (s:Shared) (u:Value),BindsTo s fd ⟨[u],[]⟩ [("_law_script",u)])∧∀ base:Heap,(zbc 397 (zbc 390 ((K w.params)))).In base→base.Ns mainGlobals mg→PySem.W.CodeHd base 394 390→base.BuiltinsAt mg 390→PySem.W.CodeHd base 401 397→base.BuiltinsAt mg 397→zcW l.prog w (zbc 397 (zbc 390 ((K w.params)))) mg base CX0 10 fa fd ["_law_script"] (zpQ (zbc 397 (zbc 390 ((K w.params)))) 390 397)) :
  PySem.W.WalkO q loose XP YP l.row.toRowW d [] (fun f vs=>PySem.call f vs) :=
 L2.znM (n:=63) (k:=10) (x:="_law_script") (sp:=fun w=>zpQ (zbc 397 (zbc 390 ((K w.params)))) 390 397) hn (by decide) hdf ⟨rfl,by decide,by decide⟩ hY (by decide) hPt hPt2 hC hC2 F fun _ _ a ns hb hl hP hP2 hS=>⟨a,ns,rfl,hS,hl,hb,.first hP,.first hP2,fun _=>rfl⟩
end My
open PySem PySem.W in
theorem My.walk_at {K:Params→Frag} {w:World} {h:Heap} {l:OpenLaw} {q:Program} {loose:List Str} {XP:(Str→Option Value)→Heap→Prop} {d:DefRec} {C:Prop} (_:(K w.params).In h)
  (use:WalkO q loose XP (fun w h=>(K w.params).In h) l.row.toRowW d [] (fun f vs=>PySem.call f vs)→C) (W:WalkO q loose XP (fun w h=>(K w.params).In h) l.row.toRowW d [] (fun f vs=>PySem.call f vs)):C:=use W
noncomputable section
namespace Hd
open PySem PySem.W.Fast
structure Q (α:Type) where
  a:α
  b:α
  c:α
  d:α
  e:α
  f:α
  g:α
  h:α
class X where
  s:Q (Q (Q Str))
  t:Q (Q (Q String))
  r:Q (Q (Q Obj))
  p:Program
  P:Params
def sp (p:Program) (n:Nat):Stmt:=(p.main.body.drop n).headD (.Pass ⟨0,0,0,0⟩)
def st [x:X] (n:Nat):Stmt:=sp x.p n
def cb:Stmt→List Stmt
  | .ClassDef _ _ _ b ..=>b
  | _=>[]
def sm [x:X] (n k:Nat):Stmt:=((cb (st n)).drop k).headD (.Pass ⟨0,0,0,0⟩)
def fn (s:Stmt) (q:Str) (g:Addr) (c:List (Str×Addr)) (d k o m:Value) (a:Option Addr) (z t:Value) (b:Addr):FuncData:=match s with
  | .FunctionDef n p y _ _ _ u ..=>⟨n,q,p,.stmts y,u,g,c,d,k,o,m,a,z,t,b⟩
  | _=>default
abbrev z:=W.BT.nil
def N (o:Obj) (l r:W.BT):W.BT:=.node o l r
def L (o:Obj):W.BT:=.node o .nil .nil
def e [x:X] (s:Str) (n:Nat) (v:Value):DictEntry:=⟨PyData.keyHash x.P s,.str s n,v⟩
def vR (n:Nat):Option Value:=some (.ref n)
def vr (n:Nat):Value:=.ref n
def vO:Value:=.int 0 0
def vI (n:Int):Value:=.int n 0
def vS (s:Str) (n:Tok):Value:=.str s n
def vY (s:String):Value:=.type s
def vB (s:String):Value:=.builtin s
section
variable [x:X]
abbrev s0:=x.s.a.a.e
abbrev r1:=x.r.a.a.a
abbrev r2:=x.r.a.a.b
abbrev r3:=x.r.a.a.c
abbrev r4:=x.r.a.a.e
abbrev r5:=x.r.a.a.f
abbrev r6:=x.r.a.a.g
abbrev r7:=x.r.a.a.h
abbrev r8:=x.r.a.b.a
abbrev r9:=x.r.a.b.b
abbrev r10:=x.r.a.b.c
abbrev s11:=x.s.a.a.f
abbrev s12:=x.s.a.b.g
abbrev s13:=x.s.a.b.h
abbrev s14:=x.s.a.c.a
abbrev s15:=x.s.a.c.b
abbrev t16:=x.t.a.c.a
abbrev s17:=x.s.b.a.b
abbrev s18:=x.s.b.d.c
abbrev s19:=x.s.a.b.f
abbrev s20:=x.s.a.e.c
abbrev s21:=x.s.a.f.c
abbrev s22:=x.s.b.c.f
abbrev s23:=x.s.a.c.d
abbrev s24:=x.s.a.c.e
abbrev s25:=x.s.a.c.f
abbrev s26:=x.s.a.c.g
abbrev s27:=x.s.a.c.h
abbrev s28:=x.s.a.d.a
abbrev s29:=x.s.a.d.b
abbrev s30:=x.s.a.d.c
abbrev s31:=x.s.a.d.d
abbrev s32:=x.s.a.d.e
abbrev s33:=x.s.a.d.f
abbrev s34:=x.s.a.d.g
abbrev s35:=x.s.a.d.h
abbrev s36:=x.s.a.e.a
abbrev s37:=x.s.a.e.b
abbrev s38:=x.s.a.e.g
abbrev s39:=x.s.a.f.b
abbrev s40:=x.s.a.f.e
abbrev s41:=x.s.a.f.f
abbrev s42:=x.s.a.f.g
abbrev s43:=x.s.a.f.h
abbrev s44:=x.s.a.g.e
abbrev s45:=x.s.b.a.c
abbrev s46:=x.s.b.a.d
abbrev s47:=x.s.b.a.e
abbrev s48:=x.s.b.b.a
abbrev s49:=x.s.b.b.b
abbrev s50:=x.s.b.b.c
abbrev s51:=x.s.b.b.d
abbrev s52:=x.s.b.b.e
abbrev s53:=x.s.b.b.f
abbrev s54:=x.s.b.b.g
abbrev s55:=x.s.b.b.h
abbrev s56:=x.s.b.c.a
abbrev s57:=x.s.b.d.d
abbrev s58:=x.s.b.d.e
abbrev s59:=x.s.b.d.f
abbrev s60:=x.s.b.d.g
abbrev s61:=x.s.b.d.h
abbrev s62:=x.s.b.e.a
abbrev s63:=x.s.b.e.b
abbrev s64:=x.s.b.e.c
abbrev s65:=x.s.b.e.d
abbrev s66:=x.s.b.e.e
abbrev s67:=x.s.b.e.f
abbrev s68:=x.s.c.a.e
abbrev s69:=x.s.c.a.f
abbrev s70:=x.s.c.a.g
abbrev s71:=x.s.a.g.h
def i0:=e x.s.a.a.d 165 (vS s0 187)
def i1:=e s11 166 .none
def i2:=e x.s.a.a.g 167 .none
def i3:=e x.s.a.a.h 168 (vB x.t.a.a.e)
def i4:=e x.s.a.b.a 169 .none
def i5:=e x.s.a.b.b 170 (vr 6)
def i6:=e x.s.a.b.c 171 (vr 4)
def i7:=e x.s.a.b.d 173 (vS x.s.a.a.b 172)
def i8:=e x.s.a.b.e 174 .none
def i9:=e s19 206 (vr 24)
def i10:=e s12 196 (vS s0 187)
def i11:=e s13 198 (vS s19 197)
def i12:=e s14 200 (.int 2 199)
def i13:=e s15 201 (vr 22)
def i14:=e x.s.a.c.c 203 (vr 25)
def i15:=e s11 204 .none
def i16:=e s23 222 (vr 37)
def i17:=e s12 214 (vS s0 187)
def i18:=e s13 216 (vS s23 215)
def i19:=e s14 218 (.int 4 217)
def i20:=e s15 219 (vr 35)
def i21:=e s11 220 .none
def i22:=e s24 238 (vr 49)
def i23:=e s12 230 (vS s0 187)
def i24:=e s13 232 (vS s24 231)
def i25:=e s14 234 (.int 6 233)
def i26:=e s15 235 (vr 47)
def i27:=e s11 236 .none
def i28:=e s25 254 (vr 61)
def i29:=e s12 246 (vS s0 187)
def i30:=e s13 248 (vS s25 247)
def i31:=e s14 250 (.int 8 249)
def i32:=e s15 251 (vr 59)
def i33:=e s11 252 .none
def i34:=e s26 270 (vr 73)
def i35:=e s12 262 (vS s0 187)
def i36:=e s13 264 (vS s26 263)
def i37:=e s14 266 (.int 10 265)
def i38:=e s15 267 (vr 71)
def i39:=e s11 268 .none
def i40:=e s27 286 (vr 85)
def i41:=e s12 278 (vS s0 187)
def i42:=e s13 280 (vS s27 279)
def i43:=e s14 282 (.int 12 281)
def i44:=e s15 283 (vr 83)
def i45:=e s11 284 .none
def i46:=e s28 302 (vr 97)
def i47:=e s12 294 (vS s0 187)
def i48:=e s13 296 (vS s28 295)
def i49:=e s14 298 (.int 14 297)
def i50:=e s15 299 (vr 95)
def i51:=e s11 300 .none
def i52:=e s29 318 (vr 109)
def i53:=e s12 310 (vS s0 187)
def i54:=e s13 312 (vS s29 311)
def i55:=e s14 314 (.int 16 313)
def i56:=e s15 315 (vr 107)
def i57:=e s11 316 .none
def i58:=e s30 334 (vr 121)
def i59:=e s12 326 (vS s0 187)
def i60:=e s13 328 (vS s30 327)
def i61:=e s14 330 (.int 18 329)
def i62:=e s15 331 (vr 119)
def i63:=e s11 332 .none
def i64:=e s31 350 (vr 133)
def i65:=e s12 342 (vS s0 187)
def i66:=e s13 344 (vS s31 343)
def i67:=e s14 346 (.int 20 345)
def i68:=e s15 347 (vr 131)
def i69:=e s11 348 .none
def i70:=e s32 366 (vr 145)
def i71:=e s12 358 (vS s0 187)
def i72:=e s13 360 (vS s32 359)
def i73:=e s14 362 (.int 22 361)
def i74:=e s15 363 (vr 143)
def i75:=e s11 364 .none
def i76:=e s33 382 (vr 157)
def i77:=e s12 374 (vS s0 187)
def i78:=e s13 376 (vS s33 375)
def i79:=e s14 378 (.int 24 377)
def i80:=e s15 379 (vr 155)
def i81:=e s11 380 .none
def i82:=e s34 398 (vr 169)
def i83:=e s12 390 (vS s0 187)
def i84:=e s13 392 (vS s34 391)
def i85:=e s14 394 (.int 26 393)
def i86:=e s15 395 (vr 167)
def i87:=e s11 396 .none
def i88:=e s35 414 (vr 181)
def i89:=e s12 406 (vS s0 187)
def i90:=e s13 408 (vS s35 407)
def i91:=e s14 410 (.int 28 409)
def i92:=e s15 411 (vr 179)
def i93:=e s11 412 .none
def i94:=e s36 430 (vr 193)
def i95:=e s12 422 (vS s0 187)
def i96:=e s13 424 (vS s36 423)
def i97:=e s14 426 (.int 30 425)
def i98:=e s15 427 (vr 191)
def i99:=e s11 428 .none
def zsT:=e s37 455 (vr 212)
def i101:=e s12 438 (vS s0 187)
def i102:=e s13 440 (vS s37 439)
def i103:=e s14 442 (.int 32 441)
def i104:=e s20 450 (vr 209)
def i105:=e s15 452 (vr 210)
def i106:=e s11 453 .none
def zt8:=e s38 480 (vr 231)
def i108:=e s12 463 (vS s0 187)
def i109:=e s13 465 (vS s38 464)
def i110:=e s14 467 (.int 37 466)
def i111:=e s20 475 (vr 228)
def i112:=e s15 477 (vr 229)
def i113:=e s11 478 .none
def zuB:=e s39 505 (vr 250)
def i115:=e s12 488 (vS s0 187)
def i116:=e s13 490 (vS s39 489)
def i117:=e s14 492 (.int 42 491)
def i118:=e s20 500 (vr 247)
def i119:=e s15 502 (vr 248)
def i120:=e s11 503 .none
def i121:=e x.s.a.a.d 165 (vS s40 549)
def i122:=e s41 530 (vr 269)
def i123:=e s42 539 (vr 278)
def i124:=e s43 548 (vr 285)
def i125:=e x.s.a.g.a 552 (.int 60 551)
def i126:=e x.s.a.g.b 554 (.int 120 553)
def i127:=e x.s.a.g.c 556 (.int 1000000 555)
def i128:=e x.s.a.g.d 559 (vr 286)
def i129:=e s44 570 (vr 293)
def i130:=e s12 513 (vS s0 187)
def i131:=e s13 515 (vS s41 514)
def i132:=e s14 517 (.int 47 516)
def i133:=e s20 525 (vr 266)
def i134:=e s15 527 (vr 267)
def i135:=e s11 528 .none
def i136:=e x.s.a.a.d 165 (vS s17 601)
def i137:=e s45 582 (vr 300)
def i138:=e s46 593 (vr 307)
def i139:=e s47 600 (vr 314)
def i140:=e x.s.b.a.f 604 (vS x.s.b.a.g 603)
def i141:=e x.s.b.a.h 606 (.int 2000 605)
def i142:=e s48 616 (vr 321)
def i143:=e s49 622 (vr 326)
def i144:=e s50 628 (vr 331)
def i145:=e s51 636 (vr 338)
def i146:=e s52 642 (vr 343)
def i147:=e s53 648 (vr 348)
def i148:=e s54 657 (vr 355)
def i149:=e s55 663 (vr 360)
def i150:=e s56 671 (vr 367)
def i151:=e x.s.a.a.d 165 (vS s18 723)
def i152:=e s57 681 (vr 374)
def i153:=e s58 692 (vr 381)
def i154:=e s59 705 (vr 388)
def i155:=e s60 714 (vr 395)
def i156:=e s61 722 (vr 402)
def i157:=e s62 736 (vr 409)
def i158:=e s63 744 (vr 416)
def i159:=e s64 762 (vr 423)
def i160:=e s65 774 (vr 430)
def i161:=e s66 784 (vr 437)
def i162:=e s67 794 (vr 444)
def i163:=e s68 803 (vr 451)
def i164:=e s69 822 (vr 458)
def i165:=e s70 828 (vr 463)
def h0 (p0:Array Value):Obj:=⟨(vY x.t.a.a.a),none,(.seq p0 0),#[]⟩
def h1 (p0:Array Value):Obj:=⟨.none,none,(.fields p0),#[]⟩
def h2 (p0:Str) (p1:Tok) (p2:Str) (p3 p4:Tok) (p5:Int) (p6 p7:Value) (p8:Nat) (p9:Value) (p10:Nat) (p11 p12 p13:Value) (p14:Int) (p15:Tok):Obj:=⟨(vY x.t.a.a.b),none,(.fields #[(vS p0 p1),(vS p2 p3),(vS x.s.a.a.b p4),(vI p5),p6,vO,vO,p7,(vr p8),p9,(vI 181),(vr p10),.none,p11,p12,p13,(vI p14),(vI p5),(vS x.s.a.a.b p15)]),#[]⟩
def h3 (p0 p1:Nat) (p2:Str) (p3:Tok):Obj:=⟨(vY x.t.a.a.c),none,.plain,#[(vR p0),(vR 3),(vR p1),none,(some (vS p2 p3)),none,(vR 0)]⟩
def h4 (p0:Array DictEntry) (p1:Nat):Obj:=⟨(vY x.t.a.a.d),none,(.dict p0 p1),#[]⟩
def h5 (p0:String) (p1:Value):Obj:=⟨(vY x.t.a.a.g),none,(.fields #[(vB p0),p1]),#[]⟩
def h6 (p0:List Value):Obj:=⟨(vY x.t.a.b.a),none,(.cls ⟨s19,[(vY x.t.a.a.f)],[(vr 24),(vY x.t.a.a.f),(vY x.t.a.b.b),(vY x.t.a.b.c),(vY x.t.a.b.d)],23,s19,true,[],p0,false,none,false⟩),#[(vR 15),none,(some (vS s19 189)),(some (vS s19 197)),(some (vB x.t.a.b.e)),(some (.bool true))]⟩
def h7 (p0:Nat):Obj:=⟨(vY x.t.a.b.h),none,(.fields #[(vr p0),(vr p0),(vr p0)]),#[]⟩
def h8 (p0:Str) (p1 p2 p3:Nat) (p4 p5:Tok):Obj:=⟨(vY x.t.a.b.a),none,(.cls ⟨p0,[(vr 24)],[(vr p1),(vr 24),(vY x.t.a.a.f),(vY x.t.a.b.b),(vY x.t.a.b.c),(vY x.t.a.b.d)],p2,p0,true,[],[],false,none,false⟩),#[(vR p3),none,(some (vS p0 p4)),(some (vS p0 p5)),(some (vB x.t.a.b.e)),(some (.bool true))]⟩
def h9 (p0:Nat) (p1:Str):Obj:=⟨.none,none,(.func (fn (sm p0 0) p1 0 [] .none .none .none .none none .none .none 0)),#[]⟩
def h10 (p0:Nat) (p1:Str) (p2:Nat):Obj:=⟨(vY x.t.a.c.b),none,(.func (fn (sm p0 0) p1 3 [] .none .none .none (vS s0 187) none (vr p2) .none 0)),#[]⟩
def h11 (p0:Nat) (p1:Str):Obj:=⟨.none,none,(.func (fn (st p0) p1 0 [] .none .none .none .none none .none .none 0)),#[]⟩
def h12 (p0:Nat) (p1 p2:Str) (p3:Tok) (p4:Nat):Obj:=⟨(vY x.t.a.c.b),none,(.func (fn (st p0) p1 3 [] .none .none .none (vS p2 p3) none (vr p4) .none 0)),#[]⟩
def zaw:=h0 #[]
def zaX:=h1 #[]
def zgV:=h2 x.s.a.a.a 182 x.s.a.a.a 183 184 1 vO vO 11 (.bool false) 12 .none .none .none 185 186
def zgU:=h3 13 3 x.s.a.a.c 164
def b817:=h4 #[i0,i1,i2,i3,i4,i5,i6,i7,i8,i9] 10
def b818:=h1 #[(vI 2),vO,(vr 20)]
def zhU:=h0 #[(vY x.t.a.a.f)]
def za1:=h5 x.t.a.a.h (vY x.t.a.b.a)
def zhQ:=h4 #[i10,i11,i12,i13] 4
def zia:=h2 s19 191 s19 192 193 2 vO vO 18 (.bool false) 19 .none .none .none 194 195
def zhS:=h3 20 17 s0 187
def zh1:=h4 #[i10,i12,i13,i14,i15] 3
def b828:=h6 []
def zhR:Obj:=⟨(vY x.t.a.b.f),none,(.fields #[(vS x.s.a.c.c 202),(vr 24),(vB x.t.a.b.g),.none]),#[]⟩
def zhO:=h7 24
def zhT:=h5 t16 (vr 24)
def b832:=h4 #[i0,i1,i2,i3,i4,i5,i6,i7,i8,i9,i16] 11
def b833:=h1 #[(vI 2),vO,(vr 20),(vI 4),vO,(vr 33)]
def b834:=h6 [(vr 37)]
def zbp:=h0 #[(vr 24)]
def zig:=h4 #[i17,i18,i19,i20] 4
def zk4:=h2 s23 209 s23 210 211 4 vO vO 31 (.bool false) 32 .none .none .none 212 213
def zlr:=h3 33 30 s0 187
def zkj:=h4 #[i17,i19,i20,i21] 2
def zkm:=h8 s23 37 36 28 207 215
def zkh:=h7 37
def zkf:=h5 t16 (vr 37)
def b847:=h4 #[i0,i1,i2,i3,i4,i5,i6,i7,i8,i9,i16,i22] 12
def b848:=h1 #[(vI 2),vO,(vr 20),(vI 4),vO,(vr 33),(vI 6),vO,(vr 45)]
def b849:=h6 [(vr 37),(vr 49)]
def zlU:=h4 #[i23,i24,i25,i26] 4
def zkx:=h2 s24 225 s24 226 227 6 vO vO 43 (.bool false) 44 .none .none .none 228 229
def zlz:=h3 45 42 s0 187
def zkl:=h4 #[i23,i25,i26,i27] 2
def zlX:=h8 s24 49 48 40 223 231
def zmz:=h7 49
def zkg:=h5 t16 (vr 49)
def b862:=h4 #[i0,i1,i2,i3,i4,i5,i6,i7,i8,i9,i16,i22,i28] 13
def b863:=h1 #[(vI 2),vO,(vr 20),(vI 4),vO,(vr 33),(vI 6),vO,(vr 45),(vI 8),vO,(vr 57)]
def b864:=h6 [(vr 37),(vr 49),(vr 61)]
def zmJ:=h4 #[i29,i30,i31,i32] 4
def zlh:=h2 s25 241 s25 242 243 8 vO vO 55 (.bool false) 56 .none .none .none 244 245
def zmF:=h3 57 54 s0 187
def zkG:=h4 #[i29,i31,i32,i33] 2
def zlO:=h8 s25 61 60 52 239 247
def zmb:=h7 61
def zmk:=h5 t16 (vr 61)
def b877:=h4 #[i0,i1,i2,i3,i4,i5,i6,i7,i8,i9,i16,i22,i28,i34] 14
def b878:=h1 #[(vI 2),vO,(vr 20),(vI 4),vO,(vr 33),(vI 6),vO,(vr 45),(vI 8),vO,(vr 57),(vI 10),vO,(vr 69)]
def b879:=h6 [(vr 37),(vr 49),(vr 61),(vr 73)]
def znt:=h4 #[i35,i36,i37,i38] 4
def zl7:=h2 s26 257 s26 258 259 10 vO vO 67 (.bool false) 68 .none .none .none 260 261
def zo2:=h3 69 66 s0 187
def zpp:=h4 #[i35,i37,i38,i39] 2
def znr:=h8 s26 73 72 64 255 263
def znp:=h7 73
def zmW:=h5 t16 (vr 73)
def b892:=h4 #[i0,i1,i2,i3,i4,i5,i6,i7,i8,i9,i16,i22,i28,i34,i40] 15
def b893:=h1 #[(vI 2),vO,(vr 20),(vI 4),vO,(vr 33),(vI 6),vO,(vr 45),(vI 8),vO,(vr 57),(vI 10),vO,(vr 69),(vI 12),vO,(vr 81)]
def b894:=h6 [(vr 37),(vr 49),(vr 61),(vr 73),(vr 85)]
def zm8:=h4 #[i41,i42,i43,i44] 4
def zoj:=h2 s27 273 s27 274 275 12 vO vO 79 (.bool false) 80 .none .none .none 276 277
def zpf:=h3 81 78 s0 187
def zop:=h4 #[i41,i43,i44,i45] 2
def zpq:=h8 s27 85 84 76 271 279
def zpj:=h7 85
def zm7:=h5 t16 (vr 85)
def b907:=h4 #[i0,i1,i2,i3,i4,i5,i6,i7,i8,i9,i16,i22,i28,i34,i40,i46] 16
def b908:=h1 #[(vI 2),vO,(vr 20),(vI 4),vO,(vr 33),(vI 6),vO,(vr 45),(vI 8),vO,(vr 57),(vI 10),vO,(vr 69),(vI 12),vO,(vr 81),(vI 14),vO,(vr 93)]
def b909:=h6 [(vr 37),(vr 49),(vr 61),(vr 73),(vr 85),(vr 97)]
def znf:=h4 #[i47,i48,i49,i50] 4
def zoN:=h2 s28 289 s28 290 291 14 vO vO 91 (.bool false) 92 .none .none .none 292 293
def zpo:=h3 93 90 s0 187
def znU:=h4 #[i47,i49,i50,i51] 2
def zph:=h8 s28 97 96 88 287 295
def zpZ:=h7 97
def zpn:=h5 t16 (vr 97)
def b922:=h4 #[i0,i1,i2,i3,i4,i5,i6,i7,i8,i9,i16,i22,i28,i34,i40,i46,i52] 17
def b923:=h1 #[(vI 2),vO,(vr 20),(vI 4),vO,(vr 33),(vI 6),vO,(vr 45),(vI 8),vO,(vr 57),(vI 10),vO,(vr 69),(vI 12),vO,(vr 81),(vI 14),vO,(vr 93),(vI 16),vO,(vr 105)]
def b924:=h6 [(vr 37),(vr 49),(vr 61),(vr 73),(vr 85),(vr 97),(vr 109)]
def zrW:=h4 #[i53,i54,i55,i56] 4
def zr1:=h2 s29 305 s29 306 307 16 vO vO 103 (.bool false) 104 .none .none .none 308 309
def zrZ:=h3 105 102 s0 187
def zpm:=h4 #[i53,i55,i56,i57] 2
def zpi:=h8 s29 109 108 100 303 311
def zr7:=h7 109
def zqv:=h5 t16 (vr 109)
def b937:=h4 #[i0,i1,i2,i3,i4,i5,i6,i7,i8,i9,i16,i22,i28,i34,i40,i46,i52,i58] 18
def b938:=h1 #[(vI 2),vO,(vr 20),(vI 4),vO,(vr 33),(vI 6),vO,(vr 45),(vI 8),vO,(vr 57),(vI 10),vO,(vr 69),(vI 12),vO,(vr 81),(vI 14),vO,(vr 93),(vI 16),vO,(vr 105),(vI 18),vO,(vr 117)]
def b939:=h6 [(vr 37),(vr 49),(vr 61),(vr 73),(vr 85),(vr 97),(vr 109),(vr 121)]
def zr5:=h4 #[i59,i60,i61,i62] 4
def zrL:=h2 s30 321 s30 322 323 18 vO vO 115 (.bool false) 116 .none .none .none 324 325
def zsb:=h3 117 114 s0 187
def zrX:=h4 #[i59,i61,i62,i63] 2
def zqw:=h8 s30 121 120 112 319 327
def zr0:=h7 121
def zpG:=h5 t16 (vr 121)
def b952:=h4 #[i0,i1,i2,i3,i4,i5,i6,i7,i8,i9,i16,i22,i28,i34,i40,i46,i52,i58,i64] 19
def b953:=h1 #[(vI 2),vO,(vr 20),(vI 4),vO,(vr 33),(vI 6),vO,(vr 45),(vI 8),vO,(vr 57),(vI 10),vO,(vr 69),(vI 12),vO,(vr 81),(vI 14),vO,(vr 93),(vI 16),vO,(vr 105),(vI 18),vO,(vr 117),(vI 20),vO,(vr 129)]
def b954:=h6 [(vr 37),(vr 49),(vr 61),(vr 73),(vr 85),(vr 97),(vr 109),(vr 121),(vr 133)]
def zqq:=h4 #[i65,i66,i67,i68] 4
def zsu:=h2 s31 337 s31 338 339 20 vO vO 127 (.bool false) 128 .none .none .none 340 341
def ztm:=h3 129 126 s0 187
def zrH:=h4 #[i65,i67,i68,i69] 2
def zqJ:=h8 s31 133 132 124 335 343
def ztX:=h7 133
def zrC:=h5 t16 (vr 133)
def b967:=h4 #[i0,i1,i2,i3,i4,i5,i6,i7,i8,i9,i16,i22,i28,i34,i40,i46,i52,i58,i64,i70] 20
def b968:=h1 #[(vI 2),vO,(vr 20),(vI 4),vO,(vr 33),(vI 6),vO,(vr 45),(vI 8),vO,(vr 57),(vI 10),vO,(vr 69),(vI 12),vO,(vr 81),(vI 14),vO,(vr 93),(vI 16),vO,(vr 105),(vI 18),vO,(vr 117),(vI 20),vO,(vr 129),(vI 22),vO,(vr 141)]
def b969:=h6 [(vr 37),(vr 49),(vr 61),(vr 73),(vr 85),(vr 97),(vr 109),(vr 121),(vr 133),(vr 145)]
def zts:=h4 #[i71,i72,i73,i74] 4
def zsC:=h2 s32 353 s32 354 355 22 vO vO 139 (.bool false) 140 .none .none .none 356 357
def zrT:=h3 141 138 s0 187
def zto:=h4 #[i71,i73,i74,i75] 2
def zs8:=h8 s32 145 144 136 351 359
def zsy:=h7 145
def zty:=h5 t16 (vr 145)
def b982:=h4 #[i0,i1,i2,i3,i4,i5,i6,i7,i8,i9,i16,i22,i28,i34,i40,i46,i52,i58,i64,i70,i76] 21
def b983:=h1 #[(vI 2),vO,(vr 20),(vI 4),vO,(vr 33),(vI 6),vO,(vr 45),(vI 8),vO,(vr 57),(vI 10),vO,(vr 69),(vI 12),vO,(vr 81),(vI 14),vO,(vr 93),(vI 16),vO,(vr 105),(vI 18),vO,(vr 117),(vI 20),vO,(vr 129),(vI 22),vO,(vr 141),(vI 24),vO,(vr 153)]
def b984:=h6 [(vr 37),(vr 49),(vr 61),(vr 73),(vr 85),(vr 97),(vr 109),(vr 121),(vr 133),(vr 145),(vr 157)]
def ztr:=h4 #[i77,i78,i79,i80] 4
def zt7:=h2 s33 369 s33 370 371 24 vO vO 151 (.bool false) 152 .none .none .none 372 373
def zrU:=h3 153 150 s0 187
def zs6:=h4 #[i77,i79,i80,i81] 2
def zss:=h8 s33 157 156 148 367 375
def zso:=h7 157
def ztP:=h5 t16 (vr 157)
def b997:=h4 #[i0,i1,i2,i3,i4,i5,i6,i7,i8,i9,i16,i22,i28,i34,i40,i46,i52,i58,i64,i70,i76,i82] 22
def b998:=h1 #[(vI 2),vO,(vr 20),(vI 4),vO,(vr 33),(vI 6),vO,(vr 45),(vI 8),vO,(vr 57),(vI 10),vO,(vr 69),(vI 12),vO,(vr 81),(vI 14),vO,(vr 93),(vI 16),vO,(vr 105),(vI 18),vO,(vr 117),(vI 20),vO,(vr 129),(vI 22),vO,(vr 141),(vI 24),vO,(vr 153),(vI 26),vO,(vr 165)]
def b999:=h6 [(vr 37),(vr 49),(vr 61),(vr 73),(vr 85),(vr 97),(vr 109),(vr 121),(vr 133),(vr 145),(vr 157),(vr 169)]
def zkX:=h4 #[i83,i84,i85,i86] 4
def zmI:=h2 s34 385 s34 386 387 26 vO vO 163 (.bool false) 164 .none .none .none 388 389
def zm0:=h3 165 162 s0 187
def zmd:=h4 #[i83,i85,i86,i87] 2
def zmG:=h8 s34 169 168 160 383 391
def zmR:=h7 169
def zl0:=h5 t16 (vr 169)
def b1012:=h4 #[i0,i1,i2,i3,i4,i5,i6,i7,i8,i9,i16,i22,i28,i34,i40,i46,i52,i58,i64,i70,i76,i82,i88] 23
def b1013:=h1 #[(vI 2),vO,(vr 20),(vI 4),vO,(vr 33),(vI 6),vO,(vr 45),(vI 8),vO,(vr 57),(vI 10),vO,(vr 69),(vI 12),vO,(vr 81),(vI 14),vO,(vr 93),(vI 16),vO,(vr 105),(vI 18),vO,(vr 117),(vI 20),vO,(vr 129),(vI 22),vO,(vr 141),(vI 24),vO,(vr 153),(vI 26),vO,(vr 165),(vI 28),vO,(vr 177)]
def b1014:=h6 [(vr 37),(vr 49),(vr 61),(vr 73),(vr 85),(vr 97),(vr 109),(vr 121),(vr 133),(vr 145),(vr 157),(vr 169),(vr 181)]
def zmv:=h4 #[i89,i90,i91,i92] 4
def zl1:=h2 s35 401 s35 402 403 28 vO vO 175 (.bool false) 176 .none .none .none 404 405
def zmy:=h3 177 174 s0 187
def zmH:=h4 #[i89,i91,i92,i93] 2
def zmQ:=h8 s35 181 180 172 399 407
def zl3:=h7 181
def zmg:=h5 t16 (vr 181)
def b1027:=h4 #[i0,i1,i2,i3,i4,i5,i6,i7,i8,i9,i16,i22,i28,i34,i40,i46,i52,i58,i64,i70,i76,i82,i88,i94] 24
def b1028:=h1 #[(vI 2),vO,(vr 20),(vI 4),vO,(vr 33),(vI 6),vO,(vr 45),(vI 8),vO,(vr 57),(vI 10),vO,(vr 69),(vI 12),vO,(vr 81),(vI 14),vO,(vr 93),(vI 16),vO,(vr 105),(vI 18),vO,(vr 117),(vI 20),vO,(vr 129),(vI 22),vO,(vr 141),(vI 24),vO,(vr 153),(vI 26),vO,(vr 165),(vI 28),vO,(vr 177),(vI 30),vO,(vr 189)]
def b1029:=h6 [(vr 37),(vr 49),(vr 61),(vr 73),(vr 85),(vr 97),(vr 109),(vr 121),(vr 133),(vr 145),(vr 157),(vr 169),(vr 181),(vr 193)]
def zmp:=h4 #[i95,i96,i97,i98] 4
def zl8:=h2 s36 417 s36 418 419 30 vO vO 187 (.bool false) 188 .none .none .none 420 421
def zkQ:=h3 189 186 s0 187
def zo5:=h4 #[i95,i97,i98,i99] 2
def zne:=h8 s36 193 192 184 415 423
def zmf:=h7 193
def zm3:=h5 t16 (vr 193)
def b1042:=h4 #[i0,i1,i2,i3,i4,i5,i6,i7,i8,i9,i16,i22,i28,i34,i40,i46,i52,i58,i64,i70,i76,i82,i88,i94,zsT] 25
def b1043:=h1 #[(vI 2),vO,(vr 20),(vI 4),vO,(vr 33),(vI 6),vO,(vr 45),(vI 8),vO,(vr 57),(vI 10),vO,(vr 69),(vI 12),vO,(vr 81),(vI 14),vO,(vr 93),(vI 16),vO,(vr 105),(vI 18),vO,(vr 117),(vI 20),vO,(vr 129),(vI 22),vO,(vr 141),(vI 24),vO,(vr 153),(vI 26),vO,(vr 165),(vI 28),vO,(vr 177),(vI 30),vO,(vr 189),(vI 32),vO,(vr 201)]
def b1044:=h6 [(vr 37),(vr 49),(vr 61),(vr 73),(vr 85),(vr 97),(vr 109),(vr 121),(vr 133),(vr 145),(vr 157),(vr 169),(vr 181),(vr 193),(vr 212)]
def znA:=h4 #[i101,i102,i103,i104,i105] 5
def zmo:=h1 #[(vI 34),(vI 4),(vr 208)]
def zoK:=h2 s37 433 s37 434 435 32 vO vO 199 (.bool false) 200 .none .none .none 436 437
def zn9:=h3 201 198 s0 187
def zmh:=h0 #[(vS x.s.a.e.d 446),(vS x.s.a.e.e 447)]
def zmX:=h9 16 x.s.a.e.f
def zqZ:=h2 s20 443 x.s.a.e.f 444 445 34 (vI 2) (vI 3) 203 (.bool true) 204 (vr 205) (vr 206) (vr 207) 448 449
def zqB:=h10 16 x.s.a.e.f 208
def zri:=h0 #[(vS x.s.a.e.e 451)]
def znG:=h4 #[i101,i103,i104,i105,i106] 2
def zng:=h8 s37 212 211 196 431 439
def zrt:=h7 212
def zqj:=h5 t16 (vr 212)
def b1064:=h4 #[i0,i1,i2,i3,i4,i5,i6,i7,i8,i9,i16,i22,i28,i34,i40,i46,i52,i58,i64,i70,i76,i82,i88,i94,zsT,zt8] 26
def b1065:=h1 #[(vI 2),vO,(vr 20),(vI 4),vO,(vr 33),(vI 6),vO,(vr 45),(vI 8),vO,(vr 57),(vI 10),vO,(vr 69),(vI 12),vO,(vr 81),(vI 14),vO,(vr 93),(vI 16),vO,(vr 105),(vI 18),vO,(vr 117),(vI 20),vO,(vr 129),(vI 22),vO,(vr 141),(vI 24),vO,(vr 153),(vI 26),vO,(vr 165),(vI 28),vO,(vr 177),(vI 30),vO,(vr 189),(vI 32),vO,(vr 201),(vI 37),vO,(vr 220)]
def b1066:=h6 [(vr 37),(vr 49),(vr 61),(vr 73),(vr 85),(vr 97),(vr 109),(vr 121),(vr 133),(vr 145),(vr 157),(vr 169),(vr 181),(vr 193),(vr 212),(vr 231)]
def zoq:=h4 #[i108,i109,i110,i111,i112] 5
def zqL:=h1 #[(vI 39),(vI 4),(vr 227)]
def zqG:=h2 s38 458 s38 459 460 37 vO vO 218 (.bool false) 219 .none .none .none 461 462
def zob:=h3 220 217 s0 187
def zol:=h0 #[(vS x.s.a.e.d 471),(vS x.s.a.e.h 472)]
def zrp:=h9 17 x.s.a.f.a
def zrj:=h2 s20 468 x.s.a.f.a 469 470 39 (vI 2) (vI 3) 222 (.bool true) 223 (vr 224) (vr 225) (vr 226) 473 474
def zpa:=h10 17 x.s.a.f.a 227
def znx:=h0 #[(vS x.s.a.e.h 476)]
def zsQ:=h4 #[i108,i110,i111,i112,i113] 2
def ztN:=h8 s38 231 230 215 456 464
def ztE:=h7 231
def zrd:=h5 t16 (vr 231)
def b1086:=h4 #[i0,i1,i2,i3,i4,i5,i6,i7,i8,i9,i16,i22,i28,i34,i40,i46,i52,i58,i64,i70,i76,i82,i88,i94,zsT,zt8,zuB] 27
def b1087:=h1 #[(vI 2),vO,(vr 20),(vI 4),vO,(vr 33),(vI 6),vO,(vr 45),(vI 8),vO,(vr 57),(vI 10),vO,(vr 69),(vI 12),vO,(vr 81),(vI 14),vO,(vr 93),(vI 16),vO,(vr 105),(vI 18),vO,(vr 117),(vI 20),vO,(vr 129),(vI 22),vO,(vr 141),(vI 24),vO,(vr 153),(vI 26),vO,(vr 165),(vI 28),vO,(vr 177),(vI 30),vO,(vr 189),(vI 32),vO,(vr 201),(vI 37),vO,(vr 220),(vI 42),vO,(vr 239)]
def b1088:=h6 [(vr 37),(vr 49),(vr 61),(vr 73),(vr 85),(vr 97),(vr 109),(vr 121),(vr 133),(vr 145),(vr 157),(vr 169),(vr 181),(vr 193),(vr 212),(vr 231),(vr 250)]
def zqX:=h4 #[i115,i116,i117,i118,i119] 5
def zs7:=h1 #[(vI 44),(vI 4),(vr 246)]
def zsG:=h2 s39 483 s39 484 485 42 vO vO 237 (.bool false) 238 .none .none .none 486 487
def zq5:=h3 239 236 s0 187
def zpy:=h0 #[(vS x.s.a.e.d 496),(vS s21 497)]
def zqn:=h9 18 x.s.a.f.d
def zqs:=h2 s20 493 x.s.a.f.d 494 495 44 (vI 2) (vI 3) 241 (.bool true) 242 (vr 243) (vr 244) (vr 245) 498 499
def zqQ:=h10 18 x.s.a.f.d 246
def zqf:=h0 #[(vS s21 501)]
def zq4:=h4 #[i115,i117,i118,i119,i120] 2
def zqr:=h8 s39 250 249 234 481 489
def zqp:=h7 250
def zp2:=h5 t16 (vr 250)
def b1108:=h4 #[i121,i1,i2,i3,i4,i5,i6,i7,i8,i9,i16,i22,i28,i34,i40,i46,i52,i58,i64,i70,i76,i82,i88,i94,zsT,zt8,zuB,i122,i123,i124,i125,i126,i127,i128,i129] 35
def b1109:=h1 #[(vI 2),vO,(vr 20),(vI 4),vO,(vr 33),(vI 6),vO,(vr 45),(vI 8),vO,(vr 57),(vI 10),vO,(vr 69),(vI 12),vO,(vr 81),(vI 14),vO,(vr 93),(vI 16),vO,(vr 105),(vI 18),vO,(vr 117),(vI 20),vO,(vr 129),(vI 22),vO,(vr 141),(vI 24),vO,(vr 153),(vI 26),vO,(vr 165),(vI 28),vO,(vr 177),(vI 30),vO,(vr 189),(vI 32),vO,(vr 201),(vI 37),vO,(vr 220),(vI 42),vO,(vr 239),(vI 47),vO,(vr 258),(vI 53),vO,(vr 277),(vI 55),vO,(vr 284),(vI 62),vO,(vr 292)]
def znE:=h6 [(vr 37),(vr 49),(vr 61),(vr 73),(vr 85),(vr 97),(vr 109),(vr 121),(vr 133),(vr 145),(vr 157),(vr 169),(vr 181),(vr 193),(vr 212),(vr 231),(vr 250),(vr 269)]
def zp3:=h4 #[i130,i131,i132,i133,i134] 5
def zpC:=h1 #[(vI 49),(vI 4),(vr 265)]
def zq3:=h2 s41 508 s41 509 510 47 vO vO 256 (.bool false) 257 .none .none .none 511 512
def zrk:=h3 258 255 s0 187
def zqa:=h0 #[(vS x.s.a.e.d 521),(vS x.s.a.g.f 522)]
def zqD:=h9 19 x.s.a.g.g
def zps:=h2 s20 518 x.s.a.g.g 519 520 49 (vI 2) (vI 3) 260 (.bool true) 261 (vr 262) (vr 263) (vr 264) 523 524
def zqt:=h10 19 x.s.a.g.g 265
def zq8:=h0 #[(vS x.s.a.g.f 526)]
def zql:=h4 #[i130,i132,i133,i134,i135] 2
def zrm:=h8 s41 269 268 253 506 514
def zqT:=h7 269
def zp6:=h5 t16 (vr 269)
def zpD:=h0 #[(vS s71 536)]
def zrs:=h11 21 s42
def zre:=h2 s42 533 s42 534 535 53 (vI 1) (vI 3) 272 (.bool true) 273 (vr 274) (vr 275) (vr 276) 537 538
def zq2:=h12 21 s42 x.s.a.h.a 531 277
def zpN:=h0 #[(vS s71 543),(vS x.s.a.h.b 544),(vS x.s.a.h.c 545)]
def zqK:=h11 22 s43
def zpR:=h2 s43 540 s43 541 542 55 (vI 3) (vI 3) 279 (.bool true) 280 (vr 281) (vr 282) (vr 283) 546 547
def zpx:=h12 22 s43 x.s.a.h.a 531 284
def zpz:=h0 #[(vS x.s.a.h.d 557),(vS x.s.a.h.e 558)]
def zqO:=h0 #[(vS s71 563),(vS x.s.a.h.f 564),(vS x.s.a.h.g 565),(vS x.s.a.h.h 566),(vS x.s.b.a.a 567)]
def zq6:=h11 28 s44
def zq9:=h2 s44 560 s44 561 562 62 (vI 2) (vI 3) 287 (.bool true) 288 (vr 289) (vr 290) (vr 291) 568 569
def zsA:=h12 28 s44 s40 549 292
def b1152:=h4 #[i136,i1,i2,i3,i4,i5,i6,i7,i8,i9,i16,i22,i28,i34,i40,i46,i52,i58,i64,i70,i76,i82,i88,i94,zsT,zt8,zuB,i122,i123,i124,i125,i126,i127,i128,i129,i137,i138,i139,i140,i141,i142,i143,i144,i145,i146,i147,i148,i149,i150] 49
def b1153:=h1 #[(vI 2),vO,(vr 20),(vI 4),vO,(vr 33),(vI 6),vO,(vr 45),(vI 8),vO,(vr 57),(vI 10),vO,(vr 69),(vI 12),vO,(vr 81),(vI 14),vO,(vr 93),(vI 16),vO,(vr 105),(vI 18),vO,(vr 117),(vI 20),vO,(vr 129),(vI 22),vO,(vr 141),(vI 24),vO,(vr 153),(vI 26),vO,(vr 165),(vI 28),vO,(vr 177),(vI 30),vO,(vr 189),(vI 32),vO,(vr 201),(vI 37),vO,(vr 220),(vI 42),vO,(vr 239),(vI 47),vO,(vr 258),(vI 53),vO,(vr 277),(vI 55),vO,(vr 284),(vI 62),vO,(vr 292),(vI 67),vO,(vr 299),(vI 77),vO,(vr 306),(vI 86),vO,(vr 313),(vI 92),vO,(vr 320),(vI 97),vO,(vr 325),(vI 103),vO,(vr 330),(vI 105),vO,(vr 337),(vI 108),vO,(vr 342),(vI 114),vO,(vr 347),(vI 117),vO,(vr 354),(vI 122),vO,(vr 359),(vI 125),vO,(vr 366)]
def zsM:=h0 #[(vS x.s.b.c.b 574),(vS x.s.b.c.c 575),(vS x.s.b.c.d 576),(vS x.s.a.h.g 577),(vS x.s.a.h.h 578),(vS x.s.b.a.a 579)]
def ztk:=h11 29 s45
def ztq:=h2 s45 571 s45 572 573 67 (vI 1) (vI 3) 294 (.bool true) 295 (vr 296) (vr 297) (vr 298) 580 581
def ztU:=h12 29 s45 s40 549 299
def zte:=h0 #[(vS x.s.b.c.e 586),(vS x.s.a.h.f 587),(vS x.s.b.c.b 588),(vS x.s.a.g.f 589),(vS x.s.a.e.e 590)]
def zs3:=h11 30 s46
def zs1:=h2 s46 583 s46 584 585 77 (vI 1) (vI 3) 301 (.bool true) 302 (vr 303) (vr 304) (vr 305) 591 592
def ztf:=h12 30 s46 s40 549 306
def zsx:=h0 #[(vS s22 597)]
def ztV:=h11 31 s47
def zsL:=h2 s47 594 s47 595 596 86 (vI 1) (vI 3) 308 (.bool true) 309 (vr 310) (vr 311) (vr 312) 598 599
def zsv:=h12 31 s47 s40 549 313
def zsP:=h0 #[(vS s22 610),(vS s71 611),(vS x.s.a.h.g 612),(vS x.s.a.h.h 613)]
def zpX:=h11 35 s48
def ztR:=h2 s48 607 s48 608 609 92 (vI 2) (vI 3) 315 (.bool true) 316 (vr 317) (vr 318) (vr 319) 614 615
def ztQ:=h12 35 s48 s17 601 320
def zpE:=h11 36 s49
def zpM:=h2 s49 617 s49 618 619 97 (vI 2) (vI 3) 322 (.bool true) 323 .none .none (vr 324) 620 621
def ztW:=h12 36 s49 s17 601 325
def zsB:=h11 37 s50
def zt1:=h2 s50 623 s50 624 625 103 (vI 1) (vI 3) 327 (.bool true) 328 .none .none (vr 329) 626 627
def zqe:=h12 37 s50 s17 601 330
def zqo:=h0 #[(vS s22 632),(vS x.s.b.c.g 633)]
def zvU:=h11 38 s51
def zux:=h2 s51 629 s51 630 631 105 (vI 2) (vI 3) 332 (.bool true) 333 (vr 334) (vr 335) (vr 336) 634 635
def zvy:=h12 38 s51 s17 601 337
def zuS:=h11 39 s52
def zv0:=h2 s52 637 s52 638 639 108 (vI 1) (vI 3) 339 (.bool true) 340 .none .none (vr 341) 640 641
def ztc:=h12 39 s52 s17 601 342
def zsF:=h11 40 s53
def zwh:=h2 s53 643 s53 644 645 114 (vI 1) (vI 3) 344 (.bool true) 345 .none .none (vr 346) 646 647
def zvZ:=h12 40 s53 s17 601 347
def ztS:=h0 #[(vS s22 652),(vS x.s.b.c.h 653),(vS x.s.b.d.a 654)]
def zsY:=h11 41 s54
def zuQ:=h2 s54 649 s54 650 651 117 (vI 2) (vI 3) 349 (.bool true) 350 (vr 351) (vr 352) (vr 353) 655 656
def zvo:=h12 41 s54 s17 601 354
def zvp:=h11 42 s55
def zvz:=h2 s55 658 s55 659 660 122 (vI 2) (vI 3) 356 (.bool true) 357 .none .none (vr 358) 661 662
def zvN:=h12 42 s55 s17 601 359
def ztZ:=h0 #[(vS s21 667),(vS x.s.b.d.b 668)]
def zsD:=h11 43 s56
def zvL:=h2 s56 664 s56 665 666 125 (vI 1) (vI 3) 361 (.bool true) 362 (vr 363) (vr 364) (vr 365) 669 670
def zvT:=h12 43 s56 s17 601 366
def b1228:=h4 #[i151,i1,i2,i3,i4,i5,i6,i7,i8,i9,i16,i22,i28,i34,i40,i46,i52,i58,i64,i70,i76,i82,i88,i94,zsT,zt8,zuB,i122,i123,i124,i125,i126,i127,i128,i129,i137,i138,i139,i140,i141,i142,i143,i144,i145,i146,i147,i148,i149,i150,i152,i153,i154,i155,i156,i157,i158,i159,i160,i161,i162] 60
def b1229:=h1 #[(vI 2),vO,(vr 20),(vI 4),vO,(vr 33),(vI 6),vO,(vr 45),(vI 8),vO,(vr 57),(vI 10),vO,(vr 69),(vI 12),vO,(vr 81),(vI 14),vO,(vr 93),(vI 16),vO,(vr 105),(vI 18),vO,(vr 117),(vI 20),vO,(vr 129),(vI 22),vO,(vr 141),(vI 24),vO,(vr 153),(vI 26),vO,(vr 165),(vI 28),vO,(vr 177),(vI 30),vO,(vr 189),(vI 32),vO,(vr 201),(vI 37),vO,(vr 220),(vI 42),vO,(vr 239),(vI 47),vO,(vr 258),(vI 53),vO,(vr 277),(vI 55),vO,(vr 284),(vI 62),vO,(vr 292),(vI 67),vO,(vr 299),(vI 77),vO,(vr 306),(vI 86),vO,(vr 313),(vI 92),vO,(vr 320),(vI 97),vO,(vr 325),(vI 103),vO,(vr 330),(vI 105),vO,(vr 337),(vI 108),vO,(vr 342),(vI 114),vO,(vr 347),(vI 117),vO,(vr 354),(vI 122),vO,(vr 359),(vI 125),vO,(vr 366),(vI 128),vO,(vr 373),(vI 134),vO,(vr 380),(vI 141),vO,(vr 387),(vI 152),vO,(vr 394),(vI 160),vO,(vr 401),(vI 166),vO,(vr 408),(vI 180),vO,(vr 415),(vI 192),vO,(vr 422),(vI 210),vO,(vr 429),(vI 221),vO,(vr 436),(vI 238),vO,(vr 443)]
def zuN:=h0 #[(vS s21 675),(vS x.s.a.h.f 676),(vS x.s.b.d.b 677),(vS x.s.b.e.g 678)]
def zvI:=h11 44 s57
def zuV:=h2 s57 672 s57 673 674 128 (vI 2) (vI 3) 368 (.bool true) 369 (vr 370) (vr 371) (vr 372) 679 680
def zvY:=h12 44 s57 s17 601 373
def zvA:=h0 #[(vS s21 685),(vS s22 686),(vS x.s.b.d.b 687),(vS x.s.b.e.h 688),(vS x.s.b.f.a 689)]
def zup:=h11 45 s58
def zvw:=h2 s58 682 s58 683 684 134 (vI 2) (vI 3) 375 (.bool true) 376 (vr 377) (vr 378) (vr 379) 690 691
def zsg:=h12 45 s58 s17 601 380
def zuJ:Obj:=⟨(vY x.t.a.a.a),none,(.seq #[(vS x.s.b.f.b 696),(vS x.s.b.f.c 697),(vS x.s.b.f.d 698),(vS x.s.b.f.e 699),(vS x.s.a.g.f 700),(vS s21 701),(vS s71 702)] 0),#[]⟩
def zu3:=h11 46 s59
def zvJ:=h2 s59 693 s59 694 695 141 (vI 2) (vI 3) 382 (.bool true) 383 (vr 384) (vr 385) (vr 386) 703 704
def zvx:=h12 46 s59 s17 601 387
def zur:=h0 #[(vS x.s.b.f.b 709),(vS x.s.b.f.e 710),(vS x.s.b.c.e 711)]
def zuW:=h11 47 s60
def zv8:=h2 s60 706 s60 707 708 152 (vI 1) (vI 3) 389 (.bool true) 390 (vr 391) (vr 392) (vr 393) 712 713
def zvO:=h12 47 s60 s17 601 394
def zu1:=h0 #[(vS x.s.b.f.b 718)]
def zwm:=h0 #[(vS s22 719)]
def zv5:=h11 48 s61
def zuG:=h2 s61 715 s61 716 717 160 (vI 1) (vI 3) 396 (.bool true) 397 (vr 398) (vr 399) (vr 400) 720 721
def zvf:=h12 48 s61 s17 601 401
def zuA:=h0 #[(vS x.s.b.f.f 728),(vS x.s.b.f.g 729),(vS x.s.b.f.h 730),(vS x.s.b.g.a 731),(vS x.s.b.g.b 732),(vS x.s.b.g.c 733)]
def zu0:=h11 50 s62
def zu9:=h2 s62 725 s62 726 727 166 (vI 2) (vI 3) 403 (.bool true) 404 (vr 405) (vr 406) (vr 407) 734 735
def zuX:=h12 50 s62 s18 723 408
def zv7:=h0 #[(vS x.s.b.g.d 740),(vS x.s.b.g.e 741)]
def zwo:=h11 51 s63
def zv4:=h2 s63 737 s63 738 739 180 (vI 1) (vI 3) 410 (.bool true) 411 (vr 412) (vr 413) (vr 414) 742 743
def zuU:=h12 51 s63 s18 723 415
def zvj:Obj:=⟨(vY x.t.a.a.a),none,(.seq #[(vS x.s.b.f.f 748),(vS x.s.b.g.f 749),(vS x.s.b.g.g 750),(vS x.s.b.g.h 751),(vS x.s.b.f.g 752),(vS x.s.b.g.c 753),(vS x.s.b.h.a 754),(vS x.s.b.g.b 755),(vS x.s.b.h.b 756),(vS x.s.b.h.c 757),(vS x.s.b.h.d 758),(vS x.s.b.h.e 759)] 0),#[]⟩
def zut:=h11 52 s64
def zvQ:=h2 s64 745 s64 746 747 192 (vI 3) (vI 3) 417 (.bool true) 418 (vr 419) (vr 420) (vr 421) 760 761
def zvs:=h12 52 s64 s18 723 422
def zwb:=h0 #[(vS x.s.b.g.g 766),(vS x.s.b.g.h 767),(vS x.s.b.h.f 768),(vS x.s.b.h.c 769),(vS x.s.b.h.b 770),(vS x.s.b.h.g 771)]
def zuu:=h11 53 s65
def zvv:=h2 s65 763 s65 764 765 210 (vI 2) (vI 3) 424 (.bool true) 425 (vr 426) (vr 427) (vr 428) 772 773
def zvd:=h12 53 s65 s18 723 429
def zvB:=h0 #[(vS x.s.b.h.h 778),(vS x.s.c.a.a 779),(vS x.s.c.a.b 780),(vS x.s.c.a.c 781)]
def zwd:=h11 54 s66
def zuy:=h2 s66 775 s66 776 777 221 (vI 2) (vI 3) 431 (.bool true) 432 (vr 433) (vr 434) (vr 435) 782 783
def zuw:=h12 54 s66 s18 723 436
def zv9:=h0 #[(vS x.s.b.g.g 788),(vS x.s.b.g.h 789),(vS x.s.b.g.d 790),(vS x.s.c.a.d 791)]
def zve:=h11 55 s67
def zvn:=h2 s67 785 s67 786 787 238 (vI 2) (vI 3) 438 (.bool true) 439 (vr 440) (vr 441) (vr 442) 792 793
def zuR:=h12 55 s67 s18 723 443
def zu6:=h4 #[i151,i1,i2,i3,i4,i5,i6,i7,i8,i9,i16,i22,i28,i34,i40,i46,i52,i58,i64,i70,i76,i82,i88,i94,zsT,zt8,zuB,i122,i123,i124,i125,i126,i127,i128,i129,i137,i138,i139,i140,i141,i142,i143,i144,i145,i146,i147,i148,i149,i150,i152,i153,i154,i155,i156,i157,i158,i159,i160,i161,i162,i163,i164,i165] 63
def zuC:=h1 #[(vI 2),vO,(vr 20),(vI 4),vO,(vr 33),(vI 6),vO,(vr 45),(vI 8),vO,(vr 57),(vI 10),vO,(vr 69),(vI 12),vO,(vr 81),(vI 14),vO,(vr 93),(vI 16),vO,(vr 105),(vI 18),vO,(vr 117),(vI 20),vO,(vr 129),(vI 22),vO,(vr 141),(vI 24),vO,(vr 153),(vI 26),vO,(vr 165),(vI 28),vO,(vr 177),(vI 30),vO,(vr 189),(vI 32),vO,(vr 201),(vI 37),vO,(vr 220),(vI 42),vO,(vr 239),(vI 47),vO,(vr 258),(vI 53),vO,(vr 277),(vI 55),vO,(vr 284),(vI 62),vO,(vr 292),(vI 67),vO,(vr 299),(vI 77),vO,(vr 306),(vI 86),vO,(vr 313),(vI 92),vO,(vr 320),(vI 97),vO,(vr 325),(vI 103),vO,(vr 330),(vI 105),vO,(vr 337),(vI 108),vO,(vr 342),(vI 114),vO,(vr 347),(vI 117),vO,(vr 354),(vI 122),vO,(vr 359),(vI 125),vO,(vr 366),(vI 128),vO,(vr 373),(vI 134),vO,(vr 380),(vI 141),vO,(vr 387),(vI 152),vO,(vr 394),(vI 160),vO,(vr 401),(vI 166),vO,(vr 408),(vI 180),vO,(vr 415),(vI 192),vO,(vr 422),(vI 210),vO,(vr 429),(vI 221),vO,(vr 436),(vI 238),vO,(vr 443),(vI 245),vO,(vr 450),(vI 252),vO,(vr 457),(vI 274),vO,(vr 462)]
def zvK:=h0 #[(vS x.s.c.a.h 798),(vS x.s.b.g.d 799),(vS x.s.c.a.d 800)]
def zvc:=h11 56 s68
def zvg:=h2 s68 795 s68 796 797 245 (vI 1) (vI 3) 445 (.bool true) 446 (vr 447) (vr 448) (vr 449) 801 802
def zvW:=h12 56 s68 s18 723 450
def zuK:Obj:=⟨(vY x.t.a.a.a),none,(.seq #[(vS x.s.b.g.g 807),(vS x.s.b.g.c 808),(vS x.s.c.b.a 809),(vS x.s.c.b.b 810),(vS x.s.c.a.h 811),(vS x.s.c.b.c 812),(vS x.s.b.h.b 813),(vS x.s.b.h.e 814),(vS x.s.c.a.a 815),(vS x.s.b.h.f 816),(vS x.s.b.g.d 817),(vS x.s.b.h.h 818),(vS x.s.c.a.d 819)] 0),#[]⟩
def zuO:=h11 57 s69
def zuo:=h2 s69 804 s69 805 806 252 (vI 2) (vI 3) 452 (.bool true) 453 (vr 454) (vr 455) (vr 456) 820 821
def zvE:=h12 57 s69 s18 723 457
def zuq:=h11 58 s70
def zvm:=h2 s70 823 s70 824 825 274 (vI 1) (vI 3) 459 (.bool true) 460 .none .none (vr 461) 826 827
def zv6:=h12 58 s70 s18 723 462
def m814:Heap:=⟨⟨[r1,r2,r3,x.r.a.a.d,r4,r5,r6,r7,r8,r9,r10,zaw,zaX,zgV,zgU]⟩,⟨[],[],[],0,[],[],false,#[],[],0,false,false,false,0,[2000,10,10],false,0,true,[],[],0,false⟩⟩
def q0:=L zaw
def q1:=L zaX
def q2:=L za1
def q3:=N zaX q0 z
def q4:=L zbp
def q5:=N zhQ (L zk4) (L zlX)
def q6:=N zbp q1 z
def q7:=N zaw (L zlr) (L zmz)
def q8:=N zhU (N zaw (L zmk) z) q0
def q9:=N za1 (L zkx) (L zlO)
def q10:=N zig (L zlz) (L zmb)
def q11:=N zaw q0 z
def q12:=N zhT (N zaw (L zmW) z) q0
def q13:=N zhR (N za1 (L znr) z) (L zlh)
def q14:=N zaX q4 z
def q15:=N zbp (L zpp) z
def q16:=N zhO (N zlU (L znp) z) (L zmF)
def q17:=N zh1 (N zkf q0 z) (N zaw (L zm7) z)
def q18:=N zhS (N zkm (L zl7) z) (N za1 (L zpq) z)
def q19:=N zia (N zkj q1 z) (N zbp (L zop) z)
def q20:=N zaw (N zkh (L zo2) z) (N zmJ (L zpj) z)
def q21:=N zaX (N zaw q0 (L zpn)) (N zkg q0 z)
def q22:=N zhQ (N zk4 q2 (L zph)) (N zlX (L zoj) z)
def q23:=N za1 (N zaX q4 (L znU)) (N zkl q1 z)
def q24:=N zlr (L znt) (L zpZ)
def q25:=N zaw q24 (N zmz (L zpf) z)
def q26:=N zhU (N zaw (L zmk) q0) (N zaw q0 (L zqv))
def q27:=N za1 (L znr) (L zr1)
def q28:=N za1 (N zkx q2 (L zpi)) (N zlO (L zoN) z)
def q29:=N zbp (L zpp) q1
def q30:=N zbp (N zaX q4 (L zpm)) (N zkG q1 z)
def q31:=N zlU (L znp) (L zrZ)
def q32:=N zkh (L zo2) (L zrW)
def q33:=N zlz (L zm8) (L zr7)
def q34:=N zig q33 (N zmb (L zpo) z)
def q35:=N zhT (N zaw (L zmW) q0) (N zaw q0 (L zpG))
def q36:=N zhR q27 (N zlh q2 (L zqw))
def q37:=N za1 (L zpq) (L zrL)
def q38:=N zaX q4 (L zrX)
def q39:=N zmz (L zpf) (L zr5)
def q40:=N zmF (L znf) (L zr0)
def q41:=N zmJ (L zpj) (L zsb)
def q42:=N zaw (N zmk q0 z) q0
def q43:=N zkf (N zaw (L zrC) z) q0
def q44:=N zh1 q43 (N zaw (L zm7) q0)
def q45:=N zaw q11 (L zpn)
def q46:=N zk4 (N za1 (L zsu) z) (L zph)
def q47:=N zkm (N zl7 (L zqJ) z) q2
def q48:=N zkj (N zaX (L zrH) z) q4
def q49:=N zia q48 (N zbp (L zop) q1)
def q50:=N zlr (N znt (L ztm) z) (L zpZ)
def q51:=N zkh (N zo2 (L ztX) z) (L zrW)
def q52:=N zmb (L zpo) (L zqq)
def q53:=N zaw q11 (L zqv)
def q54:=N zkg (N zaw (L zty) z) q0
def q55:=N zaw (N zmW q0 z) q0
def q56:=N zlX (N zoj (L zs8) z) q2
def q57:=N za1 (N znr q2 z) (L zr1)
def q58:=N zkx (N za1 (L zsC) z) (L zpi)
def q59:=N zkl (N zaX (L zto) z) q4
def q60:=N za1 (N zaX q6 (L znU)) q59
def q61:=N zbp (N zpp q4 z) q1
def q62:=N zmz (N zpf (L zsy) z) (L zr5)
def q63:=N zlU (N znp (L zts) z) (L zrZ)
def q64:=N zlz (N zm8 (L zrT) z) (L zr7)
def q65:=N zaw (N zmk q0 z) (N zaw (L ztP) z)
def q66:=N zaw (N zm7 q0 z) q0
def q67:=N zaw q11 (L zpG)
def q68:=N zlh (N za1 (L zt7) z) (L zqw)
def q69:=N za1 (N zpq q2 z) (L zrL)
def q70:=N zlO (N zoN (L zss) z) q2
def q71:=N zaX q6 (L zrX)
def q72:=N zbp (N zop q4 z) q1
def q73:=N zkG (N zaX (L zs6) z) q4
def q74:=N zbp (N zaX q6 (L zpm)) q73
def q75:=N zmF (N znf (L zrU) z) (L zr0)
def q76:=N zmJ (N zpj (L ztr) z) (L zsb)
def q77:=N zmb (N zpo (L zso) z) (L zqq)
def q78:=N zkf (N zaw (L zrC) z) q11
def q79:=N zaw q11 (N zpn q0 z)
def q80:=N zaw (N zmW q0 z) (N zaw (L zl0) z)
def q81:=N zk4 (N za1 (L zsu) z) (N zph q2 z)
def q82:=N za1 (N znr q2 z) (N zr1 (L zmG) z)
def q83:=N zkm (N zl7 (L zqJ) z) (N za1 (L zmI) z)
def q84:=N zaX q6 (N znU q4 z)
def q85:=N zbp (N zpp q4 z) (N zaX (L zmd) z)
def q86:=N zkj (N zaX (L zrH) z) q6
def q87:=N zlr (N znt (L ztm) z) (N zpZ (L zkX) z)
def q88:=N zlU (N znp (L zts) z) (N zrZ (L zmR) z)
def q89:=N zkh (N zo2 (L ztX) z) (N zrW (L zm0) z)
def q90:=N zaw q11 (N zqv q0 z)
def q91:=N zaw (N zm7 q0 z) (N zaw (L zmg) z)
def q92:=N zkg (N zaw (L zty) z) q11
def q93:=N zlX (N zoj (L zs8) z) (N za1 (L zl1) z)
def q94:=N zhS q83 (N za1 (N zpq q2 z) (N zrL (L zmQ) z))
def q95:=N zkx (N za1 (L zsC) z) (N zpi q2 z)
def q96:=N zkl (N zaX (L zto) z) q6
def q97:=N zia q86 (N zbp (N zop q4 z) (N zaX (L zmH) z))
def q98:=N zaX q6 (N zpm q4 z)
def q99:=N zmz (N zpf (L zsy) z) (N zr5 (L zmy) z)
def q100:=N zaw q89 (N zmJ (N zpj (L ztr) z) (N zsb (L zl3) z))
def q101:=N zlz (N zm8 (L zrT) z) (N zr7 (L zmv) z)
def q102:=N zaw (N zmk q0 q0) (N zaw (L ztP) z)
def q103:=N zaw q0 (L zm3)
def q104:=N zaw q103 (N zpn q0 z)
def q105:=N zaw q11 (N zpG q0 z)
def q106:=N za1 (L zsu) (L zne)
def q107:=N zk4 q106 (N zph q2 z)
def q108:=N zlh (N za1 (L zt7) z) (N zqw q2 z)
def q109:=N zlO (N zoN (L zss) z) (N za1 (L zl8) z)
def q110:=N zbp q1 (L zo5)
def q111:=N zaX q110 (N znU q4 z)
def q112:=N zaX q6 (N zrX q4 z)
def q113:=N zkG (N zaX (L zs6) z) q6
def q114:=N znt (L ztm) (L zmf)
def q115:=N zlr q114 (N zpZ (L zkX) z)
def q116:=N zmF (N znf (L zrU) z) (N zr0 (L zmp) z)
def q117:=N zmb (N zpo (L zso) z) (N zqq (L zkQ) z)
def q118:=N zaw q0 (L zmX)
def q119:=N zaw q118 (N zqv q0 z)
def q120:=N zaw (L zty) (L znG)
def q121:=N zaw (N zmW q0 q0) (N zaw (L zl0) z)
def q122:=N zoj (L zs8) (L zqB)
def q123:=N zlX q122 (N za1 (L zl1) z)
def q124:=N znr q2 (L zoK)
def q125:=N zpq q2 (L zrt)
def q126:=N za1 q125 (N zrL (L zmQ) z)
def q127:=N za1 (L zsC) (L zmh)
def q128:=N zkx q127 (N zpi q2 z)
def q129:=N zaX (L zto) (L zqZ)
def q130:=N zpp q4 (L zmo)
def q131:=N zop q4 (L zng)
def q132:=N zbp q131 (N zaX (L zmH) z)
def q133:=N zaX (N zbp q1 q1) (N zpm q4 z)
def q134:=N zpf (L zsy) (L zri)
def q135:=N zmz q134 (N zr5 (L zmy) z)
def q136:=N znp (L zts) (L zn9)
def q137:=N zlU q136 (N zrZ (L zmR) z)
def q138:=N zo2 (L ztX) (L znA)
def q139:=N zpj (L ztr) (L zqj)
def q140:=N zmJ q139 (N zsb (L zl3) z)
def q141:=N zlz (N zm8 (L zrT) q0) (N zr7 (L zmv) z)
def q142:=N zaw (N zmk q0 q0) (N zaw (L ztP) q1)
def q143:=N zaw q0 (L ztN)
def q144:=N zkf (N zaw (L zrC) q0) q143
def q145:=N zaw q103 (N zpn q0 (L zrj))
def q146:=N zaw q0 (L zqL)
def q147:=N zk4 q106 (N zph q2 q0)
def q148:=N zr1 (L zmG) (L zrd)
def q149:=N za1 (L zt7) (L zoq)
def q150:=N zkm (N zl7 (L zqJ) q2) (N za1 (L zmI) (L znx))
def q151:=N zlO (N zoN (L zss) (L zob)) (N za1 (L zl8) z)
def q152:=N zaX q110 (N znU q4 (L zol))
def q153:=N zaX (L zmd) (L ztE)
def q154:=N zkj (N zaX (L zrH) q4) (N zbp q1 (L zpa))
def q155:=N zaX (L zs6) (L zqG)
def q156:=N zlr q114 (N zpZ (L zkX) (L zrp))
def q157:=N zrW (L zm0) (L zsQ)
def q158:=N zmb (N zpo (L zso) q0) (N zqq (L zkQ) z)
def q159:=N zqv q0 (L zsG)
def q160:=N zaw (L zmg) (L zqQ)
def q161:=N zaw q0 (L zpy)
def q162:=N zaw (L zl0) q2
def q163:=N zpG q0 (L zqp)
def q164:=N za1 (L zl1) q0
def q165:=N zqw q2 (L zq4)
def q166:=N zrL (L zmQ) (L zqn)
def q167:=N zbp q1 (L zq5)
def q168:=N zrX q4 (L zqf)
def q169:=N zaX (L zmH) q0
def q170:=N zpm q4 (L zqX)
def q171:=N zbp q1 (L zp2)
def q172:=N zr5 (L zmy) q1
def q173:=N zrZ (L zmR) q4
def q174:=N zr0 (L zmp) (L zqr)
def q175:=N zsb (L zl3) (L zqs)
def q176:=N zr7 (L zmv) (L zs7)
def q177:=N zmI (L zsA) z
def q178:=N zaX q1 z
def q179:=N zsG (L zvT) z
def q180:=N zaw q1 z
def q181:=N ztN (L zvz) z
def q182:=N zrj (L zvo) z
def q183:=N zqL (L zwh) z
def q184:=N zne (L ztQ) z
def q185:=N zqB (L zux) z
def q186:=N zoK (L zsB) z
def q187:=N zrt (L zuS) z
def zwa:=N za1 q0 z
def q189:=N zl8 (L zsP) z
def q190:=N zo5 (L ztR) z
def q191:=N zqZ (L zvU) z
def q192:=N ztE (L zvN) z
def q193:=N zqG (L zvZ) z
def q194:=N zrp (L zuQ) z
def q195:=N zri (L zvy) z
def q196:=N zn9 (L zt1) z
def q197:=N znA (L ztW) z
def q198:=N zsQ (L zvp) z
def q199:=N zqj (L zv0) z
def q200:=N zs7 (L zvL) z
def q201:=N zaw (L zp3) q1
def q202:=N zaw (N ztP q0 (L zv4)) (N zaX (L ztS) z)
def q203:=N zaw (L zp6) (L zwm)
def q204:=N zqv (N zaw (L zte) q0) q179
def q205:=N zrC q0 (L zur)
def q206:=N zaw (N zaw q1 (L zvs)) q181
def q207:=N zaw (N zm7 (N zaw q0 (L zu0)) (N zbp (L ztc) z)) (N zaw (N zmg q0 q1) (N zqQ q0 z))
def q208:=N zaw (L zrk) (L zvJ)
def q209:=N zpn (N zaw (L zq6) (L zvj)) q182
def q210:=N zkg (N zaw (N zty q0 q0) (N znG q0 z)) (N zaw (N zaw (L ztf) (L zwd)) (N zpy q0 z))
def q211:=N zaw (L zq8) (L zvO)
def q212:=N zaw (N zl0 (L ztq) q0) (N za1 (L ztZ) z)
def q213:=N zaw (N zaw (N zaw (L zqK) q1) q183) (N zpG (N zaw q0 (L zvn)) (N zqp (L zup) z))
def q214:=N zsu (L zpC) q0
def q215:=N zph (N za1 (L zqO) q0) (N zaw (L zsY) z)
def q216:=N zlX (N zoj (N zs8 q1 (L zuG)) q185) (N za1 (N zl1 (L zs3) (L zvB)) q180)
def q217:=N za1 (L zps) (L zuW)
def q218:=N zr1 (N zmG q0 q1) (N zrd q0 z)
def q219:=N zlh (N za1 (N zt7 (L zpN) (L zuX)) (N zoq q1 z)) (N zqw (N za1 (L zsL) q0) (N zq4 (L zvA) z))
def q220:=N za1 (N zmI (L zsA) (L zut)) (N znx q1 z)
def q221:=N za1 (N zpq (N za1 (L zre) (L zuA)) q187) (N zrL (N zmQ q1 (L zuw)) (N zqn (L zuV) z))
def q222:=N zsC (L zrm) q1
def q223:=N zpi (N za1 q0 (L zvv)) (N zaw (L zsD) z)
def q224:=N zoN (N zss (L zpx) q0) (N zob q0 z)
def q225:=N zaX q0 (L zuJ)
def q226:=N znU (N zbp q1 (L zuU)) (N zol q0 z)
def q227:=N zkl (N zaX (N zto q0 (L zv5)) q191) (N zbp (N zaX q0 q1) (N zq5 q0 z))
def q228:=N zbp (L zqD) q0
def q229:=N zaX (N zmd (L zsM) q0) q192
def q230:=N zaX (N zbp (N zaX q1 (L zu9)) zwa) (N zrX (N zbp (L ztV) (L zv9)) (N zqf q1 z))
def q231:=N zrH q0 (L zvx)
def q232:=N zbp (N zaX (L zq9) q0) (N zpa q0 z)
def q233:=N zbp (N zop (N zbp (L zrs) q1) (N zng q1 z)) (N zaX (N zmH q0 (L zuy)) (N zaw (L zvI) z))
def q234:=N zaX (L zql) q0
def q235:=N zpm (N zbp (L ztU) (L zuu)) (N zqX q0 z)
def q236:=N zkG (N zaX (N zs6 (L zpR) (L zv7)) q193) (N zbp (N zaX q1 (L zuR)) (N zp2 (L zvw) z))
def q237:=N ztm (L zq3) (L zu3)
def q238:=N zpZ (N zkX q0 q1) q194
def q239:=N zmz (N zpf (N zsy (L zpD) (L zvf)) q195) (N zr5 (N zmy (L zs1) q0) (N zaX (L zuN) z))
def q240:=N zts (L zqt) (L zv8)
def q241:=N zrZ (N zmR (L ztk) (L zwb)) q6
def q242:=N zmF (N znf (N zrU q0 q0) (N zaw (L zsF) z)) (N zr0 (N zmp (L zsv) (L zve)) (N zqr q0 z))
def q243:=N ztX (L zqa) q1
def q244:=N zrW (N zm0 q0 (L zvQ)) q198
def q245:=N zmJ (N zpj (N ztr (L zq2) q0) q199) (N zsb (N zl3 (L zsx) q0) (N zqs (L zvY) z))
def q246:=N zrT (L zqT) (L zu1)
def q247:=N zr7 (N zmv q1 (L zvd)) q200
def q248:=N zpo (N zso (L zpz) (L zwo)) q180
def m815:=N r1 (N r2 (N x.r.a.a.d (L r7) q0) (N r5 (L r9) (L zgV))) (N r3 (N r4 (L r8) q1) (N r6 (L r10) (L zgU)))
def m831:=N r1 (N r2 (N b817 (N r7 (L zhU) (L zh1)) (N zaw q1 (L zhT))) (N r5 (N r9 (L zhQ) (L zhR)) (N zgV (L zhS) z))) (N r3 (N r4 (N r8 q2 (L b828)) (N b818 (L zia) z)) (N r6 (N r10 q0 (L zhO)) (N zgU q0 z)))
def m846:=N r1 (N r2 (N b832 (N r7 (N zhU q0 z) (N zh1 (L zkf) z)) (N zaw q3 (L zhT))) (N r5 (N r9 (N zhQ (L zk4) z) (L zhR)) (N zgV (N zhS (L zkm) z) q2))) (N r3 (N r4 (N r8 (N za1 q1 z) (L b834)) (N b833 (N zia (L zkj) z) q4)) (N r6 (N r10 (N zaw (L zlr) z) (L zhO)) (N zgU (N zaw (L zkh) z) (L zig))))
def m861:=N r1 (N r2 (N b847 (N r7 (N zhU q0 q0) (N zh1 (L zkf) z)) (N zaw (N zaX q0 (L zkg)) (N zhT q0 z))) (N r5 (N r9 q5 (N zhR q2 z)) (N zgV (N zhS (L zkm) z) (N za1 (L zkx) z)))) (N r3 (N r4 (N r8 (N za1 q1 (L zkl)) (N b849 q4 z)) (N b848 (N zia (L zkj) z) q6)) (N r6 (N r10 q7 (N zhO (L zlU) z)) (N zgU (N zaw (L zkh) z) (N zig (L zlz) z))))
def m876:=N r1 (N r2 (N b862 (N r7 q8 (N zh1 (L zkf) q0)) (N zaw (N zaX q0 (L zkg)) (N zhT q0 q0))) (N r5 (N r9 q5 (N zhR q2 (L zlh))) (N zgV (N zhS (L zkm) q2) q9))) (N r3 (N r4 (N r8 (N za1 q1 (L zkl)) (N b864 q4 q1)) (N b863 (N zia (L zkj) q4) (N zbp q1 (L zkG)))) (N r6 (N r10 q7 (N zhO (L zlU) (L zmF))) (N zgU (N zaw (L zkh) (L zmJ)) q10)))
def m891:=N r1 (N r2 (N b877 (N r7 q8 (N zh1 (N zkf q0 z) q0)) (N zaw (N zaX q11 (L zkg)) q12)) (N r5 (N r9 (N zhQ (N zk4 q2 z) (L zlX)) q13) (N zgV (N zhS (N zkm (L zl7) z) q2) q9))) (N r3 (N r4 (N r8 (N za1 q14 (L zkl)) (N b879 q15 q1)) (N b878 (N zia (N zkj q1 z) q4) (N zbp q1 (L zkG)))) (N r6 (N r10 (N zaw (N zlr (L znt) z) (L zmz)) q16) (N zgU (N zaw (N zkh (L zo2) z) (L zmJ)) q10)))
def m906:=N r1 (N r2 (N b892 (N r7 (N zhU (N zaw (L zmk) z) q11) q17) (N zaw (N zaX q11 (N zkg q0 z)) q12)) (N r5 (N r9 (N zhQ (N zk4 q2 z) (N zlX (L zoj) z)) q13) (N zgV q18 (N za1 (N zkx q2 z) (L zlO))))) (N r3 (N r4 (N r8 (N za1 q14 (N zkl q1 z)) (N b894 q15 q1)) (N b893 q19 (N zbp q14 (L zkG)))) (N r6 (N r10 (N zaw (N zlr (L znt) z) (N zmz (L zpf) z)) q16) (N zgU q20 (N zig (N zlz (L zm8) z) (L zmb)))))
def m921:=N r1 (N r2 (N b907 (N r7 (N zhU (N zaw (L zmk) q0) q11) q17) (N zaw q21 (N zhT (N zaw (L zmW) z) q11))) (N r5 (N r9 q22 (N zhR (N za1 (L znr) z) (N zlh q2 z))) (N zgV q18 (N za1 (N zkx q2 z) (N zlO (L zoN) z))))) (N r3 (N r4 (N r8 q23 (N b909 q15 q14)) (N b908 q19 (N zbp q14 (N zkG q1 z)))) (N r6 (N r10 q25 (N zhO (N zlU (L znp) z) (N zmF (L znf) z))) (N zgU q20 (N zig (N zlz (L zm8) z) (N zmb (L zpo) z)))))
def m936:=N r1 (N r2 (N b922 (N r7 q26 (N zh1 (N zkf q0 q0) (N zaw (L zm7) z))) (N zaw q21 (N zhT (N zaw (L zmW) q0) q11))) (N r5 (N r9 q22 (N zhR q27 (N zlh q2 z))) (N zgV (N zhS (N zkm (L zl7) q2) (N za1 (L zpq) z)) q28))) (N r3 (N r4 (N r8 q23 (N b924 q29 q14)) (N b923 (N zia (N zkj q1 q4) (N zbp (L zop) z)) q30)) (N r6 (N r10 q25 (N zhO q31 (N zmF (L znf) z))) (N zgU (N zaw q32 (N zmJ (L zpj) z)) q34)))
def m951:=N r1 (N r2 (N b937 (N r7 q26 (N zh1 (N zkf q0 q0) (N zaw (L zm7) q0))) (N zaw (N zaX (N zaw q0 (L zpn)) (N zkg q0 q0)) q35)) (N r5 (N r9 (N zhQ (N zk4 q2 (L zph)) (N zlX (L zoj) q2)) q36) (N zgV (N zhS (N zkm (L zl7) q2) q37) q28))) (N r3 (N r4 (N r8 (N za1 (N zaX q4 (L znU)) (N zkl q1 q4)) (N b939 q29 q38)) (N b938 (N zia (N zkj q1 q4) (N zbp (L zop) q1)) q30)) (N r6 (N r10 (N zaw q24 q39) (N zhO q31 q40)) (N zgU (N zaw q32 q41) q34)))
def m966:=N r1 (N r2 (N b952 (N r7 (N zhU q42 (N zaw q0 (L zqv))) q44) (N zaw (N zaX q45 (N zkg q0 q0)) q35)) (N r5 (N r9 (N zhQ q46 (N zlX (L zoj) q2)) q36) (N zgV (N zhS q47 q37) (N za1 (N zkx q2 (L zpi)) (N zlO (L zoN) q2))))) (N r3 (N r4 (N r8 (N za1 (N zaX q6 (L znU)) (N zkl q1 q4)) (N b954 q29 q38)) (N b953 q49 (N zbp (N zaX q4 (L zpm)) (N zkG q1 q4)))) (N r6 (N r10 (N zaw q50 q39) (N zhO q31 q40)) (N zgU (N zaw q51 q41) (N zig q33 q52))))
def m981:=N r1 (N r2 (N b967 (N r7 (N zhU q42 q53) q44) (N zaw (N zaX q45 q54) (N zhT q55 (N zaw q0 (L zpG))))) (N r5 (N r9 (N zhQ q46 q56) (N zhR q57 (N zlh q2 (L zqw)))) (N zgV (N zhS q47 q37) (N za1 q58 (N zlO (L zoN) q2))))) (N r3 (N r4 (N r8 q60 (N b969 q61 q38)) (N b968 q49 (N zbp (N zaX q6 (L zpm)) (N zkG q1 q4)))) (N r6 (N r10 (N zaw q50 q62) (N zhO q63 q40)) (N zgU (N zaw q51 q41) (N zig q64 q52))))
def m996:=N r1 (N r2 (N b982 (N r7 (N zhU q65 q53) (N zh1 q43 q66)) (N zaw (N zaX q45 q54) (N zhT q55 q67))) (N r5 (N r9 (N zhQ q46 q56) (N zhR q57 q68)) (N zgV (N zhS q47 q69) (N za1 q58 q70)))) (N r3 (N r4 (N r8 q60 (N b984 q61 q71)) (N b983 (N zia q48 q72) q74)) (N r6 (N r10 (N zaw q50 q62) (N zhO q63 q75)) (N zgU (N zaw q51 q76) (N zig q64 q77))))
def m1011:=N r1 (N r2 (N b997 (N r7 (N zhU q65 q53) (N zh1 q78 q66)) (N zaw (N zaX q79 q54) (N zhT q80 q67))) (N r5 (N r9 (N zhQ q81 q56) (N zhR q82 q68)) (N zgV (N zhS q83 q69) (N za1 q58 q70)))) (N r3 (N r4 (N r8 (N za1 q84 q59) (N b999 q85 q71)) (N b998 (N zia q86 q72) q74)) (N r6 (N r10 (N zaw q87 q62) (N zhO q88 q75)) (N zgU (N zaw q89 q76) (N zig q64 q77))))
def m1026:=N r1 (N r2 (N b1012 (N r7 (N zhU q65 q90) (N zh1 q78 q91)) (N zaw (N zaX q79 q92) (N zhT q80 q67))) (N r5 (N r9 (N zhQ q81 q93) (N zhR q82 q68)) (N zgV q94 (N za1 q95 q70)))) (N r3 (N r4 (N r8 (N za1 q84 q96) (N b1014 q85 q71)) (N b1013 q97 (N zbp q98 q73))) (N r6 (N r10 (N zaw q87 q99) (N zhO q88 q75)) (N zgU q100 (N zig q101 q77))))
def m1041:=N r1 (N r2 (N b1027 (N r7 (N zhU q102 q90) (N zh1 q78 q91)) (N zaw (N zaX q104 q92) (N zhT q80 q105))) (N r5 (N r9 (N zhQ q107 q93) (N zhR q82 q108)) (N zgV q94 (N za1 q95 q109)))) (N r3 (N r4 (N r8 (N za1 q111 q96) (N b1029 q85 q112)) (N b1028 q97 (N zbp q98 q113))) (N r6 (N r10 (N zaw q115 q99) (N zhO q88 q116)) (N zgU q100 (N zig q101 q117))))
def m1063:=N r1 (N r2 (N b1042 (N r7 (N zhU q102 q119) (N zh1 (N zkf (N zaw (L zrC) q0) q11) q91)) (N zaw (N zaX q104 (N zkg q120 q11)) (N zhT q121 q105))) (N r5 (N r9 (N zhQ q107 q123) (N zhR (N za1 q124 (N zr1 (L zmG) z)) q108)) (N zgV (N zhS (N zkm (N zl7 (L zqJ) q2) (N za1 (L zmI) z)) q126) (N za1 q128 q109)))) (N r3 (N r4 (N r8 (N za1 q111 (N zkl q129 q6)) (N b1044 (N zbp q130 (N zaX (L zmd) z)) q112)) (N b1043 (N zia (N zkj (N zaX (L zrH) q4) q6) q132) (N zbp q133 q113))) (N r6 (N r10 (N zaw q115 q135) (N zhO q137 q116)) (N zgU (N zaw (N zkh q138 (N zrW (L zm0) z)) q140) (N zig q141 q117))))
def m1085:=N r1 (N r2 (N b1064 (N r7 (N zhU q142 q119) (N zh1 q144 (N zaw (N zm7 q0 q4) (N zaw (L zmg) z)))) (N zaw (N zaX q145 (N zkg q120 q11)) (N zhT q121 (N zaw q146 (N zpG q0 z))))) (N r5 (N r9 (N zhQ q147 q123) (N zhR (N za1 q124 q148) (N zlh q149 (N zqw q2 z)))) (N zgV (N zhS q150 q126) (N za1 q128 q151)))) (N r3 (N r4 (N r8 (N za1 q152 (N zkl q129 q6)) (N b1066 (N zbp q130 q153) (N zaX (N zbp q1 q2) (N zrX q4 z)))) (N b1065 (N zia q154 q132) (N zbp q133 (N zkG q155 q6)))) (N r6 (N r10 (N zaw q156 q135) (N zhO q137 (N zmF (N znf (L zrU) q0) (N zr0 (L zmp) z)))) (N zgU (N zaw (N zkh q138 q157) q140) (N zig q141 q158))))
def m1107:=N r1 (N r2 (N b1086 (N r7 (N zhU q142 (N zaw q118 q159)) (N zh1 q144 (N zaw (N zm7 q0 q4) q160))) (N zaw (N zaX q145 (N zkg q120 q161)) (N zhT (N zaw (N zmW q0 q0) q162) (N zaw q146 q163)))) (N r5 (N r9 (N zhQ q147 (N zlX q122 q164)) (N zhR (N za1 q124 q148) (N zlh q149 q165))) (N zgV (N zhS q150 (N za1 q125 q166)) (N za1 (N zkx q127 (N zpi q2 q0)) q151)))) (N r3 (N r4 (N r8 (N za1 q152 (N zkl q129 q167)) (N b1088 (N zbp q130 q153) (N zaX (N zbp q1 q2) q168))) (N b1087 (N zia q154 (N zbp q131 q169)) (N zbp (N zaX (N zbp q1 q1) q170) (N zkG q155 q171)))) (N r6 (N r10 (N zaw q156 (N zmz q134 q172)) (N zhO (N zlU q136 q173) (N zmF (N znf (L zrU) q0) q174))) (N zgU (N zaw (N zkh q138 q157) (N zmJ q139 q175)) (N zig (N zlz (N zm8 (L zrT) q0) q176) q158))))
def m1151:=N r1 (N r2 (N b1108 (N r7 (N zhU (N zaw (N zmk (N zaw (L zp3) z) q0) (N zaw (N ztP q0 z) q1)) (N zaw (N zaw (N zaw (L zp6) z) (L zmX)) q159)) (N zh1 (N zkf (N zaw (N zrC q0 z) q0) q143) (N zaw (N zm7 q11 q4) q160))) (N zaw (N zaX (N zaw (N zaw (N zaw (L zrk) z) (L zm3)) (N zpn (N zaw (L zq6) z) (L zrj))) (N zkg (N zaw (N zty q0 z) (L znG)) q161)) (N zhT (N zaw (N zmW (N zaw (L zq8) z) q0) q162) (N zaw (N zaw (N zaw (L zqK) z) (L zqL)) q163)))) (N r5 (N r9 (N zhQ (N zk4 (N za1 (N zsu (L zpC) z) (L zne)) (N zph (N za1 (L zqO) z) q0)) (N zlX (N zoj (N zs8 q1 z) (L zqB)) q164)) (N zhR (N za1 (N znr (N za1 (L zps) z) (L zoK)) q148) (N zlh (N za1 (N zt7 (L zpN) z) (L zoq)) q165))) (N zgV (N zhS (N zkm (N zl7 (N zqJ q1 z) q2) (N za1 q177 (L znx))) (N za1 (N zpq (N za1 (L zre) z) (L zrt)) q166)) (N za1 (N zkx (N za1 (N zsC (L zrm) z) (L zmh)) (N zpi q2 q0)) (N zlO (N zoN (N zss (L zpx) z) (L zob)) (N za1 (L zl8) q4)))))) (N r3 (N r4 (N r8 (N za1 (N zaX (N zbp q3 (L zo5)) (N znU q6 (L zol))) (N zkl (N zaX (N zto q0 z) (L zqZ)) q167)) (N znE (N zbp (N zpp (N zbp (L zqD) z) (L zmo)) q153) (N zaX (N zbp q178 q2) q168))) (N b1109 (N zia (N zkj (N zaX (N zrH q0 z) q4) (N zbp (N zaX (L zq9) z) (L zpa))) (N zbp (N zop (N zbp (L zrs) z) (L zng)) q169)) (N zbp (N zaX (N zbp (N zaX (L zql) z) q1) q170) (N zkG (N zaX (N zs6 (L zpR) z) (L zqG)) q171)))) (N r6 (N r10 (N zaw (N zlr (N znt (N ztm (L zq3) z) (L zmf)) (N zpZ (N zkX q0 z) (L zrp))) (N zmz (N zpf (N zsy (L zpD) z) (L zri)) q172)) (N zhO (N zlU (N znp (N zts (L zqt) z) (L zn9)) q173) (N zmF (N znf (N zrU q0 z) q0) q174))) (N zgU (N zaw (N zkh (N zo2 (N ztX (L zqa) z) (L znA)) q157) (N zmJ (N zpj (N ztr (L zq2) z) (L zqj)) q175)) (N zig (N zlz (N zm8 (N zrT (L zqT) z) q0) q176) (N zmb (N zpo (N zso (L zpz) z) q0) (N zqq (L zkQ) q2))))))
def m1227:=N r1 (N r2 (N b1152 (N r7 (N zhU (N zaw (N zmk (N zaw (L zp3) z) (N zaw (L zpX) z)) (N zaw (N ztP q0 z) (N zaX (L ztS) z))) (N zaw (N zaw (N zaw (L zp6) z) (N zmX q0 z)) (N zqv (N zaw (L zte) z) q179))) (N zh1 (N zkf (N zaw (N zrC q0 z) q11) (N zaw q180 q181)) (N zaw (N zm7 q11 (N zbp (L ztc) z)) (N zaw (N zmg q0 z) (L zqQ))))) (N zaw (N zaX (N zaw (N zaw (N zaw (L zrk) z) (N zm3 q1 z)) (N zpn (N zaw (L zq6) z) q182)) (N zkg (N zaw (N zty q0 z) (N znG q0 z)) (N zaw (N zaw (L ztf) z) (L zpy)))) (N zhT (N zaw (N zmW (N zaw (L zq8) z) (N zaw (L zqe) z)) (N zaw (N zl0 (L ztq) z) (N za1 (L ztZ) z))) (N zaw (N zaw (N zaw (L zqK) z) q183) (N zpG q11 (L zqp)))))) (N r5 (N r9 (N zhQ (N zk4 (N za1 (N zsu (L zpC) z) q184) (N zph (N za1 (L zqO) z) (N zaw (L zsY) z))) (N zlX (N zoj (N zs8 q1 z) q185) (N za1 (N zl1 (L zs3) z) q0))) (N zhR (N za1 (N znr (N za1 (L zps) z) q186) (N zr1 (N zmG q0 z) (N zrd q0 z))) (N zlh (N za1 (N zt7 (L zpN) z) (N zoq q1 z)) (N zqw (N za1 (L zsL) z) (L zq4))))) (N zgV (N zhS (N zkm (N zl7 (N zqJ q1 z) (N za1 (L zpM) z)) (N za1 q177 (N znx q1 z))) (N za1 (N zpq (N za1 (L zre) z) q187) (N zrL (N zmQ q1 z) (L zqn)))) (N za1 (N zkx (N za1 (N zsC (L zrm) z) (N zmh q1 z)) (N zpi zwa (N zaw (L zsD) z))) (N zlO (N zoN (N zss (L zpx) z) (N zob q0 z)) (N za1 q189 q4)))))) (N r3 (N r4 (N r8 (N za1 (N zaX (N zbp q3 q190) (N znU q6 (N zol q0 z))) (N zkl (N zaX (N zto q0 z) q191) (N zbp q3 (L zq5)))) (N znE (N zbp (N zpp (N zbp (L zqD) z) (N zmo q1 z)) (N zaX (N zmd (L zsM) z) q192)) (N zaX (N zbp q178 zwa) (N zrX (N zbp (L ztV) z) (L zqf))))) (N b1153 (N zia (N zkj (N zaX (N zrH q0 z) (N zbp (L zpE) z)) (N zbp (N zaX (L zq9) z) (N zpa q0 z))) (N zbp (N zop (N zbp (L zrs) z) (N zng q1 z)) (N zaX (N zmH q0 z) q0))) (N zbp (N zaX (N zbp (N zaX (L zql) z) q3) (N zpm (N zbp (L ztU) z) (N zqX q0 z))) (N zkG (N zaX (N zs6 (L zpR) z) q193) (N zbp q178 (L zp2)))))) (N r6 (N r10 (N zaw (N zlr (N znt (N ztm (L zq3) z) (N zmf q0 z)) (N zpZ (N zkX q0 z) q194)) (N zmz (N zpf (N zsy (L zpD) z) q195) (N zr5 (N zmy (L zs1) z) q1))) (N zhO (N zlU (N znp (N zts (L zqt) z) q196) (N zrZ (N zmR (L ztk) z) q6)) (N zmF (N znf (N zrU q0 z) (N zaw (L zsF) z)) (N zr0 (N zmp (L zsv) z) (L zqr))))) (N zgU (N zaw (N zkh (N zo2 (N ztX (L zqa) z) q197) (N zrW (N zm0 q0 z) q198)) (N zmJ (N zpj (N ztr (L zq2) z) q199) (N zsb (N zl3 (L zsx) z) (L zqs)))) (N zig (N zlz (N zm8 (N zrT (L zqT) z) (N zaw (L zqo) z)) (N zr7 (N zmv q1 z) q200)) (N zmb (N zpo (N zso (L zpz) z) q180) (N zqq (N zkQ q0 z) q2))))))
def m1306:=N r1 (N r2 (N b1228 (N r7 (N zhU (N zaw (N zmk q201 (N zaw (L zpX) z)) q202) (N zaw (N zaw q203 (N zmX q0 z)) q204)) (N zh1 (N zkf (N zaw q205 q11) q206) q207)) (N zaw (N zaX (N zaw (N zaw q208 (N zm3 q1 z)) q209) q210) (N zhT (N zaw (N zmW q211 (N zaw (L zqe) z)) q212) q213))) (N r5 (N r9 (N zhQ (N zk4 (N za1 q214 q184) q215) q216) (N zhR (N za1 (N znr q217 q186) q218) q219)) (N zgV (N zhS (N zkm (N zl7 (N zqJ q1 q0) (N za1 (L zpM) z)) q220) q221) (N za1 (N zkx (N za1 q222 (N zmh q1 z)) q223) (N zlO q224 (N za1 q189 (N zbp (L zsg) z))))))) (N r3 (N r4 (N r8 (N za1 (N zaX (N zbp q225 q190) q226) q227) (N znE (N zbp (N zpp q228 (N zmo q1 z)) q229) q230)) (N b1229 (N zia (N zkj (N zaX q231 (N zbp (L zpE) z)) q232) q233) (N zbp (N zaX (N zbp q234 q3) q235) q236))) (N r6 (N r10 (N zaw (N zlr (N znt q237 (N zmf q0 z)) q238) q239) (N zhO (N zlU (N znp q240 q196) q241) q242)) (N zgU (N zaw (N zkh (N zo2 q243 q197) q244) q245) (N zig (N zlz (N zm8 q246 (N zaw (L zqo) z)) q247) (N zmb q248 (N zqq (N zkQ q0 z) zwa))))))
def m1327:=N r1 (N r2 (N zu6 (N r7 (N zhU (N zaw (N zmk q201 (N zaw (L zpX) (L zvK))) q202) (N zaw (N zaw q203 (N zmX q0 (L zv6))) q204)) (N zh1 (N zkf (N zaw q205 (N zaw q0 q0)) q206) q207)) (N zaw (N zaX (N zaw (N zaw q208 (N zm3 q1 (L zvW))) q209) q210) (N zhT (N zaw (N zmW q211 (N zaw (L zqe) q0)) q212) q213))) (N r5 (N r9 (N zhQ (N zk4 (N za1 q214 (N zne (L ztQ) (L zvc))) q215) q216) (N zhR (N za1 (N znr q217 (N zoK (L zsB) (L zuo))) q218) q219)) (N zgV (N zhS (N zkm (N zl7 (N zqJ q1 q0) (N za1 (L zpM) q1)) q220) q221) (N za1 (N zkx (N za1 q222 (N zmh q1 (L zuq))) q223) (N zlO q224 (N za1 (N zl8 (L zsP) q0) (N zbp (L zsg) z))))))) (N r3 (N r4 (N r8 (N za1 (N zaX (N zbp q225 (N zo5 (L ztR) q0)) q226) q227) (N znE (N zbp (N zpp q228 (N zmo q1 (L zuO))) q229) q230)) (N zuC (N zia (N zkj (N zaX q231 (N zbp (L zpE) q0)) q232) q233) (N zbp (N zaX (N zbp q234 (N zaX q0 q1)) q235) q236))) (N r6 (N r10 (N zaw (N zlr (N znt q237 (N zmf q0 (L zvg))) q238) q239) (N zhO (N zlU (N znp q240 (N zn9 (L zt1) (L zvE))) q241) q242)) (N zgU (N zaw (N zkh (N zo2 q243 (N znA (L ztW) (L zuK))) q244) q245) (N zig (N zlz (N zm8 q246 (N zaw (L zqo) (L zvm))) q247) (N zmb q248 (N zqq (N zkQ q0 q1) zwa))))))
def m1328:Heap:=⟨⟨[r1,r2,r3,zu6,r4,r5,r6,r7,r8,r9,r10,zaw,zuC,zgV,zgU,zhU,za1,zhQ,zaw,zaX,zia,zhS,zaw,zh1,znE,zhR,zhO,zhT,zbp,za1,zig,zaw,zaX,zk4,zlr,zaw,zkj,zkm,zkh,zkf,zbp,za1,zlU,zaw,zaX,zkx,zlz,zaw,zkl,zlX,zmz,zkg,zbp,za1,zmJ,zaw,zaX,zlh,zmF,zaw,zkG,zlO,zmb,zmk,zbp,za1,znt,zaw,zaX,zl7,zo2,zaw,zpp,znr,znp,zmW,zbp,za1,zm8,zaw,zaX,zoj,zpf,zaw,zop,zpq,zpj,zm7,zbp,za1,znf,zaw,zaX,zoN,zpo,zaw,znU,zph,zpZ,zpn,zbp,za1,zrW,zaw,zaX,zr1,zrZ,zaw,zpm,zpi,zr7,zqv,zbp,za1,zr5,zaw,zaX,zrL,zsb,zaw,zrX,zqw,zr0,zpG,zbp,za1,zqq,zaw,zaX,zsu,ztm,zaw,zrH,zqJ,ztX,zrC,zbp,za1,zts,zaw,zaX,zsC,zrT,zaw,zto,zs8,zsy,zty,zbp,za1,ztr,zaw,zaX,zt7,zrU,zaw,zs6,zss,zso,ztP,zbp,za1,zkX,zaw,zaX,zmI,zm0,zaw,zmd,zmG,zmR,zl0,zbp,za1,zmv,zaw,zaX,zl1,zmy,zaw,zmH,zmQ,zl3,zmg,zbp,za1,zmp,zaw,zaX,zl8,zkQ,zaw,zo5,zne,zmf,zm3,zbp,za1,znA,zaw,zmo,zoK,zn9,zaw,zaX,zmh,zaw,zmX,zqZ,zqB,zri,znG,zng,zrt,zqj,zbp,za1,zoq,zaw,zqL,zqG,zob,zaw,zaX,zol,zaw,zrp,zrj,zpa,znx,zsQ,ztN,ztE,zrd,zbp,za1,zqX,zaw,zs7,zsG,zq5,zaw,zaX,zpy,zaw,zqn,zqs,zqQ,zqf,zq4,zqr,zqp,zp2,zbp,za1,zp3,zaw,zpC,zq3,zrk,zaw,zaX,zqa,zaw,zqD,zps,zqt,zq8,zql,zrm,zqT,zp6,zaw,zaX,zpD,zaw,zrs,zre,zq2,zaw,zaX,zpN,zaw,zqK,zpR,zpx,zpz,zaw,zaX,zqO,zaw,zq6,zq9,zsA,zaw,zaX,zsM,zaw,ztk,ztq,ztU,zaw,zaX,zte,zaw,zs3,zs1,ztf,zaw,zaX,zsx,zaw,ztV,zsL,zsv,zaw,zaX,zsP,zaw,zpX,ztR,ztQ,zaw,zaX,zpE,zpM,ztW,zaw,zaX,zsB,zt1,zqe,zaw,zaX,zqo,zaw,zvU,zux,zvy,zaw,zaX,zuS,zv0,ztc,zaw,zaX,zsF,zwh,zvZ,zaw,zaX,ztS,zaw,zsY,zuQ,zvo,zaw,zaX,zvp,zvz,zvN,zaw,zaX,ztZ,zaw,zsD,zvL,zvT,zaw,zaX,zuN,zaw,zvI,zuV,zvY,zaw,zaX,zvA,zaw,zup,zvw,zsg,zaw,zaX,zuJ,zaw,zu3,zvJ,zvx,zaw,zaX,zur,zaw,zuW,zv8,zvO,zaw,zaX,zu1,zwm,zv5,zuG,zvf,zaw,zaX,zuA,zaw,zu0,zu9,zuX,zaw,zaX,zv7,zaw,zwo,zv4,zuU,zaw,zaX,zvj,zaw,zut,zvQ,zvs,zaw,zaX,zwb,zaw,zuu,zvv,zvd,zaw,zaX,zvB,zaw,zwd,zuy,zuw,zaw,zaX,zv9,zaw,zve,zvn,zuR,zaw,zaX,zvK,zaw,zvc,zvg,zvW,zaw,zaX,zuK,zaw,zuO,zuo,zvE,zaw,zaX,zuq,zvm,zv6]⟩,⟨[],[],[],0,[],[],false,#[],[],0,false,false,false,0,[2000,10,10],false,0,true,[],[],0,false⟩⟩
end
def m807v (p:Program):Program:={ p with main:={ p.main with body:=[sp p 1,sp p 2,sp p 3,sp p 4,sp p 5,sp p 6,sp p 7,sp p 8,sp p 9,sp p 10,sp p 11,sp p 12,sp p 13,sp p 14,sp p 15,sp p 16,sp p 17,sp p 18,sp p 19,sp p 21,sp p 22,sp p 24,sp p 25,sp p 26,sp p 27,sp p 28,sp p 29,sp p 30,sp p 31,sp p 33,sp p 34,sp p 35,sp p 36,sp p 37,sp p 38,sp p 39,sp p 40,sp p 41,sp p 42,sp p 43,sp p 44,sp p 45,sp p 46,sp p 47,sp p 48,sp p 50,sp p 51,sp p 52,sp p 53,sp p 54,sp p 55,sp p 56,sp p 57,sp p 58] } }
def m817s (p:Program):List Stmt:=[sp p 0,sp p 1]
def m832s (p:Program):List Stmt:=[sp p 2]
def m847s (p:Program):List Stmt:=[sp p 3]
def m862s (p:Program):List Stmt:=[sp p 4]
def m877s (p:Program):List Stmt:=[sp p 5]
def m892s (p:Program):List Stmt:=[sp p 6]
def m907s (p:Program):List Stmt:=[sp p 7]
def m922s (p:Program):List Stmt:=[sp p 8]
def m937s (p:Program):List Stmt:=[sp p 9]
def m952s (p:Program):List Stmt:=[sp p 10]
def m967s (p:Program):List Stmt:=[sp p 11]
def m982s (p:Program):List Stmt:=[sp p 12]
def m997s (p:Program):List Stmt:=[sp p 13]
def m1012s (p:Program):List Stmt:=[sp p 14]
def m1027s (p:Program):List Stmt:=[sp p 15]
def m1042s (p:Program):List Stmt:=[sp p 16]
def m1064s (p:Program):List Stmt:=[sp p 17]
def m1086s (p:Program):List Stmt:=[sp p 18]
def m1108s (p:Program):List Stmt:=[sp p 19,sp p 20,sp p 21,sp p 22,sp p 23,sp p 24,sp p 25,sp p 26,sp p 27,sp p 28]
def m1152s (p:Program):List Stmt:=[sp p 29,sp p 30,sp p 31,sp p 32,sp p 33,sp p 34,sp p 35,sp p 36,sp p 37,sp p 38,sp p 39,sp p 40,sp p 41,sp p 42,sp p 43]
def m1228s (p:Program):List Stmt:=[sp p 44,sp p 45,sp p 46,sp p 47,sp p 48,sp p 49,sp p 50,sp p 51,sp p 52,sp p 53,sp p 54,sp p 55]
def m1307s (p:Program):List Stmt:=[sp p 56,sp p 57,sp p 58]
def u0:Q Str:=⟨Str.ofString "<module>",Str.ofString "/claim/cut.py",Str.ofString "__main__",Str.ofString "__name__",Str.ofString "hideworth.errors",Str.ofString "__doc__",Str.ofString "__package__",Str.ofString "__loader__"⟩
def u1:Q Str:=⟨Str.ofString "__spec__",Str.ofString "__annotations__",Str.ofString "__builtins__",Str.ofString "__file__",Str.ofString "__cached__",Str.ofString "HideError",Str.ofString "__module__",Str.ofString "__qualname__"⟩
def u2:Q Str:=⟨Str.ofString "__firstlineno__",Str.ofString "__static_attributes__",Str.ofString "__weakref__",Str.ofString "NoNumber",Str.ofString "NoTable",Str.ofString "NoBoxes",Str.ofString "NoBudget",Str.ofString "NoOrder"⟩
def u3:Q Str:=⟨Str.ofString "NoWeights",Str.ofString "TooGreat",Str.ofString "NoKind",Str.ofString "NoTree",Str.ofString "NoTurns",Str.ofString "NoPlay",Str.ofString "NoRow",Str.ofString "NoName"⟩
def u4:Q Str:=⟨Str.ofString "NoRoad",Str.ofString "NoWeb",Str.ofString "__init__",Str.ofString "self",Str.ofString "road",Str.ofString "NoWeb.__init__",Str.ofString "NoPlan",Str.ofString "at"⟩
def u5:Q Str:=⟨Str.ofString "NoPlan.__init__",Str.ofString "NoText",Str.ofString "row",Str.ofString "NoText.__init__",Str.ofString "hideworth.webs",Str.ofString "NoPaper",Str.ofString "is_whole",Str.ofString "is_within"⟩
def u6:Q Str:=⟨Str.ofString "MOST_PLACES",Str.ofString "MOST_ROADS",Str.ofString "MOST_LENGTH",Str.ofString "KINDS",Str.ofString "is_road",Str.ofString "k",Str.ofString "NoPaper.__init__",Str.ofString "thing"⟩
def u7:Q Str:=⟨Str.ofString "hideworth.checks",Str.ofString "least",Str.ofString "most",Str.ofString "walk",Str.ofString "spread",Str.ofString "many",Str.ofString "a",Str.ofString "b"⟩
def u8:Q Str:=⟨Str.ofString "length",Str.ofString "hideworth.texts",Str.ofString "places_come_to",Str.ofString "look_web",Str.ofString "look_kind",Str.ofString "FIGURES",Str.ofString "0123456789",Str.ofString "MOST_FIGURES"⟩
def u9:Q Str:=⟨Str.ofString "thing_text",Str.ofString "paper_rows",Str.ofString "text_of",Str.ofString "paper_text",Str.ofString "number_in",Str.ofString "numbers_in",Str.ofString "thing_in",Str.ofString "plan_in"⟩
def u10:Q Str:=⟨Str.ofString "many_in",Str.ofString "roads",Str.ofString "come",Str.ofString "before",Str.ofString "web",Str.ofString "kind",Str.ofString "paper",Str.ofString "word"⟩
def u11:Q Str:=⟨Str.ofString "ends",Str.ofString "words",Str.ofString "law_hideworth_k82_papers_written",Str.ofString "road_in",Str.ofString "share_in",Str.ofString "read_rows",Str.ofString "read_web",Str.ofString "read_paper"⟩
def u12:Q Str:=⟨Str.ofString "_law_mixed",Str.ofString "_law_class",Str.ofString "_law_paper",Str.ofString "_law_paper_text",Str.ofString "_law_same",Str.ofString "_law_caught",Str.ofString "numbers",Str.ofString "weight"⟩
def u13:Q Str:=⟨Str.ofString "plan",Str.ofString "text",Str.ofString "read_row",Str.ofString "rows",Str.ofString "read",Str.ofString "_law_script",Str.ofString "_law_k",Str.ofString "_law_at"⟩
def u14:Q Str:=⟨Str.ofString "_law_cell",Str.ofString "_law_j",Str.ofString "_law_number",Str.ofString "_law_caught_here",Str.ofString "_law_tests",Str.ofString "_law_start",Str.ofString "_law_kind",Str.ofString "_law_paper_here"⟩
def u15:Q Str:=⟨Str.ofString "_law_ten",Str.ofString "_law_weight",Str.ofString "_law_plan",Str.ofString "_law_draw",Str.ofString "_law_place",Str.ofString "_law_text",Str.ofString "_law_thing",Str.ofString "_law_told"⟩
def u16:Q Str:=⟨Str.ofString "_law_due",Str.ofString "_law_one",Str.ofString "_law_other",Str.ofString "e",Str.ofString "_law_web_row",Str.ofString "_law_great",Str.ofString "law",Str.ofString "_law_word"⟩
def u17:Q Str:=⟨Str.ofString "_law_first",Str.ofString "_law_others",Str.ofString "_law_words",Str.ofString "_law_words",Str.ofString "_law_words",Str.ofString "_law_words",Str.ofString "_law_words",Str.ofString "_law_words"⟩
def v0:Q String:=⟨"tuple","code","frame","dict","__main__.__loader__#opaque","ValueError","builtin_function_or_method","type.__prepare__"⟩
def v1:Q String:=⟨"type","Exception","BaseException","object","ValueError.__new__","getset_descriptor","ExceptionGroup.__weakref__","super"⟩
def v2:Q String:=⟨"object.__init_subclass__","function","function","function","function","function","function","function"⟩
def w0 (P:Params):Q Obj:=⟨W.boot_o_0 P,W.boot_o_1 P,W.boot_o_2 P,W.boot_o_3 P,W.boot_o_4 P,W.boot_o_5 P,W.boot_o_6 P,W.boot_o_7 P⟩
def w1 (P:Params):Q Obj:=⟨W.boot_o_8 P,W.boot_o_9 P,W.boot_o_10 P,W.boot_o_10 P,W.boot_o_10 P,W.boot_o_10 P,W.boot_o_10 P,W.boot_o_10 P⟩
lay_quick u0 u1 u2 u3 u4 u5 u6 u7 u8 u9 u10 u11 u12 u13 u14 u15 u16 u17 v0 v1 v2 w0 w1 PySem.Challenge.pw_hideworth_k82_papers_written
def K (a' b' c' d' e' f' g' h' i' j' k' l' m' n' o' p' q' r':Q Str) (s' t' u':Q String) (v' w':Params→Q Obj) (x':Program) (P:Params):X:=⟨⟨⟨a',b',c',d',e',f',g',h'⟩,⟨i',j',k',l',m',n',o',p'⟩,⟨q',r',r',r',r',r',r',r'⟩,⟨q',r',r',r',r',r',r',r'⟩,⟨q',r',r',r',r',r',r',r'⟩,⟨q',r',r',r',r',r',r',r'⟩,⟨q',r',r',r',r',r',r',r'⟩,⟨q',r',r',r',r',r',r',r'⟩⟩,⟨⟨s',t',u',u',u',u',u',u'⟩,⟨s',t',u',u',u',u',u',u'⟩,⟨s',t',u',u',u',u',u',u'⟩,⟨s',t',u',u',u',u',u',u'⟩,⟨s',t',u',u',u',u',u',u'⟩,⟨s',t',u',u',u',u',u',u'⟩,⟨s',t',u',u',u',u',u',u'⟩,⟨s',t',u',u',u',u',u',u'⟩⟩,⟨⟨v' P,w' P,w' P,w' P,w' P,w' P,w' P,w' P⟩,⟨v' P,w' P,w' P,w' P,w' P,w' P,w' P,w' P⟩,⟨v' P,w' P,w' P,w' P,w' P,w' P,w' P,w' P⟩,⟨v' P,w' P,w' P,w' P,w' P,w' P,w' P,w' P⟩,⟨v' P,w' P,w' P,w' P,w' P,w' P,w' P,w' P⟩,⟨v' P,w' P,w' P,w' P,w' P,w' P,w' P,w' P⟩,⟨v' P,w' P,w' P,w' P,w' P,w' P,w' P,w' P⟩,⟨v' P,w' P,w' P,w' P,w' P,w' P,w' P,w' P⟩⟩,x',P⟩
def k0:=K u0 u1 u2 u3 u4 u5 u6 u7 u8 u9 u10 u11 u12 u13 u14 u15 u16 u17 v0 v1 v2 w0 w1 PySem.Challenge.pw_hideworth_k82_papers_written
def k1:=K tw13894225608423057668 tw17531079430653816501 tw13809737476558091540 tw2367299412457286945 tw1912701158020654693 tw2188347355606102534 tw16368670287772101220 tw14842115654739255404 tw4717311838995323452 tw594758545415977400 tw10895325593200808953 tw10037743213843438893 tw10009084784789568687 tw5084553986333570498 tw16641277437810104112 tw11875653558476324687 tw1672153094372761355 tw4580522010931877059 tw15633551313878501473 tw10735261366311057212 tw13734974896645664886 tw1278260381020688717 tw13492767390215788210 tw9416424829339760920
theorem ke:k0=k1:=by
  unfold k0 k1
  rw [te13894225608423057668,te17531079430653816501,te13809737476558091540,te2367299412457286945,te1912701158020654693,te2188347355606102534,te16368670287772101220,te14842115654739255404,te4717311838995323452,te594758545415977400,te10895325593200808953,te10037743213843438893,te10009084784789568687,te5084553986333570498,te16641277437810104112,te11875653558476324687,te1672153094372761355,te4580522010931877059,te15633551313878501473,te10735261366311057212,te13734974896645664886,te1278260381020688717,te13492767390215788210,te9416424829339760920]
theorem kE {β:Type _} (f:X→β):(fun P=>f (k0 P))=fun P=>f (k1 P):=congrArg (fun y P=>f (y P)) ke
end Hd
namespace PySem.W.Fast
def tw9628889991611505806:Program:=Hd.m807v tw9416424829339760920
theorem te9628889991611505806:Hd.m807v PySem.Challenge.pw_hideworth_k82_papers_written=tw9628889991611505806:=congrArg Hd.m807v te9416424829339760920
def tw1571641479819926155 (P:Params):Heap:=@Hd.m814 (Hd.k1 P)
theorem te1571641479819926155:(fun P=>@Hd.m814 (Hd.k0 P))=tw1571641479819926155:=Hd.kE @Hd.m814
def tw10676776356135086615 (P:Params):BT:=@Hd.m815 (Hd.k1 P)
theorem te10676776356135086615:(fun P=>@Hd.m815 (Hd.k0 P))=tw10676776356135086615:=Hd.kE @Hd.m815
def tw12865588953717917128:List Stmt:=Hd.m817s tw9416424829339760920
theorem te12865588953717917128:Hd.m817s PySem.Challenge.pw_hideworth_k82_papers_written=tw12865588953717917128:=congrArg Hd.m817s te9416424829339760920
def tw6395819240161869500 (P:Params):BT:=@Hd.m831 (Hd.k1 P)
theorem te6395819240161869500:(fun P=>@Hd.m831 (Hd.k0 P))=tw6395819240161869500:=Hd.kE @Hd.m831
def tw3703852450155171203:List Stmt:=Hd.m832s tw9416424829339760920
theorem te3703852450155171203:Hd.m832s PySem.Challenge.pw_hideworth_k82_papers_written=tw3703852450155171203:=congrArg Hd.m832s te9416424829339760920
def tw1057179558961116245 (P:Params):BT:=@Hd.m846 (Hd.k1 P)
theorem te1057179558961116245:(fun P=>@Hd.m846 (Hd.k0 P))=tw1057179558961116245:=Hd.kE @Hd.m846
def tw9696914468142687355:List Stmt:=Hd.m847s tw9416424829339760920
theorem te9696914468142687355:Hd.m847s PySem.Challenge.pw_hideworth_k82_papers_written=tw9696914468142687355:=congrArg Hd.m847s te9416424829339760920
def tw4303264085370549565 (P:Params):BT:=@Hd.m861 (Hd.k1 P)
theorem te4303264085370549565:(fun P=>@Hd.m861 (Hd.k0 P))=tw4303264085370549565:=Hd.kE @Hd.m861
def tw9191859150908135026:List Stmt:=Hd.m862s tw9416424829339760920
theorem te9191859150908135026:Hd.m862s PySem.Challenge.pw_hideworth_k82_papers_written=tw9191859150908135026:=congrArg Hd.m862s te9416424829339760920
def tw8398731242583886766 (P:Params):BT:=@Hd.m876 (Hd.k1 P)
theorem te8398731242583886766:(fun P=>@Hd.m876 (Hd.k0 P))=tw8398731242583886766:=Hd.kE @Hd.m876
def tw3510637803435872073:List Stmt:=Hd.m877s tw9416424829339760920
theorem te3510637803435872073:Hd.m877s PySem.Challenge.pw_hideworth_k82_papers_written=tw3510637803435872073:=congrArg Hd.m877s te9416424829339760920
def tw7591519411715806675 (P:Params):BT:=@Hd.m891 (Hd.k1 P)
theorem te7591519411715806675:(fun P=>@Hd.m891 (Hd.k0 P))=tw7591519411715806675:=Hd.kE @Hd.m891
def tw3178213435508273357:List Stmt:=Hd.m892s tw9416424829339760920
theorem te3178213435508273357:Hd.m892s PySem.Challenge.pw_hideworth_k82_papers_written=tw3178213435508273357:=congrArg Hd.m892s te9416424829339760920
def tw7108841566487057111 (P:Params):BT:=@Hd.m906 (Hd.k1 P)
theorem te7108841566487057111:(fun P=>@Hd.m906 (Hd.k0 P))=tw7108841566487057111:=Hd.kE @Hd.m906
def tw4553604008346972073:List Stmt:=Hd.m907s tw9416424829339760920
theorem te4553604008346972073:Hd.m907s PySem.Challenge.pw_hideworth_k82_papers_written=tw4553604008346972073:=congrArg Hd.m907s te9416424829339760920
def tw10543486886328239782 (P:Params):BT:=@Hd.m921 (Hd.k1 P)
theorem te10543486886328239782:(fun P=>@Hd.m921 (Hd.k0 P))=tw10543486886328239782:=Hd.kE @Hd.m921
def tw14408572204164729897:List Stmt:=Hd.m922s tw9416424829339760920
theorem te14408572204164729897:Hd.m922s PySem.Challenge.pw_hideworth_k82_papers_written=tw14408572204164729897:=congrArg Hd.m922s te9416424829339760920
def tw17282747215090036556 (P:Params):BT:=@Hd.m936 (Hd.k1 P)
theorem te17282747215090036556:(fun P=>@Hd.m936 (Hd.k0 P))=tw17282747215090036556:=Hd.kE @Hd.m936
def tw14973315856056349968:List Stmt:=Hd.m937s tw9416424829339760920
theorem te14973315856056349968:Hd.m937s PySem.Challenge.pw_hideworth_k82_papers_written=tw14973315856056349968:=congrArg Hd.m937s te9416424829339760920
def tw543606053964660011 (P:Params):BT:=@Hd.m951 (Hd.k1 P)
theorem te543606053964660011:(fun P=>@Hd.m951 (Hd.k0 P))=tw543606053964660011:=Hd.kE @Hd.m951
def tw10435730069373982509:List Stmt:=Hd.m952s tw9416424829339760920
theorem te10435730069373982509:Hd.m952s PySem.Challenge.pw_hideworth_k82_papers_written=tw10435730069373982509:=congrArg Hd.m952s te9416424829339760920
def tw17335717322905254604 (P:Params):BT:=@Hd.m966 (Hd.k1 P)
theorem te17335717322905254604:(fun P=>@Hd.m966 (Hd.k0 P))=tw17335717322905254604:=Hd.kE @Hd.m966
def tw14671858898756880328:List Stmt:=Hd.m967s tw9416424829339760920
theorem te14671858898756880328:Hd.m967s PySem.Challenge.pw_hideworth_k82_papers_written=tw14671858898756880328:=congrArg Hd.m967s te9416424829339760920
def tw2410618954109535548 (P:Params):BT:=@Hd.m981 (Hd.k1 P)
theorem te2410618954109535548:(fun P=>@Hd.m981 (Hd.k0 P))=tw2410618954109535548:=Hd.kE @Hd.m981
def tw370487049632493210:List Stmt:=Hd.m982s tw9416424829339760920
theorem te370487049632493210:Hd.m982s PySem.Challenge.pw_hideworth_k82_papers_written=tw370487049632493210:=congrArg Hd.m982s te9416424829339760920
def tw10244736711313797903 (P:Params):BT:=@Hd.m996 (Hd.k1 P)
theorem te10244736711313797903:(fun P=>@Hd.m996 (Hd.k0 P))=tw10244736711313797903:=Hd.kE @Hd.m996
def tw12967097484284001246:List Stmt:=Hd.m997s tw9416424829339760920
theorem te12967097484284001246:Hd.m997s PySem.Challenge.pw_hideworth_k82_papers_written=tw12967097484284001246:=congrArg Hd.m997s te9416424829339760920
def tw8267624800389387242 (P:Params):BT:=@Hd.m1011 (Hd.k1 P)
theorem te8267624800389387242:(fun P=>@Hd.m1011 (Hd.k0 P))=tw8267624800389387242:=Hd.kE @Hd.m1011
def tw17219722383557806235:List Stmt:=Hd.m1012s tw9416424829339760920
theorem te17219722383557806235:Hd.m1012s PySem.Challenge.pw_hideworth_k82_papers_written=tw17219722383557806235:=congrArg Hd.m1012s te9416424829339760920
def tw14435408018228462636 (P:Params):BT:=@Hd.m1026 (Hd.k1 P)
theorem te14435408018228462636:(fun P=>@Hd.m1026 (Hd.k0 P))=tw14435408018228462636:=Hd.kE @Hd.m1026
def tw16820791266263487972:List Stmt:=Hd.m1027s tw9416424829339760920
theorem te16820791266263487972:Hd.m1027s PySem.Challenge.pw_hideworth_k82_papers_written=tw16820791266263487972:=congrArg Hd.m1027s te9416424829339760920
def tw11795878135679272233 (P:Params):BT:=@Hd.m1041 (Hd.k1 P)
theorem te11795878135679272233:(fun P=>@Hd.m1041 (Hd.k0 P))=tw11795878135679272233:=Hd.kE @Hd.m1041
def tw12667528386491323889:List Stmt:=Hd.m1042s tw9416424829339760920
theorem te12667528386491323889:Hd.m1042s PySem.Challenge.pw_hideworth_k82_papers_written=tw12667528386491323889:=congrArg Hd.m1042s te9416424829339760920
def tw6100065319591127272 (P:Params):BT:=@Hd.m1063 (Hd.k1 P)
theorem te6100065319591127272:(fun P=>@Hd.m1063 (Hd.k0 P))=tw6100065319591127272:=Hd.kE @Hd.m1063
def tw2059975250515883442:List Stmt:=Hd.m1064s tw9416424829339760920
theorem te2059975250515883442:Hd.m1064s PySem.Challenge.pw_hideworth_k82_papers_written=tw2059975250515883442:=congrArg Hd.m1064s te9416424829339760920
def tw1882857208073780913 (P:Params):BT:=@Hd.m1085 (Hd.k1 P)
theorem te1882857208073780913:(fun P=>@Hd.m1085 (Hd.k0 P))=tw1882857208073780913:=Hd.kE @Hd.m1085
def tw6576470169046571165:List Stmt:=Hd.m1086s tw9416424829339760920
theorem te6576470169046571165:Hd.m1086s PySem.Challenge.pw_hideworth_k82_papers_written=tw6576470169046571165:=congrArg Hd.m1086s te9416424829339760920
def tw2649801423668343065 (P:Params):BT:=@Hd.m1107 (Hd.k1 P)
theorem te2649801423668343065:(fun P=>@Hd.m1107 (Hd.k0 P))=tw2649801423668343065:=Hd.kE @Hd.m1107
def tw7375167630279413273:List Stmt:=Hd.m1108s tw9416424829339760920
theorem te7375167630279413273:Hd.m1108s PySem.Challenge.pw_hideworth_k82_papers_written=tw7375167630279413273:=congrArg Hd.m1108s te9416424829339760920
def tw11908929974415195216 (P:Params):BT:=@Hd.m1151 (Hd.k1 P)
theorem te11908929974415195216:(fun P=>@Hd.m1151 (Hd.k0 P))=tw11908929974415195216:=Hd.kE @Hd.m1151
def tw4823535345704480729:List Stmt:=Hd.m1152s tw9416424829339760920
theorem te4823535345704480729:Hd.m1152s PySem.Challenge.pw_hideworth_k82_papers_written=tw4823535345704480729:=congrArg Hd.m1152s te9416424829339760920
def tw11051956137861287089 (P:Params):BT:=@Hd.m1227 (Hd.k1 P)
theorem te11051956137861287089:(fun P=>@Hd.m1227 (Hd.k0 P))=tw11051956137861287089:=Hd.kE @Hd.m1227
def tw4361948688477190852:List Stmt:=Hd.m1228s tw9416424829339760920
theorem te4361948688477190852:Hd.m1228s PySem.Challenge.pw_hideworth_k82_papers_written=tw4361948688477190852:=congrArg Hd.m1228s te9416424829339760920
def tw3212348174429053124 (P:Params):BT:=@Hd.m1306 (Hd.k1 P)
theorem te3212348174429053124:(fun P=>@Hd.m1306 (Hd.k0 P))=tw3212348174429053124:=Hd.kE @Hd.m1306
def tw2682119768274995788:List Stmt:=Hd.m1307s tw9416424829339760920
theorem te2682119768274995788:Hd.m1307s PySem.Challenge.pw_hideworth_k82_papers_written=tw2682119768274995788:=congrArg Hd.m1307s te9416424829339760920
def tw756267328255668773 (P:Params):BT:=@Hd.m1327 (Hd.k1 P)
theorem te756267328255668773:(fun P=>@Hd.m1327 (Hd.k0 P))=tw756267328255668773:=Hd.kE @Hd.m1327
def tw4071473182803959686 (P:Params):Heap:=@Hd.m1328 (Hd.k1 P)
theorem te4071473182803959686:(fun P=>@Hd.m1328 (Hd.k0 P))=tw4071473182803959686:=Hd.kE @Hd.m1328
end PySem.W.Fast
end
open PySem PySem.W PyProof.Rows PySem.W.X PySem.W.ZRun
set_option maxRecDepth 100000 in
set_option maxHeartbeats 0 in
theorem PySem.Challenge.cw_hideworth_k82_papers_written_holds : PySem.Challenge.rw_hideworth_k82_papers_written.Holds := by
 w_on;o_law;z_head;(case hw=>w_witness2)
 k_fill
 intro w s0 s1 m0 m1 G Y fa o pm cd doc dV kV ho hd hc hD hm hg xs vs as L h1 h2 h3 h4 h5
 z_open Y L KX ZH ZN ZT
 refine My.walk_at (l:=PySem.Challenge.rw_hideworth_k82_papers_written) KX (fun W=>W w s0 s1 m0 m1 G KX fa o pm cd doc dV kV ho hd hc hD hm hg xs vs as h1 h2 h3 h4 h5) (My.walk (l:=PySem.Challenge.rw_hideworth_k82_papers_written) rfl rfl (fun _ _ h=>h) ?hPt ?hPt2 ?hC ?hC2 ?F)
 case hPt =>
  intro w
  k_is
 case hPt2 =>
  intro w
  k_is
 case hC =>
  intro w h KX
  refine' L2.zoV KX ?lc (by decide)
  (case lc=>k_is)
 case hC2 =>
  intro w h KX
  refine' L2.zoV KX ?lc2 (by decide)
  (case lc2=>k_is)
 case F =>
  intro w mg fa h KX G hmg
  refine' My.zuz hmg (My.zuL ?hP ?hP2 (L2.zbD ?l0 ?c0 ?k0) (mg_of KX G ?a0) (L2.zbD ?l1 ?c1 ?k1) (mg_of KX G ?a1) (L2.zbD ?l2 ?c2 ?k2) (mg_of KX G ?a2) (L2.zbD ?l3 ?c3 ?k3) (mg_of KX G ?a3) (L2.zbD ?l4 ?c4 ?k4) (mg_of KX G ?a4) (L2.zbD ?l5 ?c5 ?k5) (mg_of KX G ?a5) (L2.zbD ?l6 ?c6 ?k6) (mg_of KX G ?a6) (L2.zbD ?l7 ?c7 ?k7) (mg_of KX G ?a7) (L2.zbD ?l8 ?c8 ?k8) (mg_of KX G ?a8) (L2.zbD ?l9 ?c9 ?k9) (mg_of KX G ?a9) (L2.zbD ?l10 ?c10 ?k10) (mg_of KX G ?a10) (L2.zbD ?l11 ?c11 ?k11) (mg_of KX G ?a11) (L2.zbD ?l12 ?c12 ?k12) (mg_of KX G ?a12) (L2.zbD ?l13 ?c13 ?k13) (mg_of KX G ?a13) (L2.zbD ?l14 ?c14 ?k14) (mg_of KX G ?a14) (L2.zbD ?l15 ?c15 ?k15) (mg_of KX G ?a15) (L2.zbD ?l16 ?c16 ?k16) (mg_of KX G ?a16) (L2.zbD ?l17 ?c17 ?k17) (mg_of KX G ?a17) (L2.zoR ?l18 ?c18 ?k18) (mg_of KX G ?a18) (L2.zoR ?l19 ?c19 ?k19) (mg_of KX G ?a19) (L2.zbD ?l20 ?c20 ?k20) (mg_of KX G ?a20) (L2.zbD ?l21 ?c21 ?k21) (mg_of KX G ?a21) (L2.zbD ?l22 ?c22 ?k22) (mg_of KX G ?a22) (L2.zbD ?l23 ?c23 ?k23) (mg_of KX G ?a23) (L2.zbD ?l24 ?c24 ?k24) (mg_of KX G ?a24) (L2.zbD ?l25 ?c25 ?k25) (mg_of KX G ?a25) (L2.zbD ?l26 ?c26 ?k26) (mg_of KX G ?a26) (L2.zbD ?l27 ?c27 ?k27) (mg_of KX G ?a27) (L2.zbD ?l28 ?c28 ?k28) (mg_of KX G ?a28) (mg_none_of KX G ?z_isinstance) (mg_none_of KX G ?z_int) (mg_none_of KX G ?z_bool) (mg_none_of KX G ?z_list) (mg_none_of KX G ?z_len) (mg_none_of KX G ?z_all) (mg_none_of KX G ?z_range) (mg_none_of KX G ?z_tuple) (mg_none_of KX G ?z_str) (mg_none_of KX G ?z_enumerate) (mg_none_of KX G ?z_zip) (mg_none_of KX G ?z_min) (mg_none_of KX G ?z_ValueError) (mg_of KX G ?ac_HideError) (mg_of KX G ?ac_NoNumber) (mg_of KX G ?ac_NoTable) (mg_of KX G ?ac_NoBoxes) (mg_of KX G ?ac_NoBudget) (mg_of KX G ?ac_NoOrder) (mg_of KX G ?ac_NoWeights) (mg_of KX G ?ac_TooGreat) (mg_of KX G ?ac_NoKind) (mg_of KX G ?ac_NoTree) (mg_of KX G ?ac_NoTurns) (mg_of KX G ?ac_NoPlay) (mg_of KX G ?ac_NoRow) (mg_of KX G ?ac_NoName) (mg_of KX G ?ac_NoRoad) (mg_of KX G ?ac_NoWeb) (mg_of KX G ?ac_NoPlan) (mg_of KX G ?ac_NoText) (mg_of KX G ?ac_NoPaper) (mg_of KX G ?ak_MOST_PLACES) (mg_of KX G ?ak_MOST_ROADS) (mg_of KX G ?ak_MOST_LENGTH) (mg_of KX G ?ak_MOST_FIGURES) (mg_of KX G ?ak_FIGURES) (mg_of KX G ?at_KINDS) ?lt_KINDS ?xc_HideError ?xc_NoKind ?vsg ?vrd ?vfc ?vin_NoWeb ?vl_NoWeb ?vc_NoWeb ?vk_NoWeb ?vlk_NoWeb ?vtl_NoWeb ?vfn_NoWeb ?vkp_NoWeb ?vmo_NoWeb ?vsa_NoWeb ?vga_NoWeb ?vgn_NoWeb ?vcl_NoWeb ?vmb_NoWeb ?vhd_NoWeb ?vna_NoWeb ?vin_NoText ?vl_NoText ?vc_NoText ?vk_NoText ?vlk_NoText ?vtl_NoText ?vfn_NoText ?vkp_NoText ?vmo_NoText ?vsa_NoText ?vga_NoText ?vgn_NoText ?vcl_NoText ?vmb_NoText ?vhd_NoText ?vna_NoText ?su_NoWeb ?dgn ?i_k_NoNumber ?i_k_NoTable ?i_k_NoBoxes ?i_k_NoBudget ?i_k_NoOrder ?i_k_NoWeights ?i_k_TooGreat ?i_k_NoKind ?i_k_NoTree ?i_k_NoTurns ?i_k_NoPlay ?i_k_NoRow ?i_k_NoName ?i_k_NoRoad ?i_k_NoWeb ?i_k_NoPlan ?i_k_NoText ?i_k_NoPaper ?i_k_ValueError ?i_sub ?e_ga ?e_gn ?e_cl ?e_mb ?e_mo ?i2_k_NoNumber ?i2_k_NoTable ?i2_k_NoBoxes ?i2_k_NoBudget ?i2_k_NoOrder ?i2_k_NoWeights ?i2_k_TooGreat ?i2_k_NoKind ?i2_k_NoTree ?i2_k_NoTurns ?i2_k_NoPlay ?i2_k_NoRow ?i2_k_NoName ?i2_k_NoRoad ?i2_k_NoWeb ?i2_k_NoPlan ?i2_k_NoText ?i2_k_NoPaper ?i2_k_ValueError ?i2_sub ?e2_ga ?e2_gn ?e2_cl ?e2_mb ?e2_mo)
  (case hP=>k_is)
  (case hP2=>k_is)
  (case ac_HideError=>k_is)
  (case ac_NoNumber=>k_is)
  (case ac_NoTable=>k_is)
  (case ac_NoBoxes=>k_is)
  (case ac_NoBudget=>k_is)
  (case ac_NoOrder=>k_is)
  (case ac_NoWeights=>k_is)
  (case ac_TooGreat=>k_is)
  (case ac_NoKind=>k_is)
  (case ac_NoTree=>k_is)
  (case ac_NoTurns=>k_is)
  (case ac_NoPlay=>k_is)
  (case ac_NoRow=>k_is)
  (case ac_NoName=>k_is)
  (case ac_NoRoad=>k_is)
  (case ac_NoWeb=>k_is)
  (case ac_NoPlan=>k_is)
  (case ac_NoText=>k_is)
  (case ac_NoPaper=>k_is)
  (case a0=>k_is)
  (case a1=>k_is)
  (case a2=>k_is)
  (case a3=>k_is)
  (case a4=>k_is)
  (case a5=>k_is)
  (case a6=>k_is)
  (case a7=>k_is)
  (case a8=>k_is)
  (case a9=>k_is)
  (case a10=>k_is)
  (case a11=>k_is)
  (case a12=>k_is)
  (case a13=>k_is)
  (case a14=>k_is)
  (case a15=>k_is)
  (case a16=>k_is)
  (case a17=>k_is)
  (case a18=>k_is)
  (case a19=>k_is)
  (case a20=>k_is)
  (case a21=>k_is)
  (case a22=>k_is)
  (case a23=>k_is)
  (case a24=>k_is)
  (case a25=>k_is)
  (case a26=>k_is)
  (case a27=>k_is)
  (case a28=>k_is)
  (case l0=>k_is)
  (case c0=>k_is)
  (case k0=>k_is)
  (case l1=>k_is)
  (case c1=>k_is)
  (case k1=>k_is)
  (case l2=>k_is)
  (case c2=>k_is)
  (case k2=>k_is)
  (case l3=>k_is)
  (case c3=>k_is)
  (case k3=>k_is)
  (case l4=>k_is)
  (case c4=>k_is)
  (case k4=>k_is)
  (case l5=>k_is)
  (case c5=>k_is)
  (case k5=>k_is)
  (case l6=>k_is)
  (case c6=>k_is)
  (case k6=>k_is)
  (case l7=>k_is)
  (case c7=>k_is)
  (case k7=>k_is)
  (case l8=>k_is)
  (case c8=>k_is)
  (case k8=>k_is)
  (case l9=>k_is)
  (case c9=>k_is)
  (case k9=>k_is)
  (case l10=>k_is)
  (case c10=>k_is)
  (case k10=>k_is)
  (case l11=>k_is)
  (case c11=>k_is)
  (case k11=>k_is)
  (case l12=>k_is)
  (case c12=>k_is)
  (case k12=>k_is)
  (case l13=>k_is)
  (case c13=>k_is)
  (case k13=>k_is)
  (case l14=>k_is)
  (case c14=>k_is)
  (case k14=>k_is)
  (case l15=>k_is)
  (case c15=>k_is)
  (case k15=>k_is)
  (case l16=>k_is)
  (case c16=>k_is)
  (case k16=>k_is)
  (case l17=>k_is)
  (case c17=>k_is)
  (case k17=>k_is)
  (case l18=>k_is)
  (case c18=>k_is)
  (case k18=>k_is)
  (case l19=>k_is)
  (case c19=>k_is)
  (case k19=>k_is)
  (case l20=>k_is)
  (case c20=>k_is)
  (case k20=>k_is)
  (case l21=>k_is)
  (case c21=>k_is)
  (case k21=>k_is)
  (case l22=>k_is)
  (case c22=>k_is)
  (case k22=>k_is)
  (case l23=>k_is)
  (case c23=>k_is)
  (case k23=>k_is)
  (case l24=>k_is)
  (case c24=>k_is)
  (case k24=>k_is)
  (case l25=>k_is)
  (case c25=>k_is)
  (case k25=>k_is)
  (case l26=>k_is)
  (case c26=>k_is)
  (case k26=>k_is)
  (case l27=>k_is)
  (case c27=>k_is)
  (case k27=>k_is)
  (case l28=>k_is)
  (case c28=>k_is)
  (case k28=>k_is)
  (case z_isinstance=>k_is)
  (case z_int=>k_is)
  (case z_bool=>k_is)
  (case z_list=>k_is)
  (case z_len=>k_is)
  (case z_all=>k_is)
  (case z_range=>k_is)
  (case z_tuple=>k_is)
  (case z_str=>k_is)
  (case z_enumerate=>k_is)
  (case z_zip=>k_is)
  (case z_min=>k_is)
  (case z_ValueError=>k_is)
  (case ak_MOST_PLACES=>k_is)
  (case ak_MOST_ROADS=>k_is)
  (case ak_MOST_LENGTH=>k_is)
  (case ak_MOST_FIGURES=>k_is)
  (case ak_FIGURES=>k_is)
  (case at_KINDS=>k_is)
  (case lt_KINDS=>k_is)
  (case xc_HideError=>k_exc)
  (case xc_NoKind=>k_exc)
  (case vsg=>k_is)
  (case vrd=>k_is)
  (case vfc=>k_is)
  (case vin_NoWeb=>k_is)
  (case vl_NoWeb=>k_is)
  (case vc_NoWeb=>k_is)
  (case vk_NoWeb=>k_is)
  (case vlk_NoWeb=>k_is)
  (case vtl_NoWeb=>kernel_rfl)
  (case vfn_NoWeb=>k_is)
  (case vkp_NoWeb=>k_is)
  (case vmo_NoWeb=>k_is)
  (case vsa_NoWeb=>k_is)
  (case vga_NoWeb=>k_is)
  (case vgn_NoWeb=>k_is)
  (case vcl_NoWeb=>k_is)
  (case vmb_NoWeb=>k_is)
  (case vhd_NoWeb=>k_is)
  (case vna_NoWeb=>k_is)
  (case vin_NoText=>k_is)
  (case vl_NoText=>k_is)
  (case vc_NoText=>k_is)
  (case vk_NoText=>k_is)
  (case vlk_NoText=>k_is)
  (case vtl_NoText=>kernel_rfl)
  (case vfn_NoText=>k_is)
  (case vkp_NoText=>k_is)
  (case vmo_NoText=>k_is)
  (case vsa_NoText=>k_is)
  (case vga_NoText=>k_is)
  (case vgn_NoText=>k_is)
  (case vcl_NoText=>k_is)
  (case vmb_NoText=>k_is)
  (case vhd_NoText=>k_is)
  (case vna_NoText=>k_is)
  (case su_NoWeb=>k_is)
  (case dgn=>k_is)
  (case i_k_NoNumber=>kit_is)
  (case i_k_NoTable=>kit_is)
  (case i_k_NoBoxes=>kit_is)
  (case i_k_NoBudget=>kit_is)
  (case i_k_NoOrder=>kit_is)
  (case i_k_NoWeights=>kit_is)
  (case i_k_TooGreat=>kit_is)
  (case i_k_NoKind=>kit_is)
  (case i_k_NoTree=>kit_is)
  (case i_k_NoTurns=>kit_is)
  (case i_k_NoPlay=>kit_is)
  (case i_k_NoRow=>kit_is)
  (case i_k_NoName=>kit_is)
  (case i_k_NoRoad=>kit_is)
  (case i_k_NoWeb=>kit_is)
  (case i_k_NoPlan=>kit_is)
  (case i_k_NoText=>kit_is)
  (case i_k_NoPaper=>kit_is)
  (case i_k_ValueError=>kit_is)
  (case i_sub=>k_is)
  (case e_ga=>k_is)
  (case e_gn=>k_is)
  (case e_cl=>k_is)
  (case e_mb=>k_is)
  (case e_mo=>k_is)
  (case i2_k_NoNumber=>kit_is)
  (case i2_k_NoTable=>kit_is)
  (case i2_k_NoBoxes=>kit_is)
  (case i2_k_NoBudget=>kit_is)
  (case i2_k_NoOrder=>kit_is)
  (case i2_k_NoWeights=>kit_is)
  (case i2_k_TooGreat=>kit_is)
  (case i2_k_NoKind=>kit_is)
  (case i2_k_NoTree=>kit_is)
  (case i2_k_NoTurns=>kit_is)
  (case i2_k_NoPlay=>kit_is)
  (case i2_k_NoRow=>kit_is)
  (case i2_k_NoName=>kit_is)
  (case i2_k_NoRoad=>kit_is)
  (case i2_k_NoWeb=>kit_is)
  (case i2_k_NoPlan=>kit_is)
  (case i2_k_NoText=>kit_is)
  (case i2_k_NoPaper=>kit_is)
  (case i2_k_ValueError=>kit_is)
  (case i2_sub=>k_is)
  (case e2_ga=>k_is)
  (case e2_gn=>k_is)
  (case e2_cl=>k_is)
  (case e2_mb=>k_is)
  (case e2_mo=>k_is)
